import PyProof.Rows.All
import Wide.All
import OpenK.AllK
import Wide.FinOn
import Lean
import PyProof.EqAt
import PyProof.EqKinds
import PyProof.TupleCall
import KE.KMinKey
import KE.KSortTup
import KE.KLam
import KE.KNestM
import PySem.Challenge.RW_newletters_k32_roads_back
set_option Elab.async false
set_option maxHeartbeats 4000000
set_option maxRecDepth 100000
set_option linter.all false
namespace L2
open PySem PySem.Spec PyProof.Rows
abbrev Key := Sum Int Str
def keyIs : Key → Value → Bool
  | .inl k, v => Value.isInt k v
  | .inr x, v => Value.isStrOf x v
def keyH (w : World) : Key → Int
  | .inl k => hashInt k
  | .inr x => hashStr w x
theorem keyIs_shape : ∀ {k : Key} {v : Value}, keyIs k v = true → (∃ i t, k = Sum.inl i ∧ v = Value.int i t) ∨ (∃ x t, k = Sum.inr x ∧ v = Value.str x t)
  | .inl i, v, h => by
    obtain ⟨t, e⟩ := Value.isInt_shape (k := i) (v := v) h
    exact .inl ⟨i, t, rfl, e⟩
  | .inr x, v, h => by
    obtain ⟨t, e⟩ := Value.isStrOf_shape (x := x) (v := v) h
    exact .inr ⟨x, t, rfl, e⟩
theorem keyIs_int (i : Int) (t : Tok) : keyIs (.inl i) (.int i t) = true := by simp [keyIs, Value.isInt]
theorem keyIs_str (x : Str) (t : Tok) : keyIs (.inr x) (.str x t) = true := by simp [keyIs, Value.isStrOf]
theorem key_ll (a b : Int) : decide ((Sum.inl a : Key) = Sum.inl b) = (a == b) := by
  by_cases e : a = b
  · subst e; simp
  · have h : ¬ (Sum.inl a : Key) = Sum.inl b := fun q => e (Sum.inl.inj q)
    rw [decide_eq_false h]
    exact (beq_eq_false_iff_ne.mpr e).symm
theorem key_rr (a b : Str) : decide ((Sum.inr a : Key) = Sum.inr b) = decide (a = b) := by
  by_cases e : a = b
  · subst e; simp
  · have h : ¬ (Sum.inr a : Key) = Sum.inr b := fun q => e (Sum.inr.inj q)
    rw [decide_eq_false h, decide_eq_false e]
theorem key_lr (a : Int) (b : Str) : decide ((Sum.inl a : Key) = Sum.inr b) = false := decide_eq_false (fun q => nomatch q)
theorem key_rl (a : Str) (b : Int) : decide ((Sum.inr a : Key) = Sum.inl b) = false := decide_eq_false (fun q => nomatch q)
def mixKind (prog : Program) (w : World) : PySem.KeyKind prog w Key where
  is := keyIs
  hash := keyH w
  inj := fun v a b ha hb => by
    rcases keyIs_shape ha with ⟨i, t, rfl, rfl⟩ | ⟨x, t, rfl, rfl⟩
    · rcases keyIs_shape hb with ⟨j, u, rfl, e⟩ | ⟨y, u, rfl, e⟩
      · injection e with e1 _; rw [e1]
      · exact nomatch e
    · rcases keyIs_shape hb with ⟨j, u, rfl, e⟩ | ⟨y, u, rfl, e⟩
      · exact nomatch e
      · injection e with e1 _; rw [e1]
  byValue := fun k v h => by
    rcases keyIs_shape h with ⟨i, t, rfl, rfl⟩ | ⟨x, t, rfl, rfl⟩ <;> rfl
  pyHash := fun hv h => by
    rcases keyIs_shape hv with ⟨i, t, rfl, rfl⟩ | ⟨x, t, rfl, rfl⟩
    · exact wpAny_pyHash_int h
    · exact wpAny_pyHash_str h
  eqBool := fun hu hv h => by
    rcases keyIs_shape hu with ⟨i, t, rfl, rfl⟩ | ⟨x, t, rfl, rfl⟩
    · rcases keyIs_shape hv with ⟨j, u, rfl, rfl⟩ | ⟨y, u, rfl, rfl⟩
      · rw [key_ll] at h; exact wpAny_eqBool_int h
      · rw [key_lr] at h; exact SeqAt.EqAt.int_str i t y u _ _ _ _ h
    · rcases keyIs_shape hv with ⟨j, u, rfl, rfl⟩ | ⟨y, u, rfl, rfl⟩
      · rw [key_rl] at h; exact SeqAt.EqAt.str_int x t j u _ _ _ _ h
      · rw [key_rr] at h; exact wpAny_eqBool_str h
  «strs» := fun k x t v h => by
    rcases keyIs_shape h with ⟨i, u, rfl, e⟩ | ⟨y, u, rfl, e⟩
    · exact nomatch e
    · injection e with e1 _
      subst e1
      cases v <;> rfl
theorem mixKind_int (prog : Program) (w : World) (i : Int) (t : Tok) : (mixKind prog w).is (.inl i) (.int i t) = true := keyIs_int i t
theorem mixKind_str (prog : Program) (w : World) (x : Str) (t : Tok) : (mixKind prog w).is (.inr x) (.str x t) = true := keyIs_str x t
inductive V where
  | non | bl (b : Bool) | int (i : Int) | str (x : Str) | byt (b : Array UInt8) | flt (b : UInt64) | ref (a : Addr) | ty (n : String)
  deriving DecidableEq
def RelV : V → Value → Prop
  | .non, u => u = Value.none
  | .bl b, u => u = Value.bool b
  | .int i, u => ∃ t, u = Value.int i t
  | .str x, u => ∃ t, u = Value.str x t
  | .byt b, u => ∃ t, u = Value.bytes b t
  | .flt b, u => ∃ t, u = Value.float b t
  | .ref a, u => u = Value.ref a
  | .ty n, u => u = Value.type n
abbrev Vals : List V → List Value → Prop := Paired RelV
theorem Vals.length {xs : List V} {us : List Value} (r : Vals xs us) : xs.length = us.length := Paired.length r
theorem Vals.get : ∀ {xs : List V} {us : List Value} {i : Nat} {x : V}, Vals xs us → xs[i]? = some x → ∃ u, us[i]? = some u ∧ RelV x u
  | _, _, _, _, .nil, e => by simp at e
  | _, _, 0, _, .cons r _, e => by simp at e; subst e; exact ⟨_, rfl, r⟩
  | _, _, i + 1, x, .cons _ t, e => by
    obtain ⟨u, h1, h2⟩ := Vals.get (i := i) (x := x) t (by simpa using e)
    exact ⟨u, by simpa using h1, h2⟩
theorem Vals.set {x : V} {u : Value} (r : RelV x u) : ∀ {xs : List V} {us : List Value} (i : Nat), Vals xs us → Vals (xs.set i x) (us.set i u)
  | _, _, _, .nil => .nil
  | _, _, 0, .cons _ t => .cons r t
  | _, _, i + 1, .cons q t => .cons q (Vals.set r i t)
theorem Vals.append : ∀ {xs ys : List V} {us ws : List Value}, Vals xs us → Vals ys ws → Vals (xs ++ ys) (us ++ ws)
  | _, _, _, _, .nil, s => s
  | _, _, _, _, .cons r t, s => .cons r (Vals.append t s)
theorem Vals.take : ∀ {xs : List V} {us : List Value} (n : Nat), Vals xs us → Vals (xs.take n) (us.take n)
  | _, _, 0, _ => .nil
  | _, _, _ + 1, .nil => .nil
  | _, _, n + 1, .cons r t => .cons r (Vals.take n t)
theorem Vals.drop : ∀ {xs : List V} {us : List Value} (n : Nat), Vals xs us → Vals (xs.drop n) (us.drop n)
  | _, _, 0, r => r
  | _, _, _ + 1, .nil => .nil
  | _, _, n + 1, .cons _ t => Vals.drop n t
def RelO : Option V → Option Value → Prop
  | some v, some u => RelV v u
  | none, none => True
  | _, _ => False
def KV {κ : Type} : List (κ × V) → List (κ × Value) → Prop := Paired fun (p : κ × V) (q : κ × Value) => p.1 = q.1 ∧ RelV p.2 q.2
def kV : Key → V
  | .inl i => .int i
  | .inr x => .str x
inductive HO where
  | lst (xs : List V)
  | tup (xs : List V)
  | dK (kvs : List (Key × V)) | dT (kvs : List (List Key × V))
  | set (S : Int → Bool) (n : Nat)
  | ins (C dx : Addr) (fs : List (Str × V))
  | own (x : Addr)
  | xd (fs : List (Str × V))
  | met (f x : Addr)
  | rng (lo hi : Int)
  | frz (o : Obj) (u : HO)
  | tbl (ps : Array Value)
  | ext (φ : Heap → Prop)
abbrev Hp := Addr → Option HO
def upd (H : Hp) (a : Addr) (o : HO) : Hp := fun b => if b = a then some o else H b
theorem upd_same {H : Hp} {a : Addr} {o : HO} : upd H a o a = some o := by unfold upd; rw [if_pos rfl]
theorem upd_ne {H : Hp} {a b : Addr} {o : HO} (h : b ≠ a) : upd H a o b = H b := by unfold upd; rw [if_neg h]
theorem ne_of {H : Hp} {a b : Addr} {o u : HO} (h : H a = some o) (h' : H b = some u) (d : o ≠ u) : a ≠ b := by
  intro e; subst e; rw [h] at h'; exact d (Option.some.inj h')
theorem ne_of_none {H : Hp} {a b : Addr} {o : HO} (h : H a = some o) (h' : H b = none) : a ≠ b := by
  intro e; subst e; rw [h] at h'; cases h'
def NoD (h : Heap) (a : Addr) : Prop := ∃ o, h.get? a = some o ∧ o.dict = none
theorem NoD.new (h : Heap) (items : Array Value) : NoD (h.push { cls := .type "tuple", data := .seq items }) h.objs.size := ⟨_, Heap.get?_push_size _ rfl, rfl⟩
section
variable (P : Program) (w : World)
def ObjOk (H : Hp) (h : Heap) (a : Addr) : HO → Prop
  | .lst xs => xs.length ≤ sizeLine ∧ ∃ (its : List Value) (n : Nat), Vals xs its ∧ h.get? a = some { cls := .type "list", data := .seq its.toArray n }
  | .tup xs => xs.length ≤ sizeLine ∧ ∃ its : List Value, Vals xs its ∧ IsTup h a its.toArray ∧ NoD h a
  | .dK kvs => kvs.length ≤ sizeLine ∧ (a == sysModules) = false ∧ ∃ vs, KV kvs vs ∧ h.DictOf (mixKind P w) a vs
  | .dT kvs => kvs.length ≤ sizeLine ∧ (a == sysModules) = false ∧ ∃ xs : List (List Key × Addr × Value),
      Paired (fun (p : List Key × V) (q : List Key × Addr × Value) => p.1 = q.1 ∧ H q.2.1 = some (.tup (p.1.map kV)) ∧ RelV p.2 q.2.2) kvs xs ∧
      ∃ o es ep, h.get? a = some o ∧ o.ExactDict ∧ o.data = .dict es ep ∧ es.toList = xs.map (entryOfKey (tupleKind (mixKind P w))) ∧ (xs.map (·.1)).Nodup
  | .set S n => h.SetOf (intKind P w) a S n
  | .ins C dx fs => H dx = some (.own a) ∧ fs.length ≤ 1000 ∧ dx ≠ a ∧ h.get? a = some (PySem.W.instObj C dx) ∧
      ∃ mA, h.Ns1 dx mA ∧ (∀ f, RelO (fs.lookup f) (mA f)) ∧ PySem.Within mA (fs.map (·.1))
  | .own _ => ∃ o, h.get? a = some o
  | .xd fs => ∃ mA, h.Ns1 a mA ∧ ∀ f, RelO (fs.lookup f) (mA f)
  | .rng lo hi => ∃ t u v, h.get? a = some { cls := .type "range", data := .fields #[.int lo t, .int hi u, .int 1 v] }
  | .frz o u => h.get? a = some o ∧ ObjOk H h a u
  | .tbl ps => h.get? a = some { cls := .none, data := .fields ps }
  | .met f x => h.get? a = some (PySem.W.methodObj (.ref f) (.ref x))
  | .ext φ => φ h ∧ (∃ o, h.get? a = some o) ∧ ∀ h1 h2 : Heap, φ h1 → (∀ o, h1.get? a = some o → h2.get? a = some o) → φ h2
def HOk (H : Hp) (h : Heap) : Prop := ∀ a o, H a = some o → ObjOk P w H h a o
end
section
variable {P : Program} {w : World} {H H' : Hp} {h h' : Heap} {a : Addr} {o : HO}
theorem ObjOk.lt (x : ObjOk P w H h a o) : a < h.objs.size := by
  cases o with
  | lst xs => obtain ⟨_, _, _, _, e⟩ := x; exact Heap.lt_size e
  | tup xs => obtain ⟨_, _, _, p⟩ := x; exact p.1.lt
  | dK kvs => obtain ⟨_, _, _, _, o, _, _, e, _⟩ := x; exact Heap.lt_size e
  | dT kvs => obtain ⟨_, _, _, _, o, _, _, e, _⟩ := x; exact Heap.lt_size e
  | set S n => obtain ⟨o, _, _, _, e, _⟩ := x; exact Heap.lt_size e
  | ins C dx fs => obtain ⟨_, _, _, e, _⟩ := x; exact Heap.lt_size e
  | own y => obtain ⟨_, e⟩ := x; exact Heap.lt_size e
  | xd fs => obtain ⟨_, ⟨_, _, _, e, _⟩, _⟩ := x; exact Heap.lt_size e
  | rng lo hi => obtain ⟨_, _, _, e⟩ := x; exact Heap.lt_size e
  | frz ob u => obtain ⟨e, _⟩ := x; exact Heap.lt_size e
  | tbl ps => exact Heap.lt_size (show h.get? a = some _ from x)
  | met f y => exact Heap.lt_size (show h.get? a = some _ from x)
  | ext φ => obtain ⟨_, ⟨_, e⟩, _⟩ := x; exact Heap.lt_size e
theorem Paired.mapP {α β : Type} {F G : α → β → Prop} : ∀ {l₁ : List α} {l₂ : List β}, Paired F l₁ l₂ → (∀ a b, F a b → G a b) → Paired G l₁ l₂
  | _, _, .nil, _ => .nil
  | _, _, .cons r t, f => .cons (f _ _ r) (Paired.mapP t f)
theorem ObjOk.stay (x : ObjOk P w H h a o) (k : ∀ b u, (b = a ∨ H b = some (.own a)) → h.get? b = some u → h'.get? b = some u)
    (ho : ∀ b, H b = some (.own a) → H' b = some (.own a)) (ht : ∀ b xs, H b = some (.tup xs) → H' b = some (.tup xs)) : ObjOk P w H' h' a o := by
  induction o with
  | lst xs => obtain ⟨z, its, n, r, e⟩ := x; exact ⟨z, its, n, r, k _ _ (.inl rfl) e⟩
  | tup xs => obtain ⟨z, its, r, ⟨ob, e, c⟩, od, e2, c2⟩ := x; exact ⟨z, its, r, ⟨ob, k _ _ (.inl rfl) e, c⟩, od, k _ _ (.inl rfl) e2, c2⟩
  | dK kvs => obtain ⟨z, y, vs, r, ob, es, ep, e, c⟩ := x; exact ⟨z, y, vs, r, ob, es, ep, k _ _ (.inl rfl) e, c⟩
  | dT kvs =>
    obtain ⟨z, y, xs, r, ob, es, ep, e, c⟩ := x
    exact ⟨z, y, xs, Paired.mapP r fun p q z => ⟨z.1, ht _ _ z.2.1, z.2.2⟩, ob, es, ep, k _ _ (.inl rfl) e, c⟩
  | set S n => obtain ⟨ob, es, ep, t, e, c⟩ := x; exact ⟨ob, es, ep, t, k _ _ (.inl rfl) e, c⟩
  | ins C dx fs =>
    obtain ⟨d, z, ne, e, mA, ⟨od, es, ep, e2, c⟩, r⟩ := x
    exact ⟨ho _ d, z, ne, k _ _ (.inl rfl) e, mA, ⟨od, es, ep, k _ _ (.inr d) e2, c⟩, r⟩
  | own y => obtain ⟨ob, e⟩ := x; exact ⟨ob, k _ _ (.inl rfl) e⟩
  | xd fs => obtain ⟨mA, ⟨od, es, ep, e, c⟩, r⟩ := x; exact ⟨mA, ⟨od, es, ep, k _ _ (.inl rfl) e, c⟩, r⟩
  | rng lo hi => obtain ⟨t, u, v, e⟩ := x; exact ⟨t, u, v, k _ _ (.inl rfl) e⟩
  | frz ob u ih => obtain ⟨e, q⟩ := x; exact ⟨k _ _ (.inl rfl) e, ih q⟩
  | tbl ps =>
    have e : h.get? a = some { cls := .none, data := .fields ps } := x
    show h'.get? a = some { cls := .none, data := .fields ps }
    exact k a _ (.inl rfl) e
  | met f y =>
    have e : h.get? a = some (PySem.W.methodObj (.ref f) (.ref y)) := x
    show h'.get? a = some (PySem.W.methodObj (.ref f) (.ref y))
    exact k a _ (.inl rfl) e
  | ext φ => obtain ⟨p, ⟨o, e⟩, st⟩ := x; exact ⟨st _ _ p fun o q => k _ _ (.inl rfl) q, ⟨o, k _ _ (.inl rfl) e⟩, st⟩
theorem HOk.lt (x : HOk P w H h) (e : H a = some o) : a < h.objs.size := (x a o e).lt
theorem HOk.fresh (x : HOk P w H h) (e : h.objs.size ≤ a) : H a = none := by
  cases q : H a with
  | none => rfl
  | some u => exact absurd (Nat.lt_of_lt_of_le (x.lt q) e) (Nat.lt_irrefl _)
theorem HOk.kept (x : HOk P w H h) (k : ∀ b u, h.get? b = some u → h'.get? b = some u) : HOk P w H h' := fun a o e =>
  (x a o e).stay (fun b u _ q => k b u q) (fun _ q => q) fun _ _ q => q
theorem HOk.laid (x : HOk P w H h) (k : ∀ b u, h.get? b = some u → h'.get? b = some u) (hp : h.objs.size ≤ a) (new : ObjOk P w (upd H a o) h' a o) : HOk P w (upd H a o) h' := fun b u e => by
  have hn := x.fresh hp
  by_cases hb : b = a
  · subst hb; rw [upd_same] at e; cases e; exact new
  · rw [upd_ne hb] at e
    exact (x b u e).stay (fun c v _ q => k c v q) (fun c q => by rw [upd_ne (ne_of_none q hn)]; exact q) fun c xs q => by rw [upd_ne (ne_of_none q hn)]; exact q
end
def Rd (H : Hp) (a : Addr) (u : HO) : Prop := H a = some u ∨ ∃ o, H a = some (.frz o u)
theorem Rd.ok {P : Program} {w : World} {H : Hp} {h : Heap} {a : Addr} {u : HO} (r : Rd H a u) (x : HOk P w H h) : ObjOk P w H h a u := by
  rcases r with r | ⟨o, r⟩
  · exact x a u r
  · obtain ⟨_, q⟩ := x a _ r
    exact q
def Mut : Option HO → Prop
  | some (.lst _) => True
  | some (.dK _) => True
  | some (.dT _) => True
  | some (.set _ _) => True
  | some (.ins _ _ _) => True
  | some (.ext _) => True
  | _ => False
section
variable {P : Program} {w : World} {H : Hp} {h h' : Heap} {x e : Addr} {o' : HO}
theorem HOk.write (ok : HOk P w H h) (mu : Mut (H x)) (he : e = x ∨ H e = some (.own x)) (k : ∀ b u, b ≠ e → h.get? b = some u → h'.get? b = some u) (heo : ∃ u, h'.get? e = some u)
    (new : ObjOk P w (upd H x o') h' x o') : HOk P w (upd H x o') h' := fun b u q => by
  have nown : ∀ c y, H c = some (.own y) → c ≠ x := fun c y r z => by subst z; rw [r] at mu; exact mu
  have ntup : ∀ c xs, H c = some (.tup xs) → c ≠ x := fun c xs r z => by subst z; rw [r] at mu; exact mu
  by_cases hb : b = x
  · subst hb; rw [upd_same] at q; cases q; exact new
  · rw [upd_ne hb] at q
    by_cases hbe : b = e
    · have q' : H b = some (.own x) := by
        rcases he with z | z
        · exact absurd (hbe.trans z) hb
        · rw [hbe]; exact z
      rw [q] at q'; cases q'
      obtain ⟨v, hv⟩ := heo
      exact ⟨v, by rw [hbe]; exact hv⟩
    · refine (ok b u q).stay (fun c v hc r => k c v ?_ r) (fun c r => by rw [upd_ne (nown c b r)]; exact r) fun c xs r => by rw [upd_ne (ntup c xs r)]; exact r
      rcases hc with rfl | hc
      · exact hbe
      · rintro rfl
        rcases he with z | z
        · exact nown c b hc z
        · rw [hc] at z; cases z; exact hb rfl
end
structure Un (fs ex : List Addr) (H H' : Hp) (h h' : Heap) : Prop where
  keep : ∀ b o, h.get? b = some o → H b = none → b ∉ fs → b ∉ ex → h'.get? b = some o
  slot : ∀ b o, h.get? b = some o → H b = none → b ∈ fs → b ∉ ex → ∃ sl, h'.get? b = some { o with slots := sl }
  free : ∀ b o, h.get? b = some o → H b = none → b ∉ ex → H' b = none
  there : ∀ b o, h.get? b = some o → b ∉ ex → ∃ o', h'.get? b = some o'
  tups : ∀ b xs, H b = some (.tup xs) → H' b = some (.tup xs)
  frzs : ∀ b o u, H b = some (.frz o u) → H' b = some (.frz o u)
  tbls : ∀ b ps, H b = some (.tbl ps) → ∃ more, H' b = some (.tbl (ps ++ more))
section
variable {fs fs' ex ex' : List Addr} {H H1 H2 : Hp} {h h1 h2 h' : Heap} {a x e : Addr} {o : HO}
theorem Un.any (u : Un fs ex H H1 h h1) {b : Addr} {ob : Obj} (q : h.get? b = some ob) (n : H b = none) (hx : b ∉ ex) : ∃ sl, h1.get? b = some { ob with slots := sl } := by
  by_cases hb : b ∈ fs
  · exact u.slot b ob q n hb hx
  · exact ⟨ob.slots, u.keep b ob q n hb hx⟩
theorem Un.kept (k : ∀ b u, h.get? b = some u → h'.get? b = some u) : Un fs ex H H h h' :=
  ⟨fun b ob q _ _ _ => k b ob q, fun b ob q _ _ _ => ⟨ob.slots, k b ob q⟩, fun _ _ _ n _ => n, fun b ob q _ => ⟨ob, k b ob q⟩, fun _ _ q => q, fun _ _ _ q => q, fun _ ps q => ⟨#[], by rw [q]; simp⟩⟩
theorem Un.refl : Un fs ex H H h h := Un.kept fun _ _ q => q
theorem Un.laid (k : ∀ b u, h.get? b = some u → h'.get? b = some u) (hp : h.objs.size ≤ a) (hn : H a = none) : Un fs ex H (upd H a o) h h' where
  keep := fun b u q _ _ _ => k b u q
  slot := fun b u q _ _ _ => ⟨u.slots, k b u q⟩
  free := fun b u q n _ => by rw [upd_ne (Nat.ne_of_lt (Nat.lt_of_lt_of_le (Heap.lt_size q) hp))]; exact n
  there := fun b u q _ => ⟨u, k b u q⟩
  tups := fun b xs q => by rw [upd_ne (ne_of_none q hn)]; exact q
  frzs := fun b u xs q => by rw [upd_ne (ne_of_none q hn)]; exact q
  tbls := fun b ps q => ⟨#[], by rw [upd_ne (ne_of_none q hn), q]; simp⟩
theorem Un.write (mu : Mut (H x)) (he : e = x ∨ H e = some (.own x)) (k : ∀ b u, b ≠ e → h.get? b = some u → h'.get? b = some u) (heo : ∃ u, h'.get? e = some u) : Un fs ex H (upd H x o) h h' := by
  have hx : ∀ b, H b = none → b ≠ x := fun b n z => by subst z; rw [n] at mu; exact mu
  have hb : ∀ b, H b = none → b ≠ e := fun b n z => by
    subst z
    rcases he with r | r
    · exact hx b n r
    · rw [n] at r; cases r
  have hm : ∀ b u, H b = some u → ¬ Mut (some u) → b ≠ x := fun b u q nm z => by subst z; rw [q] at mu; exact nm mu
  refine ⟨fun b u q n _ _ => k b u (hb b n) q, fun b u q n _ _ => ⟨u.slots, k b u (hb b n) q⟩, fun b u q n _ => by rw [upd_ne (hx b n)]; exact n, fun b u q _ => ?_,
    fun b xs q => by rw [upd_ne (hm b _ q fun z => z)]; exact q, fun b u xs q => by rw [upd_ne (hm b _ q fun z => z)]; exact q, fun b ps q => ⟨#[], by rw [upd_ne (hm b _ q fun z => z), q]; simp⟩⟩
  by_cases hbe : b = e
  · subst hbe; exact heo
  · exact ⟨u, k b u hbe q⟩
end
def trk (h : Heap) (H : Hp) : List Addr := (List.range h.objs.size).filter fun a => (H a).isSome
def hidT (h : Heap) (H : Hp) : Heap := PySem.W.hideAll h (trk h H)
theorem hidT_size (h : Heap) (H : Hp) : (hidT h H).objs.size = h.objs.size := PySem.W.hideAll_size _ _
theorem hidT_get {h : Heap} {H : Hp} {b : Addr} {o : Obj} (e : h.get? b = some o) (n : H b = none) : (hidT h H).get? b = some o :=
  PySem.W.hideAll_get _ e fun hm => by
    have q : (H b).isSome = true := (List.mem_filter.mp hm).2
    rw [n] at q; simp at q
theorem of_hidT {h : Heap} {H : Hp} {b : Addr} {o : Obj} (e : (hidT h H).get? b = some o) : h.get? b = some o ∧ H b = none := by
  have e' : h.get? b = some o := PySem.W.of_hideAll (trk h H) e
  refine ⟨e', ?_⟩
  cases q : H b with
  | none => rfl
  | some x =>
    have hm : b ∈ trk h H := List.mem_filter.mpr ⟨List.mem_range.mpr (Heap.lt_size e'), by simp [q]⟩
    have z : (hidT h H).get? b = none := PySem.W.hideAll_none (trk h H) hm
    rw [z] at e; cases e
structure Mod (K : PySem.W.Frag) (mg : Str → Option Value) (base : Heap) : Prop where
  kin : K.In base
  glob : base.Ns mainGlobals mg
  blt : ∃ mb, base.Ns builtinsNs mb ∧ ∀ x : Str, x ≠ "__name__" → mb x = bootBuiltins x
  nolimit : base.NoLimit
structure Cx where
  prog : Program
  w : World
  K : PySem.W.Frag
  mg : Str → Option Value
  base : Heap
  A : Around
  N : List Str
  s₀ : Shared
  H₀ : Hp
  env : Env
  outer : List Env
  stack : List Env
  ex : List Addr
  fn : Str → Bool
  calm : Bool
  pn : List (Addr × Obj)
  xe : Value → Shared → Prop
def frs (l : List Env) : List Addr := l.filterMap (·.frame)
abbrev Cx.fs (X : Cx) : List Addr := frs X.outer
def Vis (sc : Scope) (x : Str) : Prop := sc.names.lookup x = some .local ∨ sc.names.lookup x = some .cell ∨ sc.names.lookup x = some .free
def Loc (sc : Scope) (x : Str) : Prop := sc.names.lookup x = some .local ∨ sc.names.lookup x = some .cell
def Look (env : Env) (h : Heap) (m : Str → Option Value) (x : Str) (u : Value) : Prop :=
  (env.kindOf x = some .local ∧ m x = some u) ∨ ((env.kindOf x = some .cell ∨ env.kindOf x = some .free) ∧ ∃ c, env.cells.lookup x = some c ∧ h.IsCell c (some u))
structure Cx.Ok (X : Cx) : Prop where
  mod : Mod X.K X.mg X.base
  kind : X.env.scope.kind = .function
  glob : X.env.globals = mainGlobals
  blt : X.env.builtins = builtinsNs
  above : X.s₀.heap.objs.size ≤ X.env.locals
  inj : ∀ x y c, X.env.cells.lookup x = some c → X.env.cells.lookup y = some c → x = y
  has : ∀ x, (X.env.kindOf x = some .cell ∨ X.env.kindOf x = some .free) → ∃ c, X.env.cells.lookup x = some c
  cab : ∀ x c, X.fn x = true → X.env.cells.lookup x = some c → X.s₀.heap.objs.size ≤ c
  hd : X.calm = true → X.A.handled = none
  frames : X.A.frames = some X.stack
  stk : X.stack = X.outer ∨ (X.stack = X.env :: X.outer ∧ X.env.frame = some X.env.locals)
  exf : ∀ b ∈ X.ex, b ≠ X.env.locals ∧ ∀ x c, X.env.cells.lookup x = some c → c ≠ b
  bs : ∀ b o, X.base.get? b = some o → X.s₀.heap.get? b = some o ∧ X.H₀ b = none
  bsz : X.base.objs.size ≤ X.s₀.heap.objs.size
  noex : ∀ b o, X.base.get? b = some o → b ∉ X.ex
  exfs : ∀ b ∈ X.ex, b ∉ X.fs
  funs : X.s₀.heap.FunFrames X.base X.outer
  frf : ∀ b ∈ X.fs, X.H₀ b = none
structure Inv (X : Cx) (pins : List (Addr × Obj)) (σ : List (Option V)) (H : Hp) (s : Shared) : Prop where
  ok : X.Ok
  os : s.os = X.s₀.os
  bare : AllBare s.gens
  base : Un X.fs X.ex X.H₀ H X.s₀.heap s.heap
  loc : ∃ m, s.heap.Ns X.env.locals m ∧ ∀ (i : Nat) (x : Str) (v : V), X.N[i]? = some x → σ[i]? = some (some v) → Vis X.env.scope x → ∃ u, RelV v u ∧ Look X.env s.heap m x u
  cell : ∀ x c, X.env.cells.lookup x = some c → ∃ v, s.heap.IsCell c v
  free : H X.env.locals = none
  freeC : ∀ x c, X.env.cells.lookup x = some c → H c = none
  pin : ∀ p ∈ X.pn ++ pins, s.heap.get? p.1 = some p.2 ∧ H p.1 = none ∧ p.1 ≠ X.env.locals ∧ p.1 ∉ X.fs ∧ ∀ v, p.2.data ≠ .cell v
  hok : HOk X.prog X.w H s.heap
  len : σ.length = X.N.length
section
variable {X : Cx} {pins : List (Addr × Obj)} {σ : List (Option V)} {H H' : Hp} {s : Shared} {h' : Heap}
theorem Cx.Ok.nofr (ok : X.Ok) {b : Addr} {o : Obj} (e : X.base.get? b = some o) : b ∉ X.fs := fun hb => by
  have := (ok.funs.mem hb).1
  rw [e] at this; cases this
theorem Inv.bs (I : Inv X pins σ H s) : ∀ b o, X.base.get? b = some o → s.heap.get? b = some o ∧ H b = none := fun b o e =>
  ⟨I.base.keep b o (I.ok.bs b o e).1 (I.ok.bs b o e).2 (I.ok.nofr e) (I.ok.noex b o e), I.base.free b o (I.ok.bs b o e).1 (I.ok.bs b o e).2 (I.ok.noex b o e)⟩
theorem Inv.bk (I : Inv X pins σ H s) : ∀ b o, X.base.get? b = some o → s.heap.get? b = some o := fun b o e => (I.bs b o e).1
theorem Inv.mod (I : Inv X pins σ H s) : Mod X.K X.mg X.base := I.ok.mod
theorem Inv.kIn (I : Inv X pins σ H s) : X.K.In s.heap := I.ok.mod.kin.keeps I.bk
theorem Inv.lt (I : Inv X pins σ H s) : X.env.locals < s.heap.objs.size := let ⟨_, hn, _⟩ := I.loc; hn.lt
theorem Inv.sz (I : Inv X pins σ H s) : X.s₀.heap.objs.size ≤ s.heap.objs.size := Nat.le_trans I.ok.above (Nat.le_of_lt I.lt)
theorem Inv.nofs (I : Inv X pins σ H s) {a : Addr} (h : s.heap.objs.size ≤ a) : a ∉ X.fs := fun hb => by
  obtain ⟨_, o, ho, _⟩ := I.ok.funs.mem hb
  exact absurd (Nat.lt_of_lt_of_le (Heap.lt_size ho) (Nat.le_trans I.sz h)) (Nat.lt_irrefl _)
theorem Inv.cne (I : Inv X pins σ H s) : ∀ x c, X.env.cells.lookup x = some c → c ≠ X.env.locals := fun x c e z => by
  obtain ⟨v, o, ho, hd⟩ := I.cell x c e
  obtain ⟨m, ⟨o', es, ep, ho', hd', _⟩, _⟩ := I.loc
  rw [z, ho'] at ho; cases ho; rw [hd'] at hd; cases hd
theorem Inv.funs (I : Inv X pins σ H s) : s.heap.FunFrames X.base X.outer := by
  have all : ∀ (l : List Env), (∀ b ∈ frs l, b ∈ X.fs) → X.s₀.heap.FunFrames X.base l → s.heap.FunFrames X.base l := by
    intro l
    induction l with
    | nil => intro _ _; trivial
    | cons env r ih =>
      intro hs hl
      obtain ⟨hk, ⟨L, o, hf, hn, ho, hd⟩, hr⟩ := hl
      have hL : L ∈ X.fs := hs L (by unfold frs; rw [List.filterMap_cons, hf]; exact List.mem_cons_self)
      obtain ⟨sl, e⟩ := I.base.slot L o ho (I.ok.frf L hL) hL fun z => I.ok.exfs L z hL
      exact ⟨hk, ⟨L, _, hf, hn, e, hd⟩, ih (fun b hb => hs b (by unfold frs; rw [List.filterMap_cons, hf]; exact List.mem_cons_of_mem _ hb)) hr⟩
  exact all X.outer (fun _ hb => hb) I.ok.funs
theorem Inv.stack (I : Inv X pins σ H s) : s.heap.FunFrames X.base X.stack := by
  rcases I.ok.stk with e | ⟨e, hf⟩
  · rw [e]; exact I.funs
  · rw [e]
    obtain ⟨m, hn, _⟩ := I.loc
    refine .cons (by rw [I.ok.kind]; decide) hf hn ?_ I.funs
    exact Heap.get?_none_of_le (Nat.le_trans I.ok.bsz I.ok.above)
theorem Inv.stkSub (I : Inv X pins σ H s) : ∀ b ∈ frs X.stack, b ∈ X.env.locals :: X.fs := fun b hb => by
  rcases I.ok.stk with e | ⟨e, hf⟩
  · rw [e] at hb; exact List.mem_cons_of_mem _ hb
  · rw [e] at hb
    unfold frs at hb
    rw [List.filterMap_cons, hf] at hb
    exact hb
theorem Inv.stkFree (I : Inv X pins σ H s) : ∀ b ∈ frs X.stack, H b = none := fun b hb => by
  rcases List.mem_cons.mp (I.stkSub b hb) with e | hb
  · rw [e]; exact I.free
  · obtain ⟨_, o, ho, _⟩ := I.ok.funs.mem hb
    exact I.base.free b o ho (I.ok.frf b hb) fun z => I.ok.exfs b z hb
theorem Inv.step {g' : Array GenState} {t' : Nat} {d' : Drawn} {ch : List Addr} (I : Inv X pins σ H s)
    (hch : ∀ b ∈ ch, (b ∈ X.ex ∨ X.s₀.heap.objs.size ≤ b) ∧ b ≠ X.env.locals ∧ (∀ x c, X.env.cells.lookup x = some c → c ≠ b) ∧ ∀ p ∈ X.pn ++ pins, p.1 ≠ b)
    (keep : ∀ b o, b ≠ X.env.locals → b ∉ X.fs → b ∉ ch → s.heap.get? b = some o → H b = none → h'.get? b = some o)
    (slot : ∀ b o, b ≠ X.env.locals → b ∈ X.fs → b ∉ ch → s.heap.get? b = some o → H b = none → ∃ sl, h'.get? b = some { o with slots := sl }) (free : ∀ b o, b ∉ ch → s.heap.get? b = some o → H b = none → H' b = none)
    (there : ∀ b o, b ∉ ch → s.heap.get? b = some o → ∃ o', h'.get? b = some o')
    (tups : ∀ b xs, H b = some (.tup xs) → H' b = some (.tup xs)) (frzs : ∀ b o u, H b = some (.frz o u) → H' b = some (.frz o u)) (tbls : ∀ b ps, H b = some (.tbl ps) → ∃ more, H' b = some (.tbl (ps ++ more)))
    (ns : ∀ m, s.heap.Ns X.env.locals m → h'.Ns X.env.locals m) (hok : HOk X.prog X.w H' h') (hg : AllBare g') :
    Inv X pins σ H' { s with heap := h', gens := g', drawn := d', toks := t' } := by
  have neL : ∀ b o, X.s₀.heap.get? b = some o → b ≠ X.env.locals := fun b o e => Nat.ne_of_lt (Nat.lt_of_lt_of_le (Heap.lt_size e) I.ok.above)
  have neC : ∀ b o, X.s₀.heap.get? b = some o → b ∉ X.ex → b ∉ ch := fun b o e hx hb => by
    rcases (hch b hb).1 with z | z
    · exact hx z
    · exact absurd (Nat.lt_of_lt_of_le (Heap.lt_size e) z) (Nat.lt_irrefl _)
  have cellK : ∀ x c, X.env.cells.lookup x = some c → ∀ v, s.heap.IsCell c v → h'.IsCell c v := fun x c e v ⟨o, ho, hd⟩ => by
    have nch : c ∉ ch := fun z => (hch c z).2.2.1 x c e rfl
    by_cases hc : c ∈ X.fs
    · obtain ⟨sl, q⟩ := slot c o (I.cne x c e) hc nch ho (I.freeC x c e)
      exact ⟨_, q, hd⟩
    · exact ⟨o, keep c o (I.cne x c e) hc nch ho (I.freeC x c e), hd⟩
  refine ⟨I.ok, I.os, hg, ⟨fun b o e n hb hx => ?_, fun b o e n hb hx => ?_, fun b o e n hx => ?_, fun b o e hx => ?_, fun b xs e => tups b xs (I.base.tups b xs e), fun b o xs e => frzs b o xs (I.base.frzs b o xs e), fun b ps e => ?_⟩, ?_, fun x c e => ?_, ?_, fun x c e => ?_, fun p hp => ?_, hok, I.len⟩
  · exact keep b o (neL b o e) hb (neC b o e hx) (I.base.keep b o e n hb hx) (I.base.free b o e n hx)
  · obtain ⟨sl, e1⟩ := I.base.slot b o e n hb hx
    obtain ⟨sl', e2⟩ := slot b _ (neL b o e) hb (neC b o e hx) e1 (I.base.free b o e n hx)
    exact ⟨sl', e2⟩
  · obtain ⟨o', e1⟩ := I.base.there b o e hx
    exact free b o' (neC b o e hx) e1 (I.base.free b o e n hx)
  · obtain ⟨o', e1⟩ := I.base.there b o e hx
    exact there b o' (neC b o e hx) e1
  · obtain ⟨m1, e1⟩ := I.base.tbls b ps e
    obtain ⟨m2, e2⟩ := tbls b _ e1
    exact ⟨m1 ++ m2, by rw [e2, Array.append_assoc]⟩
  · obtain ⟨m, hn, hl⟩ := I.loc
    refine ⟨m, ns m hn, fun i x v e1 e2 e3 => ?_⟩
    obtain ⟨u, r, l⟩ := hl i x v e1 e2 e3
    refine ⟨u, r, ?_⟩
    rcases l with l | ⟨k, c, e, z⟩
    · exact .inl l
    · exact .inr ⟨k, c, e, cellK x c e _ z⟩
  · obtain ⟨v, z⟩ := I.cell x c e
    exact ⟨v, cellK x c e v z⟩
  · obtain ⟨m, ⟨o, _, _, ho, _⟩, _⟩ := I.loc
    exact free _ o (fun z => (hch _ z).2.1 rfl) ho I.free
  · obtain ⟨v, o, ho, hd⟩ := I.cell x c e
    exact free c o (fun z => (hch c z).2.2.1 x c e rfl) ho (I.freeC x c e)
  · obtain ⟨e, n, ne, nf, d⟩ := I.pin p hp
    have nch : p.1 ∉ ch := fun z => (hch p.1 z).2.2.2 p hp rfl
    exact ⟨keep p.1 p.2 ne nf nch e n, free p.1 p.2 nch e n, ne, nf, d⟩
theorem Inv.un {t' : Nat} (I : Inv X pins σ H s) (u : Un X.fs [] H H' s.heap h') (hok : HOk X.prog X.w H' h') : Inv X pins σ H' { s with heap := h', toks := t' } := by
  obtain ⟨m, ⟨o, es, ep, ho, r⟩, _⟩ := id I.loc
  obtain ⟨sl, hL⟩ := u.any ho I.free (by simp)
  exact I.step (g' := s.gens) (d' := s.drawn) (ch := []) (fun _ z => nomatch z) (fun b o _ hb _ e n => u.keep b o e n hb (by simp)) (fun b o _ hb _ e n => u.slot b o e n hb (by simp)) (fun b o _ e n => u.free b o e n (by simp)) (fun b o _ e => u.there b o e (by simp)) u.tups u.frzs u.tbls (fun m' hm => by
    obtain ⟨o', es', ep', ho', r'⟩ := hm
    rw [ho] at ho'; cases ho'
    exact ⟨_, es', ep', hL, r'⟩) hok I.bare
theorem Inv.call {g' : Array GenState} {t' : Nat} {d' : Drawn} {ch : List Addr} (I : Inv X pins σ H s) (u : Un (frs X.stack) ch H H' s.heap h') (hok : HOk X.prog X.w H' h') (hg : AllBare g')
    (hch : ∀ b ∈ ch, (b ∈ X.ex ∨ X.s₀.heap.objs.size ≤ b) ∧ b ≠ X.env.locals ∧ (∀ x c, X.env.cells.lookup x = some c → c ≠ b) ∧ ∀ p ∈ X.pn ++ pins, p.1 ≠ b) :
    Inv X pins σ H' { s with heap := h', gens := g', drawn := d', toks := t' } := by
  obtain ⟨m, ⟨o, es, ep, ho, r⟩, _⟩ := id I.loc
  obtain ⟨sl, hL⟩ := u.any ho I.free fun z => (hch _ z).2.1 rfl
  exact I.step (ch := ch) hch (fun b o hL hb hc e n => u.keep b o e n (fun z => (List.mem_cons.mp (I.stkSub b z)).elim hL hb) hc) (fun b o _ _ hc e n => u.any e n hc) (fun b o hc e n => u.free b o e n hc) (fun b o hc e => u.there b o e hc) u.tups u.frzs u.tbls (fun m' hm => by
    obtain ⟨o', es', ep', ho', r'⟩ := hm
    rw [ho] at ho'; cases ho'
    exact ⟨_, es', ep', hL, r'⟩) hok hg
theorem Inv.turned {t' : Nat} {it : Addr} (I : Inv X pins σ H s) (k : ∀ b o, b ≠ it → s.heap.get? b = some o → h'.get? b = some o) (hn : H it = none) (hL : it ≠ X.env.locals)
    (h1 : it ∈ X.ex ∨ X.s₀.heap.objs.size ≤ it) (h2 : ∀ x c, X.env.cells.lookup x = some c → c ≠ it) (h3 : ∀ p ∈ X.pn ++ pins, p.1 ≠ it) : Inv X pins σ H { s with heap := h', toks := t' } := by
  have nit : ∀ b u, H b = some u → b ≠ it := fun b u e z => by rw [z, hn] at e; cases e
  refine I.step (g' := s.gens) (d' := s.drawn) (ch := [it]) (fun b hb => ?_) (fun b o _ _ hc e _ => k b o (fun z => hc (by simp [z])) e) (fun b o _ _ hc e _ => ⟨o.slots, k b o (fun z => hc (by simp [z])) e⟩) (fun _ _ _ _ n => n)
    (fun b o hc e => ⟨o, k b o (fun z => hc (by simp [z])) e⟩) (fun _ _ e => e) (fun _ _ _ e => e) (fun b ps e => ⟨#[], by rw [e]; simp⟩) (fun m hm => ?_) (fun b u e => ?_) I.bare
  · have e : b = it := by simpa using hb
    subst e
    exact ⟨h1, hL, h2, h3⟩
  · obtain ⟨o, es, ep, ho, r⟩ := hm
    exact ⟨o, es, ep, k _ o (Ne.symm hL) ho, r⟩
  · refine (I.hok b u e).stay (fun c v hc q => k c v ?_ q) (fun _ q => q) fun _ _ q => q
    rcases hc with z | z
    · rw [z]; exact nit b u e
    · exact nit c _ z
theorem Inv.tok (I : Inv X pins σ H s) (t : Nat) : Inv X pins σ H { s with toks := t } := I.un (h' := s.heap) (t' := t) Un.refl I.hok
theorem Inv.kept {t' : Nat} (I : Inv X pins σ H s) (k : ∀ b u, s.heap.get? b = some u → h'.get? b = some u) : Inv X pins σ H { s with heap := h', toks := t' } := I.un (Un.kept k) (I.hok.kept k)
theorem Inv.laid {a : Addr} {o : HO} {t' : Nat} (I : Inv X pins σ H s) (k : ∀ b u, s.heap.get? b = some u → h'.get? b = some u) (hp : s.heap.objs.size ≤ a) (new : ObjOk X.prog X.w (upd H a o) h' a o) :
    Inv X pins σ (upd H a o) { s with heap := h', toks := t' } := I.un (Un.laid k hp (I.hok.fresh hp)) (I.hok.laid k hp new)
theorem Inv.write {x e : Addr} {o : HO} {t' : Nat} (I : Inv X pins σ H s) (mu : Mut (H x)) (he : e = x ∨ H e = some (.own x)) (k : ∀ b u, b ≠ e → s.heap.get? b = some u → h'.get? b = some u) (heo : ∃ u, h'.get? e = some u)
    (new : ObjOk X.prog X.w (upd H x o) h' x o) : Inv X pins σ (upd H x o) { s with heap := h', toks := t' } := I.un (Un.write mu he k heo) (I.hok.write mu he k heo new)
theorem Inv.pins_of {pins' : List (Addr × Obj)} (I : Inv X pins σ H s) (h : ∀ p ∈ pins', s.heap.get? p.1 = some p.2 ∧ H p.1 = none ∧ p.1 ≠ X.env.locals ∧ p.1 ∉ X.fs ∧ ∀ v, p.2.data ≠ .cell v) : Inv X pins' σ H s :=
  ⟨I.ok, I.os, I.bare, I.base, I.loc, I.cell, I.free, I.freeC, fun p hp => (List.mem_append.mp hp).elim (fun z => I.pin p (List.mem_append_left _ z)) (h p), I.hok, I.len⟩
theorem nodup_ix {N : List Str} (hN : N.Nodup) {i j : Nat} {x : Str} (a : N[i]? = some x) (b : N[j]? = some x) : i = j := by
  obtain ⟨h1, e1⟩ := List.getElem?_eq_some_iff.mp a
  obtain ⟨h2, e2⟩ := List.getElem?_eq_some_iff.mp b
  exact (List.getElem_inj hN).mp (e1.trans e2.symm)
theorem store_ok2 {M : Model} {A : Around} {E : Value → Shared → Prop} {i : Nat} {x : Str} {v : V} {u : Value} {Q : Unit → Shared → Prop} (I : Inv X pins σ H s) (hN : X.N.Nodup) (hi : X.N[i]? = some x) (hx : Loc X.env.scope x) (r : RelV v u)
    (h : ∀ s', Inv X pins (σ.set i (some v)) H s' → (∃ a, Heap.SameBut a s.heap s'.heap ∧ (a = X.env.locals ∨ X.env.cells.lookup x = some a)) → Q () s') (hf : X.fn x = true ∨ X.env.scope.names.lookup x = some .local := by first | exact .inl rfl | exact .inr rfl | assumption) : wpAny M A (storeName X.env x u) Q E s := by
  obtain ⟨m, hn, hl⟩ := id I.loc
  have hcls : (X.env.scope.kind == .class || (X.env.scope.kind == .module && X.env.locals != X.env.globals)) = false := by rw [I.ok.kind]; rfl
  have hiσ : i < σ.length := by rw [I.len]; exact (List.getElem?_eq_some_iff.mp hi).1
  have cne := I.cne
  have tracked : ∀ {a : Addr} {h' : Heap}, (∃ o, s.heap.get? a = some o ∧ H a = none) → Heap.SameBut a s.heap h' → HOk X.prog X.w H h' := fun {a h'} ha hs b ob e => by
    obtain ⟨_, _, hfree⟩ := ha
    refine (I.hok b ob e).stay (fun c w' hc q => (hs.2 c ?_).trans q) (fun _ q => q) fun _ _ q => q
    rintro rfl
    rcases hc with rfl | hc
    · rw [hfree] at e; cases e
    · rw [hfree] at hc; cases hc
  rcases hx with hk | hk
  · refine wpAny_storeName_local hk hn (fun h' hn' hs => ?_) hcls
    obtain ⟨oL, _, _, hoL, _⟩ := id hn
    refine h _ ⟨I.ok, I.os, I.bare, ⟨fun b o e n hb hx => ?_, fun b o e n hb hx => ?_, I.base.free, fun b o e hx => ?_, I.base.tups, I.base.frzs, I.base.tbls⟩, ⟨_, hn', fun j y v' e1 e2 e3 => ?_⟩, fun y c e => ?_, I.free, I.freeC, fun p hp => ?_, tracked ⟨oL, hoL, I.free⟩ hs, by simpa using I.len⟩ ⟨_, hs, .inl rfl⟩
    · exact (hs.2 b (Nat.ne_of_lt (Nat.lt_of_lt_of_le (Heap.lt_size e) I.ok.above))).trans (I.base.keep b o e n hb hx)
    · obtain ⟨sl, e1⟩ := I.base.slot b o e n hb hx
      exact ⟨sl, (hs.2 b (Nat.ne_of_lt (Nat.lt_of_lt_of_le (Heap.lt_size e) I.ok.above))).trans e1⟩
    · obtain ⟨o', e1⟩ := I.base.there b o e hx
      exact ⟨o', (hs.2 b (Nat.ne_of_lt (Nat.lt_of_lt_of_le (Heap.lt_size e) I.ok.above))).trans e1⟩
    · by_cases hj : j = i
      · subst hj
        rw [hi] at e1; cases e1
        rw [List.getElem?_set_self hiσ] at e2
        cases e2
        exact ⟨u, r, .inl ⟨hk, by simp⟩⟩
      · rw [List.getElem?_set_ne (Ne.symm hj)] at e2
        obtain ⟨u', r', q⟩ := hl j y v' e1 e2 e3
        refine ⟨u', r', ?_⟩
        rcases q with ⟨k, e⟩ | ⟨k, c, e, z⟩
        · refine .inl ⟨k, ?_⟩
          have : y ≠ x := fun e => hj (nodup_ix hN e1 (e ▸ hi))
          simp [this, e]
        · exact .inr ⟨k, c, e, z.sameBut hs (cne y c e)⟩
    · obtain ⟨w', z⟩ := I.cell y c e
      exact ⟨w', z.sameBut hs (cne y c e)⟩
    · obtain ⟨e, n, ne, nf, d⟩ := I.pin p hp
      exact ⟨(hs.2 p.1 ne).trans e, n, ne, nf, d⟩
  · have hfn : X.fn x = true := by
      rcases hf with z | z
      · exact z
      · rw [z] at hk; cases hk
    obtain ⟨c, hc⟩ := I.ok.has x (.inl hk)
    obtain ⟨w', z⟩ := I.cell x c hc
    refine wpAny_storeName_cell I.ok.kind hk hc z (fun h' hc' hs => ?_)
    obtain ⟨oc, hoc, hocd⟩ := id z
    refine h { s with heap := h' } ⟨I.ok, I.os, I.bare, ⟨fun b o e n hb hx => ?_, fun b o e n hb hx => ?_, I.base.free, fun b o e hx => ?_, I.base.tups, I.base.frzs, I.base.tbls⟩, ⟨m, hn.sameBut hs (Ne.symm (cne x c hc)), fun j y v' e1 e2 e3 => ?_⟩, fun y c' e => ?_, I.free, I.freeC, fun p hp => ?_, tracked ⟨oc, hoc, I.freeC x c hc⟩ hs, by simpa using I.len⟩ ⟨c, hs, .inr hc⟩
    · exact (hs.2 b (Nat.ne_of_lt (Nat.lt_of_lt_of_le (Heap.lt_size e) (I.ok.cab x c hfn hc)))).trans (I.base.keep b o e n hb hx)
    · obtain ⟨sl, e1⟩ := I.base.slot b o e n hb hx
      exact ⟨sl, (hs.2 b (Nat.ne_of_lt (Nat.lt_of_lt_of_le (Heap.lt_size e) (I.ok.cab x c hfn hc)))).trans e1⟩
    · obtain ⟨o', e1⟩ := I.base.there b o e hx
      exact ⟨o', (hs.2 b (Nat.ne_of_lt (Nat.lt_of_lt_of_le (Heap.lt_size e) (I.ok.cab x c hfn hc)))).trans e1⟩
    · by_cases hj : j = i
      · subst hj
        rw [hi] at e1; cases e1
        rw [List.getElem?_set_self hiσ] at e2
        cases e2
        exact ⟨u, r, .inr ⟨.inl hk, c, hc, hc'⟩⟩
      · rw [List.getElem?_set_ne (Ne.symm hj)] at e2
        obtain ⟨u', r', q⟩ := hl j y v' e1 e2 e3
        refine ⟨u', r', ?_⟩
        rcases q with q | ⟨k, c', e, z'⟩
        · exact .inl q
        · refine .inr ⟨k, c', e, z'.sameBut hs ?_⟩
          rintro rfl
          exact hj (nodup_ix hN e1 (I.ok.inj _ _ _ e hc ▸ hi))
    · by_cases hcc : c' = c
      · subst hcc; exact ⟨_, hc'⟩
      · obtain ⟨w2, z2⟩ := I.cell y c' e
        exact ⟨w2, z2.sameBut hs hcc⟩
    · obtain ⟨e, n, ne, nf, d⟩ := I.pin p hp
      refine ⟨(hs.2 p.1 ?_).trans e, n, ne, nf, d⟩
      intro q
      rw [q, hoc] at e
      have q' : oc = p.2 := Option.some.inj e
      exact d w' (by rw [← q']; exact hocd)
theorem store_ok {M : Model} {A : Around} {E : Value → Shared → Prop} {i : Nat} {x : Str} {v : V} {u : Value} {Q : Unit → Shared → Prop} (I : Inv X pins σ H s) (hN : X.N.Nodup) (hi : X.N[i]? = some x) (hx : Loc X.env.scope x) (r : RelV v u)
    (h : ∀ s', Inv X pins (σ.set i (some v)) H s' → Q () s') (hf : X.fn x = true ∨ X.env.scope.names.lookup x = some .local := by first | exact .inl rfl | exact .inr rfl | assumption) : wpAny M A (storeName X.env x u) Q E s :=
  store_ok2 I hN hi hx r (fun s' I' _ => h s' I') hf
theorem Inv.call' {s' : Shared} {ch : List Addr} (I : Inv X pins σ H s) (ho : s'.os = s.os) (u : Un (frs X.stack) ch H H' s.heap s'.heap) (hok : HOk X.prog X.w H' s'.heap) (hg : AllBare s'.gens)
    (hch : ∀ b ∈ ch, (b ∈ X.ex ∨ X.s₀.heap.objs.size ≤ b) ∧ b ≠ X.env.locals ∧ (∀ x c, X.env.cells.lookup x = some c → c ≠ b) ∧ ∀ p ∈ X.pn ++ pins, p.1 ≠ b) : Inv X pins σ H' s' := by
  obtain ⟨h', g', d', t', o'⟩ := s'
  have e : o' = s.os := ho
  subst e
  exact I.call (g' := g') (t' := t') (d' := d') u hok hg hch
end
abbrev XK := Value → Option Addr → Hp → Prop
abbrev St := List (Option V)
abbrev VK := V → Hp → Prop
abbrev TE := St → Hp → VK → Prop
abbrev TT := St → Hp → (Bool → Hp → Prop) → Prop
abbrev TA := St → Hp → (List V → Hp → Prop) → Prop
structure Ends where
  nx : St → Hp → Prop
  rt : VK
  bk : St → Hp → Prop := fun _ _ => False
  ct : St → Hp → Prop := fun _ _ => False
abbrev TS := Ends → St → Hp → Prop
def EP (X : Cx) (pins : List (Addr × Obj)) (σ : St) (Q : VK) (u : Value) (s' : Shared) : Prop := ∃ v H', Inv X pins σ H' s' ∧ RelV v u ∧ Q v H'
def TP (X : Cx) (pins : List (Addr × Obj)) (σ : St) (Q : Bool → Hp → Prop) (b : Bool) (s' : Shared) : Prop := ∃ H', Inv X pins σ H' s' ∧ Q b H'
def AP (X : Cx) (pins : List (Addr × Obj)) (σ : St) (Q : List V → Hp → Prop) (us : List Value) (s' : Shared) : Prop := ∃ vs H', Inv X pins σ H' s' ∧ Vals vs us ∧ Q vs H'
def SP (X : Cx) (pins : List (Addr × Obj)) (D : Ends) (f : Flow) (s' : Shared) : Prop :=
  match f with
  | .next => ∃ σ' H', Inv X pins σ' H' s' ∧ D.nx σ' H'
  | .brk => ∃ σ' H', Inv X pins σ' H' s' ∧ D.bk σ' H'
  | .cont => ∃ σ' H', Inv X pins σ' H' s' ∧ D.ct σ' H'
  | .ret u => ∃ v σ' H', Inv X pins σ' H' s' ∧ RelV v u ∧ D.rt v H'
def PE (X : Cx) (e : Expr) (t : TE) : Prop :=
  ∀ (pins : List (Addr × Obj)) (s : Shared) (σ : St) (H : Hp) (Q : VK), Inv X pins σ H s → t σ H Q → wpAny (model X.prog X.w) X.A (eval e X.env) (EP X pins σ Q) X.xe s
def PT (X : Cx) (e : Expr) (t : TT) : Prop :=
  ∀ (pins : List (Addr × Obj)) (s : Shared) (σ : St) (H : Hp) (Q : Bool → Hp → Prop), Inv X pins σ H s → t σ H Q → wpAny (model X.prog X.w) X.A (isTrue e X.env (eval e X.env)) (TP X pins σ Q) X.xe s
def PW (X : Cx) (e : Expr) (t : TT) : Prop :=
  ∀ (whole : Sem Value) (pins : List (Addr × Obj)) (s : Shared) (σ : St) (H : Hp) (Q : Bool → Hp → Prop), Inv X pins σ H s → t σ H Q → wpAny (model X.prog X.w) X.A (isTrue e X.env whole) (TP X pins σ Q) X.xe s
theorem PW.pt {X : Cx} {e : Expr} {t : TT} (h : PW X e t) : PT X e t := h _
def PA (X : Cx) (es : List Expr) (t : TA) : Prop :=
  ∀ (pos : Pos) (pins : List (Addr × Obj)) (s : Shared) (σ : St) (H : Hp) (Q : List V → Hp → Prop), Inv X pins σ H s → t σ H Q → wpAny (model X.prog X.w) X.A (spliced (backTo pos (starEach es X.env))) (AP X pins σ Q) X.xe s
def PS (X : Cx) (st : Stmt) (t : TS) : Prop :=
  ∀ (pins : List (Addr × Obj)) (s : Shared) (σ : St) (H : Hp) (D : Ends), Inv X pins σ H s → t D σ H → wpAny (model X.prog X.w) X.A (exec st X.env) (SP X pins D) X.xe s
def PSs (X : Cx) (st : List Stmt) (t : TS) : Prop :=
  ∀ (pins : List (Addr × Obj)) (s : Shared) (σ : St) (H : Hp) (D : Ends), Inv X pins σ H s → t D σ H → wpAny (model X.prog X.w) X.A (execs st X.env) (SP X pins D) X.xe s
theorem thn {α : Type} {t : Sem α} {Q Q' : α → Shared → Prop} {M : Model} {A : Around} {E : Value → Shared → Prop} {s : Shared} (h : wpAny M A t Q E s) (hQ : ∀ a s, Q a s → Q' a s) : wpAny M A t Q' E s := wpAny_mono h hQ fun _ _ x => x
section
variable {X : Cx}
theorem bin {a b : Expr} {ta tb : TE} (ha : PE X a ta) (hb : PE X b tb) {pins : List (Addr × Obj)} {s : Shared} {σ : St} {H : Hp} {R : V → V → Hp → Prop} (I : Inv X pins σ H s) (h : ta σ H fun x H1 => tb σ H1 fun y H2 => R x y H2)
    {α : Type} {Q : α → Shared → Prop} {f : Value → Value → Sem α}
    (hf : ∀ v u s2 x y H2, Inv X pins σ H2 s2 → RelV x v → RelV y u → R x y H2 → wpAny (model X.prog X.w) X.A (f v u) Q X.xe s2) :
    wpAny (model X.prog X.w) X.A (eval a X.env) (fun v s₁ => wpAny (model X.prog X.w) X.A (eval b X.env) (fun u s₂ => wpAny (model X.prog X.w) X.A (f v u) Q X.xe s₂) X.xe s₁) X.xe s := by
  refine thn (ha pins s σ H _ I h) fun v s1 ⟨x, H1, I1, r1, q1⟩ => ?_
  refine thn (hb pins s1 σ H1 _ I1 q1) fun u s2 ⟨y, H2, I2, r2, q2⟩ => ?_
  exact hf v u s2 x y H2 I2 r1 r2 q2
def tVar (i : Nat) : TE := fun σ H Q => ∃ v, σ[i]? = some (some v) ∧ Q v H
def tC (v : V) : TE := fun _ H Q => Q v H
theorem pe_var {i : Nat} {x : Str} {pos : Pos} (hN : X.N[i]? = some x) (hv : Vis X.env.scope x) (hd : (x == ("__debug__" : Str)) = false := by decide) (hcd : (x == ("__classdict__" : Str)) = false := by decide) : PE X (.Name x pos) (tVar i) := by
  intro pins s σ H Q I h
  obtain ⟨v, e, h⟩ := h
  obtain ⟨m, hn, hl⟩ := I.loc
  obtain ⟨u, r, l⟩ := hl i x v hN e hv
  have fin : EP X pins σ Q u s := ⟨v, H, I, r, h⟩
  rcases l with ⟨hk, hm⟩ | ⟨hk, c, hc, hcell⟩
  · exact wpAny_Name (wpAny_loadName_local I.ok.kind hk hn hm fin) hd
  · rcases hk with hk | hk
    · exact wpAny_Name (wpAny_loadName_cell I.ok.kind hk hc hcell fin) hd
    · exact wpAny_Name (wpAny_loadName_free I.ok.kind hk hc hcell fin hcd) hd
theorem pe_int {i j pos} : PE X (.Constant (.int i) j pos) (tC (.int i)) := fun _ _ _ H _ I h => wpAny_Constant_int ⟨.int i, H, I.tok _, ⟨_, rfl⟩, h⟩
theorem pe_bl {b j pos} : PE X (.Constant (.bool b) j pos) (tC (.bl b)) := fun _ _ _ H _ I h => Constant_bool ⟨.bl b, H, I, rfl, h⟩
theorem pe_non {j pos} : PE X (.Constant .none j pos) (tC .non) := fun _ _ _ H _ I h => Constant_none ⟨.non, H, I, rfl, h⟩
theorem pe_str {x j pos} : PE X (.Constant (.str x) j pos) (tC (.str x)) := fun _ _ _ H _ I h => Calls.Constant_str ⟨.str x, H, I.tok _, ⟨_, rfl⟩, h⟩
def Gl (X : Cx) (x : Str) : Prop := X.env.kindOf x = some .globalImplicit
theorem ld_glob {E : Value → Shared → Prop} {pins : List (Addr × Obj)} {s : Shared} {σ : St} {H : Hp} {x : Str} {u : Value} {pos : Pos} {Q : Value → Shared → Prop} (I : Inv X pins σ H s) (hg : Gl X x) (hm : X.mg x = some u) (h : Q u s)
    (hd : (x == ("__debug__" : Str)) = false := by decide) : wpAny (model X.prog X.w) X.A (eval (.Name x pos) X.env) Q E s :=
  Calls.Name_function_global I.ok.kind hg (Calls.loadGlobal_global (by rw [I.ok.glob]; exact I.mod.glob.keeps I.bk) hm h) hd
theorem ld_blt {E : Value → Shared → Prop} {pins : List (Addr × Obj)} {s : Shared} {σ : St} {H : Hp} {x : Str} {u : Value} {pos : Pos} {Q : Value → Shared → Prop} (I : Inv X pins σ H s) (hg : Gl X x) (hm : X.mg x = none) (hv : bootBuiltins x = some u) (h : Q u s)
    (hn : x ≠ "__name__" := by decide) (hd : (x == ("__debug__" : Str)) = false := by decide) : wpAny (model X.prog X.w) X.A (eval (.Name x pos) X.env) Q E s := by
  obtain ⟨mb, h1, h2⟩ := I.mod.blt
  exact Calls.Name_function_global I.ok.kind hg (Calls.loadGlobal_builtin (by rw [I.ok.glob]; exact I.mod.glob.keeps I.bk) hm (by rw [I.ok.blt]; exact h1.keeps I.bk) ((h2 x hn).trans hv) h) hd
theorem pe_glob {x : Str} {v : V} {u : Value} {pos : Pos} (hg : Gl X x) (hm : X.mg x = some u) (r : RelV v u) (hd : (x == ("__debug__" : Str)) = false := by decide) : PE X (.Name x pos) (tC v) :=
  fun _ _ _ H _ I h => ld_glob I hg hm ⟨v, H, I, r, h⟩ hd
theorem pe_bltn {x : Str} {v : V} {u : Value} {pos : Pos} (hg : Gl X x) (hm : X.mg x = none) (hv : bootBuiltins x = some u) (r : RelV v u) (hn : x ≠ "__name__" := by decide) (hd : (x == ("__debug__" : Str)) = false := by decide) : PE X (.Name x pos) (tC v) :=
  fun _ _ _ H _ I h => ld_blt I hg hm hv ⟨v, H, I, r, h⟩ hn hd
variable {a b : Expr} {ta tb : TE} {pos : Pos}
def PC (X : Cx) (op : CmpOp) (a b : Expr) (t : TE) : Prop :=
  ∀ (pins : List (Addr × Obj)) (s : Shared) (σ : St) (H : Hp) (Q : VK), Inv X pins σ H s → t σ H Q →
    wpAny (model X.prog X.w) X.A (eval a X.env) (fun v s₁ => wpAny (model X.prog X.w) X.A (eval b X.env) (fun u s₂ => wpAny (model X.prog X.w) X.A (compareOp op v u) (EP X pins σ Q) X.xe s₂) X.xe s₁) X.xe s
def tB (t : TE) : TT := fun σ H Q => t σ H fun x H1 => ∃ c, x = .bl c ∧ Q c H1
theorem pt_cmp {op : CmpOp} {t : TE} (h : PC X op a b t) (h1 : behindInMarks op b = false := by first | exact nobehind _ (by decide) (by decide) | rfl) : PT X (.Compare a [op] [b] pos) (tB t) := by
  intro pins s σ H Q I hw
  refine wpAny_isTrue_Compare1 (thn (h pins s σ H _ I hw) fun v s1 h1 => thn h1 fun u s2 h2 => thn h2 fun c s3 ⟨x, H1, I1, r1, q1⟩ => ?_) h1
  obtain ⟨d, rfl, q⟩ := q1
  cases r1
  exact wpAny_truthy_bool ⟨H1, I1, q⟩
theorem pt_val {e : Expr} {t : TE} (h : PE X e t) (he : ∀ whole, isTrue e X.env whole = (do let v ← whole; standAt e.pos; holding [v] (truthy v)) := by intro _; rfl) : PT X e (tB t) := by
  intro pins s σ H Q I hw
  refine isTrue_plain (thn (h pins s σ H _ I hw) fun v s1 ⟨x, H1, I1, r1, q1⟩ => ?_) (he _)
  obtain ⟨d, rfl, q⟩ := q1
  cases r1
  exact wpAny_truthy_bool ⟨H1, I1, q⟩
variable {tA tB' : TT} {rest : List Expr}
def tAnd (t u : TT) : TT := fun σ H Q => t σ H fun c H1 => if c = true then u σ H1 Q else Q false H1
def tOr (t u : TT) : TT := fun σ H Q => t σ H fun c H1 => if c = true then Q true H1 else u σ H1 Q
def tNot (t : TT) : TT := fun σ H Q => t σ H fun c H1 => Q (!c) H1
theorem pw_and1 (ha : PT X a tA) : PW X (.BoolOp .And [a] pos) tA := by
  intro wh pins s σ H Q I h
  refine isTrue_and (thn (ha pins s σ H Q I h) fun c s1 e => ?_)
  cases c with
  | true => exact isTrue_and_nil e
  | false => exact e
theorem pw_or1 (ha : PT X a tA) : PW X (.BoolOp .Or [a] pos) tA := by
  intro wh pins s σ H Q I h
  refine isTrue_or (thn (ha pins s σ H Q I h) fun c s1 e => ?_)
  cases c with
  | false => exact isTrue_or_nil e
  | true => exact e
theorem pw_and (ha : PT X a tA) (hb : PW X (.BoolOp .And (b :: rest) pos) tB') : PW X (.BoolOp .And (a :: b :: rest) pos) (tAnd tA tB') := by
  intro wh pins s σ H Q I h
  refine isTrue_and (thn (ha pins s σ H _ I h) fun c s1 ⟨H1, I1, q1⟩ => ?_)
  cases c with
  | true => exact hb wh pins s1 σ H1 Q I1 q1
  | false => exact ⟨H1, I1, q1⟩
theorem pw_or (ha : PT X a tA) (hb : PW X (.BoolOp .Or (b :: rest) pos) tB') : PW X (.BoolOp .Or (a :: b :: rest) pos) (tOr tA tB') := by
  intro wh pins s σ H Q I h
  refine isTrue_or (thn (ha pins s σ H _ I h) fun c s1 ⟨H1, I1, q1⟩ => ?_)
  cases c with
  | true => exact ⟨H1, I1, q1⟩
  | false => exact hb wh pins s1 σ H1 Q I1 q1
theorem pt_not (ha : PT X a tA) : PT X (.UnaryOp .Not a pos) (tNot tA) := by
  intro pins s σ H Q I h
  exact isTrue_not (ha pins s σ H (fun c H1 => Q (!c) H1) I h)
def tAndV (ta tb : TE) : TE := fun σ H Q => ta σ H fun x H1 => ∃ c, x = .bl c ∧ if c = true then tb σ H1 Q else Q (.bl false) H1
theorem pe_one {op} {t : TE} (h : PE X a t) : PE X (.BoolOp op [a] pos) t := fun pins s σ H Q I hw => BoolOp_one (h pins s σ H Q I hw)
theorem pe_and (ha : PE X a ta) (hb : PE X (.BoolOp .And (b :: rest) pos) tb) : PE X (.BoolOp .And (a :: b :: rest) pos) (tAndV ta tb) := by
  intro pins s σ H Q I h
  refine BoolOp_and (thn (ha pins s σ H _ I h) fun v s1 ⟨x, H1, I1, r1, q1⟩ => ?_)
  obtain ⟨c, rfl, q1⟩ := q1
  cases r1
  refine wpAny_truthy_bool ?_
  cases c with
  | true => exact hb pins s1 σ H1 Q I1 q1
  | false => exact ⟨.bl false, H1, I1, rfl, q1⟩
def tIf (t : TT) (ta tb : TE) : TE := fun σ H Q => t σ H fun c H1 => if c = true then ta σ H1 Q else tb σ H1 Q
theorem pe_ifExp {c : Expr} (hc : PT X c tA) (ha : PE X a ta) (hb : PE X b tb) : PE X (.IfExp c a b pos) (tIf tA ta tb) := by
  intro pins s σ H Q I h
  refine wpAny_IfExp (thn (hc pins s σ H _ I h) fun d s1 ⟨H1, I1, q1⟩ => ?_)
  cases d with
  | true => exact ha pins s1 σ H1 Q I1 q1
  | false => exact hb pins s1 σ H1 Q I1 q1
end
def SqL (K : PySem.W.Frag) (H : Hp) (a : Addr) (xs : List V) : Prop :=
  Rd H a (.lst xs) ∨
    ∃ (o : Obj) (its : Array Value) (n : Nat), K.lookup a = some o ∧ o.cls = .type "list" ∧ o.dict = none ∧ o.data = .seq its n ∧ its.size ≤ sizeLine ∧ Vals xs its.toList
def SqT (K : PySem.W.Frag) (H : Hp) (a : Addr) (xs : List V) : Prop :=
  Rd H a (.tup xs) ∨
    ∃ (o : Obj) (its : Array Value) (n : Nat), K.lookup a = some o ∧ o.cls = .type "tuple" ∧ o.data = .seq its n ∧ its.size ≤ sizeLine ∧ Vals xs its.toList
def absV : Value → Option V
  | .none => some .non
  | .bool b => some (.bl b)
  | .int i _ => some (.int i)
  | .str x _ => some (.str x)
  | .bytes b _ => some (.byt b)
  | .float b _ => some (.flt b)
  | .ref a => some (.ref a)
  | .type n => some (.ty n)
  | _ => none
theorem RelV.abs {x : V} {u : Value} (r : RelV x u) : absV u = some x := by
  cases x with
  | non => cases r; rfl
  | bl _ => cases r; rfl
  | int _ => obtain ⟨t, rfl⟩ := r; rfl
  | str _ => obtain ⟨t, rfl⟩ := r; rfl
  | byt _ => obtain ⟨t, rfl⟩ := r; rfl
  | flt _ => obtain ⟨t, rfl⟩ := r; rfl
  | ref _ => cases r; rfl
  | ty _ => cases r; rfl
theorem RelV.inj {x y : V} {u : Value} (r : RelV x u) (q : RelV y u) : x = y := Option.some.inj (r.abs.symm.trans q.abs)
theorem Vals.inj : ∀ {xs ys : List V} {us : List Value}, Vals xs us → Vals ys us → xs = ys
  | _, _, _, .nil, .nil => rfl
  | _, _, _, .cons r t, .cons r' t' => by rw [r.inj r', Vals.inj t t']
section
variable {X : Cx} {pins : List (Addr × Obj)} {σ : St} {H : Hp} {s : Shared} {a : Addr} {xs ys : List V}
theorem SqL.of {K : PySem.W.Frag} (h : H a = some (.lst xs)) : SqL K H a xs := .inl (.inl h)
theorem SqT.of {K : PySem.W.Frag} (h : H a = some (.tup xs)) : SqT K H a xs := .inl (.inl h)
theorem Inv.list (I : Inv X pins σ H s) (h : SqL X.K H a xs) : ∃ its : List Value, Vals xs its ∧ PlainL s.heap a its.toArray ∧ xs.length ≤ sizeLine := by
  rcases h with h | ⟨o, its, n, hk, hc, hd, hs, hz, r⟩
  · obtain ⟨z, its, n, r, e⟩ := h.ok I.hok
    exact ⟨its, r, ⟨_, n, e, rfl, rfl, rfl⟩, z⟩
  · refine ⟨its.toList, r, ⟨o, n, I.kIn a o hk, hc, hd, by simpa using hs⟩, ?_⟩
    have e := r.length
    simp only [Array.length_toList] at e
    omega
theorem Inv.tuple (I : Inv X pins σ H s) (h : SqT X.K H a xs) : ∃ its : List Value, Vals xs its ∧ IsTup s.heap a its.toArray ∧ xs.length ≤ sizeLine := by
  rcases h with h | ⟨o, its, n, hk, hc, hs, hz, r⟩
  · obtain ⟨z, its, r, p, _⟩ := h.ok I.hok
    exact ⟨its, r, p, z⟩
  · refine ⟨its.toList, r, ⟨o, I.kIn a o hk, hc, n, by simpa using hs⟩, ?_⟩
    have e := r.length
    simp only [Array.length_toList] at e
    omega
theorem Inv.list_inj (I : Inv X pins σ H s) (h : SqL X.K H a xs) (h' : SqL X.K H a ys) : xs = ys := by
  obtain ⟨its, r, ⟨o, n, e, _, _, d⟩, _⟩ := I.list h
  obtain ⟨its', r', ⟨o', n', e', _, _, d'⟩, _⟩ := I.list h'
  rw [e] at e'; cases e'
  rw [d] at d'
  injection d' with d1 _
  have : its = its' := by simpa using congrArg Array.toList d1
  subst this
  exact r.inj r'
theorem Inv.tuple_inj (I : Inv X pins σ H s) (h : SqT X.K H a xs) (h' : SqT X.K H a ys) : xs = ys := by
  obtain ⟨its, r, ⟨o, e, _, n, d⟩, _⟩ := I.tuple h
  obtain ⟨its', r', ⟨o', e', _, n', d'⟩, _⟩ := I.tuple h'
  rw [e] at e'; cases e'
  rw [d] at d'
  injection d' with d1 _
  have : its = its' := by simpa using congrArg Array.toList d1
  subst this
  exact r.inj r'
end
abbrev Cx.wish (X : Cx) (E : Value → Shared → Prop) : Cx := { X with xe := E }
abbrev Cx.nox (X : Cx) : Cx := X.wish fun _ _ => False
theorem Cx.Ok.wish {X : Cx} (ok : X.Ok) (E : Value → Shared → Prop) : (X.wish E).Ok :=
  ⟨ok.mod, ok.kind, ok.glob, ok.blt, ok.above, ok.inj, ok.has, ok.cab, ok.hd, ok.frames, ok.stk, ok.exf, ok.bs, ok.bsz, ok.noex, ok.exfs, ok.funs, ok.frf⟩
theorem Cx.Ok.unwish {X : Cx} {E : Value → Shared → Prop} (ok : (X.wish E).Ok) : X.Ok :=
  ⟨ok.mod, ok.kind, ok.glob, ok.blt, ok.above, ok.inj, ok.has, ok.cab, ok.hd, ok.frames, ok.stk, ok.exf, ok.bs, ok.bsz, ok.noex, ok.exfs, ok.funs, ok.frf⟩
section
variable {X : Cx} {pins : List (Addr × Obj)} {σ : St} {H : Hp} {s : Shared} {E : Value → Shared → Prop}
theorem Inv.wish (I : Inv X pins σ H s) (E : Value → Shared → Prop) : Inv (X.wish E) pins σ H s := ⟨I.ok.wish E, I.os, I.bare, I.base, I.loc, I.cell, I.free, I.freeC, I.pin, I.hok, I.len⟩
theorem Inv.unwish (I : Inv (X.wish E) pins σ H s) : Inv X pins σ H s := ⟨I.ok.unwish, I.os, I.bare, I.base, I.loc, I.cell, I.free, I.freeC, I.pin, I.hok, I.len⟩
theorem SP.unwish {D : Ends} {f : Flow} {s' : Shared} (h : SP (X.wish E) pins D f s') : SP X pins D f s' := by
  cases f with
  | next => obtain ⟨σ', H', I, q⟩ := h; exact ⟨σ', H', I.unwish, q⟩
  | brk => obtain ⟨σ', H', I, q⟩ := h; exact ⟨σ', H', I.unwish, q⟩
  | cont => obtain ⟨σ', H', I, q⟩ := h; exact ⟨σ', H', I.unwish, q⟩
  | ret u => obtain ⟨v, σ', H', I, r, q⟩ := h; exact ⟨v, σ', H', I.unwish, r, q⟩
theorem PSs.nox {st : List Stmt} {t : TS} (h : PSs X.nox st t) : PSs X st t := fun pins s σ H D I hw =>
  wpAny_mono (h pins s σ H D (I.wish _) hw) (fun _ _ q => q.unwish) fun _ _ z => False.elim z
end
section
variable {X : Cx} {st : Stmt} {rest : List Stmt} {t u : TS} {e : Expr} {te : TE} {pos : Pos}
def tNext : TS := fun D σ H => D.nx σ H
def tSeq (t u : TS) : TS := fun D σ H => t { D with nx := u D } σ H
theorem pss_nil : PSs X [] tNext := fun _ _ σ H _ I h => wpAny_execs_nil ⟨σ, H, I, h⟩
theorem pss_cons (h1 : PS X st t) (h2 : PSs X rest u) : PSs X (st :: rest) (tSeq t u) := by
  intro pins s σ H D I h
  refine wpAny_execs_cons (thn (h1 pins s σ H { D with nx := u D } I h) fun f s1 q => ?_)
  cases f with
  | next =>
    obtain ⟨σ', H', I', q⟩ := q
    exact h2 pins s1 σ' H' D I' q
  | ret v => exact q
  | brk => exact q
  | cont => exact q
theorem pss_one (h1 : PS X st t) : PSs X [st] t := by
  intro pins s σ H D I h
  refine wpAny_execs_cons (thn (h1 pins s σ H D I h) fun f s1 q => ?_)
  cases f with
  | next => exact wpAny_execs_nil q
  | ret v => exact q
  | brk => exact q
  | cont => exact q
theorem Inv.quiet {pins : List (Addr × Obj)} {σ : St} {H : Hp} {s : Shared} (I : Inv X pins σ H s) : interactive X.env = false := by simp [interactive, I.ok.kind]
def tDrop (te : TE) : TS := fun D σ H => te σ H fun _ H1 => D.nx σ H1
theorem ps_expr (he : PE X e te) (hs : swapsWith e none pos.line X.env = pure false := by rfl) : PS X (.Expr e pos) (tDrop te) := by
  intro pins s σ H D I h
  exact wpAny_Expr_any (thn (he pins s σ H _ I h) fun v s1 ⟨x, H1, I1, r1, q1⟩ => ⟨σ, H1, I1, q1⟩) I.quiet hs
def tRet (te : TE) : TS := fun D σ H => te σ H D.rt
theorem ps_ret (he : PE X e te) : PS X (.Return (some e) pos) (tRet te) := by
  intro pins s σ H D I h
  exact wpAny_Return_some (thn (he pins s σ H _ I h) fun v s1 ⟨x, H1, I1, r1, q1⟩ => ⟨x, σ, H1, I1, r1, q1⟩)
def tIfS (c : TT) (t u : TS) : TS := fun D σ H => c σ H fun b H1 => if b = true then t D σ H1 else u D σ H1
theorem ps_if {c : Expr} {a b : List Stmt} {tc : TT} (hc : PT X c tc) (ha : PSs X a t) (hb : PSs X b u) : PS X (.If c a b pos) (tIfS tc t u) := by
  intro pins s σ H D I h
  refine wpAny_If (thn (hc pins s σ H _ I h) fun d s1 ⟨H1, I1, q1⟩ => ?_)
  cases d with
  | true => exact ha pins s1 σ H1 D I1 q1
  | false => exact hb pins s1 σ H1 D I1 q1
def tNever : TS := fun _ _ _ => False
theorem pss_never {sts : List Stmt} : PSs X sts tNever := fun _ _ _ _ _ _ h => h.elim
end
abbrev TG := V → St → Hp → (St → Hp → Prop) → Prop
abbrev TGs := List V → St → Hp → (St → Hp → Prop) → Prop
def PG (X : Cx) (target : Expr) (t : TG) : Prop :=
  ∀ (pins : List (Addr × Obj)) (s : Shared) (σ : St) (H : Hp) (v : V) (u : Value) (Q : St → Hp → Prop), Inv X pins σ H s → RelV v u → t v σ H Q →
    wpAny (model X.prog X.w) X.A (assign target X.env u) (fun _ s' => ∃ σ' H', Inv X pins σ' H' s' ∧ Q σ' H') X.xe s
def PGs (X : Cx) (ts : List Expr) (t : TGs) : Prop :=
  ∀ (pins : List (Addr × Obj)) (s : Shared) (σ : St) (H : Hp) (vs : List V) (us : List Value) (Q : St → Hp → Prop), Inv X pins σ H s → Vals vs us → t vs σ H Q →
    wpAny (model X.prog X.w) X.A (assignInOrder ((assignEach ts X.env).map (·.2)) us) (fun _ s' => ∃ σ' H', Inv X pins σ' H' s' ∧ Q σ' H') X.xe s
abbrev TSet := V → V → V → Hp → (Hp → Prop) → Prop
def PSet (X : Cx) (t : TSet) : Prop :=
  ∀ (pins : List (Addr × Obj)) (s : Shared) (σ : St) (H : Hp) (o i v : V) (ov iv u : Value) (Q : Hp → Prop), Inv X pins σ H s → RelV o ov → RelV i iv → RelV v u → t o i v H Q →
    wpAny (model X.prog X.w) X.A (setItem ov iv u) (fun _ s' => ∃ H', Inv X pins σ H' s' ∧ Q H') X.xe s
abbrev TIp := V → V → Hp → VK → Prop
def PIp (X : Cx) (op : Operator) (t : TIp) : Prop :=
  ∀ (pins : List (Addr × Obj)) (s : Shared) (σ : St) (H : Hp) (x y : V) (v u : Value) (Q : VK), Inv X pins σ H s → RelV x v → RelV y u → t x y H Q →
    wpAny (model X.prog X.w) X.A (inplaceOp op v u) (EP X pins σ Q) X.xe s
section
variable {X : Cx} {pos : Pos}
def gName (i : Nat) : TG := fun v σ H Q => Q (σ.set i (some v)) H
theorem pg_name {i : Nat} {x : Str} (hN : X.N.Nodup) (hi : X.N[i]? = some x) (hx : Loc X.env.scope x) (hf : X.fn x = true ∨ X.env.scope.names.lookup x = some .local := by first | exact .inl rfl | exact .inr rfl | assumption) : PG X (.Name x pos) (gName i) := by
  intro pins s σ H v u Q I r h
  exact wpAny_assign_Name (store_ok I hN hi hx r (fun s' I' => ⟨_, H, I', h⟩) hf)
def gNil : TGs := fun vs σ H Q => vs = [] ∧ Q σ H
def gCons (t : TG) (u : TGs) : TGs := fun vs σ H Q => ∃ v r, vs = v :: r ∧ t v σ H fun σ' H' => u r σ' H' Q
theorem pgs_nil : PGs X [] gNil := by
  intro pins s σ H vs us Q I r h
  obtain ⟨e, h⟩ := h
  subst e
  cases r
  exact assignInOrder_nil ⟨σ, H, I, h⟩
theorem pgs_cons {e : Expr} {es : List Expr} {t : TG} {u : TGs} (h1 : PG X e t) (h2 : PGs X es u)
    (hs : (assignEach (e :: es) X.env).map (·.2) = assign e X.env :: (assignEach es X.env).map (·.2) := by rfl) : PGs X (e :: es) (gCons t u) := by
  intro pins s σ H vs us Q I r h
  obtain ⟨v, vr, e1, h⟩ := h
  subst e1
  cases r with
  | cons r rr =>
    rw [hs]
    refine assignInOrder_cons (thn (h1 pins s σ H _ _ _ I r h) fun _ s1 ⟨σ1, H1, I1, q1⟩ => ?_)
    exact h2 pins s1 σ1 H1 _ _ Q I1 rr q1
def gSub (to ti : TE) (t : TSet) : TG := fun v σ H Q => to σ H fun o H1 => ti σ H1 fun i H2 => t o i v H2 fun H3 => Q σ H3
theorem pg_sub {o i : Expr} {to ti : TE} {t : TSet} (ho : PE X o to) (hi : PE X i ti) (hs : PSet X t)
    (ha : ∀ v, assign (.Subscript o i pos) X.env v = (do
      let ov ← holding [v] (eval o X.env)
      let iv ← holding [v, ov] (eval i X.env)
      standAt pos
      holding [v, ov, iv] (setItem ov iv v)
      release [v, ov, iv] []) := by intro _; rfl) : PG X (.Subscript o i pos) (gSub to ti t) := by
  intro pins s σ H v u Q I r h
  rw [ha]
  refine wpAny_bind (wpAny_holding (thn (ho pins s σ H _ I h) fun ov s1 ⟨x, H1, I1, r1, q1⟩ => ?_))
  refine wpAny_bind (wpAny_holding (thn (hi pins s1 σ H1 _ I1 q1) fun iv s2 ⟨y, H2, I2, r2, q2⟩ => ?_))
  refine wpAny_bind (wpAny_standAt (wpAny_bind (wpAny_holding (thn (hs pins s2 σ H2 x y v ov iv u _ I2 r1 r2 r q2) fun _ s3 ⟨H3, I3, q3⟩ => ?_))))
  exact wpAny_release ⟨σ, H3, I3, q3⟩
def tAsg (te : TE) (g : TG) : TS := fun D σ H => te σ H fun x H1 => g x σ H1 D.nx
theorem ps_asg {tg e : Expr} {te : TE} {g : TG} (he : PE X e te) (hg : PG X tg g) (hs : swapsWithSole [tg] e pos.line X.env = pure false := by rfl) (hw : swappedStores [tg] e X.env = pure none := by rfl)
    (h1 : (assignEach [tg] X.env).map (·.2) = [assign tg X.env] := by rfl) : PS X (.Assign [tg] e pos) (tAsg te g) := by
  intro pins s σ H D I h
  refine wpAny_Assign_stores (thn (he pins s σ H _ I h) fun v s1 ⟨x, H1, I1, r1, q1⟩ => ?_) hs hw
  rw [h1]
  exact thn (hg pins s1 σ H1 x v _ I1 r1 q1) fun _ s2 q => q
theorem ps_set {i : Nat} {x : Str} {e : Expr} {te : TE} {pos' : Pos} (hN : X.N.Nodup) (hi : X.N[i]? = some x) (hx : Loc X.env.scope x) (he : PE X e te) (hs : swapsWith e (some (.Name x pos')) pos.line X.env = pure false := by rfl) (hf : X.fn x = true ∨ X.env.scope.names.lookup x = some .local := by first | exact .inl rfl | exact .inr rfl | assumption) :
    PS X (.Assign [.Name x pos'] e pos) (tAsg te (gName i)) := by
  intro pins s σ H D I h
  refine wpAny_Assign_Name (thn (he pins s σ H _ I h) fun v s1 ⟨y, H1, I1, r1, q1⟩ => ?_) hs
  exact store_ok I1 hN hi hx r1 (fun s2 I2 => ⟨_, H1, I2, q1⟩) hf
def tPar (i j : Nat) (ta : TA) : TS := fun D σ H => ta σ H fun vs H1 => ∃ v w, vs = [v, w] ∧ D.nx ((σ.set i (some v)).set j (some w)) H1
theorem ps_par {i j : Nat} {x y : Str} {a b : Expr} {ta : TA} {px py pt : Pos} {kt k2 pt2} (hc : X.calm = true) (hN : X.N.Nodup) (hi : X.N[i]? = some x) (hj : X.N[j]? = some y) (hij : i ≠ j)
    (hx : X.env.scope.names.lookup x = some .local) (hy : X.env.scope.names.lookup y = some .local) (ha : PA X [a, b] ta)
    (hw : swappedStores [.Tuple [.Name x px, .Name y py] kt pt] (.Tuple [a, b] k2 pt2) X.env = pure (some [x, y]))
    (hs : swapsWithSole [.Tuple [.Name x px, .Name y py] kt pt] (.Tuple [a, b] k2 pt2) pos.line X.env = pure false := by rfl) :
    PS X (.Assign [.Tuple [.Name x px, .Name y py] kt pt] (.Tuple [a, b] k2 pt2) pos) (tPar i j ta) := by
  intro pins s σ H D I h
  rw [exec_Assign_arm]
  refine wpAny_bind (wpAny_standAt ?_)
  rw [hs]
  refine wpAny_bind (wpAny_pure ?_)
  rw [if_neg (by decide)]
  refine wpAny_bind (Tuple_ (thn (ha _ pins s σ H _ I h) fun us s1 ⟨vs, H1, I1, r1, q1⟩ => ?_))
  obtain ⟨v, w, e1, q1⟩ := q1
  subst e1
  obtain ⟨u1, u2, rfl, rv, rw'⟩ : ∃ u1 u2, us = [u1, u2] ∧ RelV v u1 ∧ RelV w u2 := by
    cases r1 with
    | cons p q =>
      cases q with
      | cons p' q' =>
        cases q'
        exact ⟨_, _, rfl, p, p'⟩
  refine wpAny_newObj_type ?_ (by show 2 ≤ sizeLine; decide)
  have I2 : Inv X pins σ H1 { s1 with heap := s1.heap.push { cls := .type "tuple", data := .seq [u1, u2].toArray } } := I1.kept (t' := s1.toks) fun b o e => Heap.get?_push_of_some _ e
  rw [hw]
  refine wpAny_bind (wpAny_pure ?_)
  show wpAny (model X.prog X.w) X.A (do rule "assign.swapped-stores"; let items ← unpackItems (.ref s1.heap.objs.size) 2 none; assignInOrder [fun v => bindName X.env y v, fun v => bindName X.env x v] items.reverse; pure Flow.next) _ _ _
  refine wpAny_bind (wpAny_rule (wpAny_bind (unpackItems_tuple (items := #[u1, u2]) (I.ok.hd hc) (IsTup.new s1.heap _) fun h' hx' => ?_)))
  have I3 := I2.kept (h' := h') (t' := s1.toks) fun b o e => hx' b o (Nat.ne_of_lt (Heap.lt_size e)) e
  show wpAny _ _ (assignInOrder [fun v => bindName X.env y v, fun v => bindName X.env x v] [u2, u1] >>= fun _ => pure Flow.next) _ _ _
  refine wpAny_bind (assignInOrder_cons (wpAny_bindName (store_ok I3 hN hj (.inl hy) rw' (fun s2 I4 => ?_) (.inr hy))))
  refine assignInOrder_cons (wpAny_bindName (store_ok I4 hN hi (.inl hx) rv (fun s3 I5 => assignInOrder_nil (wpAny_pure ?_)) (.inr hx)))
  rw [List.set_comm _ _ (Ne.symm hij)] at I5
  exact ⟨_, H1, I5, q1⟩
def tAug (i : Nat) (te : TE) (ti : TIp) : TS := fun D σ H => ∃ x, σ[i]? = some (some x) ∧ te σ H fun y H1 => ti x y H1 fun z H2 => D.nx (σ.set i (some z)) H2
theorem ps_aug {i : Nat} {x : Str} {e : Expr} {te : TE} {op : Operator} {ti : TIp} {pos' : Pos} (hN : X.N.Nodup) (hi : X.N[i]? = some x) (hx : Loc X.env.scope x) (he : PE X e te) (ho : PIp X op ti) (hf : X.fn x = true ∨ X.env.scope.names.lookup x = some .local := by first | exact .inl rfl | exact .inr rfl | assumption) :
    PS X (.AugAssign (.Name x pos') op e pos) (tAug i te ti) := by
  intro pins s σ H D I h
  obtain ⟨v, e1, h⟩ := h
  obtain ⟨m, hn, hl⟩ := I.loc
  have vis : Vis X.env.scope x := by rcases hx with k | k; exact .inl k; exact .inr (.inl k)
  obtain ⟨u, r, l⟩ := hl i x v hi e1 vis
  refine wpAny_AugAssign_Name ?_
  have go : wpAny (model X.prog X.w) X.A (eval e X.env) (fun w s₂ => wpAny (model X.prog X.w) X.A (inplaceOp op u w) (fun r s₃ => wpAny (model X.prog X.w) X.A (storeName X.env x r) (fun _ => SP X pins D .next) X.xe s₃) X.xe s₂) X.xe s := by
    refine thn (he pins s σ H _ I h) fun w s1 ⟨y, H1, I1, r1, q1⟩ => ?_
    refine thn (ho pins s1 σ H1 v y u w _ I1 r r1 q1) fun z s2 ⟨zv, H2, I2, r2, q2⟩ => ?_
    exact store_ok I2 hN hi hx r2 (fun s3 I3 => ⟨_, H2, I3, q2⟩) hf
  rcases l with ⟨hk, hm⟩ | ⟨hk, c, hc, hcell⟩
  · exact wpAny_loadName_local I.ok.kind hk hn hm go
  · rcases hk with hk | hk
    · exact wpAny_loadName_cell I.ok.kind hk hc hcell go
    · rcases hx with k | k
      · have : X.env.scope.names.lookup x = some .free := hk
        rw [k] at this; cases this
      · have : X.env.scope.names.lookup x = some .free := hk
        rw [k] at this; cases this
def ipI (f : Int → Int → Int) : TIp := fun x y H Q => ∃ i j, x = .int i ∧ y = .int j ∧ Q (.int (f i j)) H
theorem ip_add : PIp X .Add (ipI fun i j => i + j) := by
  intro pins s σ H x y v u Q I r1 r2 h
  obtain ⟨i, j, e1, e2, q⟩ := h
  subst e1; subst e2
  obtain ⟨t, rfl⟩ := r1
  obtain ⟨t', rfl⟩ := r2
  exact iadd_int ⟨.int _, H, I.tok _, ⟨_, rfl⟩, q⟩
end
section
variable {X : Cx} {pos : Pos}
def tWhile (c : TT) (tb : TS) : TS := fun D σ H => ∃ W : Nat → St → Hp → Prop, (∃ m, W m σ H) ∧ ∀ m σ H, W m σ H →
  c σ H fun b H1 => if b = true then ∃ N : St → Hp → Prop, (∀ σ' H', N σ' H' → ∃ m', m' < m ∧ W m' σ' H') ∧ tb { D with nx := N, ct := N, bk := D.nx } σ H1 else D.nx σ H1
theorem ps_while {c : Expr} {body : List Stmt} {tc : TT} {tb : TS} (hp : PassesOwn (model X.prog X.w) X.A X.env X.xe) (hc : PT X c tc) (hb : PSs X body tb) : PS X (.While c body [] pos) (tWhile tc tb) := by
  intro pins s σ H D I h
  obtain ⟨W, ⟨m0, w0⟩, turn⟩ := h
  refine wpAny_While (codeAny_whileLoop (fun n s' => ∃ σ' H', Inv X pins σ' H' s' ∧ W n σ' H') ?_ m0 ⟨σ, H, I, w0⟩)
  rintro n s1 ⟨σ1, H1, I1, w1⟩
  refine wpAny_passesOwn hp (thn (hc pins s1 σ1 H1 _ I1 (turn n σ1 H1 w1)) fun b s2 ⟨H2, I2, q2⟩ => ?_)
  cases b with
  | true =>
    obtain ⟨N, hN, q2⟩ := q2
    rw [if_pos rfl]
    refine wpAny_passesOwn hp (thn (hb pins s2 σ1 H2 _ I2 q2) fun f s3 q3 => ?_)
    cases f with
    | next =>
      obtain ⟨σ3, H3, I3, n3⟩ := q3
      obtain ⟨m', hm, w3⟩ := hN σ3 H3 n3
      exact ⟨m', hm, σ3, H3, I3, w3⟩
    | cont =>
      obtain ⟨σ3, H3, I3, n3⟩ := q3
      obtain ⟨m', hm, w3⟩ := hN σ3 H3 n3
      exact ⟨m', hm, σ3, H3, I3, w3⟩
    | brk => exact q3
    | ret v => exact q3
  | false =>
    rw [if_neg Bool.false_ne_true]
    exact wpAny_execs_nil ⟨σ1, H2, I2, q2⟩
end
structure It where
  go : Nat → Hp → Prop
  yld : Nat → Hp → V → Hp → Prop
  stop : Nat → Hp → Prop
def FpOk (X : Cx) (pins : List (Addr × Obj)) (H : Hp) (b : Addr) : Prop :=
  H b = none ∧ b ≠ X.env.locals ∧ b ∉ X.fs ∧ (b ∈ X.ex ∨ X.s₀.heap.objs.size ≤ b) ∧ (∀ x c, X.env.cells.lookup x = some c → c ≠ b) ∧ ∀ p ∈ X.pn ++ pins, p.1 ≠ b
theorem Inv.fpOk {X : Cx} {pins : List (Addr × Obj)} {σ : St} {H H' : Hp} {s : Shared} {b : Addr} (I : Inv X pins σ H s) (hb : s.heap.objs.size ≤ b) (hn : H' b = none) : FpOk X pins H' b := by
  refine ⟨hn, Nat.ne_of_gt (Nat.lt_of_lt_of_le I.lt hb), I.nofs hb, .inr (Nat.le_trans I.sz hb), fun x c e z => ?_, fun p hp z => ?_⟩
  · obtain ⟨v, q⟩ := I.cell x c e
    exact absurd (Nat.lt_of_lt_of_le q.lt (by rw [z]; exact hb)) (Nat.lt_irrefl _)
  · exact absurd (Nat.lt_of_lt_of_le (Heap.lt_size (I.pin p hp).1) (by rw [z]; exact hb)) (Nat.lt_irrefl _)
structure Turn (P : Program) (w : World) (K : PySem.W.Frag) (tg : Expr) (J : It) (fp : List Addr) (it : Addr) (tn : Nat → Heap → Prop) : Prop where
  mem : it ∈ fp
  obj : ∀ i h, tn i h → ∀ b ∈ fp, ∃ o, h.get? b = some o ∧ ∀ v, o.data ≠ .cell v
  keep : ∀ i h h', tn i h → (∀ b ∈ fp, ∀ o, h.get? b = some o → h'.get? b = some o) → tn i h'
  item : ∀ (X : Cx), X.prog = P → X.w = w → X.K = K → X.calm = true → ∀ (i : Nat) (pins : List (Addr × Obj)) (s : Shared) (σ : St) (H : Hp) (E : Value → Shared → Prop), Inv X pins σ H s → (∀ b ∈ fp, FpOk X pins H b) → tn i s.heap → J.go i H →
    wpAny (model P w) X.A (pyNext (.ref it)) (fun r s1 => ∃ u, r = some u ∧
      wpAny (model P w) X.A (letOwnedTupleGo tg (.ref it) u) (fun _ s2 => ∃ x H', Inv X pins σ H' s2 ∧ RelV x u ∧ J.yld i H x H' ∧ tn (i + 1) s2.heap ∧ ∀ b ∈ fp, H' b = none) E s1) E s
  done : ∀ (X : Cx), X.prog = P → X.w = w → X.K = K → X.calm = true → ∀ (i : Nat) (pins : List (Addr × Obj)) (s : Shared) (σ : St) (H : Hp) (E : Value → Shared → Prop), Inv X pins σ H s → (∀ b ∈ fp, FpOk X pins H b) → tn i s.heap → J.stop i H →
    wpAny (model P w) X.A (pyNext (.ref it)) (fun r s1 => r = none ∧ Inv X pins σ H s1) E s
  self : ∀ (A : Around) (i : Nat) (s : Shared) (Q : Value → Shared → Prop) (E : Value → Shared → Prop), tn i s.heap → Q (.ref it) s → wpAny (model P w) A (pyIter (.ref it)) Q E s
abbrev TI := St → Hp → (It → Hp → Prop) → Prop
def PIE (X : Cx) (pins : List (Addr × Obj)) (σ : St) (tg : Expr) (R : It → Hp → Prop) (itv : Value) (s2 : Shared) : Prop :=
  ∃ (it : Addr) (fp : List Addr) (tn : Nat → Heap → Prop) (J : It) (H' : Hp), itv = .ref it ∧ Inv X pins σ H' s2 ∧ Turn X.prog X.w X.K tg J fp it tn ∧ tn 0 s2.heap ∧ (∀ b ∈ fp, FpOk X pins H' b) ∧ R J H'
def PI (X : Cx) (tg iter : Expr) (wi : TI) : Prop :=
  ∀ (pins : List (Addr × Obj)) (s : Shared) (σ : St) (H : Hp) (R : It → Hp → Prop), Inv X pins σ H s → wi σ H R →
    wpAny (model X.prog X.w) X.A (eval iter X.env) (fun v s1 => wpAny (model X.prog X.w) X.A (pyIter v) (PIE X pins σ tg R) X.xe s1) X.xe s
theorem go_of {M : Model} {A : Around} {E : Value → Shared → Prop} {s : Shared} {tg : Expr} {it : Addr} {u : Value} {o : Obj} {n : String} {vs : Array Value} {Q : Unit → Shared → Prop} (ho : s.heap.get? it = some o) (hc : o.cls = .type n) (hd : o.data = .fields vs)
    (hn : ["enumerate", "zip", "dict_itemiterator", "dict_reverseitemiterator", "odict_iterator", "itertools.zip_longest", "itertools.pairwise"].contains n = false) (hQ : Q () s) : wpAny M A (letOwnedTupleGo tg (.ref it) u) Q E s := by
  unfold letOwnedTupleGo
  cases tg <;> first
    | exact wpAny_pure hQ
    | (cases u <;> first
        | exact wpAny_pure hQ
        | (refine wpAny_bind (wpAny_load ho ?_)
           rw [hc, hd]
           show wpAny M A (if (["enumerate", "zip", "dict_itemiterator", "dict_reverseitemiterator", "odict_iterator", "itertools.zip_longest", "itertools.pairwise"].contains n && vs[0]? == some (rawInt _)) = true then _ else _) Q E s
           rw [if_neg (by intro h; rw [hn, Bool.false_and] at h; cases h)]
           exact wpAny_pure hQ))
def Itl (K : PySem.W.Frag) (a : Addr) : It :=
  ⟨fun i H => ∃ xs x, SqL K H a xs ∧ xs[i]? = some x, fun i H x H' => H' = H ∧ ∀ xs, SqL K H a xs → xs[i]? = some x, fun i H => ∃ xs, SqL K H a xs ∧ xs.length ≤ i⟩
def Itt (K : PySem.W.Frag) (a : Addr) : It :=
  ⟨fun i H => ∃ xs x, SqT K H a xs ∧ xs[i]? = some x, fun i H x H' => H' = H ∧ ∀ xs, SqT K H a xs → xs[i]? = some x, fun i H => ∃ xs, SqT K H a xs ∧ xs.length ≤ i⟩
def Itr (lo : Int) (n : Nat) : It := ⟨fun i _ => i < n, fun i H x H' => H' = H ∧ x = .int (lo + i), fun i _ => n ≤ i⟩
theorem turn_list {P : Program} {w : World} {K : PySem.W.Frag} {tg : Expr} (a it : Addr) : Turn P w K tg (Itl K a) [it] it (fun i h => h.IsListIter it a i) where
  mem := by simp
  obj := fun i h st b hb => by
    have e : b = it := by simpa using hb
    subst e
    obtain ⟨o, e, c, d⟩ := st
    exact ⟨o, e, fun v z => by rw [d] at z; cases z⟩
  keep := fun i h h' st k => st.at fun o e => k it (by simp) o e
  item := by
    intro X hP hw hK hc i pins s σ H E I hf st hg
    subst hP hw hK
    obtain ⟨xs, x, hq, hx⟩ := hg
    obtain ⟨its, rv, p, hz⟩ := I.list hq
    obtain ⟨u, hu, ru⟩ := rv.get hx
    obtain ⟨f0, f1, f2, f3, f4, f5⟩ := hf it (by simp)
    refine wpAny_pyNext_list_item st p.isList (x := u) (by simpa using hu) fun h' st' sb => ?_
    have I1 : Inv X pins σ H { s with heap := h' } := I.turned (t' := s.toks) (fun b o hb e => (sb.2 b hb).trans e) f0 f1 f3 f4 f5
    obtain ⟨o, e, c, d⟩ := id st'
    exact ⟨u, rfl, go_of (s := { s with heap := h' }) e c d (by decide) ⟨x, H, I1, ru, ⟨rfl, fun ys hy => by rw [I.list_inj hy hq]; exact hx⟩, st', fun b hb => (hf b hb).1⟩⟩
  done := by
    intro X hP hw hK hc i pins s σ H E I hf st hg
    subst hP hw hK
    obtain ⟨xs, hq, hx⟩ := hg
    obtain ⟨its, rv, p, hz⟩ := I.list hq
    obtain ⟨f0, f1, f2, f3, f4, f5⟩ := hf it (by simp)
    have hl := rv.length
    exact wpAny_pyNext_list_end (I.ok.hd hc) st p.isList (by simp; omega) fun h' eb => ⟨rfl, I.turned (t' := s.toks) (fun b o hb e => eb b o hb e) f0 f1 f3 f4 f5⟩
  self := fun _ _ _ _ _ st h => wpAny_pyIter_listiter st h
theorem turn_tuple {P : Program} {w : World} {K : PySem.W.Frag} {tg : Expr} (a it : Addr) : Turn P w K tg (Itt K a) [it] it (fun i h => h.IsTupleIter it a i) where
  mem := by simp
  obj := fun i h st b hb => by
    have e : b = it := by simpa using hb
    subst e
    obtain ⟨o, e, c, d⟩ := st
    exact ⟨o, e, fun v z => by rw [d] at z; cases z⟩
  keep := fun i h h' st k => st.at fun o e => k it (by simp) o e
  item := by
    intro X hP hw hK hc i pins s σ H E I hf st hg
    subst hP hw hK
    obtain ⟨xs, x, hq, hx⟩ := hg
    obtain ⟨its, rv, p, hz⟩ := I.tuple hq
    obtain ⟨u, hu, ru⟩ := rv.get hx
    obtain ⟨f0, f1, f2, f3, f4, f5⟩ := hf it (by simp)
    refine wpAny_pyNext_tuple_item st (show s.heap.IsTuple a its.toArray from p) (x := u) (by simpa using hu) fun h' st' sb => ?_
    have I1 : Inv X pins σ H { s with heap := h' } := I.turned (t' := s.toks) (fun b o hb e => (sb.2 b hb).trans e) f0 f1 f3 f4 f5
    obtain ⟨o, e, c, d⟩ := id st'
    exact ⟨u, rfl, go_of (s := { s with heap := h' }) e c d (by decide) ⟨x, H, I1, ru, ⟨rfl, fun ys hy => by rw [I.tuple_inj hy hq]; exact hx⟩, st', fun b hb => (hf b hb).1⟩⟩
  done := by
    intro X hP hw hK hc i pins s σ H E I hf st hg
    subst hP hw hK
    obtain ⟨xs, hq, hx⟩ := hg
    obtain ⟨its, rv, p, hz⟩ := I.tuple hq
    obtain ⟨f0, f1, f2, f3, f4, f5⟩ := hf it (by simp)
    have hl := rv.length
    exact wpAny_pyNext_tuple_end (I.ok.hd hc) st (show s.heap.IsTuple a its.toArray from p) (by simp; omega) fun h' eb => ⟨rfl, I.turned (t' := s.toks) (fun b o hb e => eb b o hb e) f0 f1 f3 f4 f5⟩
  self := fun _ _ _ _ _ st h => wpAny_pyIter_tupleiter st h
theorem turn_range {P : Program} {w : World} {K : PySem.W.Frag} {tg : Expr} (it : Addr) (lo : Int) (n : Nat) : Turn P w K tg (Itr lo n) [it] it (fun i h => IsRangeIter h it (lo + (i : Nat) * 1) ((n : Int) - (i : Nat)) 1) where
  mem := by simp
  obj := fun i h st b hb => by
    have e : b = it := by simpa using hb
    subst e
    exact ⟨_, st, fun v z => by
      have z' : Data.fields _ = Data.cell v := z
      cases z'⟩
  keep := fun i h h' st k => k it (by simp) _ st
  item := by
    intro X hP hw hK hc i pins s σ H E I hf st hg
    subst hP hw hK
    obtain ⟨f0, f1, f2, f3, f4, f5⟩ := hf it (by simp)
    have W := Walks.range (prog := X.prog) (w := X.w) (I.ok.hd hc) it lo 1 n
    refine W.item i s _ _ hg st fun v h' tk hv st' kk => ?_
    obtain ⟨t, rfl⟩ := hv
    have I1 : Inv X pins σ H { s with heap := h', toks := tk } := I.turned (fun b o hb e => kk b o (by simpa using hb) e) f0 f1 f3 f4 f5
    refine ⟨_, rfl, go_of (s := { s with heap := h', toks := tk }) (n := "range_iterator") st' rfl rfl (by decide) ⟨.int (lo + i), H, I1, ⟨t, ?_⟩, ⟨rfl, rfl⟩, st', fun b hb => (hf b hb).1⟩⟩
    rw [Int.mul_one]
  done := by
    intro X hP hw hK hc i pins s σ H E I hf st hg
    subst hP hw hK
    obtain ⟨f0, f1, f2, f3, f4, f5⟩ := hf it (by simp)
    exact wpAny_pyNext_range_end (I.ok.hd hc) st (by have : n ≤ i := hg; omega) fun h' eb => ⟨rfl, I.turned (t' := s.toks) (fun b o hb e => eb b o hb e) f0 f1 f3 f4 f5⟩
  self := fun _ _ _ _ _ st h => wpAny_pyIter_rangeiter st h
section
variable {X : Cx} {tg : Expr}
def iList (K : PySem.W.Frag) (tl : TE) : TI := fun σ H R => tl σ H fun x H1 => ∃ a, x = .ref a ∧ (∃ xs, SqL K H1 a xs) ∧ R (Itl K a) H1
def iTup (K : PySem.W.Frag) (tl : TE) : TI := fun σ H R => tl σ H fun x H1 => ∃ a, x = .ref a ∧ (∃ xs, SqT K H1 a xs) ∧ R (Itt K a) H1
theorem pi_list {l : Expr} {tl : TE} (hl : PE X l tl) : PI X tg l (iList X.K tl) := by
  intro pins s σ H R I h
  refine thn (hl pins s σ H _ I h) fun v s1 ⟨x, H1, I1, r1, q1⟩ => ?_
  obtain ⟨a, e, ⟨xs, hq⟩, q⟩ := q1
  subst e
  cases r1
  obtain ⟨its, rv, p, hz⟩ := I1.list hq
  refine wpAny_pyIter_list p.isList ?_
  refine ⟨s1.heap.objs.size, [s1.heap.objs.size], _, _, H1, rfl, I1.kept (t' := s1.toks) fun b o e => Heap.get?_push_of_some _ e, turn_list a _, ⟨_, Heap.get?_push_size _ rfl, rfl, rfl⟩, fun b hb => ?_, q⟩
  have e : b = s1.heap.objs.size := by simpa using hb
  subst e
  exact I1.fpOk (Nat.le_refl _) (I1.hok.fresh (Nat.le_refl _))
theorem pi_tup {l : Expr} {tl : TE} (hl : PE X l tl) : PI X tg l (iTup X.K tl) := by
  intro pins s σ H R I h
  refine thn (hl pins s σ H _ I h) fun v s1 ⟨x, H1, I1, r1, q1⟩ => ?_
  obtain ⟨a, e, ⟨xs, hq⟩, q⟩ := q1
  subst e
  cases r1
  obtain ⟨its, rv, p, hz⟩ := I1.tuple hq
  refine wpAny_pyIter_tuple (show s1.heap.IsTuple a its.toArray from p) ?_
  refine ⟨s1.heap.objs.size, [s1.heap.objs.size], _, _, H1, rfl, I1.kept (t' := s1.toks) fun b o e => Heap.get?_push_of_some _ e, turn_tuple a _, ⟨_, Heap.get?_push_size _ rfl, rfl, rfl⟩, fun b hb => ?_, q⟩
  have e : b = s1.heap.objs.size := by simpa using hb
  subst e
  exact I1.fpOk (Nat.le_refl _) (I1.hok.fresh (Nat.le_refl _))
theorem range_it {pins : List (Addr × Obj)} {σ : St} {H : Hp} {s : Shared} {R : It → Hp → Prop} {E : Value → Shared → Prop} {lo hi : Int} {t u v : Tok} {tk : Nat} (I : Inv X pins σ H s) (h1 : -(2 ^ 62) ≤ lo) (h2 : lo < 2 ^ 62) (h3 : -(2 ^ 62) ≤ hi) (h4 : hi < 2 ^ 62)
    (q : R (Itr lo (hi - lo).toNat) H) : wpAny (model X.prog X.w) X.A (pyIter (.ref s.heap.objs.size)) (PIE X pins σ tg R) E { s with heap := s.heap.push { cls := .type "range", data := .fields #[.int lo t, .int hi u, .int 1 v] }, toks := tk } := by
  refine wpAny_pyIter_range (IsRange.new ..) (small_one h1 h2 h3 h4) ?_
  have I1 : Inv X pins σ H { s with heap := s.heap.push { cls := .type "range", data := .fields #[.int lo t, .int hi u, .int 1 v] }, toks := tk } := I.kept fun b o e => Heap.get?_push_of_some _ e
  refine ⟨(s.heap.push { cls := .type "range", data := .fields #[.int lo t, .int hi u, .int 1 v] }).objs.size, [(s.heap.push { cls := .type "range", data := .fields #[.int lo t, .int hi u, .int 1 v] }).objs.size], _, _, H, rfl,
    I1.kept (t' := tk) fun b o e => Heap.get?_push_of_some _ e, turn_range _ lo (hi - lo).toNat, ?_, fun b hb => ?_, q⟩
  · have e1 : lo + ((0 : Nat) : Int) * 1 = lo := by simp
    have e2 : (((hi - lo).toNat : Nat) : Int) - ((0 : Nat) : Int) = Builtin.Range.rangeSize lo hi 1 := by rw [rangeSize_one]; split <;> omega
    show IsRangeIter _ _ (lo + ((0 : Nat) : Int) * 1) ((((hi - lo).toNat : Nat) : Int) - ((0 : Nat) : Int)) 1
    rw [e1, e2]
    exact Heap.get?_push_size _ rfl
  · have e : b = (s.heap.push { cls := .type "range", data := .fields #[.int lo t, .int hi u, .int 1 v] }).objs.size := by simpa using hb
    subst e
    exact I1.fpOk (Nat.le_refl _) (I1.hok.fresh (Nat.le_refl _))
def iRng1 (ta : TA) : TI := fun σ H R => ta σ H fun vs H1 => ∃ j : Int, vs = [.int j] ∧ -(2 ^ 62) ≤ j ∧ j < 2 ^ 62 ∧ R (Itr 0 j.toNat) H1
theorem pi_range1 {a : Expr} {ta : TA} {p pos : Pos} (hg : Gl X "range") (hm : X.mg "range" = none) (ha : PA X [a] ta) (hs : starEach [a] X.env = [(false, eval a X.env)] := by rfl) : PI X tg (.Call (.Name "range" p) [a] [] pos) (iRng1 ta) := by
  intro pins s σ H R I h
  refine Call_ (ld_blt I hg hm boot_range (PyProof.Rows.callWith_type1 (thn (ha pos pins s σ H _ I h) fun us s1 ⟨vs, H1, I1, r1, q1⟩ => ?_) hs rfl))
  obtain ⟨j, e, q1, q2, q⟩ := q1
  subst e
  cases r1 with
  | cons r rr =>
    cases rr
    obtain ⟨t, rfl⟩ := r
    exact call_range_1 (range_it I1 (by omega) (by omega) q1 q2 (by simpa using q))
def tFor (wi : TI) (g : TG) (tb : TS) : TS := fun D σ H => wi σ H fun J H1 => ∃ W : Nat → Nat → St → Hp → Prop, (∃ m, W 0 m σ H1) ∧ ∀ i m σ H, W i m σ H →
  (J.stop i H ∧ D.nx σ H) ∨ (J.go i H ∧ ∃ N : St → Hp → Prop, (∀ σ' H', N σ' H' → ∃ m', m' < m ∧ W (i + 1) m' σ' H') ∧ ∀ x H', J.yld i H x H' → g x σ H' fun σ2 H2 => tb { D with nx := N, ct := N, bk := D.nx } σ2 H2)
def pinsAt (fp : List Addr) (h : Heap) : List (Addr × Obj) := fp.filterMap fun b => (h.get? b).map fun o => (b, o)
theorem mem_pinsAt {fp : List Addr} {h : Heap} {b : Addr} {o : Obj} (hb : b ∈ fp) (e : h.get? b = some o) : (b, o) ∈ pinsAt fp h := List.mem_filterMap.mpr ⟨b, hb, by rw [e]; rfl⟩
theorem of_pinsAt {fp : List Addr} {h : Heap} {p : Addr × Obj} (hp : p ∈ pinsAt fp h) : p.1 ∈ fp ∧ h.get? p.1 = some p.2 := by
  obtain ⟨b, hb, e⟩ := List.mem_filterMap.mp hp
  cases q : h.get? b with
  | none => rw [q] at e; cases e
  | some o =>
    rw [q] at e
    have e' : (b, o) = p := Option.some.inj e
    subst e'
    exact ⟨hb, q⟩
theorem Inv.pinned {pins : List (Addr × Obj)} {σ : St} {H : Hp} {s : Shared} {fp : List Addr} (I : Inv X pins σ H s) (hf : ∀ b ∈ fp, FpOk X pins H b) (ho : ∀ b ∈ fp, ∃ o, s.heap.get? b = some o ∧ ∀ v, o.data ≠ .cell v) : Inv X (pins ++ pinsAt fp s.heap) σ H s :=
  I.pins_of fun p hp => (List.mem_append.mp hp).elim (fun z => I.pin p (List.mem_append_right _ z)) fun z => by
    obtain ⟨hb, e⟩ := of_pinsAt z
    obtain ⟨f0, f1, f2, _⟩ := hf p.1 hb
    obtain ⟨o, e', d⟩ := ho p.1 hb
    rw [e] at e'; cases e'
    exact ⟨e, f0, f1, f2, d⟩
theorem Inv.unpinned {pins pl : List (Addr × Obj)} {σ : St} {H : Hp} {s : Shared} (I : Inv X (pins ++ pl) σ H s) : Inv X pins σ H s := I.pins_of fun p hp => I.pin p (List.mem_append_right _ (List.mem_append_left _ hp))
theorem ps_for {iter : Expr} {body : List Stmt} {wi : TI} {g : TG} {tb : TS} {pos : Pos} (hp : PassesOwn (model X.prog X.w) X.A X.env X.xe) (hc : X.calm = true) (hi : PI X tg iter wi) (hg : PG X tg g) (hb : PSs X body tb)
    (hs : ∀ x, foldedSetIterable iter X.env x = pure x := by intro _; rfl) : PS X (.For tg iter body [] pos) (tFor wi g tb) := by
  intro pins s σ H D I h
  refine wpAny_For (thn (hi pins s σ H _ I h) fun v s1 h1 => thn h1 fun itv s2 h2 => ?_) hs
  obtain ⟨it, fp, tn, J, H2, e, I2, T, st2, f2, W, ⟨m0, w0⟩, turn⟩ := h2
  subst e
  -- what stays true of the iterator's objects through the loop
  have stat : ∀ {H' : Hp}, (∀ b ∈ fp, H' b = none) → ∀ b ∈ fp, FpOk X pins H' b := fun hn b hb => ⟨hn b hb, (f2 b hb).2⟩
  refine codeAny_forLoop_any (fun n s' => ∃ i σ' H', Inv X pins σ' H' s' ∧ tn i s'.heap ∧ (∀ b ∈ fp, H' b = none) ∧ W i n σ' H') ?_ m0 ⟨0, σ, H2, I2, st2, fun b hb => (f2 b hb).1, w0⟩
  rintro n s3 ⟨i, σ3, H3, I3, st3, fr3, w3⟩
  rcases turn i n σ3 H3 w3 with ⟨stop, qn⟩ | ⟨go, N, hN, step⟩
  · refine wpAny_passesOwn hp (thn (T.done X rfl rfl rfl hc i pins s3 σ3 H3 X.xe I3 (stat fr3) st3 stop) fun r s4 ⟨hr, I4⟩ => ?_)
    subst hr
    exact wpAny_execs_nil ⟨σ3, H3, I4, qn⟩
  · refine wpAny_passesOwn hp (thn (T.item X rfl rfl rfl hc i pins s3 σ3 H3 X.xe I3 (stat fr3) st3 go) fun r s4 ⟨u, hr, h4⟩ => ?_)
    subst hr
    refine wpAny_passesOwn hp (thn h4 fun _ s5 ⟨x, H5, I5, r5, y5, st5, fr5⟩ => ?_)
    have I5' := I5.pinned (stat fr5) (T.obj _ _ st5)
    refine wpAny_passesOwn hp (thn (hg _ s5 σ3 H5 x u _ I5' r5 (step x H5 y5)) fun _ s6 ⟨σ6, H6, I6, q6⟩ => ?_)
    refine wpAny_passesOwn hp (thn (hb _ s6 σ6 H6 _ I6 q6) fun f s7 q7 => ?_)
    have again : ∀ {σ7 : St} {H7 : Hp}, Inv X (pins ++ pinsAt fp s5.heap) σ7 H7 s7 → N σ7 H7 → ∃ m, m < n ∧ ∃ i σ' H', Inv X pins σ' H' s7 ∧ tn i s7.heap ∧ (∀ b ∈ fp, H' b = none) ∧ W i m σ' H' := fun {σ7 H7} I7 n7 => by
      obtain ⟨m', hm, w7⟩ := hN σ7 H7 n7
      refine ⟨m', hm, i + 1, σ7, H7, I7.unpinned, T.keep _ _ _ st5 fun b hb o e => (I7.pin (b, o) (List.mem_append_right _ (List.mem_append_right _ (mem_pinsAt hb e)))).1, fun b hb => ?_, w7⟩
      obtain ⟨o, e, d⟩ := T.obj _ _ st5 b hb
      exact (I7.pin (b, o) (List.mem_append_right _ (List.mem_append_right _ (mem_pinsAt hb e)))).2.1
    cases f with
    | next => obtain ⟨σ7, H7, I7, n7⟩ := q7; exact again I7 n7
    | cont => obtain ⟨σ7, H7, I7, n7⟩ := q7; exact again I7 n7
    | brk => obtain ⟨σ7, H7, I7, q7⟩ := q7; exact ⟨σ7, H7, I7.unpinned, q7⟩
    | ret v => obtain ⟨x7, σ7, H7, I7, r7, q7⟩ := q7; exact ⟨x7, σ7, H7, I7.unpinned, r7, q7⟩
end
theorem for_list {K : PySem.W.Frag} {a : Addr} {xs : List V} {g : TG} {tb : TS} {D : Ends} {σ : St} {H : Hp} (Pv : Nat → St → Hp → Prop) (h0 : Pv 0 σ H) (hl : ∀ i σ H, i ≤ xs.length → Pv i σ H → SqL K H a xs)
    (hs : ∀ i x σ H, xs[i]? = some x → Pv i σ H → g x σ H fun σ2 H2 => tb { D with nx := Pv (i + 1), ct := Pv (i + 1), bk := D.nx } σ2 H2) (hd : ∀ σ H, Pv xs.length σ H → D.nx σ H) :
    ∃ W : Nat → Nat → St → Hp → Prop, (∃ m, W 0 m σ H) ∧ ∀ i m σ H, W i m σ H →
      ((Itl K a).stop i H ∧ D.nx σ H) ∨ ((Itl K a).go i H ∧ ∃ N : St → Hp → Prop, (∀ σ' H', N σ' H' → ∃ m', m' < m ∧ W (i + 1) m' σ' H') ∧ ∀ x H', (Itl K a).yld i H x H' → g x σ H' fun σ2 H2 => tb { D with nx := N, ct := N, bk := D.nx } σ2 H2) := by
  refine ⟨fun i m σ H => m = xs.length - i ∧ i ≤ xs.length ∧ Pv i σ H, ⟨xs.length, by simp, Nat.zero_le _, h0⟩, ?_⟩
  rintro i m σ H ⟨rfl, hi, p⟩
  have q := hl i σ H hi p
  by_cases hlt : i < xs.length
  · refine .inr ⟨⟨xs, xs[i], q, by simp [hlt]⟩, Pv (i + 1), fun σ' H' p' => ⟨xs.length - (i + 1), by omega, rfl, hlt, p'⟩, fun x H' y => ?_⟩
    obtain ⟨e, y⟩ := y
    subst e
    exact hs i x σ _ (y xs q) p
  · have e : i = xs.length := by omega
    subst e
    exact .inl ⟨⟨xs, q, Nat.le_refl _⟩, hd σ H p⟩
theorem for_tup {K : PySem.W.Frag} {a : Addr} {xs : List V} {g : TG} {tb : TS} {D : Ends} {σ : St} {H : Hp} (Pv : Nat → St → Hp → Prop) (h0 : Pv 0 σ H) (hl : ∀ i σ H, i ≤ xs.length → Pv i σ H → SqT K H a xs)
    (hs : ∀ i x σ H, xs[i]? = some x → Pv i σ H → g x σ H fun σ2 H2 => tb { D with nx := Pv (i + 1), ct := Pv (i + 1), bk := D.nx } σ2 H2) (hd : ∀ σ H, Pv xs.length σ H → D.nx σ H) :
    ∃ W : Nat → Nat → St → Hp → Prop, (∃ m, W 0 m σ H) ∧ ∀ i m σ H, W i m σ H →
      ((Itt K a).stop i H ∧ D.nx σ H) ∨ ((Itt K a).go i H ∧ ∃ N : St → Hp → Prop, (∀ σ' H', N σ' H' → ∃ m', m' < m ∧ W (i + 1) m' σ' H') ∧ ∀ x H', (Itt K a).yld i H x H' → g x σ H' fun σ2 H2 => tb { D with nx := N, ct := N, bk := D.nx } σ2 H2) := by
  refine ⟨fun i m σ H => m = xs.length - i ∧ i ≤ xs.length ∧ Pv i σ H, ⟨xs.length, by simp, Nat.zero_le _, h0⟩, ?_⟩
  rintro i m σ H ⟨rfl, hi, p⟩
  have q := hl i σ H hi p
  by_cases hlt : i < xs.length
  · refine .inr ⟨⟨xs, xs[i], q, by simp [hlt]⟩, Pv (i + 1), fun σ' H' p' => ⟨xs.length - (i + 1), by omega, rfl, hlt, p'⟩, fun x H' y => ?_⟩
    obtain ⟨e, y⟩ := y
    subst e
    exact hs i x σ _ (y xs q) p
  · have e : i = xs.length := by omega
    subst e
    exact .inl ⟨⟨xs, q, Nat.le_refl _⟩, hd σ H p⟩
theorem for_range {lo : Int} {n : Nat} {g : TG} {tb : TS} {D : Ends} {σ : St} {H : Hp} (Pv : Nat → St → Hp → Prop) (h0 : Pv 0 σ H)
    (hs : ∀ i σ H, i < n → Pv i σ H → g (.int (lo + i)) σ H fun σ2 H2 => tb { D with nx := Pv (i + 1), ct := Pv (i + 1), bk := D.nx } σ2 H2) (hd : ∀ σ H, Pv n σ H → D.nx σ H) :
    ∃ W : Nat → Nat → St → Hp → Prop, (∃ m, W 0 m σ H) ∧ ∀ i m σ H, W i m σ H →
      ((Itr lo n).stop i H ∧ D.nx σ H) ∨ ((Itr lo n).go i H ∧ ∃ N : St → Hp → Prop, (∀ σ' H', N σ' H' → ∃ m', m' < m ∧ W (i + 1) m' σ' H') ∧ ∀ x H', (Itr lo n).yld i H x H' → g x σ H' fun σ2 H2 => tb { D with nx := N, ct := N, bk := D.nx } σ2 H2) := by
  refine ⟨fun i m σ H => m = n - i ∧ i ≤ n ∧ Pv i σ H, ⟨n, by simp, Nat.zero_le _, h0⟩, ?_⟩
  rintro i m σ H ⟨rfl, hi, p⟩
  by_cases hlt : i < n
  · refine .inr ⟨hlt, Pv (i + 1), fun σ' H' p' => ⟨n - (i + 1), by omega, rfl, hlt, p'⟩, fun x H' y => ?_⟩
    obtain ⟨e, y⟩ := y
    subst e y
    exact hs i σ _ hlt p
  · have e : i = n := by omega
    subst e
    exact .inl ⟨Nat.le_refl _, hd σ H p⟩
abbrev R2 := V → V → Hp → VK → Prop
def OpR (X : Cx) (f : Value → Value → Sem Value) (r : R2) : Prop :=
  ∀ (pins : List (Addr × Obj)) (s : Shared) (σ : St) (H : Hp) (x y : V) (v u : Value) (Q : VK), Inv X pins σ H s → RelV x v → RelV y u → r x y H Q →
    wpAny (model X.prog X.w) X.A (f v u) (EP X pins σ Q) X.xe s
def UnR (X : Cx) (f : Value → Sem Value) (r : V → Hp → VK → Prop) : Prop :=
  ∀ (pins : List (Addr × Obj)) (s : Shared) (σ : St) (H : Hp) (x : V) (v : Value) (Q : VK), Inv X pins σ H s → RelV x v → r x H Q →
    wpAny (model X.prog X.w) X.A (f v) (EP X pins σ Q) X.xe s
def CallR (X : Cx) (f : Value) (r : List V → Hp → VK → Prop) : Prop :=
  ∀ (pins : List (Addr × Obj)) (s : Shared) (σ : St) (H : Hp) (xs : List V) (us : List Value) (Q : VK), Inv X pins σ H s → Vals xs us → r xs H Q →
    wpAny (model X.prog X.w) X.A (call f us) (EP X pins σ Q) X.xe s
def tOp (r : R2) (ta tb : TE) : TE := fun σ H Q => ta σ H fun x H1 => tb σ H1 fun y H2 => r x y H2 Q
def tUn (r : V → Hp → VK → Prop) (ta : TE) : TE := fun σ H Q => ta σ H fun x H1 => r x H1 Q
def rI (C : Int → Int → Prop) (g : Int → Int → V) : R2 := fun x y H Q => ∃ i j, x = .int i ∧ y = .int j ∧ C i j ∧ Q (g i j) H
def rI0 (g : Int → Int → V) : R2 := fun x y H Q => ∃ i j, x = .int i ∧ y = .int j ∧ Q (g i j) H
def rU (g : Int → V) : V → Hp → VK → Prop := fun x H Q => ∃ i, x = .int i ∧ Q (g i) H
section
variable {X : Cx} {a b c : Expr} {ta tb tc : TE} {pos : Pos}
theorem binT (ha : PE X a ta) (hb : PE X b tb) {pins : List (Addr × Obj)} {s : Shared} {σ : St} {H : Hp} {R : V → V → Hp → Prop} (I : Inv X pins σ H s)
    (h : ta σ H fun x H1 => tb σ H1 fun y H2 => R x y H2) {Q : Value → Shared → Prop} {f : Value → Value → Sem Value}
    (hf : ∀ v u s2 x y H2, Inv X pins σ H2 s2 → RelV x v → RelV y u → R x y H2 → wpAny (model X.prog X.w) X.A (f v u) Q X.xe s2) :
    wpAny (model X.prog X.w) X.A (eval a X.env) (fun v s₁ => wpAny (model X.prog X.w) X.A (eval b X.env) (fun u s₂ => wpAny (model X.prog X.w) X.A (f v u) Q X.xe s₂) X.xe s₁) X.xe s := by
  refine thn (ha pins s σ H _ I h) fun v s1 ⟨x, H1, I1, r1, q1⟩ => ?_
  refine thn (hb pins s1 σ H1 _ I1 q1) fun u s2 ⟨y, H2, I2, r2, q2⟩ => ?_
  exact hf v u s2 x y H2 I2 r1 r2 q2
theorem pe_op {op : Operator} {r : R2} (ho : OpR X (binaryOp op) r) (ha : PE X a ta) (hb : PE X b tb) : PE X (.BinOp a op b pos) (tOp r ta tb) := by
  intro pins s σ H Q I h
  exact wpAny_BinOp (binT ha hb I h fun v u s2 x y H2 I2 rx ry q => ho pins s2 σ H2 x y v u Q I2 rx ry q)
theorem pe_un {op : UnaryOp} {r : V → Hp → VK → Prop} (ho : UnR X (unaryOp op) r) (ha : PE X a ta) : PE X (.UnaryOp op a pos) (tUn r ta) := by
  intro pins s σ H Q I h
  exact UnaryOp_ (thn (ha pins s σ H _ I h) fun v s1 ⟨x, H1, I1, r1, q1⟩ => ho pins s1 σ H1 x v Q I1 r1 q1)
theorem opI {f : Value → Value → Sem Value} {C : Int → Int → Prop} {g : Int → Int → Int}
    (rule : ∀ (i j : Int) (t u : Tok) (s : Shared) (Q : Value → Shared → Prop) (E : Value → Shared → Prop), C i j → Q (.int (g i j) s.toks) { s with toks := s.toks + 1 } → wpAny (model X.prog X.w) X.A (f (.int i t) (.int j u)) Q E s) :
    OpR X f (rI C fun i j => .int (g i j)) := by
  intro pins s σ H x y v u Q I rx ry h
  obtain ⟨i, j, rfl, rfl, hc, q⟩ := h
  obtain ⟨t, rfl⟩ := rx
  obtain ⟨t', rfl⟩ := ry
  exact rule i j t t' s _ _ hc ⟨.int (g i j), H, I.tok _, ⟨_, rfl⟩, q⟩
theorem opI0 {f : Value → Value → Sem Value} {g : Int → Int → Int}
    (rule : ∀ (i j : Int) (t u : Tok) (s : Shared) (Q : Value → Shared → Prop) (E : Value → Shared → Prop), Q (.int (g i j) s.toks) { s with toks := s.toks + 1 } → wpAny (model X.prog X.w) X.A (f (.int i t) (.int j u)) Q E s) :
    OpR X f (rI0 fun i j => .int (g i j)) := by
  intro pins s σ H x y v u Q I rx ry h
  obtain ⟨i, j, rfl, rfl, q⟩ := h
  obtain ⟨t, rfl⟩ := rx
  obtain ⟨t', rfl⟩ := ry
  exact rule i j t t' s _ _ ⟨.int (g i j), H, I.tok _, ⟨_, rfl⟩, q⟩
theorem opB0 {f : Value → Value → Sem Value} {g : Int → Int → Bool}
    (rule : ∀ (i j : Int) (t u : Tok) (s : Shared) (Q : Value → Shared → Prop) (E : Value → Shared → Prop), Q (.bool (g i j)) s → wpAny (model X.prog X.w) X.A (f (.int i t) (.int j u)) Q E s) :
    OpR X f (rI0 fun i j => .bl (g i j)) := by
  intro pins s σ H x y v u Q I rx ry h
  obtain ⟨i, j, rfl, rfl, q⟩ := h
  obtain ⟨t, rfl⟩ := rx
  obtain ⟨t', rfl⟩ := ry
  exact rule i j t t' s _ _ ⟨.bl (g i j), H, I, rfl, q⟩
def CDiv (i j : Int) : Prop := 0 < j ∧ j < 1073741824
def CPow (i j : Int) : Prop := 0 ≤ j ∧ j ≤ 1000000 ∧ i.natAbs < 2 ^ 64
def CMul (i j : Int) : Prop := (-(2 ^ 64) < i ∧ i < 2 ^ 64) ∨ (-(2 ^ 64) < j ∧ j < 2 ^ 64)
theorem CMul.ok {i j : Int} (h : CMul i j) : IntMulOk i j := by
  rcases h with ⟨h1, h2⟩ | ⟨h1, h2⟩
  · exact .of_left (intBits_le_64 h1 h2)
  · exact .of_right (intBits_le_64 h1 h2)
theorem op_add : OpR X (binaryOp .Add) (rI0 fun i j => .int (i + j)) := opI0 fun _ _ _ _ _ _ _ q => add_int q
theorem op_sub : OpR X (binaryOp .Sub) (rI0 fun i j => .int (i - j)) := opI0 fun _ _ _ _ _ _ _ q => sub_int q
theorem op_mul : OpR X (binaryOp .Mult) (rI CMul fun i j => .int (i * j)) := opI fun _ _ _ _ _ _ _ hc q => mul_int q hc.ok
theorem op_fdiv : OpR X (binaryOp .FloorDiv) (rI CDiv fun i j => .int (i / j)) := opI fun i j _ _ _ _ _ hc q => by
  have h1 : (0 : Int) < j := hc.1
  have h2 : j < 1073741824 := hc.2
  exact floordiv_int (by omega) (by rw [Int.fdiv_eq_ediv_of_nonneg i (by omega)]; exact q) (.inl (PyProof.noPylong_small (by omega)))
theorem op_mod : OpR X (binaryOp .Mod) (rI (fun _ j => 0 < j) fun i j => .int (i % j)) := opI fun i j _ _ _ _ _ hc q => by
  have h1 : (0 : Int) < j := hc
  exact mod_int' (by omega) (by rw [Int.fmod_eq_emod_of_nonneg i (by omega)]; exact q)
theorem op_pow : OpR X (binaryOp .Pow) (rI CPow fun i j => .int (i ^ j.toNat)) := opI fun _ _ _ _ _ _ _ hc q => pow_int_small hc.1 hc.2.1 hc.2.2 q
theorem unI {f : Value → Sem Value} {g : Int → Int}
    (rule : ∀ (i : Int) (t : Tok) (s : Shared) (Q : Value → Shared → Prop) (E : Value → Shared → Prop), Q (.int (g i) s.toks) { s with toks := s.toks + 1 } → wpAny (model X.prog X.w) X.A (f (.int i t)) Q E s) :
    UnR X f (rU fun i => .int (g i)) := by
  intro pins s σ H x v Q I rx h
  obtain ⟨i, rfl, q⟩ := h
  obtain ⟨t, rfl⟩ := rx
  exact rule i t s _ _ ⟨.int (g i), H, I.tok _, ⟨_, rfl⟩, q⟩
theorem un_neg : UnR X (unaryOp .USub) (rU fun i => .int (-i)) := unI fun _ _ _ _ _ q => neg_int q
end
def scal : V → V → Bool
  | .non, .non => true | .non, .int _ => true | .int _, .non => true | .non, .bl _ => true | .bl _, .non => true | .non, .str _ => true | .str _, .non => true
  | .int _, .int _ => true | .bl _, .bl _ => true | .str _, .str _ => true | .byt _, .byt _ => true
  | .int _, .str _ => true | .str _, .int _ => true | .bl _, .str _ => true | .str _, .bl _ => true
  | _, _ => false
def rEq : R2 := fun x y H Q => scal x y = true ∧ Q (.bl (decide (x = y))) H
def rNe : R2 := fun x y H Q => scal x y = true ∧ Q (.bl (!decide (x = y))) H
theorem dec_int {i j : Int} : decide (V.int i = V.int j) = (i == j) := by
  rw [Bool.eq_iff_iff]
  simp
theorem dec_bl {i j : Bool} : decide (V.bl i = V.bl j) = (i == j) := by
  rw [Bool.eq_iff_iff]
  simp
theorem dec_str {i j : Str} : decide (V.str i = V.str j) = (i == j) := by
  rw [Bool.eq_iff_iff]
  simp
theorem dec_byt {i j : Array UInt8} : decide (V.byt i = V.byt j) = (i.toList == j.toList) := by
  rw [Bool.eq_iff_iff]
  cases i
  cases j
  simp
section
variable {X : Cx} {a b c : Expr} {ta tb tc : TE} {pos : Pos}
theorem fin_bl {pins : List (Addr × Obj)} {σ : St} {H : Hp} {s : Shared} {Q : VK} {k k' : Bool} (I : Inv X pins σ H s) (q : Q (.bl k) H) (e : k = k') : EP X pins σ Q (.bool k') s := by
  subst e
  exact ⟨.bl k, H, I, rfl, q⟩
theorem op_eq : OpR X (compareOp .Eq) rEq := by
  intro pins s σ H x y v u Q I rx ry h
  obtain ⟨hs, q⟩ := h
  cases x with
  | non =>
    cases rx
    cases y with
    | non => cases ry; exact PySem.EqNone.eq_none_none (fin_bl I q (by simp))
    | bl j => cases ry; exact PySem.EqNone.eq_none_bool (fin_bl I q (by simp))
    | int j => obtain ⟨t', rfl⟩ := ry; exact PySem.EqNone.eq_none_int (fin_bl I q (by simp))
    | str j => obtain ⟨t', rfl⟩ := ry; exact PySem.EqNone.eq_none_str (fin_bl I q (by simp))
    | _ => exact absurd (show false = true from hs) Bool.false_ne_true
  | bl i =>
    cases rx
    cases y with
    | non => cases ry; exact PySem.EqNone.eq_bool_none (fin_bl I q (by simp))
    | bl j => cases ry; exact eq_bool (fin_bl I q dec_bl)
    | str j => obtain ⟨t', rfl⟩ := ry; exact PySem.EqMixed.eq_bool_str (fin_bl I q (by simp))
    | _ => exact absurd (show false = true from hs) Bool.false_ne_true
  | int i =>
    obtain ⟨t, rfl⟩ := rx
    cases y with
    | non => cases ry; exact PySem.EqNone.eq_int_none (fin_bl I q (by simp))
    | int j => obtain ⟨t', rfl⟩ := ry; exact eq_int (fin_bl I q dec_int)
    | str j => obtain ⟨t', rfl⟩ := ry; exact PySem.EqMixed.eq_int_str (fin_bl I q (by simp))
    | _ => exact absurd (show false = true from hs) Bool.false_ne_true
  | str i =>
    obtain ⟨t, rfl⟩ := rx
    cases y with
    | non => cases ry; exact PySem.EqNone.eq_str_none (fin_bl I q (by simp))
    | bl j => cases ry; exact PySem.EqMixed.eq_str_bool (fin_bl I q (by simp))
    | int j => obtain ⟨t', rfl⟩ := ry; exact PySem.EqMixed.eq_str_int (fin_bl I q (by simp))
    | str j => obtain ⟨t', rfl⟩ := ry; exact eq_str (fin_bl I q dec_str)
    | _ => exact absurd (show false = true from hs) Bool.false_ne_true
  | byt i =>
    obtain ⟨t, rfl⟩ := rx
    cases y with
    | byt j => obtain ⟨t', rfl⟩ := ry; exact PySem.W.eq_bytes (fin_bl I q dec_byt)
    | _ => exact absurd (show false = true from hs) Bool.false_ne_true
  | _ => cases y <;> exact absurd (show false = true from hs) Bool.false_ne_true
theorem op_ne : OpR X (compareOp .NotEq) rNe := by
  intro pins s σ H x y v u Q I rx ry h
  obtain ⟨hs, q⟩ := h
  cases x with
  | non =>
    cases rx
    cases y with
    | non => cases ry; exact PySem.EqNone.ne_none_none (fin_bl I q (by simp))
    | bl j => cases ry; exact PySem.EqNone.ne_none_bool (fin_bl I q (by simp))
    | int j => obtain ⟨t', rfl⟩ := ry; exact PySem.EqNone.ne_none_int (fin_bl I q (by simp))
    | str j => obtain ⟨t', rfl⟩ := ry; exact PySem.EqNone.ne_none_str (fin_bl I q (by simp))
    | _ => exact absurd (show false = true from hs) Bool.false_ne_true
  | bl i =>
    cases rx
    cases y with
    | non => cases ry; exact PySem.EqNone.ne_bool_none (fin_bl I q (by simp))
    | bl j => cases ry; exact ne_bool (fin_bl I q (congrArg not dec_bl))
    | str j => obtain ⟨t', rfl⟩ := ry; exact PySem.EqMixed.ne_bool_str (fin_bl I q (by simp))
    | _ => exact absurd (show false = true from hs) Bool.false_ne_true
  | int i =>
    obtain ⟨t, rfl⟩ := rx
    cases y with
    | non => cases ry; exact PySem.EqNone.ne_int_none (fin_bl I q (by simp))
    | int j => obtain ⟨t', rfl⟩ := ry; exact ne_int (fin_bl I q (congrArg not dec_int))
    | str j => obtain ⟨t', rfl⟩ := ry; exact PySem.EqMixed.ne_int_str (fin_bl I q (by simp))
    | _ => exact absurd (show false = true from hs) Bool.false_ne_true
  | str i =>
    obtain ⟨t, rfl⟩ := rx
    cases y with
    | non => cases ry; exact PySem.EqNone.ne_str_none (fin_bl I q (by simp))
    | bl j => cases ry; exact PySem.EqMixed.ne_str_bool (fin_bl I q (by simp))
    | int j => obtain ⟨t', rfl⟩ := ry; exact PySem.EqMixed.ne_str_int (fin_bl I q (by simp))
    | str j => obtain ⟨t', rfl⟩ := ry; exact ne_str (fin_bl I q (congrArg not dec_str))
    | _ => exact absurd (show false = true from hs) Bool.false_ne_true
  | byt i =>
    obtain ⟨t, rfl⟩ := rx
    cases y with
    | byt j => obtain ⟨t', rfl⟩ := ry; exact PySem.W.ne_bytes (fin_bl I q (congrArg not dec_byt))
    | _ => exact absurd (show false = true from hs) Bool.false_ne_true
  | _ => cases y <;> exact absurd (show false = true from hs) Bool.false_ne_true
theorem op_lt : OpR X (compareOp .Lt) (rI0 fun i j => .bl (decide (i < j))) := opB0 fun _ _ _ _ _ _ _ q => lt_int q
theorem op_gt : OpR X (compareOp .Gt) (rI0 fun i j => .bl (decide (j < i))) := opB0 fun _ _ _ _ _ _ _ q => gt_int q
theorem op_ge : OpR X (compareOp .GtE) (rI0 fun i j => .bl (decide (j ≤ i))) := opB0 fun _ _ _ _ _ _ _ q => ge_int q
theorem op_isN : OpR X (compareOp .Is) (fun x y H Q => y = .non ∧ Q (.bl (decide (x = .non))) H) := by
  intro pins s σ H x y v u Q I rx ry h
  obtain ⟨rfl, q⟩ := h
  cases ry
  refine is_none_gen (fin_bl I q ?_)
  cases x <;> first
    | (cases rx; rfl)
    | (obtain ⟨t, rfl⟩ := rx; rfl)
theorem op_notN : OpR X (compareOp .IsNot) (fun x y H Q => y = .non ∧ Q (.bl (!decide (x = .non))) H) := by
  intro pins s σ H x y v u Q I rx ry h
  obtain ⟨rfl, q⟩ := h
  cases ry
  refine isnot_none_gen (fin_bl I q ?_)
  cases x <;> first
    | (cases rx; rfl)
    | (obtain ⟨t, rfl⟩ := rx; rfl)
theorem nomark (b : Expr) {op : CmpOp} (h : op ≠ .In := by decide) (h2 : op ≠ .NotIn := by decide) : behindInMarks op b = false := by
  have e1 : (op == CmpOp.In) = false := by cases op <;> first | rfl | exact absurd rfl h
  have e2 : (op == CmpOp.NotIn) = false := by cases op <;> first | rfl | exact absurd rfl h2
  cases b <;> simp [behindInMarks, e1, e2]
theorem pe_cmpR {op : CmpOp} {r : R2} (ho : OpR X (compareOp op) r) (ha : PE X a ta) (hb : PE X b tb) (hm : behindInMarks op b = false) : PE X (.Compare a [op] [b] pos) (tOp r ta tb) := by
  intro pins s σ H Q I h
  exact wpAny_Compare1 (binT ha hb I h fun v u s2 x y H2 I2 rx ry q => ho pins s2 σ H2 x y v u Q I2 rx ry q) hm
def tTest (t : TE) : TT := fun σ H Q => t σ H fun x H' => ∃ k, x = .bl k ∧ Q k H'
theorem pt_cmpR {op : CmpOp} {r : R2} (ho : OpR X (compareOp op) r) (ha : PE X a ta) (hb : PE X b tb) (hm : behindInMarks op b = false) : PT X (.Compare a [op] [b] pos) (tTest (tOp r ta tb)) := by
  intro pins s σ H Q I h
  refine wpAny_isTrue_Compare1 (thn (ha pins s σ H _ I h) fun v s1 ⟨x, H1, I1, r1, q1⟩ => thn (hb pins s1 σ H1 _ I1 q1) fun u s2 ⟨y, H2, I2, r2, q2⟩ =>
    thn (ho pins s2 σ H2 x y v u _ I2 r1 r2 q2) fun c s3 ⟨z, H3, I3, r3, k, e, q3⟩ => ?_) hm
  subst e
  cases r3
  exact wpAny_truthy_bool ⟨H3, I3, q3⟩
theorem line63 : (sizeLine : Nat) < 2 ^ 63 := by rw [sizeLine_eq]; decide
theorem op_add_str : OpR X (binaryOp .Add) (fun x y H Q => ∃ i j, x = .str i ∧ y = .str j ∧ i.length + j.length ≤ sizeLine ∧ Q (.str (i ++ j)) H) := by
  intro pins s σ H x y v u Q I rx ry h
  obtain ⟨i, j, rfl, rfl, hz, q⟩ := h
  obtain ⟨t, rfl⟩ := rx
  obtain ⟨t', rfl⟩ := ry
  exact add_str (fun t' tk => ⟨.str (i ++ j), H, I.tok _, ⟨_, rfl⟩, q⟩) hz
theorem vals1 {x : V} {us : List Value} (r : Vals [x] us) : ∃ u, us = [u] ∧ RelV x u := by
  cases r with
  | cons r1 r2 => cases r2; exact ⟨_, rfl, r1⟩
theorem vals2 {x y : V} {us : List Value} (r : Vals [x, y] us) : ∃ u w', us = [u, w'] ∧ RelV x u ∧ RelV y w' := by
  cases r with
  | cons r1 r2 =>
    cases r2 with
    | cons r3 r4 => cases r4; exact ⟨_, _, rfl, r1, r3⟩
end
structure ObjM (h : Heap) (x dx C : Addr) (mA : Str → Option Value) : Prop where
  obj : h.get? x = some (PySem.W.instObj C dx)
  ns : h.Ns1 dx mA
  ne : dx ≠ x
theorem lookIn_ns {h : Heap} {dx : Addr} {mA : Str → Option Value} (n : h.Ns1 dx mA) : ∃ od, h.get? dx = some od ∧ ∀ name, PySem.W.lookIn name od = some (mA name) := by
  obtain ⟨o, es, ep, ho, hd, hk, _, hm⟩ := n
  refine ⟨o, ho, fun name => ?_⟩
  have e := hm name
  unfold nsFind findBy at e
  rw [← Array.find?_toList] at e
  unfold PySem.W.lookIn
  rw [hd]
  dsimp only
  split
  · rename_i y q
    rw [q] at e
    exact congrArg some e
  · rename_i q
    rw [q] at e
    have a : es.toList.any (·.refKey) = false := by
      rw [List.any_eq_false]
      intro y hy
      obtain ⟨z, t, hkey⟩ := hk y (Array.mem_toList_iff.mp hy)
      simp [DictEntry.refKey, hkey]
    have a' : ¬ es.toList.any (·.refKey) = true := by rw [a]; exact Bool.false_ne_true
    rw [if_neg a']
    exact congrArg some e
theorem ObjM.look {h : Heap} {x dx C : Addr} {mA : Str → Option Value} (I : ObjM h x dx C mA) : ∃ od, PySem.W.InstAt h x (PySem.W.instObj C dx) C (some od) ∧ ∀ name, PySem.W.lookIn name od = some (mA name) :=
  let ⟨od, ho, hl⟩ := lookIn_ns I.ns
  ⟨od, ⟨I.obj, rfl, rfl, ho⟩, hl⟩
section
variable {prog : Program} {w : World} {A : Around} {E : Value → Shared → Prop} {s : Shared} {K : PySem.W.Frag} {x dx C f : Addr} {mA : Str → Option Value} {name : Str} {v : Value}
theorem get_map {expr : Bool} {Q : Value → Shared → Prop} (X : K.In s.heap) (I : ObjM s.heap x dx C mA) (hg : PySem.W.plainGet K C name = true) (hh : PySem.W.hasDictIn K C = true)
    (ha : PySem.W.findIn K (.ref C) name = some none) (hv : mA name = some v) (hv' : PySem.W.handedIn v = true) (h : Q v { s with toks := s.toks + 1 }) :
    wpAny (model prog w) A (getAttr (.ref x) name expr) Q E s := by
  obtain ⟨od, J, hl⟩ := I.look
  exact PySem.W.get_value X J (PySem.W.plainGet_of hg).1 (PySem.W.findObj_own hh ha rfl (by rw [hl, hv])) hv' h
theorem get_meth {pl : Sem Bool} {Q : Value × List Value → Shared → Prop} (X : K.In s.heap) (I : ObjM s.heap x dx C mA) (hg : PySem.W.plainGet K C name = true)
    (hf : PySem.W.findIn K (.ref C) name = some (some (.ref f))) (ht : PySem.W.isFn K (.ref f) = true) (hv : mA name = none) (h : Q (.ref f, [.ref x]) s) :
    wpAny (model prog w) A (getMethod (.ref x) name pl) Q E s := by
  obtain ⟨od, J, hl⟩ := I.look
  exact PySem.W.method_fn X J (PySem.W.plainGet_of hg).1 (PySem.W.plainGet_of hg).2 hf (beq_iff_eq.mp ht) (by show (PySem.W.lookIn name od).map (·.isSome) = some false; rw [hl, hv]; rfl) h
theorem set_map {ns : List Str} {Q : Unit → Shared → Prop} (X : K.In s.heap) (I : ObjM s.heap x dx C mA)
    (hs : PySem.W.findIn K (.ref C) "__setattr__" = some (some (.builtin "object.__setattr__"))) (hp : PySem.W.plainOver K C = true) (ht : PySem.W.takerIn K C name = some none) (hh : PySem.W.hasDictIn K C = true)
    (hw : PySem.Within mA ns) (hsz : ns.length ≤ sizeLine)
    (h : ∀ h', ObjM h' x dx C (fun y => if y = name then some v else mA y) → Heap.SameBut dx s.heap h' → Q () { s with heap := h', toks := s.toks + 2 }) :
    wpAny (model prog w) A (setAttr (.ref x) name v) Q E s := by
  obtain ⟨od, J, hl⟩ := I.look
  refine PySem.W.set_plain X J hs (PySem.W.osa_open (s := { s with toks := s.toks + 1 }) (r := none) X J hp ht fun b => ?_)
  obtain ⟨cd, hc, hd'⟩ := PySem.W.any_some hh
  have hx : s.heap.get? x = some ⟨.ref C, some dx, .plain, #[]⟩ := I.obj
  refine wpAny_bind (wpAny_pure (wpAny_bind (wpAny_bind (wpAny_loadPart hx (wpAny_bind (PySem.W.Looks.here (s := { s with toks := s.toks + 1 }) (PySem.W.looks_clsIn X hc) ?_))))))
  rw [hd']
  refine wpAny_pure (a := some dx) (wpAny_bind (wpAny_pure (wpAny_bind ?_)))
  refine wpAny_nsSet1 (s := { s with toks := s.toks + 1 }) I.ns fun h' hn2 hs2 => ?_
  obtain ⟨oD, esD, epD, hoD, hdD, hcD⟩ := hn2.count (PySem.Within.cons name v hw)
  refine wpAny_bind (wpAny_lookBehind hoD (by rw [hdD]; exact pastItsLine_dict (Nat.le_trans hcD (by rw [List.length_cons]; omega))) ?_)
  exact wpAny_pure (h _ ⟨(hs2.2 _ (Ne.symm I.ne)).trans I.obj, hn2, I.ne⟩ hs2)
theorem make_map {R : Result → Shared → Prop} {vs : List Value} {kw : List (Str × Value)} (X : K.In s.heap) (hm : PySem.W.makesIn K C = true)
    (hi : PySem.W.findIn K (.ref C) "__init__" = some (some (.ref f))) (hf : PySem.W.typeIn K (.ref f) = some (.type "function"))
    (h : codeAny (model prog w) (A.under (.builtin "type.__call__" ⟨.ref C :: vs, kw⟩)) (.call (.ref f) ⟨.ref (s.heap.objs.size + 1) :: vs, kw⟩) (PySem.W.InitBack (s.heap.objs.size + 1) R)
      { s with heap := (s.heap.push PySem.W.emptyDict).push (PySem.W.instObj C s.heap.objs.size) }) :
    codeAny (model prog w) A (.call (.ref C) ⟨vs, kw⟩) R s := by
  obtain ⟨hh, g, d, t, os⟩ := s
  exact PySem.W.make_core (PySem.W.makes_of X hm) (PySem.W.looks_findIn X hi) (fun self => PySem.W.bind_fn X self hf) (.inl rfl) h
end
def putF (f : Str) (v : V) : List (Str × V) → List (Str × V)
  | [] => [(f, v)]
  | (g, x) :: r => if g = f then (g, v) :: r else (g, x) :: putF f v r
theorem lookup_putF (f g : Str) (v : V) : ∀ fs : List (Str × V), (putF f v fs).lookup g = if g = f then some v else fs.lookup g
  | [] => by
    show List.lookup g [(f, v)] = _
    by_cases h : g = f
    · have hb : (g == f) = true := beq_iff_eq.mpr h
      simp only [List.lookup, hb, if_pos h]
    · have hb : (g == f) = false := beq_eq_false_iff_ne.mpr h
      simp only [List.lookup, hb, if_neg h]
  | (k, x) :: r => by
    have ih := lookup_putF f g v r
    rw [show putF f v ((k, x) :: r) = (if k = f then (k, v) :: r else (k, x) :: putF f v r) from rfl]
    by_cases hk : k = f
    · rw [if_pos hk]
      by_cases h : g = k
      · have hb : (g == k) = true := beq_iff_eq.mpr h
        simp only [List.lookup, hb, if_pos (h.trans hk)]
      · have hb : (g == k) = false := beq_eq_false_iff_ne.mpr h
        simp only [List.lookup, hb, if_neg (fun e : g = f => h (e.trans hk.symm))]
    · rw [if_neg hk]
      by_cases h : g = k
      · have hb : (g == k) = true := beq_iff_eq.mpr h
        simp only [List.lookup, hb, if_neg (fun e : g = f => hk (h.symm.trans e))]
      · have hb : (g == k) = false := beq_eq_false_iff_ne.mpr h
        simp only [List.lookup, hb]
        exact ih
theorem keys_putF (f : Str) (v : V) : ∀ fs : List (Str × V), f ∈ (putF f v fs).map (·.1) ∧ ∀ g, g ∈ fs.map (·.1) → g ∈ (putF f v fs).map (·.1)
  | [] => ⟨by simp [putF], fun g h => by simp at h⟩
  | (k, x) :: r => by
    obtain ⟨i1, i2⟩ := keys_putF f v r
    rw [show putF f v ((k, x) :: r) = (if k = f then (k, v) :: r else (k, x) :: putF f v r) from rfl]
    by_cases hk : k = f
    · rw [if_pos hk]
      subst hk
      exact ⟨by simp, fun g h => by simpa using h⟩
    · rw [if_neg hk]
      refine ⟨?_, fun g h => ?_⟩
      · rw [List.map_cons]
        exact List.mem_cons_of_mem _ i1
      · rw [List.map_cons] at h ⊢
        rcases List.mem_cons.mp h with e | e
        · exact List.mem_cons.mpr (.inl e)
        · exact List.mem_cons_of_mem _ (i2 g e)
theorem length_putF (f : Str) (v : V) : ∀ fs : List (Str × V), (putF f v fs).length ≤ fs.length + 1
  | [] => by simp [putF]
  | (k, x) :: r => by
    have ih := length_putF f v r
    rw [show putF f v ((k, x) :: r) = (if k = f then (k, v) :: r else (k, x) :: putF f v r) from rfl]
    by_cases hk : k = f
    · rw [if_pos hk, List.length_cons, List.length_cons]; omega
    · rw [if_neg hk, List.length_cons, List.length_cons]; omega
theorem RelO.some_of {v : V} {o : Option Value} (r : RelO (some v) o) : ∃ u, o = some u ∧ RelV v u := by
  cases o with
  | none => exact (show False from r).elim
  | some u => exact ⟨u, rfl, r⟩
theorem RelO.none_of {o : Option Value} (r : RelO none o) : o = none := by
  cases o with
  | none => rfl
  | some u => exact (show False from r).elim
theorem handed_of {v : V} {u : Value} (r : RelV v u) : PySem.W.handedIn u = true := by
  cases v with
  | non => cases (show u = Value.none from r); rfl
  | bl b => cases (show u = Value.bool b from r); rfl
  | int i => obtain ⟨t, e⟩ := (show ∃ t, u = Value.int i t from r); cases e; rfl
  | str x => obtain ⟨t, e⟩ := (show ∃ t, u = Value.str x t from r); cases e; rfl
  | byt b => obtain ⟨t, e⟩ := (show ∃ t, u = Value.bytes b t from r); cases e; rfl
  | flt b => obtain ⟨t, e⟩ := (show ∃ t, u = Value.float b t from r); cases e; rfl
  | ref a => cases (show u = Value.ref a from r); rfl
  | ty n => cases (show u = Value.type n from r); rfl
section
variable {P : Program} {w : World} {H H' : Hp} {h h' : Heap} {a C dx : Addr} {fs fs' : List (Str × V)}
theorem ins_get (hok : HOk P w H h) (e : H a = some (.ins C dx fs)) : ∃ mA, ObjM h a dx C mA ∧ (∀ f, RelO (fs.lookup f) (mA f)) ∧ PySem.Within mA (fs.map (·.1)) ∧ fs.length ≤ 1000 ∧ H dx = some (.own a) := by
  obtain ⟨d, z, ne, ob, mA, n, r, q⟩ := (show ObjOk P w H h a (.ins C dx fs) from hok a _ e)
  exact ⟨mA, ⟨ob, n, ne⟩, r, q, z, d⟩
end
structure Cls (K : PySem.W.Frag) (C : Addr) : Prop where
  pg : PySem.W.plainGet K C Str.empty = true
  hd : PySem.W.hasDictIn K C = true
  po : PySem.W.plainOver K C = true
  sa : PySem.W.findIn K (.ref C) "__setattr__" = some (some (.builtin "object.__setattr__"))
theorem Cls.get {K : PySem.W.Frag} {C : Addr} (c : Cls K C) (f : Str) : PySem.W.plainGet K C f = true := c.pg
def NoAttr (K : PySem.W.Frag) (C : Addr) (f : Str) : Prop := PySem.W.findIn K (.ref C) f = some none
theorem NoAttr.taker {K : PySem.W.Frag} {C : Addr} {f : Str} (n : NoAttr K C f) : PySem.W.takerIn K C f = some none := by
  unfold PySem.W.takerIn
  rw [show PySem.W.findIn K (.ref C) f = some none from n]
  rfl
structure Meth (K : PySem.W.Frag) (C : Addr) (m : Str) (f : Addr) : Prop where
  at_ : PySem.W.findIn K (.ref C) m = some (some (.ref f))
  fn : PySem.W.isFn K (.ref f) = true
  kp : PySem.W.keepIn K (.ref f) = true
section
variable {X : Cx} {pins : List (Addr × Obj)} {σ : St} {H : Hp} {s : Shared} {a C dx : Addr} {fs : List (Str × V)} {f : Str} {v : V} {A : Around} {E : Value → Shared → Prop}
theorem getattr_ok {b : Bool} {Q : Value → Shared → Prop} (I : Inv X pins σ H s) (e : H a = some (.ins C dx fs)) (c : Cls X.K C) (n : NoAttr X.K C f) (l : fs.lookup f = some v)
    (h : ∀ u s', Inv X pins σ H s' → RelV v u → Q u s') : wpAny (model X.prog X.w) A (getAttr (.ref a) f b) Q E s := by
  obtain ⟨mA, O, r, _, _, _⟩ := ins_get I.hok e
  obtain ⟨u, hu, ru⟩ := RelO.some_of (v := v) (o := mA f) (by rw [← l]; exact r f)
  exact get_map I.kIn O (c.get f) c.hd n hu (handed_of ru) (h u _ (I.tok _) ru)
theorem getmeth_ok {m : Str} {g : Addr} {pl : Sem Bool} {Q : Value × List Value → Shared → Prop} (I : Inv X pins σ H s) (e : H a = some (.ins C dx fs)) (c : Cls X.K C) (k : Meth X.K C m g) (l : fs.lookup m = none)
    (h : Q (.ref g, [.ref a]) s) : wpAny (model X.prog X.w) A (getMethod (.ref a) m pl) Q E s := by
  obtain ⟨mA, O, r, _, _, _⟩ := ins_get I.hok e
  have hn : mA m = none := RelO.none_of (by rw [← l]; exact r m)
  exact get_meth I.kIn O (c.get m) k.at_ k.fn hn h
theorem setattr_ok {y : V} {u : Value} {Q : Unit → Shared → Prop} (I : Inv X pins σ H s) (e : H a = some (.ins C dx fs)) (c : Cls X.K C) (n : NoAttr X.K C f) (hl : fs.length < 1000) (ry : RelV y u)
    (h : ∀ s', Inv X pins σ (upd H a (.ins C dx (putF f y fs))) s' → Q () s') : wpAny (model X.prog X.w) A (setAttr (.ref a) f u) Q E s := by
  obtain ⟨mA, O, r, wi, _, ho⟩ := ins_get I.hok e
  have hz : (fs.map (·.1)).length ≤ sizeLine := by rw [List.length_map, sizeLine_eq]; omega
  refine set_map I.kIn O c.sa c.po n.taker c.hd wi hz fun h' O' sb => h _ ?_
  have hd : ∃ o, h'.get? dx = some o := let ⟨o, _, _, e', _⟩ := O'.ns; ⟨o, e'⟩
  refine I.write (x := a) (e := dx) (by rw [e]; exact True.intro) (.inr ho) (fun b q hb z => (sb.2 b hb).trans z) hd ?_
  refine ⟨by rw [upd_ne O.ne]; exact ho, ?_, O.ne, O'.obj, _, O'.ns, fun g => ?_, fun g hg => ?_⟩
  · have := length_putF f y fs; omega
  · show RelO ((putF f y fs).lookup g) (if g = f then some u else mA g)
    rw [lookup_putF]
    by_cases q : g = f
    · rw [if_pos q, if_pos q]; exact ry
    · rw [if_neg q, if_neg q]; exact r g
  · by_cases q : g = f
    · rw [q]; exact (keys_putF f y fs).1
    · refine (keys_putF f y fs).2 g (wi g fun z => hg ?_)
      show (if g = f then some u else mA g) = none
      rw [if_neg q]; exact z
theorem Inv.made (I : Inv X pins σ H s) : Inv X pins σ (upd (upd H s.heap.objs.size (.own (s.heap.objs.size + 1))) (s.heap.objs.size + 1) (.ins C s.heap.objs.size []))
    { s with heap := (s.heap.push PySem.W.emptyDict).push (PySem.W.instObj C s.heap.objs.size) } := by
  have e1 : (s.heap.push PySem.W.emptyDict).get? s.heap.objs.size = some PySem.W.emptyDict := Heap.get?_push_size s.heap rfl
  have e2 : ((s.heap.push PySem.W.emptyDict).push (PySem.W.instObj C s.heap.objs.size)).get? (s.heap.objs.size + 1) = some (PySem.W.instObj C s.heap.objs.size) := by
    have := Heap.get?_push_size (s.heap.push PySem.W.emptyDict) (o := PySem.W.instObj C s.heap.objs.size) rfl
    rwa [Heap.size_push] at this
  have e3 : (s.heap.push PySem.W.emptyDict).Ns s.heap.objs.size (fun _ => none) := ⟨PySem.W.emptyDict, #[], _, e1, rfl, (fun e he => absurd he (by simp)), fun _ => rfl⟩
  have I1 := I.laid (a := s.heap.objs.size) (o := .own (s.heap.objs.size + 1)) (h' := s.heap.push PySem.W.emptyDict) (t' := s.toks) (fun b u q => Heap.get?_push_of_some _ q) (Nat.le_refl _) ⟨_, e1⟩
  refine I1.laid (a := s.heap.objs.size + 1) (o := .ins C s.heap.objs.size []) (t' := s.toks) (fun b u q => Heap.get?_push_of_some _ q) (Nat.le_of_eq (Heap.size_push _ _)) ?_
  have ne : s.heap.objs.size ≠ s.heap.objs.size + 1 := Nat.ne_of_lt (Nat.lt_succ_self _)
  refine ⟨by rw [upd_ne ne, upd_same], Nat.zero_le _, ne, e2, fun _ => none, (Heap.Ns1.of_empty e3).at fun o q => Heap.get?_push_of_some _ q, fun _ => True.intro, fun y hy => absurd rfl hy⟩
theorem attr_of {prog : Program} {w : World} {env : Env} {e : Expr} {f : Str} {pos : Pos} {s : Shared} {Q : Value → Shared → Prop} (hb : attributeBase e f env (eval e env) = eval e env)
    (h : wpAny (model prog w) A (eval e env) (fun o s₁ => wpAny (model prog w) A (getAttr o f true) Q E s₁) E s) : wpAny (model prog w) A (eval (.Attribute e f pos) env) Q E s :=
  Attribute_any_ h (by rw [arm_eval_Attribute, hb])
end
def tFld (K : PySem.W.Frag) (ta : TE) (f : Str) : TE := fun σ H Q => ta σ H fun x H1 => ∃ a C dx fs v, x = .ref a ∧ H1 a = some (.ins C dx fs) ∧ Cls K C ∧ NoAttr K C f ∧ fs.lookup f = some v ∧ Q v H1
def sFld (K : PySem.W.Frag) (ta tv : TE) (f : Str) : TS := fun D σ H => tv σ H fun y H1 => ta σ H1 fun x H2 => ∃ a C dx fs, x = .ref a ∧ H2 a = some (.ins C dx fs) ∧ Cls K C ∧ NoAttr K C f ∧ fs.length < 1000 ∧
  D.nx σ (upd H2 a (.ins C dx (putF f y fs)))
section
variable {X : Cx} {o e value : Expr} {f : Str} {pos pos' tpos : Pos} {ta tv : TE}
theorem pe_fld (he : PE X e ta) (hb : attributeBase e f X.env (eval e X.env) = eval e X.env) : PE X (.Attribute e f pos) (tFld X.K ta f) := by
  intro pins s σ H Q I h
  refine attr_of hb (thn (he pins s σ H _ I h) fun u s1 ⟨x, H1, I1, rx, a, C, dx, fs, v, ex, ea, c, n, l, q⟩ => ?_)
  subst ex
  obtain rfl : u = Value.ref a := rx
  exact getattr_ok I1 ea c n l fun u' s2 I2 ru => ⟨v, H1, I2, ru, q⟩
theorem ps_fld (ha : PE X o ta) (hv : PE X value tv) (hs : swapsWith value (some (.Attribute o f pos')) pos.line X.env = pure false) : PS X (.Assign [.Attribute o f pos'] value pos) (sFld X.K ta tv f) := by
  intro pins s σ H D I h
  refine plainObj_wpAny_Assign_Attribute (thn (hv pins s σ H _ I h) fun u s1 ⟨y, H1, I1, ry, q⟩ => thn (ha pins s1 σ H1 _ I1 q) fun ov s2 ⟨x, H2, I2, rx, a, C, dx, fs, ex, ea, c, n, l, q2⟩ => ?_) hs
  subst ex
  obtain rfl : ov = Value.ref a := rx
  exact setattr_ok I2 ea c n l ry fun s3 I3 => ⟨σ, _, I3, q2⟩
theorem methcall_of {pl : Sem Bool} {m : Str} {apos : Pos} {args : List Expr} {pins : List (Addr × Obj)} {s : Shared} {σ : St} {H : Hp} {Q : Value → Shared → Prop} {te : TE} (he : PE X e te) (I : Inv X pins σ H s)
    (h : te σ H fun x H1 => ∃ a C dx fs g, x = .ref a ∧ H1 a = some (.ins C dx fs) ∧ Cls X.K C ∧ Meth X.K C m g ∧ fs.lookup m = none ∧
      ∀ s1, Inv X pins σ H1 s1 → wpAny (model X.prog X.w) X.A (callWith pos (.ref g) [.ref a] (backTo pos (starEach args X.env)) (backToKw pos (keywordEach [] X.env))) Q X.xe s1)
    (ht : eval (.Call (.Attribute e m apos) args [] pos) X.env = (do
      let ov ← eval e X.env
      standAt apos.atName
      let (f, first) ← holding [ov] (getMethod ov m pl)
      callWith pos f first (backTo pos (starEach args X.env)) (backToKw pos (keywordEach [] X.env)))) :
    wpAny (model X.prog X.w) X.A (eval (.Call (.Attribute e m apos) args [] pos) X.env) Q X.xe s := by
  refine PySem.W.methodCall_KW (pl := pl) (thn (he pins s σ H _ I h) fun u s1 ⟨x, H1, I1, rx, a, C, dx, fs, g, ex, ea, c, k, l, q⟩ => ?_) ht
  subst ex
  obtain rfl : u = Value.ref a := rx
  exact getmeth_ok I1 ea c k l (q s1 I1)
end
section
variable {X : Cx} {pins : List (Addr × Obj)} {σ : St} {H : Hp} {s : Shared} {A : Around} {E : Value → Shared → Prop} {Q : Value → Shared → Prop} {c : Value} {b : Bool}
end
structure Room (k : Nat) (A : Around) : Prop where
  hd : A.handled = none
  dp : A.depth + 3 * k + 5 < recursionLimit
  un : A.units + 16 * k + 200 < cLine
theorem Room.mono {j k : Nat} {A : Around} (r : Room k A) (h : j ≤ k) : Room j A := ⟨r.hd, by have := r.dp; omega, by have := r.un; omega⟩
theorem Room.deeper {k : Nat} {A : Around} (r : Room (k + 1) A) (env : Env) : Room k (A.deeper env) :=
  ⟨r.hd, by have := r.dp; show A.depth + 1 + 3 * k + 5 < _; omega, by have := r.un; show A.units + 3 + 16 * k + 200 < _; omega⟩
theorem Room.in1 {k : Nat} {A : Around} (r : Room (k + 1) A) : Room k A.in1 :=
  ⟨r.hd, by have := r.dp; show A.depth + 3 * k + 5 < _; omega, by have := r.un; show A.units + 1 + 16 * k + 200 < _; omega⟩
theorem make_depth {A : Around} {C : Addr} {us : List Value} {kw : List (Str × Value)} : (A.under (.builtin "type.__call__" ⟨.ref C :: us, kw⟩)).depth = A.depth + 1 := by
  first | rfl | simp [Around.under, Code.weight, Code.isCreation, Code.isGuard, Code.isCaller, Code.frames, Code.isFrame, guardIds]
theorem make_units {A : Around} {C : Addr} {us : List Value} {kw : List (Str × Value)} : (A.under (.builtin "type.__call__" ⟨.ref C :: us, kw⟩)).units = A.units + 1 := by
  first | rfl | simp [Around.under, Code.cUnits, Code.frames, Code.isFrame]
theorem Room.make {k : Nat} {A : Around} (r : Room (k + 1) A) (C : Addr) (us : List Value) (kw : List (Str × Value)) : Room k (A.under (.builtin "type.__call__" ⟨.ref C :: us, kw⟩)) :=
  ⟨r.hd, by have := r.dp; rw [make_depth]; omega, by have := r.un; rw [make_units]; omega⟩
theorem Room.depth {k : Nat} {A : Around} (r : Room k A) : A.depth < recursionLimit := by have := r.dp; omega
theorem Room.units {k : Nat} {A : Around} (r : Room k A) : A.units + 64 < cLine := by have := r.un; omega
theorem Room.units0 {k : Nat} {A : Around} (r : Room k A) : A.units < cLine := by have := r.un; omega
def tNil : TA := fun _ H Q => Q [] H
def tCons (ta : TE) (tr : TA) : TA := fun σ H Q => ta σ H fun x H1 => tr σ H1 fun xs H2 => Q (x :: xs) H2
section
variable {X : Cx} {e : Expr} {es : List Expr} {te : TE} {t : TA} {pos : Pos}
theorem pa_nil : PA X [] tNil := fun _ _ _ _ H Q I h => Calls.spliced_nil ⟨[], H, I, .nil, h⟩
theorem pa_cons (ha : PE X e te) (hr : PA X es t) (hs : starEach (e :: es) X.env = (false, eval e X.env) :: starEach es X.env := by rfl) : PA X (e :: es) (tCons te t) := by
  intro pos pins s σ H Q I h
  rw [hs]
  show wpAny _ _ (spliced ((false, eval e X.env) :: backTo pos (starEach es X.env))) _ _ s
  refine Calls.spliced_cons (thn (ha pins s σ H _ I h) fun u s1 ⟨x, H1, I1, r1, q1⟩ => ?_)
  exact thn (hr pos pins s1 σ H1 _ I1 q1) fun us s2 ⟨xs, H2, I2, r2, q2⟩ => ⟨x :: xs, H2, I2, .cons r1 r2, q2⟩
def tTup (t : TA) : TE := fun σ H Q => t σ H fun xs H1 => xs.length ≤ sizeLine ∧ ∀ p, H1 p = none → Q (.ref p) (upd H1 p (.tup xs))
def tLst (t : TA) : TE := fun σ H Q => t σ H fun xs H1 => xs.length ≤ sizeLine ∧ ∀ p, H1 p = none → Q (.ref p) (upd H1 p (.lst xs))
theorem pe_tup {x1} (h : PA X es t) : PE X (.Tuple es x1 pos) (tTup t) := by
  intro pins s σ H Q I hq
  refine wpAny_Tuple_spliced (thn (h pos pins s σ H _ I hq) fun us s1 ⟨xs, H1, I1, r, z, q⟩ => ⟨by rw [← r.length]; exact z, ?_⟩)
  have hf : H1 s1.heap.objs.size = none := I1.hok.fresh (Nat.le_refl _)
  refine ⟨.ref s1.heap.objs.size, upd H1 s1.heap.objs.size (.tup xs), I1.laid (t' := s1.toks) (fun b u e => Heap.get?_push_of_some _ e) (Nat.le_refl _) ?_, rfl, q _ hf⟩
  exact ⟨z, us, r, ⟨_, Heap.get?_push_size _ rfl, rfl, _, rfl⟩, NoD.new _ _⟩
theorem pe_lst (h : PA X es t) : PE X (.List es pos) (tLst t) := by
  intro pins s σ H Q I hq
  refine wpAny_List_spliced (thn (h pos pins s σ H _ I hq) fun us s1 ⟨xs, H1, I1, r, z, q⟩ => ⟨by rw [← r.length]; exact z, ?_⟩)
  have hf : H1 s1.heap.objs.size = none := I1.hok.fresh (Nat.le_refl _)
  refine ⟨.ref s1.heap.objs.size, upd H1 s1.heap.objs.size (.lst xs), I1.laid (t' := s1.toks) (fun b u e => Heap.get?_push_of_some _ e) (Nat.le_refl _) ?_, rfl, q _ hf⟩
  exact ⟨z, us, 0, r, Heap.get?_push_size _ rfl⟩
end
abbrev Sp := List V → Hp → VK → XK → Prop
abbrev CXT := List Env → Hp → Shared → XK → Value → Shared → Prop
structure Env0 (P : Program) (w : World) (K : PySem.W.Frag) (mg : Str → Option Value) (base : Heap) (A : Around) (outer : List Env) (s : Shared) (H : Hp) : Prop where
  frames : A.frames = some outer
  mod : Mod K mg base
  bs : ∀ b o, base.get? b = some o → s.heap.get? b = some o ∧ H b = none
  bsz : base.objs.size ≤ s.heap.objs.size
  funs : s.heap.FunFrames base outer
  frf : ∀ b ∈ frs outer, H b = none
  hok : HOk P w H s.heap
  bare : AllBare s.gens
def CE (outer : List Env) (P : Program) (w : World) (H : Hp) (s : Shared) (Q : VK) (u : Value) (s' : Shared) : Prop :=
  ∃ v H', s'.os = s.os ∧ AllBare s'.gens ∧ Un (frs outer) [] H H' s.heap s'.heap ∧ HOk P w H' s'.heap ∧ RelV v u ∧ Q v H'
def CR (CX : CXT) (outer : List Env) (P : Program) (w : World) (H : Hp) (s : Shared) (Q : VK) (E : XK) (r : Result) (s' : Shared) : Prop :=
  match r with
  | .ok (.ret u) => CE outer P w H s Q u s'
  | .ok _ => False
  | .error e => CX outer H s E e s'
structure FnOk (P : Program) (w : World) (K : PySem.W.Frag) (mg : Str → Option Value) (base : Heap) (CX : CXT) (k : Nat) (f : Addr) (fd : FuncData) (ps : List Str) (sp : Sp) : Prop where
  len : ∀ vs H Q E, sp vs H Q E → vs.length = ps.length
  run : ∀ (A : Around) (outer : List Env) (s : Shared) (H : Hp) (args : Args) (us : List Value) (vs : List V) (Q : VK) (E : XK), Room k A → Env0 P w K mg base A outer s H → BindsTo s fd args (ps.zip us) → Vals vs us → sp vs H Q E →
    codeAny (model P w) A (.call (.ref f) args) (CR CX outer P w H s Q E) s
theorem FnOk.mono {P : Program} {w : World} {K : PySem.W.Frag} {mg : Str → Option Value} {base : Heap} {CX : CXT} {j k : Nat} {f : Addr} {fd : FuncData} {ps : List Str} {sp : Sp} (F : FnOk P w K mg base CX j f fd ps sp) (h : j ≤ k) :
    FnOk P w K mg base CX k f fd ps sp := ⟨F.len, fun A outer s H args us vs Q E hr => F.run A outer s H args us vs Q E (hr.mono h)⟩
theorem Env0.make {P : Program} {w : World} {K : PySem.W.Frag} {mg : Str → Option Value} {base : Heap} {A : Around} {outer : List Env} {s : Shared} {H : Hp} (e : Env0 P w K mg base A outer s H) (C : Addr) (us : List Value) (kw : List (Str × Value)) :
    Env0 P w K mg base (A.under (.builtin "type.__call__" ⟨.ref C :: us, kw⟩)) outer s H := ⟨by first | exact e.frames | (simpa [Around.under, Code.envs, Code.isFrame, pushEnvs] using e.frames), e.mod, e.bs, e.bsz, e.funs, e.frf, e.hok, e.bare⟩
section
variable {X : Cx} {pins : List (Addr × Obj)} {σ : St} {H : Hp} {s s' : Shared}
theorem Inv.env0 (I : Inv X pins σ H s) : Env0 X.prog X.w X.K X.mg X.base X.A X.stack s H :=
  ⟨I.ok.frames, I.ok.mod, I.bs, Nat.le_trans I.ok.bsz I.sz, I.stack, I.stkFree, I.hok, I.bare⟩
theorem Inv.after {Q : VK} {u : Value} (I : Inv X pins σ H s) (h : CE X.stack X.prog X.w H s Q u s') : EP X pins σ Q u s' := by
  obtain ⟨v, H', os, bare, un, hok, r, q⟩ := h
  obtain ⟨hh, g, d, t, os'⟩ := s'
  obtain rfl : os' = s.os := os
  exact ⟨v, H', I.call (h' := hh) (g' := g) (d' := d) (t' := t) (ch := []) un hok bare (fun b z => absurd z (by simp)), r, q⟩
end
def tCall (sp : Sp) (dvs : List V) (E : XK) (t : TA) : TE := fun σ H Q => t σ H fun vs H1 => sp (vs ++ dvs) H1 Q E
def tMeth (C : Addr) (m : Str) (sp : Sp) (dvs : List V) (E : XK) (ta : TE) (t : TA) : TE := fun σ H Q => ta σ H fun x H1 => ∃ a dx fs, x = .ref a ∧ H1 a = some (.ins C dx fs) ∧ fs.lookup m = none ∧
  t σ H1 fun vs H2 => sp (x :: (vs ++ dvs)) H2 Q E
def tMake (C : Addr) (sp : Sp) (dvs : List V) (E : XK) (t : TA) : TE := fun σ H Q => t σ H fun vs H1 => ∀ x dx, H1 x = none → H1 dx = none → dx ≠ x →
  sp (.ref x :: (vs ++ dvs)) (upd (upd H1 dx (.own x)) x (.ins C dx [])) (fun v H2 => v = .non ∧ Q (.ref x) H2) E
def Binds (K : PySem.W.Frag) (fd : FuncData) (ps : List Str) (ds : List Value) : Prop :=
  ∀ (s : Shared) (us : List Value), K.In s.heap → (us ++ ds).length = ps.length → BindsTo s fd ⟨us, []⟩ (ps.zip (us ++ ds))
theorem Binds.all {K : PySem.W.Frag} {fd : FuncData} {ps : List Str} (h : ∀ us : List Value, us.length = ps.length → bindArgs fd ⟨us, []⟩ = pure (ps.zip us)) : Binds K fd ps [] := fun s us _ hl => by
  rw [List.append_nil] at hl ⊢
  exact .of_eq (h us hl)
def Passes (CX : CXT) (X : Cx) (E : XK) : Prop := ∀ (pins : List (Addr × Obj)) (σ : St) (H : Hp) (s : Shared) (e : Value) (s' : Shared), Inv X pins σ H s → CX X.stack H s E e s' → X.xe e s'
section
variable {X : Cx} {CX : CXT} {k : Nat} {f C : Addr} {fd : FuncData} {ps : List Str} {sp : Sp} {dvs : List V} {ds : List Value} {E : XK} {x m : Str} {p pos apos : Pos} {e o : Expr} {es : List Expr} {ta : TE} {t : TA}
theorem run_fn {pins : List (Addr × Obj)} {σ : St} {H : Hp} {s : Shared} {Q : VK} {us : List Value} {vs : List V} (F : FnOk X.prog X.w X.K X.mg X.base CX k f fd ps sp) (hr : Room k X.A) (hb : Binds X.K fd ps ds) (hd : Vals dvs ds) (hx : Passes CX X E)
    (I : Inv X pins σ H s) (r : Vals vs us) (h : sp (vs ++ dvs) H Q E) : wpAny (model X.prog X.w) X.A (call (.ref f) us) (EP X pins σ Q) X.xe s := by
  have r2 : Vals (vs ++ dvs) (us ++ ds) := r.append hd
  have hl : (us ++ ds).length = ps.length := by rw [← r2.length]; exact F.len _ _ _ _ h
  refine wpAny_call (codeAny_mono (F.run X.A X.stack s H ⟨us, []⟩ (us ++ ds) (vs ++ dvs) Q E hr I.env0 (hb s us I.kIn hl) r2 h) fun r s' hq => ?_)
  cases r with
  | error e => exact hx pins σ H s e s' I hq
  | ok fl =>
    cases fl with
    | ret u => exact I.after hq
    | next => exact False.elim hq
    | brk => exact False.elim hq
    | cont => exact False.elim hq
theorem pe_call (F : FnOk X.prog X.w X.K X.mg X.base CX k f fd ps sp) (hr : Room k X.A) (hg : Gl X x) (hm : X.mg x = some (.ref f)) (hk : PySem.W.keepIn X.K (.ref f) = true) (hb : Binds X.K fd ps ds) (hd : Vals dvs ds) (hx : Passes CX X E)
    (ha : PA X (e :: es) t) (hdb : (x == ("__debug__" : Str)) = false := by decide) (he : starEach (e :: es) X.env = (false, eval e X.env) :: starEach es X.env := by rfl) (hpl : (backTo pos (starEach es X.env)).any (·.1) = false := by rfl) :
    PE X (.Call (.Name x p) (e :: es) [] pos) (tCall sp dvs E t) := by
  intro pins s σ H Q I h
  refine wpAny_Call_Name_kw (ld_glob I hg hm ?_ hdb)
  refine PySem.W.callWith_K (h₀ := X.base) I.ok.mod.kin hk (thn (ha pos pins s σ H _ I h) fun us s1 ⟨vs, H1, I1, r, q⟩ => ⟨I1.kIn, ?_⟩) he hpl
  exact run_fn F hr hb hd hx I1 r q
theorem pe_meth {pl : Sem Bool} (he : PE X o ta) (c : Cls X.K C) (hm : Meth X.K C m f) (F : FnOk X.prog X.w X.K X.mg X.base CX k f fd ps sp) (hr : Room k X.A) (hb : Binds X.K fd ps ds) (hd : Vals dvs ds) (hx : Passes CX X E) (ha : PA X (e :: es) t)
    (hst : starEach (e :: es) X.env = (false, eval e X.env) :: starEach es X.env := by rfl) (hpl : (backTo pos (starEach es X.env)).any (·.1) = false := by rfl)
    (ht : eval (.Call (.Attribute o m apos) (e :: es) [] pos) X.env = (do
      let ov ← eval o X.env
      standAt apos.atName
      let (f, first) ← holding [ov] (getMethod ov m pl)
      callWith pos f first (backTo pos (starEach (e :: es) X.env)) (backToKw pos (keywordEach [] X.env))) := by rfl) :
    PE X (.Call (.Attribute o m apos) (e :: es) [] pos) (tMeth C m sp dvs E ta t) := by
  intro pins s σ H Q I h
  refine PySem.W.methodCall_KW (pl := pl) (thn (he pins s σ H _ I h) fun u s1 ⟨x, H1, I1, rx, a, dx, fs, ex, ea, l, q⟩ => ?_) ht
  subst ex
  obtain rfl : u = Value.ref a := rx
  refine getmeth_ok I1 ea c hm l ?_
  refine PySem.W.callWith_K (first := [.ref a]) (h₀ := X.base) I.ok.mod.kin hm.kp (thn (ha pos pins s1 σ H1 _ I1 q) fun us s2 ⟨vs, H2, I2, r, q2⟩ => ⟨I2.kIn, ?_⟩) hst hpl
  exact run_fn (us := .ref a :: us) (vs := .ref a :: vs) F hr hb hd hx I2 (.cons rfl r) q2
theorem pe_meth0 {pl : Sem Bool} (he : PE X o ta) (c : Cls X.K C) (hm : Meth X.K C m f) (F : FnOk X.prog X.w X.K X.mg X.base CX k f fd ps sp) (hr : Room k X.A) (hb : Binds X.K fd ps ds) (hd : Vals dvs ds) (hx : Passes CX X E)
    (ht : eval (.Call (.Attribute o m apos) [] [] pos) X.env = (do
      let ov ← eval o X.env
      standAt apos.atName
      let (f, first) ← holding [ov] (getMethod ov m pl)
      callWith pos f first (backTo pos (starEach [] X.env)) (backToKw pos (keywordEach [] X.env))) := by rfl) :
    PE X (.Call (.Attribute o m apos) [] [] pos) (tMeth C m sp dvs E ta tNil) := by
  intro pins s σ H Q I h
  refine PySem.W.methodCall_KW (pl := pl) (thn (he pins s σ H _ I h) fun u s1 ⟨x, H1, I1, rx, a, dx, fs, ex, ea, l, q⟩ => ?_) ht
  subst ex
  obtain rfl : u = Value.ref a := rx
  refine getmeth_ok I1 ea c hm l ?_
  exact PySem.W.callWith_K0 (first := [.ref a]) I1.kIn hm.kp (run_fn (us := [.ref a]) (vs := [.ref a]) F hr hb hd hx I1 (.cons rfl .nil) q)
structure Mk (K : PySem.W.Frag) (C f : Addr) : Prop where
  makes : PySem.W.makesIn K C = true
  init : PySem.W.findIn K (.ref C) "__init__" = some (some (.ref f))
  fn : PySem.W.isFn K (.ref f) = true
  kp : PySem.W.keepIn K (.ref C) = true
theorem run_make {pins : List (Addr × Obj)} {σ : St} {H : Hp} {s : Shared} {Q : VK} {us : List Value} {vs : List V} (M : Mk X.K C f) (F : FnOk X.prog X.w X.K X.mg X.base CX k f fd ps sp) (hr : Room (k + 1) X.A) (hb : Binds X.K fd ps ds) (hd : Vals dvs ds)
    (hx : Passes CX X E) (I : Inv X pins σ H s) (r : Vals vs us)
    (h : ∀ x dx, H x = none → H dx = none → dx ≠ x → sp (.ref x :: (vs ++ dvs)) (upd (upd H dx (.own x)) x (.ins C dx [])) (fun v H2 => v = .non ∧ Q (.ref x) H2) E) :
    wpAny (model X.prog X.w) X.A (call (.ref C) us) (EP X pins σ Q) X.xe s := by
  have hq := h (s.heap.objs.size + 1) s.heap.objs.size (I.hok.fresh (Nat.le_succ _)) (I.hok.fresh (Nat.le_refl _)) (Nat.ne_of_lt (Nat.lt_succ_self _))
  have I2 := Inv.made (C := C) I
  have r2 : Vals (V.ref (s.heap.objs.size + 1) :: (vs ++ dvs)) (Value.ref (s.heap.objs.size + 1) :: (us ++ ds)) := .cons rfl (r.append hd)
  have hl : (Value.ref (s.heap.objs.size + 1) :: us ++ ds).length = ps.length := by
    have e := r2.length
    rw [F.len _ _ _ _ hq] at e
    exact e.symm
  refine wpAny_call (make_map (f := f) I.kIn M.makes M.init (beq_iff_eq.mp M.fn) (codeAny_mono (F.run _ X.stack _ _ ⟨Value.ref (s.heap.objs.size + 1) :: us, []⟩ (Value.ref (s.heap.objs.size + 1) :: (us ++ ds)) _ _ E (hr.make C us [])
    (I2.env0.make C us []) (hb _ (Value.ref (s.heap.objs.size + 1) :: us) I2.kIn hl) r2 hq) fun r s' hq' => ?_))
  cases r with
  | error e => exact hx pins σ _ _ e s' I2 hq'
  | ok fl =>
    cases fl with
    | ret u =>
      obtain ⟨v, H', I3, rv, ev, q3⟩ := I2.after hq'
      subst ev
      exact ⟨rv, ⟨V.ref (s.heap.objs.size + 1), H', I3, rfl, q3⟩⟩
    | next => exact False.elim hq'
    | brk => exact False.elim hq'
    | cont => exact False.elim hq'
theorem pe_make0 (M : Mk X.K C f) (F : FnOk X.prog X.w X.K X.mg X.base CX k f fd ps sp) (hr : Room (k + 1) X.A) (hg : Gl X x) (hm : X.mg x = some (.ref C)) (hb : Binds X.K fd ps ds) (hd : Vals dvs ds) (hx : Passes CX X E)
    (hdb : (x == ("__debug__" : Str)) = false := by decide) : PE X (.Call (.Name x p) [] [] pos) (tMake C sp dvs E tNil) := by
  intro pins s σ H Q I h
  refine wpAny_Call_Name_kw (ld_glob I hg hm ?_ hdb)
  exact PySem.W.callWith_K0 I.kIn M.kp (run_make (us := []) M F hr hb hd hx I .nil h)
end
def PK (X : Cx) (kws : List Keyword) (t : TA) : Prop :=
  ∀ (pos : Pos) (pins : List (Addr × Obj)) (s : Shared) (σ : St) (H : Hp) (Q : List V → Hp → Prop), Inv X pins σ H s → t σ H Q → wpAny (model X.prog X.w) X.A (evalAll ((backToKw pos (keywordEach kws X.env)).map (·.2))) (AP X pins σ Q) X.xe s
section
variable {X : Cx} {CX : CXT} {k : Nat} {f C : Addr} {fd : FuncData} {ps ks : List Str} {sp : Sp} {E : XK} {x m : Str} {p pos apos kpos : Pos} {e o : Expr} {es : List Expr} {kws : List Keyword} {te ta : TE} {t tk : TA} {nm : Option Str}
theorem pk_nil : PK X [] tNil := fun _ _ _ _ H Q I h => wpAny_evalAll_nil ⟨[], H, I, .nil, h⟩
theorem pk_cons (ha : PE X e te) (hr : PK X kws t) : PK X (⟨nm, e, kpos⟩ :: kws) (tCons te t) := by
  intro pos pins s σ H Q I h
  show wpAny _ _ (evalAll ((do let v ← eval e X.env; standAt pos; pure v) :: (backToKw pos (keywordEach kws X.env)).map (·.2))) _ _ s
  refine wpAny_evalAll_cons (wpAny_bind (thn (ha pins s σ H _ I h) fun u s1 ⟨x, H1, I1, r1, q1⟩ => wpAny_bind (wpAny_standAt (wpAny_pure ?_))))
  exact thn (hr pos pins s1 σ H1 _ I1 q1) fun us s2 ⟨xs, H2, I2, r2, q2⟩ => ⟨x :: xs, H2, I2, .cons r1 r2, q2⟩
variable {g : List Value → List Value → List Value} {gV : List V → List V → List V}
end
structure FnScope (N P : List Str) (sc : Scope) : Prop where
  kind : sc.kind = .function
  co : sc.isCoroutine = false
  gen : sc.isGenerator = false
  nd : N.Nodup
  pre : N.take P.length = P
  par : ∀ x ∈ P, sc.names.lookup x = some .local ∨ sc.names.lookup x = some .cell
  nofree : ∀ y ∈ sc.names, y.2 ≠ .free
theorem bindL_out {kindOf : Str → Option NameKind} {x : Str} : ∀ {binds : List (Str × Value)} {m : Str → Option Value}, (∀ v, (x, v) ∉ binds) → bindL kindOf binds m x = m x
  | [], _, _ => rfl
  | (n, v) :: r, m, h => by
    unfold bindL
    rw [bindL_out fun w hw => h w (List.mem_cons_of_mem _ hw)]
    split
    · have : x ≠ n := by rintro rfl; exact h v List.mem_cons_self
      simp [this]
    · rfl
theorem bindC_out {kindOf : Str → Option NameKind} {x : Str} : ∀ {binds : List (Str × Value)} {m : Str → Option Value}, (∀ v, (x, v) ∉ binds) → bindC kindOf binds m x = m x
  | [], _, _ => rfl
  | (n, v) :: r, m, h => by
    unfold bindC
    rw [bindC_out fun w hw => h w (List.mem_cons_of_mem _ hw)]
    split
    · rfl
    · have : x ≠ n := by rintro rfl; exact h v List.mem_cons_self
      simp [this]
theorem bindL_get {kindOf : Str → Option NameKind} {x : Str} {v : Value} : ∀ {P : List Str} {vs : List Value} {i : Nat} {m : Str → Option Value}, P.Nodup → P[i]? = some x → vs[i]? = some v → kindOf x = some .local →
    bindL kindOf (P.zip vs) m x = some v
  | [], _, _, _, _, h, _, _ => by simp at h
  | _ :: _, [], _, _, _, _, h, _ => by simp at h
  | p :: P, w :: vs, 0, m, nd, h1, h2, hk => by
    simp at h1 h2; subst h1; subst h2
    show bindL kindOf ((p, w) :: P.zip vs) m p = _
    unfold bindL
    rw [bindL_out fun v hv => (List.nodup_cons.mp nd).1 (List.of_mem_zip hv).1, if_pos hk]
    simp
  | p :: P, w :: vs, i + 1, m, nd, h1, h2, hk => by
    show bindL kindOf ((p, w) :: P.zip vs) m x = _
    unfold bindL
    exact bindL_get (i := i) (List.nodup_cons.mp nd).2 (by simpa using h1) (by simpa using h2) hk
theorem bindC_get {kindOf : Str → Option NameKind} {x : Str} {v : Value} : ∀ {P : List Str} {vs : List Value} {i : Nat} {m : Str → Option Value}, P.Nodup → P[i]? = some x → vs[i]? = some v → kindOf x ≠ some .local →
    bindC kindOf (P.zip vs) m x = some v
  | [], _, _, _, _, h, _, _ => by simp at h
  | _ :: _, [], _, _, _, _, h, _ => by simp at h
  | p :: P, w :: vs, 0, m, nd, h1, h2, hk => by
    simp at h1 h2; subst h1; subst h2
    show bindC kindOf ((p, w) :: P.zip vs) m p = _
    unfold bindC
    rw [bindC_out fun v hv => (List.nodup_cons.mp nd).1 (List.of_mem_zip hv).1, if_neg hk]
    simp
  | p :: P, w :: vs, i + 1, m, nd, h1, h2, hk => by
    show bindC kindOf ((p, w) :: P.zip vs) m x = _
    unfold bindC
    exact bindC_get (i := i) (List.nodup_cons.mp nd).2 (by simpa using h1) (by simpa using h2) hk
def start (N : List Str) (vs : List V) : St := vs.map some ++ List.replicate (N.length - vs.length) none
def cxOf (CX : CXT) (P : Program) (w : World) (K : PySem.W.Frag) (mg : Str → Option Value) (base : Heap) (N : List Str) (qual : Str) (scope : Scope) (f : Addr) (cd : Value) (A : Around) (outer : List Env) (s : Shared) (H : Hp) (E : XK) : Cx where
  prog := P
  w := w
  K := K
  mg := mg
  base := base
  A := A.deeper (envOfC qual scope s.heap.objs.size f cd)
  N := N
  s₀ := s
  H₀ := H
  env := envOfC qual scope s.heap.objs.size f cd
  outer := outer
  stack := envOfC qual scope s.heap.objs.size f cd :: outer
  ex := []
  calm := true
  fn := fun _ => true
  pn := []
  xe := fun e s' => wpAny (model P w) (A.deeper (envOfC qual scope s.heap.objs.size f cd)) (leaving (envOfC qual scope s.heap.objs.size f cd) e) (fun _ s'' => CX outer H s E e s'') (fun e' s'' => CX outer H s E e' s'') s'
theorem cell_has {sc : Scope} {n : Nat} {x : Str} (h : sc.names.lookup x = some .cell) : ∃ c, (cellsFrom n sc.names []).lookup x = some c := by
  have q := PySem.W.cellsFrom_some sc.names n [] (.inl h)
  exact Option.isSome_iff_exists.mp q
theorem inv_start {CX : CXT} {P : Program} {w : World} {K : PySem.W.Frag} {mg : Str → Option Value} {base : Heap} {N ps : List Str} {qual : Str} {scope : Scope} {f : Addr} {cd : Value} {A : Around} {outer : List Env} {s s1 : Shared} {H : Hp} {E : XK} {us : List Value} {vs : List V}
    (S : FnScope N ps scope) (hd : A.handled = none) (e0 : Env0 P w K mg base A outer s H) (hl : vs.length = ps.length) (r : Vals vs us)
    (x : InCallC s s.heap.objs.size (bindL (envOfC qual scope s.heap.objs.size f cd).kindOf (ps.zip us) fun _ => none) (cellsFrom (s.heap.objs.size + 1) scope.names []) (bindC (envOfC qual scope s.heap.objs.size f cd).kindOf (ps.zip us) fun _ => none) s1) :
    Inv (cxOf CX P w K mg base N qual scope f cd A outer s H E) [] (start N vs) H s1 := by
  have hpl : ps.length ≤ N.length := by have := congrArg List.length S.pre; rw [List.length_take] at this; omega
  obtain ⟨h1, tk, rfl, hk⟩ := x.done
  have noA : ∀ b : Addr, b ∉ (cxOf CX P w K mg base N qual scope f cd A outer s H E).ex := fun b z => absurd (show b ∈ ([] : List Addr) from z) (by simp)
  refine ⟨⟨e0.mod, S.kind, rfl, rfl, Nat.le_refl _, fun y z c h1 h2 => ?_, fun y hy => ?_, fun y c _ h => ?_, fun _ => hd, Around.frames_deeper e0.frames, .inr ⟨rfl, rfl⟩, fun b z => absurd z (noA b), e0.bs, e0.bsz, fun b _ _ => noA b, fun b z => absurd z (noA b), e0.funs, e0.frf⟩,
    rfl, e0.bare, Un.kept hk, ⟨_, x.toInCall.ns, fun i y v h1 h2 h3 => ?_⟩, fun y c h => ⟨_, x.cell y c h⟩, e0.hok.fresh (Nat.le_refl _), fun y c h => ?_, fun p hp => absurd (show p ∈ ([] : List (Addr × Obj)) from hp) (by simp), e0.hok.kept hk, ?_⟩
  · exact name_of_addr x.apart (PySem.mem_of_lookup h1) (PySem.mem_of_lookup h2)
  · have hy : scope.names.lookup y = some .cell ∨ scope.names.lookup y = some .free := hy
    rcases hy with hy | hy
    · exact cell_has hy
    · exact absurd rfl (S.nofree _ (PySem.mem_of_lookup hy))
  · exact Nat.le_of_lt (x.above y c (PySem.mem_of_lookup h))
  · have hi : i < vs.length := by
      unfold start at h2
      by_cases hi : i < vs.length
      · exact hi
      · rw [List.getElem?_append_right (by simpa using hi)] at h2
        rw [List.getElem?_replicate] at h2
        split at h2 <;> cases h2
    have ha : vs[i]? = some v := by
      unfold start at h2
      rw [List.getElem?_append_left (by simpa using hi), List.getElem?_map] at h2
      cases e : vs[i]? with
      | none => rw [e] at h2; cases h2
      | some a => rw [e] at h2; cases h2; rfl
    obtain ⟨u, hu, rv⟩ := r.get ha
    have hp : ps[i]? = some y := by
      rw [← S.pre, List.getElem?_take_of_lt (by omega)]; exact h1
    have ndP : ps.Nodup := by rw [← S.pre]; exact S.nd.sublist (List.take_sublist _ _)
    refine ⟨u, rv, ?_⟩
    rcases S.par y (List.mem_of_getElem? hp) with k | k
    · exact .inl ⟨k, bindL_get ndP hp hu k⟩
    · obtain ⟨c, e⟩ := cell_has (n := s.heap.objs.size + 1) k
      refine .inr ⟨.inl k, c, e, ?_⟩
      have q := x.cell y c e
      rw [bindC_get ndP hp hu (by show scope.names.lookup y ≠ _; rw [k]; decide)] at q
      exact q
  · exact e0.hok.fresh (Nat.le_of_lt (x.above y c (PySem.mem_of_lookup h)))
  · unfold start
    show _ = N.length
    rw [List.length_append, List.length_map, List.length_replicate]
    omega
theorem fn_of {CX : CXT} {P : Program} {w : World} {K : PySem.W.Frag} {mg : Str → Option Value} {base : Heap} {k : Nat} {f : Addr} {name qual : Str} {params : Arguments} {body : List Stmt} {scope : Scope} {dV kV doc pm cdv ct oc : Value} {an od : Option Addr}
    {osl : Array (Option Value)} {N ps : List Str} {sp : Sp} (lk : K.lookup f = some ⟨oc, od, .func (PySem.W.fnOf name qual params body scope dV kV doc pm an cdv ct), osl⟩) (hcd : PySem.W.codeIn K cdv qual = true) (S : FnScope N ps scope)
    (len : ∀ vs H Q E, sp vs H Q E → vs.length = ps.length)
    (hbody : ∀ (A : Around) (outer : List Env) (s : Shared) (H : Hp) (vs : List V) (Q : VK) (E : XK), Room k (A.deeper (envOfC qual scope s.heap.objs.size f cdv)) → sp vs H Q E →
      ∃ t, PSs (cxOf CX P w K mg base N qual scope f cdv A outer s H E) body t ∧ t { nx := fun _ H' => Q .non H', rt := Q } (start N vs) H) :
    FnOk P w K mg base CX (k + 1) f (PySem.W.fnOf name qual params body scope dV kV doc pm an cdv ct) ps sp := by
  refine ⟨len, fun A outer s H args us vs Q E hr e0 hb r hsp => ?_⟩
  have hl := len _ _ _ _ hsp
  have KX : K.In s.heap := e0.mod.kin.keeps fun b o e => (e0.bs b o e).1
  have lim : s.heap.NoLimit := e0.mod.nolimit.keeps fun b o e => (e0.bs b o e).1
  have hkind : ∀ y ∈ ps.zip us, scope.names.lookup y.1 = some .local ∨ (scope.names.lookup y.1 = some .cell ∧ ((cellsFrom (s.heap.objs.size + 1) scope.names []).lookup y.1).isSome = true) := fun ⟨n, v⟩ hy => by
    rcases S.par n (List.of_mem_zip hy).1 with q | q
    · exact .inl q
    · exact .inr ⟨q, PySem.W.cellsFrom_some _ _ _ (.inl q)⟩
  refine codeAny_call_function hr.depth (KX _ _ lk) rfl S.co S.gen rfl (PySem.W.codeRec_of KX hcd) (hb _ _ _ _ ?_)
  refine wpAny_newFunctionEnv_cells S.kind hkind fun env he s1 x => ?_
  subst he
  refine ⟨lim.keeps x.toInCall.keep, codeAny_func ?_⟩
  obtain ⟨t, ht, hq⟩ := hbody A outer s H vs Q E (hr.deeper _) hsp
  have I : Inv (cxOf CX P w K mg base N qual scope f cdv A outer s H E) [] (start N vs) H s1 := inv_start S hr.hd e0 hl r x
  refine wpAny_mono (ht [] s1 (start N vs) H _ I hq) (fun fl s' hs => ?_) fun e s' hs => hs
  have fin : ∀ {σ' : St} {H' : Hp} {v : V} {u : Value}, Inv (cxOf CX P w K mg base N qual scope f cdv A outer s H E) [] σ' H' s' → RelV v u → Q v H' → CE outer P w H s Q u s' :=
    fun {σ' H' v u} J rv q => ⟨v, H', J.os, J.bare, J.base, J.hok, rv, q⟩
  cases fl with
  | ret u =>
    obtain ⟨v, σ', H', J, rv, q⟩ := hs
    exact fin J rv q
  | next =>
    obtain ⟨σ', H', J, q⟩ := hs
    exact fin (v := V.non) (u := Value.none) J rfl q
  | brk =>
    obtain ⟨_, _, _, q⟩ := hs
    exact False.elim q
  | cont =>
    obtain ⟨_, _, _, q⟩ := hs
    exact False.elim q
section
variable {X : Cx} {x : Str} {p pos : Pos} {e : Expr} {es : List Expr} {t : TA} {id T : String} {r : List V → Hp → VK → Prop}
def tCB (r : List V → Hp → VK → Prop) (t : TA) : TE := fun σ H Q => t σ H fun vs H1 => r vs H1 Q
theorem pe_callB (hc : CallR X (.builtin id) r) (hg : Gl X x) (hm : X.mg x = none) (hv : bootBuiltins x = some (.builtin id)) (ha : PA X (e :: es) t) (hn : x ≠ "__name__" := by decide) (hdb : (x == ("__debug__" : Str)) = false := by decide)
    (he : starEach (e :: es) X.env = (false, eval e X.env) :: starEach es X.env := by rfl) (hpl : (backTo pos (starEach es X.env)).any (·.1) = false := by rfl) : PE X (.Call (.Name x p) (e :: es) [] pos) (tCB r t) := by
  intro pins s σ H Q I h
  refine wpAny_Call_Name_kw (ld_blt I hg hm hv ?_ hn hdb)
  exact PyProof.Rows.callWith_builtin1 (thn (ha pos pins s σ H _ I h) fun us s1 ⟨vs, H1, I1, r1, q1⟩ => hc pins s1 σ H1 vs us Q I1 r1 q1) he hpl
theorem pe_callTy (hc : CallR X (.type T) r) (hg : Gl X x) (hm : X.mg x = none) (hv : bootBuiltins x = some (.type T)) (ha : PA X (e :: es) t) (hn : x ≠ "__name__" := by decide) (hdb : (x == ("__debug__" : Str)) = false := by decide)
    (he : starEach (e :: es) X.env = (false, eval e X.env) :: starEach es X.env := by rfl) (hpl : (backTo pos (starEach es X.env)).any (·.1) = false := by rfl) : PE X (.Call (.Name x p) (e :: es) [] pos) (tCB r t) := by
  intro pins s σ H Q I h
  refine wpAny_Call_Name_kw (ld_blt I hg hm hv ?_ hn hdb)
  exact PyProof.Rows.callWith_type1 (thn (ha pos pins s σ H _ I h) fun us s1 ⟨vs, H1, I1, r1, q1⟩ => hc pins s1 σ H1 vs us Q I1 r1 q1) he hpl
end
end L2
namespace HT
open PySem PyProof.Rows
def lexLt : List Int → List Int → Bool
  | [], [] => false
  | [], _ :: _ => true
  | _ :: _, [] => false
  | x :: xs, y :: ys => if x = y then lexLt xs ys else decide (x < y)
theorem lexLt_cons (x y : Int) (xs ys : List Int) : lexLt (x :: xs) (y :: ys) = if x = y then lexLt xs ys else decide (x < y) := rfl
theorem rcLt_int (A : Around) (s : Shared) (a : Int) (t : Tok) (c : Int) (u : Tok) (prog : Program) (w : World) (E : Value → Shared → Prop) (Q : Value → Shared → Prop) (h : Q (.bool (decide (a < c))) s) :
    wpAny (model prog w) A (richCompare .Lt (.int a t) (.int c u)) Q E s :=
  (PyProof.Rows.lt_int h : wpAny (model prog w) A (compareOp .Lt (.int a t) (.int c u)) Q E s)
section
open PySem.SeqAt
open PySem.AutoSeq1 (wpAny_loadPart')
open PySem.MeetsSeq PySem.MeetsSeq2 PySem.MeetsSeq3
end
section
variable {prog : Program} {w : World} {A : Around} {E : Value → Shared → Prop} {s : Shared}
theorem cat_tup {t b : Addr} {vs ws : List Value} {Q : Value → Shared → Prop} (ht : IsTup s.heap t vs.toArray) (hb : IsTup s.heap b ws.toArray) (hv : vs ≠ [])
    (h1 : ws = [] → Q (.ref t) s) (h2 : ws ≠ [] → Q (.ref s.heap.objs.size) { s with heap := s.heap.push { cls := .type "tuple", data := .seq (vs ++ ws).toArray } })
    (hsz : vs.length + ws.length ≤ sizeLine) : wpAny (model prog w) A (binaryOp .Add (.ref t) (.ref b)) Q E s := by
  obtain ⟨⟨cls, dd, data, sl⟩, ho, hc, n, hd⟩ := id ht
  obtain ⟨⟨cls2, dd2, data2, sl2⟩, ho2, hc2, n2, hd2⟩ := id hb
  simp only at hc hd hc2 hd2
  subst hc hd hc2 hd2
  have e : vs.toArray ++ ws.toArray = (vs ++ ws).toArray := by simp
  by_cases hw : ws = []
  · exact concat_meets ⟨_, ho, rfl⟩ ⟨_, ho2, rfl⟩ noFill_tuple_add seq_tuple_add PySem.F.slot_tuple_add PySem.F.entry_tuple_add (PySem.F.args_tuple_add_2 _ _)
      (tuple_addW1 t b vs.toArray ws.toArray n n2 dd dd2 sl sl2 (by simpa using hv) (by simp [hw])) ⟨ho, ho2, h1 hw⟩
  · refine concat_meets ⟨_, ho, rfl⟩ ⟨_, ho2, rfl⟩ noFill_tuple_add seq_tuple_add PySem.F.slot_tuple_add PySem.F.entry_tuple_add (PySem.F.args_tuple_add_2 _ _)
      (tuple_addW2 t b vs.toArray ws.toArray n n2 dd dd2 sl sl2 (by simpa using hv) (by simpa using hw) (by rw [List.size_toArray, List.size_toArray]; exact hsz)) ⟨ho, ho2, ?_⟩
    rw [e]
    exact h2 hw
def sIx (n d : Nat) : Option Int → Nat
  | none => d
  | some v => if v < 0 then (v + (n : Int)).toNat else min v.toNat n
theorem sIx_le (n d : Nat) (hd : d ≤ n) (o : Option Int) : sIx n d o ≤ n := by
  cases o with
  | none => exact hd
  | some v =>
    show (if v < 0 then (v + (n : Int)).toNat else min v.toNat n) ≤ n
    by_cases hv : v < 0
    · rw [if_pos hv]; omega
    · rw [if_neg hv]; exact Nat.min_le_right _ _
theorem clip_eq (v : Int) (n d : Nat) : (if v < 0 then max (v + (n : Int)) 0 else min v (n : Int)) = ((sIx n d (some v) : Nat) : Int) := by
  show (if v < 0 then max (v + (n : Int)) 0 else min v (n : Int)) = (((if v < 0 then (v + (n : Int)).toNat else min v.toNat n) : Nat) : Int)
  by_cases hv : v < 0
  · simp only [if_pos hv]; omega
  · simp only [if_neg hv]; omega
theorem adjust_gen (lo hi : Option Int) (n : Nat) : Builtin.Slice.sliceAdjust lo hi 1 (n : Int) = (((sIx n 0 lo : Nat) : Int), ((sIx n n hi : Nat) : Int)) := by
  have h1 : ¬ ((1 : Int) < 0) := by omega
  unfold Builtin.Slice.sliceAdjust
  simp only [h1, if_false]
  refine Prod.ext ?_ ?_
  · cases lo with
    | none => rfl
    | some v => exact clip_eq v n 0
  · cases hi with
    | none => rfl
    | some v => exact clip_eq v n n
theorem places_gen (i j : Nat) : Builtin.Slice.slicePlaces (i : Int) (j : Int) 1 = j - i := by
  unfold Builtin.Slice.slicePlaces
  have h1 : (1 : Int) > 0 := by omega
  simp only [h1, if_true, Int.ediv_one]
  split <;> omega
theorem slicePart_ {v : Value} {o : Option Int} {Q : Option Int → Shared → Prop} (p : IsPart v o) (h : Q o s) : wpAny (model prog w) A (Builtin.Slice.slicePartIndex v) Q E s := by
  cases p with
  | none => exact slicePart_none h
  | int i t => exact slicePart_int h
theorem sliceApplied_gen {sl : Addr} {vl vu : Value} {lo hi : Option Int} {n : Nat} {Q : Int × Int × Nat → Shared → Prop} (hs : s.heap.IsSliceOf sl vl vu .none) (pl : IsPart vl lo) (pu : IsPart vu hi)
    (h : Q (((sIx n 0 lo : Nat) : Int), 1, sIx n n hi - sIx n 0 lo) s) : wpAny (model prog w) A (Builtin.Slice.sliceApplied (.ref sl) (pure (n : Int))) Q E s := by
  obtain ⟨os, hos, hcs, hds⟩ := id hs
  unfold Builtin.Slice.sliceApplied Builtin.Slice.sliceFields
  refine wpAny_bind (wpAny_bind (wpAny_field hos hds (x := vl) rfl (wpAny_bind (wpAny_field hos hds (x := vu) rfl (wpAny_bind (wpAny_field hos hds (x := .none) rfl (wpAny_pure ?_)))))))
  refine wpAny_bind (slicePart_none ?_)
  show wpAny _ _ (if ((1 : Int) == 0) = true then _ else _) _ _ s
  rw [if_neg (by decide)]
  refine wpAny_bind (slicePart_ pl (wpAny_bind (slicePart_ pu (wpAny_bind (wpAny_pure ?_)))))
  show wpAny _ _ (match Builtin.Slice.sliceAdjust lo hi 1 (n : Int) with | (lo, hi) => pure (lo, (1 : Int), Builtin.Slice.slicePlaces lo hi 1)) _ _ s
  rw [adjust_gen lo hi n]
  show wpAny _ _ (pure (((sIx n 0 lo : Nat) : Int), (1 : Int), Builtin.Slice.slicePlaces ((sIx n 0 lo : Nat) : Int) ((sIx n n hi : Nat) : Int) 1)) _ _ s
  rw [places_gen]
  exact wpAny_pure h
theorem pick_gen (xs : Array Value) (i k : Nat) : ((List.range k).filterMap fun (m : Nat) => xs[((i : Int) + (m : Int) * 1).toNat]?).toArray = ((xs.toList.drop i).take k).toArray := by
  have e : (fun (m : Nat) => xs[((i : Int) + (m : Int) * 1).toNat]?) = fun m => xs[i + m]? := by
    funext m
    have : ((i : Int) + (m : Int) * 1).toNat = i + m := by omega
    rw [this]
  rw [e]
  have := pick_run xs i k
  rw [List.filterMap_map] at this
  have e2 : ((fun x => xs[x]?) ∘ fun x => i + x) = fun m => xs[i + m]? := rfl
  rw [e2] at this
  rw [this]
theorem getItem_tuple_cut {t sl : Addr} {items : Array Value} {vl vu : Value} {lo hi : Option Int} {Q : Value → Shared → Prop} (ht : IsTup s.heap t items) (hs : s.heap.IsSliceOf sl vl vu .none) (pl : IsPart vl lo) (pu : IsPart vu hi)
    (hw : ¬ (sIx items.size 0 lo = 0 ∧ sIx items.size items.size hi = items.size))
    (h : Q (.ref s.heap.objs.size) { s with heap := s.heap.push { cls := .type "tuple", data := .seq ((items.toList.drop (sIx items.size 0 lo)).take (sIx items.size items.size hi - sIx items.size 0 lo)).toArray } })
    (hsz : items.size ≤ sizeLine) : wpAny (model prog w) A (getItem (.ref t) (.ref sl)) Q E s := by
  have htake : sizeOk (.seq ((items.toList.drop (sIx items.size 0 lo)).take (sIx items.size items.size hi - sIx items.size 0 lo)).toArray) := by
    show ((items.toList.drop (sIx items.size 0 lo)).take (sIx items.size items.size hi - sIx items.size 0 lo)).toArray.size ≤ sizeLine
    rw [List.size_toArray, List.length_take, List.length_drop, Array.length_toList]
    omega
  have hj : sIx items.size items.size hi ≤ items.size := sIx_le _ _ (Nat.le_refl _) hi
  obtain ⟨os, hos, hcs, hds⟩ := id hs
  have hTs : s.TypeIs (.ref sl) "slice" := ⟨os, hos, hcs⟩
  unfold getItem
  try with_reducible refine wpAny_holding ?_
  first | refine wpAny_bind (wpAny_pure ?_) | skip
  refine wpAny_bind (wpAny_sequenceKey ht.typeIs (by decide) ?_)
  refine wpAny_bind (wpAny_callSpecial?_slot (name := Str.ofString "__getitem__") ht.typeIs PyProof.Rows.slot_tuple_getitem
    (wpAny_call_entry PyProof.Rows.slot_tuple_getitem ht.typeIs entry_tuple_getitem ?_ (args_tuple_getitem _ _)))
  show wpAny _ _ (Builtin.Tuple.tupleItemsOf (.ref t) >>= _) _ _ s
  refine wpAny_bind (tupleItemsOf_ ht ?_)
  refine wpAny_bind (wpAny_typeOf hTs ?_)
  rw [if_pos (by decide)]
  refine wpAny_bind (sliceApplied_gen hs pl pu ?_)
  have hno : ¬ ((((sIx items.size 0 lo : Nat) : Int) == 0 && (1 : Int) == 1 && (sIx items.size items.size hi - sIx items.size 0 lo) == items.size) = true) := by
    intro q
    rw [Bool.and_eq_true, Bool.and_eq_true] at q
    have q1 : ((sIx items.size 0 lo : Nat) : Int) = 0 := eq_of_beq q.1.1
    have q2 : sIx items.size items.size hi - sIx items.size 0 lo = items.size := eq_of_beq q.2
    exact hw ⟨by omega, by omega⟩
  show wpAny _ _ (if (((sIx items.size 0 lo : Nat) : Int) == 0 && (1 : Int) == 1 && (sIx items.size items.size hi - sIx items.size 0 lo) == items.size) = true then _ else _) _ _ s
  rw [if_neg hno, pick_gen]
  first
    | exact wpAny_bind (m := Builtin.Tuple.tupleExact _) (wpAny_newObj_type (wpAny_pure ⟨_, rfl, wpAny_pure h⟩) htake)
    | exact wpAny_bind (m := Builtin.Tuple.tupleExact _) (wpAny_newObj_type (wpAny_bind (wpAny_pure (wpAny_pure ⟨_, rfl, wpAny_pure h⟩))) htake)
    | exact wpAny_bind (wpAny_bind (m := Builtin.Tuple.tupleExact _) (wpAny_newObj_type (wpAny_pure (wpAny_pure ⟨_, rfl, wpAny_pure h⟩)) htake))
    | exact wpAny_bind (wpAny_bind (m := Builtin.Tuple.tupleExact _) (wpAny_newObj_type (wpAny_pure ⟨_, rfl, wpAny_pure h⟩) htake))
end
end HT
namespace L2
open PySem PySem.Spec PyProof.Rows
abbrev TO := St → Hp → (Option Int → Hp → Prop) → Prop
def PO (X : Cx) (e : Option Expr) (t : TO) : Prop :=
  ∀ (pins : List (Addr × Obj)) (s : Shared) (σ : St) (H : Hp) (Q : Option Int → Hp → Prop), Inv X pins σ H s → t σ H Q →
    wpAny (model X.prog X.w) X.A (evalPart e X.env) (fun u s' => ∃ o H', Inv X pins σ H' s' ∧ IsPart u o ∧ Q o H') X.xe s
def tNoPart : TO := fun _ H Q => Q none H
def tPart (t : TE) : TO := fun σ H Q => t σ H fun x H1 => ∃ i, x = .int i ∧ Q (some i) H1
theorem intsAre_of {ns : List Int} : ∀ {us : List Value}, Vals (ns.map V.int) us → IntsAre us ns := by
  induction ns with
  | nil => intro us r; rw [List.map_nil] at r; cases r; exact .nil
  | cons n ns ih =>
    intro us r
    rw [List.map_cons] at r
    cases r with
    | cons r1 r2 =>
      obtain ⟨t, e⟩ := r1
      subst e
      exact .cons n t (ih r2)
section
variable {X : Cx} {e : Expr} {te : TE} {lo hi : Option Expr} {tl th : TO} {pos p2 : Pos}
theorem po_none : PO X none tNoPart := by
  intro pins s σ H Q I h
  rw [evalPart_none]
  exact wpAny_pure ⟨none, H, I, .none, h⟩
theorem po_some (h : PE X e te) : PO X (some e) (tPart te) := by
  intro pins s σ H Q I hw
  rw [evalPart_some]
  refine thn (h pins s σ H _ I hw) fun u s1 ⟨x, H1, I1, r1, q1⟩ => ?_
  obtain ⟨i, rfl, q⟩ := q1
  obtain ⟨t, rfl⟩ := r1
  exact ⟨some i, H1, I1, .int i t, q⟩
def SlR (X : Cx) (r : V → Option Int → Option Int → Hp → VK → Prop) : Prop :=
  ∀ (pins : List (Addr × Obj)) (s : Shared) (σ : St) (H : Hp) (x : V) (v vl vu : Value) (lo hi : Option Int) (sl : Addr) (Q : VK), Inv X pins σ H s → RelV x v → s.heap.IsSliceOf sl vl vu .none → IsPart vl lo → IsPart vu hi → r x lo hi H Q →
    ∃ T id, typeLookup (.type T) "__getitem__" = pure (some (.builtin id)) ∧ s.TypeIs v T ∧ wpAny (model X.prog X.w) X.A (getItem v (.ref sl)) (EP X pins σ Q) X.xe s
def tSl (r : V → Option Int → Option Int → Hp → VK → Prop) (te : TE) (tl th : TO) : TE := fun σ H Q => te σ H fun x H1 => tl σ H1 fun l H2 => th σ H2 fun u H3 => r x l u H3 Q
theorem pe_slice {r : V → Option Int → Option Int → Hp → VK → Prop} (hr : SlR X r) (he : PE X e te) (hl : PO X lo tl) (hu : PO X hi th) : PE X (.Subscript e (.Slice lo hi none p2) pos) (tSl r te tl th) := by
  intro pins s σ H Q I h
  refine Subscript_ (thn (he pins s σ H _ I h) fun v s1 ⟨x, H1, I1, r1, q1⟩ => ?_)
  refine wpAny_Slice (thn (hl pins s1 σ H1 _ I1 q1) fun vl s2 ⟨l, H2, I2, pl, q2⟩ => thn (hu pins s2 σ H2 _ I2 q2) fun vu s3 ⟨u, H3, I3, pu, q3⟩ => ?_)
  rw [evalPart_none]
  refine wpAny_pure ?_
  have I4 : Inv X pins σ H3 { s3 with heap := s3.heap.push { cls := .type "slice", data := .fields #[vl, vu, .none] } } := I3.kept (t' := s3.toks) fun b ob q => Heap.get?_push_of_some _ q
  obtain ⟨T, id, hT, ht, hg⟩ := hr pins { s3 with heap := s3.heap.push { cls := .type "slice", data := .fields #[vl, vu, .none] } } σ H3 x v vl vu l u s3.heap.objs.size Q I4 r1 (Heap.IsSliceOf.new ..) pl pu q3
  show wpAny (model X.prog X.w) X.A (subscriptTail e (.Slice lo hi none p2) v (.ref s3.heap.objs.size)) (EP X pins σ Q) X.xe { s3 with heap := s3.heap.push { cls := .type "slice", data := .fields #[vl, vu, .none] } }
  exact tail_any (ops := [.ref s3.heap.objs.size, v]) ht hT hg (by with_unfolding_all rfl)
def cutV (xs : List V) (lo hi : Option Int) : List V := (xs.drop (HT.sIx xs.length 0 lo)).take (HT.sIx xs.length xs.length hi - HT.sIx xs.length 0 lo)
theorem cutV_length (xs : List V) (lo hi : Option Int) : (cutV xs lo hi).length ≤ xs.length := by
  unfold cutV
  rw [List.length_take, List.length_drop]
  omega
def rSlT (K : PySem.W.Frag) : V → Option Int → Option Int → Hp → VK → Prop := fun x lo hi H Q => ∃ a xs, x = .ref a ∧ SqT K H a xs ∧
  ¬ (HT.sIx xs.length 0 lo = 0 ∧ HT.sIx xs.length xs.length hi = xs.length) ∧ ∀ p, H p = none → Q (.ref p) (upd H p (.tup (cutV xs lo hi)))
theorem sl_tup : SlR X (rSlT X.K) := by
  intro pins s σ H x v vl vu lo hi sl Q I rx hs pl pu h
  obtain ⟨a, xs, rfl, hx, hw, q⟩ := h
  cases rx
  obtain ⟨its, r, ht, hz⟩ := I.tuple hx
  have hlen : its.toArray.size = xs.length := by rw [List.size_toArray]; exact r.length.symm
  refine ⟨"tuple", _, PyProof.Rows.slot_tuple_getitem.lookup, ht.typeIs, ?_⟩
  refine HT.getItem_tuple_cut ht hs pl pu (by rw [hlen]; exact hw) ?_ (by rw [hlen]; exact hz)
  rw [hlen]
  refine ⟨.ref s.heap.objs.size, _, I.laid (t' := s.toks) (o := .tup (cutV xs lo hi)) (fun b ob q => Heap.get?_push_of_some _ q) (Nat.le_refl _) ?_, rfl, q _ (I.hok.fresh (Nat.le_refl _))⟩
  exact ⟨Nat.le_trans (cutV_length xs lo hi) hz, _, (r.drop (HT.sIx xs.length 0 lo)).take (HT.sIx xs.length xs.length hi - HT.sIx xs.length 0 lo), IsTup.new _ _, NoD.new _ _⟩
def rCatT (K : PySem.W.Frag) : R2 := fun x y H Q => ∃ a b xs ys, x = .ref a ∧ y = .ref b ∧ SqT K H a xs ∧ SqT K H b ys ∧ xs ≠ [] ∧ xs.length + ys.length ≤ sizeLine ∧
  (ys = [] → Q (.ref a) H) ∧ (ys ≠ [] → ∀ p, H p = none → Q (.ref p) (upd H p (.tup (xs ++ ys))))
theorem Vals.nil_iff {xs : List V} {us : List Value} (r : Vals xs us) : us = [] ↔ xs = [] := by
  cases r with
  | nil => simp
  | cons _ _ => simp
theorem op_catT : OpR X (binaryOp .Add) (rCatT X.K) := by
  intro pins s σ H x y v u Q I rx ry h
  obtain ⟨a, b, xs, ys, rfl, rfl, ha, hb, hx, hz, q1, q2⟩ := h
  cases rx
  cases ry
  obtain ⟨its, r1, p1, _⟩ := I.tuple ha
  obtain ⟨its2, r2, p2, _⟩ := I.tuple hb
  refine HT.cat_tup p1 p2 (fun z => hx (r1.nil_iff.mp z)) (fun z => ⟨.ref a, H, I, rfl, q1 (r2.nil_iff.mp z)⟩) (fun z => ?_) (by rw [← r1.length, ← r2.length]; exact hz)
  refine ⟨.ref s.heap.objs.size, _, I.laid (t' := s.toks) (o := .tup (xs ++ ys)) (fun b ob q => Heap.get?_push_of_some _ q) (Nat.le_refl _) ?_, rfl, q2 (fun w => z (r2.nil_iff.mpr w)) _ (I.hok.fresh (Nat.le_refl _))⟩
  exact ⟨by rw [List.length_append]; exact hz, _, r1.append r2, IsTup.new _ _, NoD.new _ _⟩
end
def ixN (n : Nat) (i : Int) : Option Nat := if 0 ≤ i then (if i < n then some i.toNat else none) else if -(n : Int) ≤ i then some (i + n).toNat else none
def atI {α : Type} (xs : List α) (i : Int) : Option α := (ixN xs.length i).bind fun j => xs[j]?
theorem ixN_seq {n : Nat} {i : Int} {j : Nat} (h : ixN n i = some j) : seqIndex? i n = some j ∧ j < n ∧ -(n : Int) ≤ i ∧ i < n := by
  unfold ixN at h
  by_cases h0 : 0 ≤ i
  · rw [if_pos h0] at h
    by_cases h1 : i < n
    · rw [if_pos h1] at h
      have e : i.toNat = j := Option.some.inj h
      exact ⟨by rw [seqIndex_of h0 h1, e], by omega, by omega, h1⟩
    · rw [if_neg h1] at h; cases h
  · rw [if_neg h0] at h
    by_cases h1 : -(n : Int) ≤ i
    · rw [if_pos h1] at h
      have e : (i + n).toNat = j := Option.some.inj h
      exact ⟨by rw [seqIndex_neg (by omega) h1, e], by omega, h1, by omega⟩
    · rw [if_neg h1] at h; cases h
theorem atI_get {α : Type} {xs : List α} {i : Int} {v : α} (h : atI xs i = some v) : ∃ j, seqIndex? i xs.length = some j ∧ xs[j]? = some v ∧ j < xs.length ∧ -(xs.length : Int) ≤ i ∧ i < xs.length := by
  unfold atI at h
  cases e : ixN xs.length i with
  | none => rw [e] at h; cases h
  | some j =>
    rw [e] at h
    obtain ⟨h1, h2, h3, h4⟩ := ixN_seq e
    exact ⟨j, h1, h, h2, h3, h4⟩
theorem atI_nat {α : Type} {xs : List α} {j : Nat} {v : α} (h : xs[j]? = some v) : atI xs (j : Int) = some v := by
  have hj : j < xs.length := (List.getElem?_eq_some_iff.mp h).1
  have e : ixN xs.length (j : Int) = some j := by
    unfold ixN
    rw [if_pos (by omega), if_pos (by omega)]; simp
  unfold atI; rw [e]; exact h
theorem atI_last {α : Type} (xs : List α) (v : α) : atI (xs ++ [v]) (-1) = some v := by
  have hl : (xs ++ [v]).length = xs.length + 1 := by simp
  have e : ixN (xs ++ [v]).length (-1) = some xs.length := by
    unfold ixN
    rw [hl, if_neg (by decide), if_pos (by omega)]
    congr 1
    omega
  unfold atI
  rw [e]
  show (xs ++ [v])[xs.length]? = some v
  simp
def PlainIx (b : Expr) : Prop := ∀ o i, subscripted b false o i = operate [o, i] (getItem o i)
def IxR (X : Cx) (r : R2) : Prop :=
  ∀ (value slice : Expr) (pins : List (Addr × Obj)) (s : Shared) (σ : St) (H : Hp) (x y : V) (v u : Value) (Q : VK), Inv X pins σ H s → RelV x v → RelV y u → r x y H Q →
    subscripted slice false v u = operate [v, u] (getItem v u) → wpAny (model X.prog X.w) X.A (subscriptTail value slice v u) (EP X pins σ Q) X.xe s
def MtR (X : Cx) (id : String) (r : V → List V → Hp → VK → Prop) : Prop :=
  ∀ (pins : List (Addr × Obj)) (s : Shared) (σ : St) (H : Hp) (x : V) (xs : List V) (v : Value) (us : List Value) (Q : VK), Inv X pins σ H s → RelV x v → Vals xs us → r x xs H Q →
    wpAny (model X.prog X.w) X.A (call (.builtin id) (v :: us)) (EP X pins σ Q) X.xe s
section
variable {X : Cx} {a b : Expr} {ta tb : TE} {pos : Pos}
theorem pe_ix {r : R2} (hr : IxR X r) (ha : PE X a ta) (hb : PE X b tb) (hs : PlainIx b) : PE X (.Subscript a b pos) (tOp r ta tb) := by
  intro pins s σ H Q I h
  exact Subscript_ (binT ha hb I h fun v u s2 x y H2 I2 rx ry q => hr a b pins s2 σ H2 x y v u Q I2 rx ry q (hs _ _))
def rIxL (K : PySem.W.Frag) : R2 := fun x y H Q => ∃ p xs i v, x = .ref p ∧ y = .int i ∧ SqL K H p xs ∧ atI xs i = some v ∧ Q v H
def rIxT (K : PySem.W.Frag) : R2 := fun x y H Q => ∃ p xs i v, x = .ref p ∧ y = .int i ∧ SqT K H p xs ∧ atI xs i = some v ∧ Q v H
def rIxS : R2 := fun x y H Q => ∃ z i c, x = .str z ∧ y = .int i ∧ z.length ≤ sizeLine ∧ atI z.cps.toList i = some c ∧ Q (.str ⟨#[c]⟩) H
theorem ix_list : IxR X (rIxL X.K) := by
  intro value slice pins s σ H x y v u Q I rx ry h hs
  obtain ⟨p, xs, i, z, rfl, rfl, hq, he, q⟩ := h
  cases rx
  obtain ⟨t, rfl⟩ := ry
  obtain ⟨its, r, pl, hz⟩ := I.list hq
  obtain ⟨j, h1, h2, h3, h4, h5⟩ := atI_get he
  obtain ⟨w, ew, rw'⟩ := r.get h2
  have hl := r.length
  have hn := line63
  have fin : EP X pins σ Q w s := ⟨z, H, I, rw', q⟩
  by_cases h0 : 0 ≤ i
  · have hj : i.toNat = j := by
      rw [seqIndex_of h0 h5] at h1
      exact Option.some.inj h1
    exact item_listR pl.isList h0 (by omega) (by rw [hj]; simpa using ew) fin hs
  · have hj : (i + (its.toArray.size : Int)).toNat = j := by
      rw [seqIndex_neg (by omega) h4] at h1
      rw [List.size_toArray, ← hl]
      exact Option.some.inj h1
    exact subscriptTail_builtinR (x := w) pl.isList.typeIs slot_list_getitem.lookup
      (wpAny_getItem_list_neg (Q := fun r s' => r = w ∧ EP X pins σ Q r s') pl.isList (by omega) (by rw [List.size_toArray] <;> omega) (by omega) (by rw [hj]; simpa using ew) ⟨rfl, fin⟩) hs
theorem ix_tup : IxR X (rIxT X.K) := by
  intro value slice pins s σ H x y v u Q I rx ry h hs
  obtain ⟨p, xs, i, z, rfl, rfl, hq, he, q⟩ := h
  cases rx
  obtain ⟨t, rfl⟩ := ry
  obtain ⟨its, r, pl, hz⟩ := I.tuple hq
  obtain ⟨j, h1, h2, h3, h4, h5⟩ := atI_get he
  obtain ⟨w, ew, rw'⟩ := r.get h2
  have hl := r.length
  have hn := line63
  have fin : EP X pins σ Q w s := ⟨z, H, I, rw', q⟩
  exact subscriptTail_builtinR (x := w) pl.typeIs slot_tuple_getitem.lookup
    (getItem_tuple (j := j) (Q := fun r s' => r = w ∧ EP X pins σ Q r s') pl (by omega) (by omega) (by rw [List.size_toArray, ← hl]; exact h1) (by simpa using ew) ⟨rfl, fin⟩) hs
theorem ix_str : IxR X rIxS := by
  intro value slice pins s σ H x y v u Q I rx ry h hs
  obtain ⟨z, i, c, rfl, rfl, hz, he, q⟩ := h
  obtain ⟨t, rfl⟩ := rx
  obtain ⟨t', rfl⟩ := ry
  obtain ⟨j, h1, h2, h3, h4, h5⟩ := atI_get he
  have hl : z.cps.toList.length = z.length := by simp [Str.length]
  rw [hl] at h1 h4 h5
  have hn := line63
  exact tail_any (typeIs_str s z t) slot_str_getitem.lookup (getItem_str (c := c) (by
    have e1 : decide (i < -(2 ^ 63 : Int)) = false := decide_eq_false (by omega)
    have e2 : decide (i ≥ 2 ^ 63) = false := decide_eq_false (by omega)
    rw [e1, e2, Bool.or_false]) (by rw [h1]; simpa using h2) ⟨.str ⟨#[c]⟩, H, I.tok _, ⟨_, rfl⟩, q⟩) hs
theorem mapSeq_set (its : List Value) (n j : Nat) (u : Value) : Obj.mapSeq (·.setIfInBounds j u) { cls := .type "list", data := .seq its.toArray n } = { cls := .type "list", data := .seq (its.set j u).toArray n } := by
  simp [Obj.mapSeq]
theorem Inv.lst {pins : List (Addr × Obj)} {σ : St} {H : Hp} {s : Shared} {p : Addr} {xs : List V} (I : Inv X pins σ H s) (h : H p = some (.lst xs)) :
    ∃ (its : List Value) (n : Nat), Vals xs its ∧ s.heap.get? p = some { cls := .type "list", data := .seq its.toArray n } ∧ xs.length ≤ sizeLine := by
  obtain ⟨z, its, n, r, e⟩ := I.hok p _ h
  exact ⟨its, n, r, e, z⟩
theorem Inv.lstUpd {pins : List (Addr × Obj)} {σ : St} {H : Hp} {s : Shared} {p : Addr} {xs ys : List V} {its its' : List Value} {n n' : Nat} {f : Obj → Obj} (I : Inv X pins σ H s) (h : H p = some (.lst xs))
    (ho : s.heap.get? p = some { cls := .type "list", data := .seq its.toArray n }) (hf : f { cls := .type "list", data := .seq its.toArray n } = { cls := .type "list", data := .seq its'.toArray n' }) (r : Vals ys its') (hz : ys.length ≤ sizeLine) (t : Nat) :
    Inv X pins σ (upd H p (.lst ys)) { s with heap := s.heap.update p f, toks := t } := by
  have e : (s.heap.update p f).get? p = some { cls := .type "list", data := .seq its'.toArray n' } := by
    rw [Heap.get?_update_self f ho (by rw [hf] <;> rfl), hf]
  refine I.write (x := p) (e := p) (by rw [h]; trivial) (.inl rfl) (fun b u hb q => (Heap.get?_update_other _ _ (Ne.symm hb)).trans q) ⟨_, e⟩ ?_
  exact ⟨hz, its', n', r, e⟩
def rSetL : V → V → V → Hp → (Hp → Prop) → Prop := fun o i v H Q => ∃ p xs k j, o = .ref p ∧ i = .int k ∧ H p = some (.lst xs) ∧ ixN xs.length k = some j ∧ Q (upd H p (.lst (xs.set j v)))
theorem set_list : PSet X rSetL := by
  intro pins s σ H o i v ov iv u Q I ro ri rv h
  obtain ⟨p, xs, k, j, rfl, rfl, hp, hj, q⟩ := h
  cases ro
  obtain ⟨t, rfl⟩ := ri
  obtain ⟨its, n, r, ho, hz⟩ := I.lst hp
  obtain ⟨h1, h2, h3, h4⟩ := ixN_seq hj
  have hl := r.length
  have hn := line63
  have I' : Inv X pins σ (upd H p (.lst (xs.set j v))) { s with heap := s.heap.update p (Obj.mapSeq (·.setIfInBounds j u)) } :=
    I.lstUpd hp ho (mapSeq_set its n j u) (r.set rv j) (by rw [List.length_set]; exact hz) s.toks
  by_cases h0 : 0 ≤ k
  · have hk : k.toNat = j := by
      rw [seqIndex_of h0 h4] at h1
      exact Option.some.inj h1
    exact PySem.W.ki_setAt ho h0 (by omega) (by rw [List.size_toArray, ← hl]; exact h4) (by rw [hk]; exact ⟨_, I', q⟩)
  · have hk : (k + (its.toArray.size : Int)).toNat = j := by
      rw [seqIndex_neg (by omega) h3] at h1
      rw [List.size_toArray, ← hl]
      exact Option.some.inj h1
    exact PySem.W.ki_setBack ho (by omega) (by rw [List.size_toArray, ← hl]; exact h3) (by omega) (by rw [hk]; exact ⟨_, I', q⟩)
theorem slice_bounds (lo hi : Option Int) (n : Nat) : (sliceBounds lo hi none n).1 = ((HT.sIx n 0 lo : Nat) : Int) ∧ (sliceBounds lo hi none n).2.1 = ((HT.sIx n n hi : Nat) : Int) ∧ (sliceBounds lo hi none n).2.2 = 1 := by
  refine ⟨?_, ?_, rfl⟩
  · cases lo with
    | none => simp [sliceBounds, HT.sIx]
    | some i =>
      simp only [sliceBounds, HT.sIx, Option.getD_none, show (1 : Int) > 0 by decide, if_true]
      by_cases h : i < 0
      · simp only [h, if_true] <;> omega
      · simp only [h, if_false] <;> omega
  · cases hi with
    | none => simp [sliceBounds, HT.sIx]
    | some i =>
      simp only [sliceBounds, HT.sIx, Option.getD_none, show (1 : Int) > 0 by decide, if_true]
      by_cases h : i < 0
      · simp only [h, if_true] <;> omega
      · simp only [h, if_false] <;> omega
theorem slicePick_cut (its : List Value) (lo hi : Option Int) : slicePick its.toArray lo hi none = ((its.drop (HT.sIx its.length 0 lo)).take (HT.sIx its.length its.length hi - HT.sIx its.length 0 lo)).toArray := by
  obtain ⟨h1, h2, h3⟩ := slice_bounds lo hi its.toArray.size
  unfold slicePick
  rw [h1, h2, h3]
  simp only [sliceRange_one, pick_run, List.size_toArray] <;> rfl
def rSlL (K : PySem.W.Frag) : V → Option Int → Option Int → Hp → VK → Prop := fun x lo hi H Q => ∃ a xs, x = .ref a ∧ SqL K H a xs ∧ ∀ p, H p = none → Q (.ref p) (upd H p (.lst (cutV xs lo hi)))
theorem sl_list : SlR X (rSlL X.K) := by
  intro pins s σ H x v vl vu lo hi sl Q I rx hs pl pu h
  obtain ⟨a, xs, rfl, hx, q⟩ := h
  cases rx
  obtain ⟨its, r, ht, hz⟩ := I.list hx
  have hlen := r.length
  refine ⟨"list", _, slot_list_getitem.lookup, ht.isList.typeIs, ?_⟩
  refine wpAny_getItem_list_slice ht.isList hs pl pu .none (by simp) ?_ (by rw [List.size_toArray] <;> omega)
  rw [slicePick_cut, ← hlen]
  refine ⟨.ref s.heap.objs.size, _, I.laid (t' := s.toks) (o := .lst (cutV xs lo hi)) (fun b ob q => Heap.get?_push_of_some _ q) (Nat.le_refl _) ?_, rfl, q _ (I.hok.fresh (Nat.le_refl _))⟩
  exact ⟨Nat.le_trans (cutV_length xs lo hi) hz, _, 0, (r.drop (HT.sIx xs.length 0 lo)).take (HT.sIx xs.length xs.length hi - HT.sIx xs.length 0 lo), Heap.get?_push_size _ rfl⟩
def flatV : V → Bool
  | .non => true
  | .bl _ => true
  | .int _ => true
  | .str _ => true
  | _ => false
def eqV : V → V → Bool
  | .non, .non => true
  | .bl a, .bl b => a == b
  | .bl a, .int b => (if a then 1 else 0) == b
  | .int a, .bl b => a == (if b then 1 else 0)
  | .int a, .int b => a == b
  | .str a, .str b => a == b
  | _, _ => false
theorem eqAt_V {A : Around} {s : Shared} {y x : V} {u v : Value} (ry : RelV y u) (rx : RelV x v) (fy : flatV y = true) (fx : flatV x = true) : SeqAt.EqAt A s u v (eqV y x) := by
  cases y with
  | non =>
    cases ry
    cases x with
    | non => cases rx; exact SeqAt.EqAt.same _
    | bl b => cases rx; exact SeqAt.EqAt.none_bool b
    | int b => obtain ⟨t, rfl⟩ := rx; exact SeqAt.EqAt.none_int b t
    | str b => obtain ⟨t, rfl⟩ := rx; exact SeqAt.EqAt.none_str b t
    | _ => exact absurd (show false = true from fx) Bool.false_ne_true
  | bl a =>
    cases ry
    cases x with
    | non => cases rx; exact SeqAt.EqAt.bool_none a
    | bl b => cases rx; exact SeqAt.EqAt.bool_bool a b
    | int b => obtain ⟨t, rfl⟩ := rx; exact SeqAt.EqAt.bool_int a b t
    | str b => obtain ⟨t, rfl⟩ := rx; exact SeqAt.EqAt.bool_str a b t
    | _ => exact absurd (show false = true from fx) Bool.false_ne_true
  | int a =>
    obtain ⟨t', rfl⟩ := ry
    cases x with
    | non => cases rx; exact SeqAt.EqAt.int_none a t'
    | bl b => cases rx; exact SeqAt.EqAt.int_bool a t' b
    | int b => obtain ⟨t, rfl⟩ := rx; exact SeqAt.EqAt.int_int a t' b t
    | str b => obtain ⟨t, rfl⟩ := rx; exact SeqAt.EqAt.int_str a t' b t
    | _ => exact absurd (show false = true from fx) Bool.false_ne_true
  | str a =>
    obtain ⟨t', rfl⟩ := ry
    cases x with
    | non => cases rx; exact SeqAt.EqAt.str_none a t'
    | bl b => cases rx; exact SeqAt.EqAt.str_bool a t' b
    | int b => obtain ⟨t, rfl⟩ := rx; exact SeqAt.EqAt.str_int a t' b t
    | str b => obtain ⟨t, rfl⟩ := rx; exact SeqAt.EqAt.str_str a t' b t
    | _ => exact absurd (show false = true from fx) Bool.false_ne_true
  | _ => exact absurd (show false = true from fy) Bool.false_ne_true
def eqU (x : V) (u : Value) : Bool := match u with
  | .none => eqV .non x
  | .bool b => eqV (.bl b) x
  | .int i _ => eqV (.int i) x
  | .str z _ => eqV (.str z) x
  | _ => false
theorem eqU_of {x y : V} {u : Value} (r : RelV y u) (f : flatV y = true) : eqU x u = eqV y x := by
  cases y with
  | non => cases r; rfl
  | bl b => cases r; rfl
  | int i => obtain ⟨t, rfl⟩ := r; rfl
  | str z => obtain ⟨t, rfl⟩ := r; rfl
  | _ => exact absurd (show false = true from f) Bool.false_ne_true
theorem any_eqU {x : V} : ∀ {xs : List V} {us : List Value}, Vals xs us → xs.all flatV = true → us.any (eqU x) = xs.any fun y => eqV y x
  | _, _, .nil, _ => rfl
  | y :: xs, u :: us, .cons r t, f => by
    rw [List.all_cons, Bool.and_eq_true] at f
    rw [List.any_cons, List.any_cons, eqU_of r f.1, any_eqU t f.2]
theorem mem_eqAt {A : Around} {s : Shared} {x : V} {v : Value} (rx : RelV x v) (fx : flatV x = true) : ∀ {xs : List V} {us : List Value}, Vals xs us → xs.all flatV = true → ∀ u ∈ us, SeqAt.EqAt A s u v (eqU x u)
  | _, _, .nil, _ => fun u hu => by cases hu
  | y :: xs, u :: us, .cons r t, f => fun u' hu => by
    rw [List.all_cons, Bool.and_eq_true] at f
    rcases List.mem_cons.mp hu with rfl | hu
    · rw [eqU_of r f.1]; exact eqAt_V r rx f.1 fx
    · exact mem_eqAt rx fx t f.2 u' hu
def inV (x : V) (xs : List V) : Bool := xs.any fun y => eqV y x
def rIn (K : PySem.W.Frag) (neg : Bool) : R2 := fun x y H Q => ∃ p xs, y = .ref p ∧ (SqL K H p xs ∨ SqT K H p xs) ∧ flatV x = true ∧ xs.all flatV = true ∧ Q (.bl (if neg then !inV x xs else inV x xs)) H
theorem op_in_seq : OpR X (compareOp .In) (rIn X.K false) := by
  intro pins s σ H x y v u Q I rx ry h
  obtain ⟨p, xs, rfl, hq, fx, fs, q⟩ := h
  cases ry
  rcases hq with hq | hq
  · obtain ⟨its, r, pl, hz⟩ := I.list hq
    refine SeqAt.in_listAt (eqU x) pl.isList (fun w hw => mem_eqAt rx fx r fs w (by simpa using hw)) ⟨.bl _, H, I, rfl, ?_⟩
    rw [show its.toArray.any (eqU x) = its.any (eqU x) by simp, any_eqU r fs]
    exact q
  · obtain ⟨its, r, pl, hz⟩ := I.tuple hq
    refine SeqAt.in_tupleAt (eqU x) pl (fun w hw => mem_eqAt rx fx r fs w (by simpa using hw)) ⟨.bl _, H, I, rfl, ?_⟩
    rw [show its.toArray.any (eqU x) = its.any (eqU x) by simp, any_eqU r fs]
    exact q
theorem call_len_seq : CallR X (.builtin "len") (fun xs H Q => ∃ p ys, xs = [.ref p] ∧ (SqL X.K H p ys ∨ SqT X.K H p ys) ∧ Q (.int ys.length) H) := by
  intro pins s σ H xs us Q I r h
  obtain ⟨p, ys, rfl, hq, q⟩ := h
  obtain ⟨u, rfl, rx⟩ := vals1 r
  cases rx
  have hn := line63
  rcases hq with hq | hq
  · obtain ⟨its, r', pl, hz⟩ := I.list hq
    have hlen := r'.length
    exact Calls.call_len_list pl.isList (by simp only [List.size_toArray] <;> omega) ⟨.int ys.length, H, I.tok _, ⟨s.toks + 1, by rw [List.size_toArray, hlen]⟩, q⟩
  · obtain ⟨its, r', pl, hz⟩ := I.tuple hq
    have hlen := r'.length
    exact len_tuple pl (by simp only [List.size_toArray] <;> omega) ⟨.int ys.length, H, I.tok _, ⟨s.toks + 1, by rw [List.size_toArray, hlen]⟩, q⟩
theorem call_len_str : CallR X (.builtin "len") (fun xs H Q => ∃ z, xs = [.str z] ∧ z.length ≤ sizeLine ∧ Q (.int z.length) H) := by
  intro pins s σ H xs us Q I r h
  obtain ⟨z, rfl, hz, q⟩ := h
  obtain ⟨u, rfl, t, rfl⟩ := vals1 r
  have hn := line63
  exact len_str (by omega) ⟨.int z.length, H, I.tok _, ⟨_, rfl⟩, q⟩
theorem call_list_of : CallR X (.type "list") (fun xs H Q => ∃ p ys, xs = [.ref p] ∧ (SqL X.K H p ys ∨ SqT X.K H p ys) ∧ ∀ l, H l = none → Q (.ref l) (upd H l (.lst ys))) := by
  intro pins s σ H xs us Q I r h
  obtain ⟨p, ys, rfl, hq, q⟩ := h
  obtain ⟨u, rfl, rx⟩ := vals1 r
  cases rx
  have fin : ∀ (its : List Value), Vals ys its → ys.length ≤ sizeLine → ∀ (h' : Heap) (c' : Nat), (∀ b o', s.heap.get? b = some o' → h'.get? b = some o') →
      h'.get? s.heap.objs.size = some { cls := .type "list", dict := none, data := .seq its.toArray c', slots := #[] } → EP X pins σ Q (.ref s.heap.objs.size) { s with heap := h' } := fun its r' hz h' c' kp e =>
    ⟨.ref s.heap.objs.size, _, I.laid (t' := s.toks) kp (Nat.le_refl _) (show ObjOk X.prog X.w _ h' _ (.lst ys) from ⟨hz, its, c', r', e⟩), rfl, q _ (I.hok.fresh (Nat.le_refl _))⟩
  rcases hq with hq | hq
  · obtain ⟨its, r', pl, hz⟩ := I.list hq
    have hlen := r'.length
    obtain ⟨o, ho, hc, n, hd⟩ := pl.isList
    exact call_list_seq p (.inl rfl) ho hc hd (fun h' c' kp e => fin its r' hz h' c' kp e) (by simp only [List.size_toArray] <;> omega)
  · obtain ⟨its, r', pl, hz⟩ := I.tuple hq
    have hlen := r'.length
    obtain ⟨o, ho, hc, n, hd⟩ := pl
    exact call_list_seq p (.inr rfl) ho hc hd (fun h' c' kp e => fin its r' hz h' c' kp e) (by simp only [List.size_toArray] <;> omega)
theorem call_tuple_of : CallR X (.type "tuple") (fun xs H Q => ∃ p ys, xs = [.ref p] ∧ ((SqL X.K H p ys ∧ ∀ l, H l = none → Q (.ref l) (upd H l (.tup ys))) ∨ (SqT X.K H p ys ∧ Q (.ref p) H))) := by
  intro pins s σ H xs us Q I r h
  obtain ⟨p, ys, rfl, h⟩ := h
  obtain ⟨u, rfl, rx⟩ := vals1 r
  cases rx
  rcases h with ⟨hq, q⟩ | ⟨hq, q⟩
  · obtain ⟨its, r', pl, hz⟩ := I.list hq
    have hlen := r'.length
    refine call_tuple_list pl.isList (fun h' kp => ?_) (by simp only [List.size_toArray] <;> omega)
    have I1 : Inv X pins σ H { s with heap := h' } := I.kept (t' := s.toks) kp
    have I2 : Inv X pins σ (upd H h'.objs.size (.tup ys)) { s with heap := h'.push { cls := .type "tuple", data := .seq its.toArray } } :=
      I1.laid (t' := s.toks) (fun b o e => Heap.get?_push_of_some _ e) (Nat.le_refl _) (show ObjOk X.prog X.w _ _ _ (.tup ys) from ⟨hz, its, r', IsTup.new _ _, NoD.new _ _⟩)
    exact ⟨.ref h'.objs.size, _, I2, rfl, q _ (I1.hok.fresh (Nat.le_refl _))⟩
  · obtain ⟨its, r', pl, hz⟩ := I.tuple hq
    exact call_tuple_same pl ⟨.ref p, H, I, rfl, q⟩
def tyV (K : PySem.W.Frag) (T : String) (x : V) (H : Hp) : Prop := match x with
  | .str _ => T = "str"
  | .int _ => T = "int"
  | .ref p => (T = "list" ∧ ∃ xs, SqL K H p xs) ∨ (T = "tuple" ∧ ∃ o, K.lookup p = some o ∧ o.cls = .type "tuple" ∧ o.dict = none) ∨
      (T = "dict" ∧ ((∃ kvs, H p = some (.dK kvs)) ∨ ∃ kvs, H p = some (.dT kvs))) ∨ (T = "set" ∧ ∃ S n, H p = some (.set S n))
  | _ => False
theorem tyV_is {pins : List (Addr × Obj)} {σ : St} {H : Hp} {s : Shared} {T : String} {x : V} {v : Value} (I : Inv X pins σ H s) (r : RelV x v) (ty : tyV X.K T x H) :
    s.TypeIs v T ∧ ∀ a, v = .ref a → ∃ ob, s.heap.get? a = some ob ∧ ob.dict = none := by
  cases x with
  | str z =>
    obtain ⟨t, rfl⟩ := r
    cases (show T = "str" from ty)
    exact ⟨typeIs_str s z t, fun _ e => nomatch e⟩
  | int i =>
    obtain ⟨t, rfl⟩ := r
    cases (show T = "int" from ty)
    exact ⟨typeIs_int s i t, fun _ e => nomatch e⟩
  | ref p =>
    cases r
    rcases ty with ⟨rfl, xs, hq⟩ | ⟨rfl, o, hk, hc, hd⟩ | ⟨rfl, hk⟩ | ⟨rfl, S, n, hk⟩
    · obtain ⟨its, _, pl, _⟩ := I.list hq
      refine ⟨pl.isList.typeIs, fun a e => ?_⟩
      cases e
      obtain ⟨o, n, e, c, hd, _⟩ := pl
      exact ⟨o, e, hd⟩
    · refine ⟨⟨o, I.kIn p o hk, hc⟩, fun a e => ?_⟩
      cases e
      exact ⟨o, I.kIn _ o hk, hd⟩
    · have z : ∃ o, s.heap.get? p = some o ∧ o.ExactDict := by
        rcases hk with ⟨kvs, hk⟩ | ⟨kvs, hk⟩
        · obtain ⟨_, _, _, _, o, _, _, e, ex, _⟩ := I.hok p _ hk
          exact ⟨o, e, ex⟩
        · obtain ⟨_, _, _, _, o, _, _, e, ex, _⟩ := I.hok p _ hk
          exact ⟨o, e, ex⟩
      obtain ⟨o, e, ex⟩ := z
      refine ⟨⟨o, e, ex.1⟩, fun a e2 => ?_⟩
      cases e2
      exact ⟨o, e, ex.2.1⟩
    · obtain ⟨o, _, _, _, e, ex, _⟩ := I.hok p _ hk
      refine ⟨⟨o, e, ex.1⟩, fun a e2 => ?_⟩
      cases e2
      exact ⟨o, e, ex.2.1⟩
  | _ => exact False.elim ty
def tBM0 (K : PySem.W.Frag) (T : String) (r : V → List V → Hp → VK → Prop) (to : TE) : TE := fun σ H Q => to σ H fun x H1 => tyV K T x H1 ∧ r x [] H1 Q
def tBM (K : PySem.W.Frag) (T : String) (r : V → List V → Hp → VK → Prop) (to : TE) (t : TA) : TE := fun σ H Q => to σ H fun x H1 => tyV K T x H1 ∧ t σ H1 fun xs H2 => r x xs H2 Q
variable {o e : Expr} {es : List Expr} {to : TE} {t : TA} {name : Str} {apos cpos : Pos} {T id : String} {r : V → List V → Hp → VK → Prop}
theorem pe_bm0 (pa : PlainAttrs T) (slot : Slot T name id) (hty : typeOf (.builtin id) = pure (.type "method_descriptor")) (hm : MtR X id r) (ho : PE X o to)
    (hbase : attributeBase o name X.env (eval o X.env) = eval o X.env := by rfl) (hline : (apos.endLine == cpos.line) = true := by rfl) : PE X (.Call (.Attribute o name apos) [] [] cpos) (tBM0 X.K T r to) := by
  intro pins s σ H Q I h
  refine wpAny_Call_method0_late hbase hline (thn (ho pins s σ H _ I h) fun v s1 ⟨x, H1, I1, r1, ty, q1⟩ => ?_)
  obtain ⟨h1, h2⟩ := tyV_is I1 r1 ty
  exact ⟨T, id, pa, slot, hty, h1, h2, Calls.callWith_builtin rfl (PySem.evalArgs_none (hm pins s1 σ H1 x [] v [] Q I1 r1 .nil q1))⟩
theorem pe_bm (pa : PlainAttrs T) (slot : Slot T name id) (hty : typeOf (.builtin id) = pure (.type "method_descriptor")) (hm : MtR X id r) (ho : PE X o to) (ha : PA X (e :: es) t)
    (hbase : attributeBase o name X.env (eval o X.env) = eval o X.env := by rfl)
    (hfew : ((backTo cpos (starEach (e :: es) X.env)).all (fun x => !x.1) && (backToKw cpos (keywordEach [] X.env)).all (fun x => x.1.isSome)
      && decide ((e :: es).length + ([] : List Keyword).length + (if ([] : List Keyword).isEmpty then 0 else 1) < 30)) = true := by rfl)
    (hline : (apos.endLine == cpos.line) = true := by rfl) (hs : starEach (e :: es) X.env = (false, eval e X.env) :: starEach es X.env := by rfl) (hplain : (backTo cpos (starEach es X.env)).any (·.1) = false := by rfl) :
    PE X (.Call (.Attribute o name apos) (e :: es) [] cpos) (tBM X.K T r to t) := by
  intro pins s σ H Q I h
  refine wpAny_Call_method_late hbase hfew hline rfl (thn (ho pins s σ H _ I h) fun v s1 ⟨x, H1, I1, r1, ty, q1⟩ => ?_)
  obtain ⟨h1, h2⟩ := tyV_is I1 r1 ty
  refine ⟨T, id, pa, slot, hty, h1, h2, ?_⟩
  have hA := ha cpos pins s1 σ H1 _ I1 q1
  rw [hs] at hA ⊢
  refine Calls.callWith_builtin (by show (false || (backTo cpos (starEach es X.env)).any (·.1)) = false; rw [hplain] <;> rfl) (Calls.evalArgs_plain ?_)
  exact thn hA fun us s2 ⟨vs, H2, I2, r2, q2⟩ => hm pins s2 σ H2 x vs v us Q I2 r1 r2 q2
/- xs.append(e), list.index on a module's tuple .. are MtR facts of 06m -/
end
def MtM (X : Cx) (id : String) (r : V → List V → Hp → VK → Prop) : Prop :=
  ∀ (pins : List (Addr × Obj)) (s : Shared) (σ : St) (H : Hp) (x : V) (xs : List V) (v : Value) (us : List Value) (Q : VK), Inv X pins σ H s → RelV x v → Vals xs us → r x xs H Q →
    wpAny (model X.prog X.w) X.A (call (.builtin id) (v :: us)) (EP X pins σ Q) X.xe s
theorem Vals.one : ∀ {x : V} {us : List Value}, Vals [x] us → ∃ u, us = [u] ∧ RelV x u
  | _, _, .cons r .nil => ⟨_, rfl, r⟩
theorem Vals.two : ∀ {x y : V} {us : List Value}, Vals [x, y] us → ∃ u v, us = [u, v] ∧ RelV x u ∧ RelV y v
  | _, _, _, .cons r (.cons q .nil) => ⟨_, _, rfl, r, q⟩
theorem Vals.zero : ∀ {us : List Value}, Vals [] us → us = []
  | _, .nil => rfl
theorem Vals.dropLast {xs : List V} {us : List Value} (h : Vals xs us) : Vals xs.dropLast us.dropLast := by
  induction h with
  | nil => exact .nil
  | cons r t ih =>
    cases t with
    | nil => exact .nil
    | cons q t' => exact .cons r ih
theorem Vals.eraseIdx : ∀ {xs : List V} {us : List Value} (i : Nat), Vals xs us → Vals (xs.eraseIdx i) (us.eraseIdx i)
  | _, _, _, .nil => .nil
  | _, _, 0, .cons _ t => t
  | _, _, i + 1, .cons r t => .cons r (Vals.eraseIdx i t)
theorem Vals.rep {xs : List V} {us : List Value} (h : Vals xs us) : ∀ k : Nat, Vals (List.replicate k xs).flatten (List.replicate k us).flatten
  | 0 => .nil
  | k + 1 => by
    rw [List.replicate_succ, List.replicate_succ, List.flatten_cons, List.flatten_cons]
    exact Vals.append h (Vals.rep h k)
theorem erase_last {α : Type} (l : List α) : l.eraseIdx (l.length - 1) = l.dropLast := by
  induction l with
  | nil => rfl
  | cons a r ih =>
    cases r with
    | nil => rfl
    | cons b r =>
      have e : (a :: b :: r).length - 1 = ((b :: r).length - 1) + 1 := by
        have h1 : (a :: b :: r).length = r.length + 2 := rfl
        have h2 : (b :: r).length = r.length + 1 := rfl
        omega
      rw [e, List.eraseIdx_cons_succ, ih]
      all_goals rfl
theorem len_erase {α : Type} : ∀ (l : List α) (i : Nat), (l.eraseIdx i).length ≤ l.length
  | [], _ => Nat.le_refl _
  | _ :: _, 0 => Nat.le_succ _
  | _ :: r, i + 1 => Nat.succ_le_succ (len_erase r i)
theorem foldl_rep (its : List Value) : ∀ (k : Nat) (acc : List Value),
    List.foldl (fun x1 x2 => x1 ++ x2) acc.toArray (List.replicate k its.toArray) = (acc ++ (List.replicate k its).flatten).toArray
  | 0, acc => by simp
  | k + 1, acc => by
    have e : acc.toArray ++ its.toArray = (acc ++ its).toArray := by simp
    have e2 : (acc ++ its) ++ (List.replicate k its).flatten = acc ++ (List.replicate (k + 1) its).flatten := by
      rw [List.replicate_succ, List.flatten_cons, List.append_assoc]
    rw [← e2, ← foldl_rep its k (acc ++ its), ← e, List.replicate_succ, List.foldl_cons]
section
variable {X : Cx} {pins : List (Addr × Obj)} {σ : St} {H : Hp} {s : Shared} {l b : Addr} {xs ys zs : List V}
theorem Inv.lset {its its' : List Value} {n : Nat} {f : Array Value → Array Value} {t' : Nat} (I : Inv X pins σ H s) (hH : H l = some (.lst xs))
    (e : s.heap.get? l = some { cls := .type "list", data := .seq its.toArray n }) (hf : f its.toArray = its'.toArray) (hv : Vals ys its') (hz : ys.length ≤ sizeLine) :
    Inv X pins σ (upd H l (.lst ys)) { s with heap := s.heap.update l (Obj.mapSeq f), toks := t' } := by
  have q := PySem.IsL.update e f
  rw [hf] at q
  refine I.write (x := l) (e := l) (by rw [hH]; exact trivial) (.inl rfl) (fun b' u hb hu => (Heap.get?_update_other s.heap (Obj.mapSeq f) (Ne.symm hb)).trans hu) ⟨_, q⟩ ?_
  exact ⟨hz, its', _, hv, q⟩
theorem Inv.lnew {its : List Value} {t' : Nat} (I : Inv X pins σ H s) (hv : Vals ys its) (hz : ys.length ≤ sizeLine) :
    Inv X pins σ (upd H s.heap.objs.size (.lst ys)) { s with heap := s.heap.push { cls := .type "list", data := .seq its.toArray }, toks := t' } :=
  I.laid (fun _ _ q => Heap.get?_push_of_some _ q) (Nat.le_refl _) ⟨hz, its, 0, hv, Heap.get?_push_size _ rfl⟩
theorem Inv.fresh (I : Inv X pins σ H s) : H s.heap.objs.size = none := I.hok.fresh (Nat.le_refl _)
theorem Inv.lstM (I : Inv X pins σ H s) (hH : H l = some (.lst xs)) : xs.length ≤ sizeLine ∧ ∃ (its : List Value) (n : Nat), Vals xs its ∧ xs.length = its.length ∧ s.heap.get? l = some { cls := .type "list", data := .seq its.toArray n } := by
  obtain ⟨z, its, n, r, e⟩ := I.hok l _ hH
  exact ⟨z, its, n, r, r.length, e⟩
theorem notLongL {n : Nat} (h : n ≤ sizeLine) : Builtin.List.listTooLong n = false := by
  unfold Builtin.List.listTooLong
  exact decide_eq_false (by omega)
end
section
variable {X : Cx}
def rAppend : V → List V → Hp → VK → Prop := fun x vs H Q => ∃ l xs y, x = .ref l ∧ vs = [y] ∧ H l = some (.lst xs) ∧ xs.length < sizeLine ∧ Q .non (upd H l (.lst (xs ++ [y])))
theorem mt_append : MtM X "list.append" rAppend := by
  intro pins s σ H x vs v us Q I rx rv h
  obtain ⟨l, xs, y, rfl, rfl, hH, hz, q⟩ := h
  cases rx
  obtain ⟨u, rfl, ru⟩ := rv.one
  obtain ⟨z, its, n, r, hl, e⟩ := I.lstM hH
  refine call_meets F.slot_list_append ⟨_, e, rfl⟩ F.entry_list_append (F.args_list_append_2 _ _) (PySem.list_append l its.toArray n u (by rw [List.size_toArray]; omega)) ⟨e, ?_⟩
  refine ⟨.non, _, I.lset (its' := its ++ [u]) hH e (by simp) (r.append (.cons ru .nil)) ?_, rfl, q⟩
  rw [List.length_append, List.length_singleton]
  omega
def rExtend : V → List V → Hp → VK → Prop := fun x vs H Q => ∃ l b xs zs, x = .ref l ∧ vs = [.ref b] ∧ H l = some (.lst xs) ∧ H b = some (.lst zs) ∧ xs.length + zs.length ≤ sizeLine ∧ Q .non (upd H l (.lst (xs ++ zs)))
theorem mt_extend : MtM X "list.extend" rExtend := by
  intro pins s σ H x vs v us Q I rx rv h
  obtain ⟨l, b, xs, zs, rfl, rfl, hH, hB, hz, q⟩ := h
  cases rx
  obtain ⟨u, rfl, ru⟩ := rv.one
  cases ru
  obtain ⟨z, its, n, r, hl, e⟩ := I.lstM hH
  obtain ⟨z2, its2, n2, r2, hl2, e2⟩ := I.lstM hB
  have hsz : its.toArray.size + its2.toArray.size ≤ sizeLine := by rw [List.size_toArray, List.size_toArray]; omega
  have hlong : ¬ (!its.toArray.isEmpty && Builtin.List.listTooLong (its.toArray.size + its2.toArray.size)) = true := by
    rw [notLongL hsz, Bool.and_false]
    exact Bool.false_ne_true
  refine call_meets F.slot_list_extend ⟨_, e, rfl⟩ F.entry_list_extend (F.args_list_extend_2 _ _)
    (AutoSeq1.list_extend_list_list_0 l its.toArray n b its2.toArray n2 hlong (by rw [List.size_toArray]; omega) (by omega)) ⟨e, e2, ?_⟩
  refine ⟨.non, _, I.lset (its' := its ++ its2) hH e (by simp) (r.append r2) ?_, rfl, q⟩
  rw [List.length_append]
  omega
def rPop : V → List V → Hp → VK → Prop := fun x vs H Q => ∃ l xs y, x = .ref l ∧ vs = [] ∧ H l = some (.lst xs) ∧ xs[xs.length - 1]? = some y ∧ Q y (upd H l (.lst xs.dropLast))
theorem mt_pop : MtM X "list.pop" rPop := by
  intro pins s σ H x vs v us Q I rx rv h
  obtain ⟨l, xs, y, rfl, rfl, hH, hy, q⟩ := h
  cases rx
  have hus := rv.zero
  subst hus
  obtain ⟨z, its, n, r, hl, e⟩ := I.lstM hH
  obtain ⟨u, hu, ru⟩ := r.get hy
  have hy' : its.toArray[its.toArray.size - 1]? = some u := by
    show its.toArray[its.length - 1]? = some u
    rw [← Array.getElem?_toList, ← hl]
    exact hu
  refine call_meets F.slot_list_pop ⟨_, e, rfl⟩ F.entry_list_pop (F.args_list_pop_1 _) (MeetsSeq.list_pop_last l its.toArray n u hy' (by rw [List.size_toArray]; omega)) ⟨e, ?_⟩
  refine ⟨y, _, I.lset (its' := its.dropLast) hH e ?_ r.dropLast ?_, ru, q⟩
  · show its.toArray.eraseIdxIfInBounds (its.toArray.size - 1) = its.dropLast.toArray
    rw [List.size_toArray, List.eraseIdxIfInBounds_toArray, erase_last]
  · rw [List.length_dropLast]
    omega
def rPopAt : V → List V → Hp → VK → Prop := fun x vs H Q => ∃ l xs i k y, x = .ref l ∧ vs = [.int i] ∧ H l = some (.lst xs) ∧ -(2 ^ 63) ≤ i ∧ i < 2 ^ 63 ∧ seqIndex? i xs.length = some k ∧ xs[k]? = some y ∧ Q y (upd H l (.lst (xs.eraseIdx k)))
theorem mt_popAt : MtM X "list.pop" rPopAt := by
  intro pins s σ H x vs v us Q I rx rv h
  obtain ⟨l, xs, i, k, y, rfl, rfl, hH, h1, h2, hk, hy, q⟩ := h
  cases rx
  obtain ⟨u, rfl, ru⟩ := rv.one
  obtain ⟨t, rfl⟩ := ru
  obtain ⟨z, its, n, r, hl, e⟩ := I.lstM hH
  obtain ⟨w, hw, rw'⟩ := r.get hy
  refine call_meets F.slot_list_pop ⟨_, e, rfl⟩ F.entry_list_pop (F.args_list_pop_2 _ _)
    (MeetsSeq.list_pop_at l its.toArray n i t k w (fitsIndex_both h1 h2) (by rw [List.size_toArray, ← hl]; exact hk) (by rw [← Array.getElem?_toList]; exact hw) (by rw [List.size_toArray]; omega)) ⟨e, ?_⟩
  refine ⟨y, _, I.lset (its' := its.eraseIdx k) hH e ?_ (r.eraseIdx k) ?_, rw', q⟩
  · show its.toArray.eraseIdxIfInBounds k = (its.eraseIdx k).toArray
    rw [List.eraseIdxIfInBounds_toArray]
  · have := len_erase xs k
    omega
def rCat : R2 := fun x y H Q => ∃ l b xs zs, x = .ref l ∧ y = .ref b ∧ H l = some (.lst xs) ∧ H b = some (.lst zs) ∧ xs.length + zs.length ≤ sizeLine ∧ ∀ p, H p = none → Q (.ref p) (upd H p (.lst (xs ++ zs)))
theorem op_cat : OpR X (binaryOp .Add) rCat := by
  intro pins s σ H x y v u Q I rx ry h
  obtain ⟨l, b, xs, zs, rfl, rfl, hH, hB, hz, q⟩ := h
  cases rx
  cases ry
  obtain ⟨z, its, n, r, hl, e⟩ := I.lstM hH
  obtain ⟨z2, its2, n2, r2, hl2, e2⟩ := I.lstM hB
  refine PySem.P.add_list e e2 ?_ (by rw [List.size_toArray, List.size_toArray]; omega)
  have ea : its.toArray ++ its2.toArray = (its ++ its2).toArray := by simp
  rw [ea]
  exact ⟨.ref _, _, I.lnew (t' := s.toks) (r.append r2) (by rw [List.length_append]; omega), rfl, q _ I.fresh⟩
theorem len_rep {α : Type} (xs : List α) (k : Nat) : (List.replicate k xs).flatten.length = k * xs.length := by
  induction k with
  | zero => simp
  | succ k ih => rw [List.replicate_succ, List.flatten_cons, List.length_append, ih, Nat.succ_mul, Nat.add_comm]
end
section
variable {prog : Program} {w : World} {A : Around} {E : Value → Shared → Prop} {s : Shared}
set_option maxRecDepth 100000 in
end
section
variable {X : Cx}
end
end L2
namespace Att
open PySem PySem.W PySem.Calls PyProof.Rows
theorem ints_of_wellAll {P : Params} {h : Heap} : ∀ (ns : List Int) (vs : List Value), WellAll P h vs (ns.map WData.int) → IntsAre vs ns := by
  intro ns
  induction ns with
  | nil =>
    intro vs w
    rw [List.map_nil] at w
    cases w
    exact .nil
  | cons n ns ih =>
    intro vs w
    rw [List.map_cons] at w
    cases w with
    | cons a b =>
      cases a
      exact .cons _ _ (ih _ b)
theorem script_of {l : OpenLaw} {n : Nat} (hn : l.most = some n) {P : Params} {h : Heap} {args : List WData} {vals : List Value}
    (hpre : l.row.toRowW.claim.pre args = true) (hwl : WellAll P h vals args) :
    ∃ a vs ns, vals = [Value.ref a] ∧ args = [WData.list (ns.map WData.int)] ∧ h.get? a = some { cls := .type "list", data := .seq vs.toArray } ∧ IntsAre vs ns ∧ ns.length ≤ n := by
  have hsh : WShape.hasAll [] args [.list .int] = true := (pre_splitW hpre).1
  have hc : l.pre.holds [] { args := args } = true := (pre_splitW hpre).2
  obtain ⟨d, r, rfl, h1, h2⟩ := hasAllW_cons hsh
  obtain rfl := hasAllW_nil h2
  obtain ⟨xs, rfl, h3⟩ := hasW_list h1
  obtain ⟨ns, rfl⟩ := items_int h3
  have hlen : ns.length ≤ n := by
    unfold OpenLaw.pre at hc
    have h4 : (WTm.not (.lt (.lit (.int (n : Int))) (.len (.arg 0)))).holds [] { args := [.list (ns.map .int)] } = true := by
      have h4 := (holds_andW hc).1
      rw [hn] at h4
      exact h4
    have h5 := condW_of h4 (w_not (w_lt w_lit (w_len_list (w_arg rfl))))
    rw [List.length_map] at h5
    refine Nat.le_of_not_lt fun q => ?_
    have q' : (n : Int) < ((ns.length : Nat) : Int) := by omega
    first
      | (rw [decide_eq_true q'] at h5; exact absurd h5 (by decide))
      | (simp at h5; omega)
  cases hwl with
  | cons w1 w2 =>
    cases w2
    cases w1 with
    | list ho hall => exact ⟨_, _, ns, rfl, rfl, ho, ints_of_wellAll ns _ hall, hlen⟩
theorem post_true (l : OpenLaw) (args : List WData) : l.row.toRowW.claim.post args (.bool true) args = true :=
  postW_of (r := l.row.toRowW) (X := (true == true))
    (show WShape.has [] (.bool true) .bool = true by first | rfl | decide | simp [WShape.has, WShape.arms, WShape.armsAll])
    (show (WTm.eq .res (.lit (.bool true))).value [] { args := args, res := some (.bool true), after := args } = some (.bool (true == true)) from w_eq_bool (w_res rfl) w_lit) rfl
theorem attach_call {l : OpenLaw} {n : Nat} {q : Program} {loose : List Str} {XP : (Str → Option Value) → Heap → Prop} {YP : World → Heap → Prop} {d : DefRec}
    (hn : l.most = some n) (hdf : d.params.defaults = [])
    (call : ∀ (w : World) (s₀ s₁ : Shared) (mg mb : Str → Option Value) (fa : Addr) (o : Obj) (pm cd doc : Value) (a : Addr) (vs : List Value) (ns : List Int),
      Ground q loose [] XP w s₀ mg mb s₁.heap → YP w s₁.heap →
      s₁.heap.get? fa = some o → o.data = .func (docDef d.name d.params d.body d.scope pm cd doc) → s₁.heap.CodeRec cd d.name → mg d.name = some (.ref fa) →
      s₁.heap.get? a = some { cls := .type "list", data := .seq vs.toArray } → IntsAre vs ns → ns.length ≤ n → s₁.gens = #[] →
      codeAny (model l.prog w) callerA (.call (.ref fa) ⟨[.ref a], []⟩) (fun r s' => r = .ok (.ret (.bool true)) ∧ OldK s₁.heap s'.heap ∧ s'.os = s₁.os ∧ AllBare s'.gens) s₁) :
    WalkO q loose XP YP l.row.toRowW d [] (fun f vs => PySem.call f vs) := by
  intro w s₀ s₁ mg mb G Y fa o pm cd doc dV kV ho hd hcd hD hmg hg args vals as hpre hlay hrd hwl hlo
  obtain rfl : dV = .none := Dflts.none hD hdf
  obtain rfl : kV = .none := Dflts.noKw hD
  obtain ⟨a, vs, ns, rfl, rfl, hobj, hints, hlen⟩ := script_of hn hpre hwl
  refine enter_call (codeAny_mono (call w s₀ s₁ mg mb fa o pm cd doc a vs ns G Y ho (fd_plain hd) hcd hmg hobj hints hlen hg) fun r s' hq => ?_)
  obtain ⟨rfl, h2, h3, h4⟩ := hq
  exact ⟨.inl ⟨.bool true, .bool true, [], rfl, fun _ => rfl, .bool true, post_true l _, fun _ => ⟨List.Pairwise.nil, fun _ hm => (nomatch hm)⟩⟩, h2, h3, h4⟩
section
variable {prog : Program} {w : World} {A : Around} {E : Value → Shared → Prop} {s : Shared} {K : Frag}
end
end Att
namespace L2
open PySem PySem.Spec PyProof.Rows
theorem vals_ints : ∀ {vs : List Value} {ns : List Int}, IntsAre vs ns → Vals (ns.map V.int) vs
  | _, _, .nil => .nil
  | _, _, .cons n t h => .cons ⟨t, rfl⟩ (vals_ints h)
def Only (H : Hp) : Prop := ∀ b, H b = none ∨ ∃ o xs, H b = some (.frz o (.lst xs))
theorem law_call {P : Program} {w : World} {K : PySem.W.Frag} {mg mb : Str → Option Value} {CX : CXT} {k : Nat} {fa a : Addr} {fd : FuncData} {x : Str} {sp : Sp} {s₁ : Shared} {vs : List Value} {ns : List Int}
    (KX : K.In s₁.heap) (hns : s₁.heap.Ns mainGlobals mg) (hb : s₁.heap.Ns builtinsNs mb) (hbb : ∀ x : Str, x ≠ "__name__" → mb x = bootBuiltins x) (hlim : s₁.heap.NoLimit) (hg : s₁.gens = #[])
    (ha : s₁.heap.get? a = some { cls := .type "list", data := .seq vs.toArray }) (hi : IntsAre vs ns) (hl : ns.length ≤ sizeLine) (hr : Room k callerA)
    (F : ∀ base : Heap, K.In base → base.Ns mainGlobals mg → FnOk P w K mg base CX k fa fd [x] sp) (hbind : ∀ (s : Shared) (u : Value), BindsTo s fd ⟨[u], []⟩ [(x, u)])
    (hsp : ∀ H : Hp, Only H → SqL K H a (ns.map V.int) → sp [.ref a] H (fun v _ => v = .bl true) fun _ _ _ => False)
    (hCX : ∀ H e s', CX [] H s₁ (fun _ _ _ => False) e s' → False) :
    codeAny (model P w) callerA (.call (.ref fa) ⟨[.ref a], []⟩) (fun r s' => r = .ok (.ret (.bool true)) ∧ OldK s₁.heap s'.heap ∧ s'.os = s₁.os ∧ AllBare s'.gens) s₁ := by
  have rv := vals_ints hi
  have lenV := hi.length
  -- from an abstract heap in which nothing but the script may be tracked
  have core : ∀ H : Hp, Only H → SqL K H a (ns.map V.int) → HOk P w H s₁.heap → (∀ b, H b ≠ none → b = a) → (H a ≠ none → K.lookup a = none) →
      codeAny (model P w) callerA (.call (.ref fa) ⟨[.ref a], []⟩) (fun r s' => r = .ok (.ret (.bool true)) ∧ OldK s₁.heap s'.heap ∧ s'.os = s₁.os ∧ AllBare s'.gens) s₁ := by
    intro H hO hS hok hA hK
    have base_of : ∀ {b : Addr} {o : Obj}, s₁.heap.get? b = some o → H b = none → (hidT s₁.heap H).get? b = some o := fun e n => hidT_get e n
    have noA : ∀ {b : Addr} {o : Obj} {es : Array DictEntry} {ep : Nat}, s₁.heap.get? b = some o → o.data = .dict es ep → H b = none := fun {b o es ep} e d => by
      cases q : H b with
      | none => rfl
      | some u =>
        have e' : b = a := hA b (by rw [q]; simp)
        subst e'
        rw [ha] at e; cases e
        have d' : Data.seq vs.toArray _ = Data.dict es ep := d
        cases d'
    have nsK : ∀ {b : Addr} {m : Str → Option Value}, s₁.heap.Ns b m → (hidT s₁.heap H).Ns b m := fun {b m} ⟨o, es, ep, e, d, r⟩ => ⟨o, es, ep, base_of e (noA e d), d, r⟩
    have hKb : K.In (hidT s₁.heap H) := fun b o e => base_of (KX b o e) (by
      cases q : H b with
      | none => rfl
      | some u =>
        have e' : b = a := hA b (by rw [q]; simp)
        subst e'
        rw [hK (by rw [q]; simp)] at e; cases e)
    have hM : Mod K mg (hidT s₁.heap H) := ⟨hKb, nsK hns, ⟨mb, nsK hb, hbb⟩, let ⟨mc, h1, h2⟩ := hlim; ⟨mc, nsK h1, h2⟩⟩
    have e0 : Env0 P w K mg (hidT s₁.heap H) callerA [] s₁ H := ⟨rfl, hM, fun b o e => of_hidT e, Nat.le_of_eq (hidT_size _ _), trivial, fun b hb => absurd (show b ∈ ([] : List Addr) from hb) (by simp), hok, .of_eq hg⟩
    refine codeAny_mono ((F _ hKb (nsK hns)).run callerA [] s₁ H ⟨[.ref a], []⟩ [.ref a] [.ref a] _ _ hr e0 (hbind s₁ (.ref a)) (.cons rfl .nil) (hsp H hO hS)) fun r s' h => ?_
    cases r with
    | error e => exact (hCX H e s' h).elim
    | ok fl =>
      cases fl with
      | next => exact False.elim h
      | brk => exact False.elim h
      | cont => exact False.elim h
      | ret u =>
        obtain ⟨v, H', os, bare, un, hok', r', q⟩ := h
        have q' : v = .bl true := q
        subst q'
        obtain rfl : u = Value.bool true := r'
        refine ⟨rfl, OldK.of_keep fun b o e => ?_, os, bare⟩
        cases q : H b with
        | none => exact un.keep b o e q (by intro z; exact absurd (show b ∈ ([] : List Addr) from z) (by simp)) (by simp)
        | some u =>
          rcases hO b with z | ⟨ob, xs, z⟩
          · rw [q] at z; cases z
          · have z2 := un.frzs b ob _ z
            obtain ⟨e1, _⟩ := hok b _ z
            obtain ⟨e2, _⟩ := hok' b _ z2
            rw [e] at e1; cases e1
            exact e2
  cases hk : K.lookup a with
  | some o =>
    -- the script is one of the module's own objects
    have e := KX a o hk
    rw [ha] at e
    cases e
    refine core (fun _ => none) (fun _ => .inl rfl) (.inr ⟨_, vs.toArray, _, hk, rfl, rfl, rfl, by rw [List.size_toArray, lenV]; exact hl, by simpa using rv⟩) (fun b u z => by have z' : (none : Option HO) = some u := z; cases z') (fun b z => absurd rfl z) fun z => absurd rfl z
  | none =>
    refine core (fun b => if b = a then some (.frz { cls := .type "list", data := .seq vs.toArray } (.lst (ns.map V.int))) else none) (fun b => ?_) (.inl (.inr ⟨{ cls := .type "list", data := .seq vs.toArray }, if_pos rfl⟩)) (fun b u z => ?_) (fun b z => ?_) fun _ => hk
    · by_cases hb : b = a
      · exact .inr ⟨_, _, if_pos hb⟩
      · exact .inl (if_neg hb)
    · by_cases hb : b = a
      · have z' := (if_pos hb).symm.trans z
        cases z'
        subst hb
        exact ⟨ha, by rw [List.length_map]; exact hl, vs, _, rv, ha⟩
      · have z' := (if_neg hb).symm.trans z
        cases z'
    · by_cases hb : b = a
      · exact hb
      · exact absurd (if_neg hb) z
theorem walk_of {l : PySem.W.OpenLaw} {n k : Nat} {q : Program} {loose : List Str} {XP : (Str → Option Value) → Heap → Prop} {YP : World → Heap → Prop} {d : DefRec} {K : Params → PySem.W.Frag} {CX : World → CXT} {sp : World → Sp} {x : Str}
    (hn : l.most = some n) (hn2 : n ≤ sizeLine) (hdf : d.params.defaults = []) (hr : Room k callerA)
    (hY : ∀ (w : World) (h : Heap), YP w h → (K w.params).In h)
    (F : ∀ (w : World) (mg : Str → Option Value) (fa : Addr) (h : Heap), (K w.params).In h → h.Ns mainGlobals mg → mg d.name = some (.ref fa) →
      ∃ fd : FuncData, (∀ (s : Shared) (u : Value), BindsTo s fd ⟨[u], []⟩ [(x, u)]) ∧
        ∀ base : Heap, (K w.params).In base → base.Ns mainGlobals mg → FnOk l.prog w (K w.params) mg base (CX w) k fa fd [x] (sp w))
    (hsp : ∀ (w : World) (H : Hp) (a : Addr) (ns : List Int), ns.length ≤ n → Only H → SqL (K w.params) H a (ns.map V.int) → sp w [.ref a] H (fun v _ => v = .bl true) fun _ _ _ => False)
    (hCX : ∀ (w : World) (H : Hp) (s : Shared) (e : Value) (s' : Shared), CX w [] H s (fun _ _ _ => False) e s' → False) :
    PySem.W.WalkO q loose XP YP l.row.toRowW d [] (fun f vs => PySem.call f vs) := by
  refine Att.attach_call hn hdf fun w s₀ s₁ mg mb fa o pm cd doc a vs ns G Y ho hd hcd hmg hobj hints hlen hg => ?_
  have KX := hY w _ Y
  obtain ⟨fd, hb, hF⟩ := F w mg fa _ KX G.T.g hmg
  exact law_call KX G.T.g G.T.b G.T.builtins G.T.nolimit hg hobj hints (Nat.le_trans hlen hn2) hr hF hb (fun H hO hS => hsp w H a ns hlen hO hS) fun H e s' => hCX w H s₁ e s'
end L2
/- THE LAST THEOREM (shape; LID, My.* are yours):
   My.Adr: a structure of the addresses that your layer names (classes, functions); My.Txt K t: a structure (Prop) of the equations over K;
   My.txt_mk : {K} {implicit addresses ..} (e1 : nsIn K mainGlobals "law" = some (some (.ref f))) (e2 : K.lookup f = some ⟨oc, od, .func (fnOf "law" "law" params body scope dV kV doc pm an cdv ct), sl⟩) (e3 : codeIn K cdv "law" = true) .. : ∃ t, My.Txt K t
set_option maxRecDepth 100000 in
set_option maxHeartbeats 0 in
theorem PySem.Challenge.cw_LID_holds : PySem.Challenge.rw_LID.Holds := by
  w_on; o_law; k_head; (case hw => w_witness2)
  k_fill
  refine L2.walk_of (l := PySem.Challenge.rw_LID) (n := 63) (k := 40) (x := "script") (CX := fun w => ..) (sp := fun _ => My.sp_law) rfl (by decide) rfl ⟨rfl, by decide, by decide⟩ (fun w h Y => PySem.W.kIn_of Y) ?F ?S ?C
  case F =>
    intro w mg fa h KX G hmg
    have T : ∃ t, My.Txt (L2.KOf KX) t := by
      dsimp only [L2.KOf]                          -- K must stand as «<heap const> w.params» for k_is
      refine' My.txt_mk ?e1 ?e2 ?e3 ..
      (case e1 => PySem.W.k_is)                    -- in the order: a name -> its address -> its object -> its parts
      (case e2 => PySem.W.k_is)
      ..
    obtain ⟨t, T⟩ := T
    have e0 := hmg.symm.trans (PySem.W.mg_of KX G T.law)
    cases e0                                       -- fa is the law's own address
    exact ⟨_, fun s u => .of_eq rfl, fun base kb nb => My.law_fn T kb nb⟩     -- if «.of_eq rfl» comes too early: refine' ⟨_, ?b, fun base kb nb => My.law_fn T kb nb⟩; exact fun s u => .of_eq rfl
  case S => exact fun w H a ns hl hO hS => ..
  case C => exact ..
(the tactic k_is has no namespace: write k_is) -/
namespace L2
open PySem PySem.Spec PyProof.Rows
def defArgs (s : Stmt) : Arguments := match s with
  | .FunctionDef _ a _ _ _ _ _ _ _ _ => a
  | _ => { posonlyargs := [], args := [], vararg := none, kwonlyargs := [], kw_defaults := [], kwarg := none, defaults := [] }
def defBody (s : Stmt) : List Stmt := match s with
  | .FunctionDef _ _ b _ _ _ _ _ _ _ => b
  | _ => []
def defScope (s : Stmt) : Scope := match s with
  | .FunctionDef _ _ _ _ _ _ sc _ _ _ => sc
  | _ => { kind := .function, names := [], isGenerator := false, isCoroutine := false }
abbrev CX0 : CXT := fun _ _ _ _ _ _ => False
abbrev E0 : XK := fun _ _ _ => False
theorem pass0 {X : Cx} : Passes CX0 X E0 := fun _ _ _ _ _ _ _ h => h.elim
structure Fun (K : PySem.W.Frag) (x qual : Str) (st : Stmt) (f : Addr) (fd : FuncData) : Prop where
  ex : ∃ (oc : Value) (od : Option Addr) (kV doc pm : Value) (an : Option Addr) (cdv ct : Value) (osl : Array (Option Value)),
    fd = PySem.W.fnOf x qual (defArgs st) (defBody st) (defScope st) .none kV doc pm an cdv ct ∧ K.lookup f = some ⟨oc, od, .func fd, osl⟩ ∧ PySem.W.codeIn K cdv qual = true
  kp : PySem.W.keepIn K (.ref f) = true
section
variable {P : Program} {w : World} {K : PySem.W.Frag} {mg : Str → Option Value} {base : Heap}
theorem Fun.ok {x qual : Str} {st : Stmt} {f : Addr} {fd : FuncData} {N ps : List Str} {k : Nat} {sp : Sp} (F : Fun K x qual st f fd) (S : FnScope N ps (defScope st)) (len : ∀ vs H Q E, sp vs H Q E → vs.length = ps.length)
    (hbody : ∀ (cdv : Value) (A : Around) (outer : List Env) (s : Shared) (H : Hp) (vs : List V) (Q : VK) (E : XK), Room k (A.deeper (envOfC qual (defScope st) s.heap.objs.size f cdv)) → sp vs H Q E →
      ∃ t, PSs (cxOf CX0 P w K mg base N qual (defScope st) f cdv A outer s H E).nox (defBody st) t ∧ t { nx := fun _ H' => Q .non H', rt := Q } (start N vs) H) : FnOk P w K mg base CX0 (k + 1) f fd ps sp := by
  obtain ⟨oc, od, kV, doc, pm, an, cdv, ct, osl, rfl, lk, hcd⟩ := F.ex
  refine fn_of lk hcd S len fun A outer s H vs Q E hr hsp => ?_
  obtain ⟨t, h, q⟩ := hbody cdv A outer s H vs Q E hr hsp
  exact ⟨t, h.nox, q⟩
theorem Fun.binds {x qual : Str} {st : Stmt} {f : Addr} {fd : FuncData} {ps : List Str} (F : Fun K x qual st f fd)
    (h : ∀ (kV doc pm : Value) (an : Option Addr) (cdv ct : Value) (us : List Value), us.length = ps.length → bindArgs (PySem.W.fnOf x qual (defArgs st) (defBody st) (defScope st) .none kV doc pm an cdv ct) ⟨us, []⟩ = pure (ps.zip us)) : Binds K fd ps [] := by
  obtain ⟨oc, od, kV, doc, pm, an, cdv, ct, osl, rfl, lk, hcd⟩ := F.ex
  exact .all (h kV doc pm an cdv ct)
theorem fun_mk {x qual : Str} {st : Stmt} {f : Addr} {oc : Value} {od an : Option Addr} {osl : Array (Option Value)} {kV doc pm cdv ct : Value} (l : K.lookup f = some ⟨oc, od, .func (PySem.W.fnOf x qual (defArgs st) (defBody st) (defScope st) .none kV doc pm an cdv ct), osl⟩)
    (c : PySem.W.codeIn K cdv qual = true) (k : PySem.W.keepIn K (.ref f) = true) : Fun K x qual st f (PySem.W.fnOf x qual (defArgs st) (defBody st) (defScope st) .none kV doc pm an cdv ct) := ⟨⟨oc, od, kV, doc, pm, an, cdv, ct, osl, rfl, l, c⟩, k⟩
end
theorem small1000 {n : Nat} (h : n ≤ 1000) : n < sizeLine := Nat.lt_of_le_of_lt h (by decide)
section
variable {X : Cx}
theorem pv (i : Nat) {x : Str} {pos : Pos} (hN : X.N[i]? = some x := by rfl) (hv : Vis X.env.scope x := by first | exact Or.inl rfl | exact Or.inr (Or.inl rfl) | exact Or.inr (Or.inr rfl)) (hd : (x == ("__debug__" : Str)) = false := by decide)
    (hcd : (x == ("__classdict__" : Str)) = false := by decide) : PE X (.Name x pos) (tVar i) := pe_var hN hv hd hcd
end
theorem iteF {A B : Prop} (h : B) : if false = true then A else B := by
  rw [if_neg Bool.false_ne_true]
  exact h
theorem iteT {A B : Prop} (h : A) : if true = true then A else B := by
  rw [if_pos rfl]
  exact h
theorem ite2 {c A B : Prop} [Decidable c] (h1 : c → A) (h2 : ¬ c → B) : if c then A else B := by
  by_cases h : c
  · rw [if_pos h]
    exact h1 h
  · rw [if_neg h]
    exact h2 h
def Same (H H' : Hp) : Prop := ∀ b o, H b = some o → H' b = some o
theorem Same.refl (H : Hp) : Same H H := fun _ _ h => h
theorem Same.trans {H H1 H2 : Hp} (a : Same H H1) (b : Same H1 H2) : Same H H2 := fun c o h => b c o (a c o h)
theorem Same.free {H H' : Hp} (e : Same H H') {l : Addr} (h : H' l = Option.none) : H l = Option.none := by
  cases q : H l with
  | none => rfl
  | some o =>
    rw [e l o q] at h
    cases h
def clStep (cells : List (Str × Addr)) (acc : List (Str × Addr)) (p : Str × NameKind) : List (Str × Addr) :=
  if p.2 == .free then (match cells.lookup p.1 with | some c => (p.1, c) :: acc | none => acc) else acc
def clOf (names : List (Str × NameKind)) (cells : List (Str × Addr)) : List (Str × Addr) := names.foldl (clStep cells) []
theorem closure_loop {env : Env} : ∀ (names : List (Str × NameKind)) (acc : List (Str × Addr)), (∀ y ∈ names, y.2 = .free → ∃ c, env.cells.lookup y.1 = some c) →
    (forIn names acc (fun (p : Str × NameKind) (cs : List (Str × Addr)) => (match p with
      | (name, kind) => if (kind == .free) = true then (do let c ← cellOf env name; pure (ForInStep.yield ((name, c) :: cs))) else pure (ForInStep.yield cs) : Sem (ForInStep (List (Str × Addr)))))) = pure (names.foldl (clStep env.cells) acc)
  | [], acc, _ => rfl
  | (n, k) :: r, acc, h => by
    have ih := fun acc => closure_loop (env := env) r acc fun y hy => h y (List.mem_cons_of_mem _ hy)
    rw [List.forIn_cons, List.foldl_cons]
    by_cases e : (k == NameKind.free) = true
    · obtain ⟨c, hc⟩ := h (n, k) List.mem_cons_self (by simpa using e)
      have hc' : env.cells.lookup n = some c := hc
      have e1 : clStep env.cells acc (n, k) = (n, c) :: acc := by unfold clStep; rw [if_pos e]; simp only [hc']
      rw [e1, ← ih]
      have e2 : cellOf env n = pure c := by unfold cellOf; rw [hc']
      simp only [e, if_true, e2]
      rfl
    · have e1 : clStep env.cells acc (n, k) = acc := by unfold clStep; rw [if_neg e]
      rw [e1, ← ih]
      simp only [e, if_false]
      rfl
theorem closureFor_of {scope : Scope} {env : Env} (h : ∀ y ∈ scope.names, y.2 = .free → ∃ c, env.cells.lookup y.1 = some c) : closureFor scope env = pure (clOf scope.names env.cells) := by
  unfold closureFor
  have q := closure_loop (env := env) scope.names [] h
  unfold clOf
  exact (congrArg (fun (m : Sem (List (Str × Addr))) => m >>= fun cs => pure cs) q).trans rfl
theorem cl_sound {cells : List (Str × Addr)} : ∀ (names : List (Str × NameKind)) (acc : List (Str × Addr)), (∀ y c, acc.lookup y = some c → cells.lookup y = some c) → ∀ y c, (names.foldl (clStep cells) acc).lookup y = some c → cells.lookup y = some c
  | [], acc, h, y, c, e => h y c e
  | p :: r, acc, h, y, c, e => by
    refine cl_sound r (clStep cells acc p) (fun z d q => ?_) y c e
    unfold clStep at q
    split at q
    · split at q
      · rename_i c' hc'
        rw [List.lookup_cons] at q
        split at q
        · rename_i hz
          have hz' : z = p.1 := by simpa using hz
          cases q
          rw [hz']; exact hc'
        · exact h z d q
      · exact h z d q
    · exact h z d q
theorem cl_keeps {cells : List (Str × Addr)} : ∀ (names : List (Str × NameKind)) (acc : List (Str × Addr)) (y : Str), (acc.lookup y).isSome = true → ((names.foldl (clStep cells) acc).lookup y).isSome = true
  | [], _, _, h => h
  | p :: r, acc, y, h => by
    refine cl_keeps r _ y ?_
    unfold clStep
    split
    · split
      · rw [List.lookup_cons]
        split
        · rfl
        · exact h
      · exact h
    · exact h
theorem cl_has {cells : List (Str × Addr)} : ∀ (names : List (Str × NameKind)) (acc : List (Str × Addr)) (y : Str) (c : Addr), (y, NameKind.free) ∈ names → cells.lookup y = some c → ((names.foldl (clStep cells) acc).lookup y).isSome = true
  | [], _, _, _, h, _ => by simp at h
  | p :: r, acc, y, c, h, hc => by
    rcases List.mem_cons.mp h with e | e
    · refine cl_keeps r _ y ?_
      subst e
      unfold clStep
      simp only [hc]
      simp [List.lookup_cons]
    · exact cl_has r _ y c e hc
theorem relabel_free {env : Env} : ∀ {names : List (Str × NameKind)} {x : Str}, names.lookup x = some .free →
    (names.map fun (n, k) => if (k == NameKind.free && env.scope.kind == .function && env.kindOf n == some .cell) then (n, NameKind.cell) else (n, k)).lookup x = some .cell ∨
    (names.map fun (n, k) => if (k == NameKind.free && env.scope.kind == .function && env.kindOf n == some .cell) then (n, NameKind.cell) else (n, k)).lookup x = some .free
  | [], _, h => by simp at h
  | (n, k) :: r, x, h => by
    have ih := @relabel_free env r x
    rw [List.map_cons]
    cases hx : x == n with
    | true =>
      simp only [List.lookup_cons, hx] at h
      cases h
      by_cases hc : (NameKind.free == NameKind.free && env.scope.kind == .function && env.kindOf n == some .cell) = true
      · left; dsimp only; rw [if_pos hc]; simp [List.lookup_cons, hx]
      · right; dsimp only; rw [if_neg hc]; simp [List.lookup_cons, hx]
    | false =>
      simp only [List.lookup_cons, hx] at h
      have e : ∀ z : Str × NameKind, z.1 = n → ((z :: (r.map fun (n, k) => if (k == NameKind.free && env.scope.kind == .function && env.kindOf n == some .cell) then (n, NameKind.cell) else (n, k))).lookup x = (r.map fun (n, k) => if (k == NameKind.free && env.scope.kind == .function && env.kindOf n == some .cell) then (n, NameKind.cell) else (n, k)).lookup x) := fun z hz => by
        obtain ⟨z1, z2⟩ := z
        cases hz
        rw [List.lookup_cons, hx]
      dsimp only
      split
      · rw [e _ rfl]; exact ih h
      · rw [e _ rfl]; exact ih h
theorem relabel_back {env : Env} : ∀ {names : List (Str × NameKind)} {x : Str}, (∀ y ∈ names, y.2 ≠ .cell) →
    ((names.map fun (n, k) => if (k == NameKind.free && env.scope.kind == .function && env.kindOf n == some .cell) then (n, NameKind.cell) else (n, k)).lookup x = some .cell ∨
    (names.map fun (n, k) => if (k == NameKind.free && env.scope.kind == .function && env.kindOf n == some .cell) then (n, NameKind.cell) else (n, k)).lookup x = some .free) → names.lookup x = some .free
  | [], _, _, h => by simp at h
  | (n, k) :: r, x, hn, h => by
    have ih := @relabel_back env r x fun y hy => hn y (List.mem_cons_of_mem _ hy)
    have hk : k ≠ .cell := hn (n, k) List.mem_cons_self
    rw [List.map_cons] at h
    cases hx : x == n with
    | true =>
      by_cases hc : (k == NameKind.free && env.scope.kind == .function && env.kindOf n == some .cell) = true
      · have : k = .free := by
          cases k <;> simp at hc ⊢
        subst this
        simp [List.lookup_cons, hx]
      · dsimp only at h; rw [if_neg hc] at h
        simp only [List.lookup_cons, hx] at h ⊢
        rcases h with h | h
        · cases h; exact absurd rfl hk
        · exact h
    | false =>
      have e : ∀ z : Str × NameKind, z.1 = n → ((z :: (r.map fun (n, k) => if (k == NameKind.free && env.scope.kind == .function && env.kindOf n == some .cell) then (n, NameKind.cell) else (n, k))).lookup x = (r.map fun (n, k) => if (k == NameKind.free && env.scope.kind == .function && env.kindOf n == some .cell) then (n, NameKind.cell) else (n, k)).lookup x) := fun z hz => by
        obtain ⟨z1, z2⟩ := z
        cases hz
        rw [List.lookup_cons, hx]
      dsimp only at h
      have h' : (r.map fun (n, k) => if (k == NameKind.free && env.scope.kind == .function && env.kindOf n == some .cell) then (n, NameKind.cell) else (n, k)).lookup x = some .cell ∨ (r.map fun (n, k) => if (k == NameKind.free && env.scope.kind == .function && env.kindOf n == some .cell) then (n, NameKind.cell) else (n, k)).lookup x = some .free := by
        split at h
        · rw [e _ rfl] at h; exact h
        · rw [e _ rfl] at h; exact h
      rw [List.lookup_cons, hx]
      exact ih h'
structure CompSc (X : Cx) (scope : Scope) (x : Str) (ix : List Nat) : Prop where
  kind : scope.kind = .function
  nocell : ∀ y ∈ scope.names, y.2 ≠ .cell
  loc : ∀ y ∈ scope.names, y.2 = .local → scope.names.lookup y.1 = some .local
  x : scope.names.lookup x = some .local
  free : ∀ y ∈ scope.names, y.2 = .free → X.env.scope.names.lookup y.1 = some .cell ∨ X.env.scope.names.lookup y.1 = some .free
  cap : ∀ i ∈ ix, i < X.N.length ∧ scope.names.lookup (X.N.getD i "") = some .free
def compN (X : Cx) (x : Str) (ix : List Nat) : List Str := x :: ix.map fun i => X.N.getD i ""
def compσ (σ : St) (ix : List Nat) : St := none :: ix.map fun i => σ.getD i none
def compCx (X : Cx) (scope : Scope) (x : Str) (ix : List Nat) (ex : List Addr) (s : Shared) (H : Hp) : Cx where
  prog := X.prog
  w := X.w
  K := X.K
  mg := X.mg
  base := X.base
  A := X.A
  N := compN X x ix
  s₀ := s
  H₀ := H
  env := compEnvC scope (clOf scope.names X.env.cells) s.heap.objs.size X.env
  outer := X.stack
  stack := X.stack
  ex := ex
  fn := fun _ => false
  calm := X.calm
  pn := []
  xe := fun _ _ => False
section
variable {X : Cx} {scope : Scope} {x : Str} {ix : List Nat}
theorem CompSc.cells (S : CompSc X scope x ix) (ok : X.Ok) : ∀ y ∈ scope.names, y.2 = .free → ∃ c, X.env.cells.lookup y.1 = some c := fun y hy hf => ok.has y.1 (S.free y hy hf)
theorem inv_comp {pins : List (Addr × Obj)} {σ : St} {H : Hp} {s : Shared} {h' : Heap} {t' : Nat} {fp : List Addr} (S : CompSc X scope x ix) (I : Inv X pins σ H s) (hf : ∀ b ∈ fp, FpOk X pins H b) (hlt : ∀ b ∈ fp, b < s.heap.objs.size)
    (ns : h'.Ns s.heap.objs.size (fun y => ([] : List (Str × Value)).reverse.lookup y)) (sb : Heap.SameBut s.heap.objs.size (s.heap.push { cls := .type "dict", data := .dict #[] }) h') :
    Inv (compCx X scope x ix fp s H) [] (compσ σ ix) H { s with heap := h', toks := t' } := by
  have hk : ∀ b u, s.heap.get? b = some u → h'.get? b = some u := fun b u e => (sb.2 b (Nat.ne_of_lt (Heap.lt_size e))).trans (Heap.get?_push_of_some _ e)
  have sound : ∀ y c, (clOf scope.names X.env.cells).lookup y = some c → X.env.cells.lookup y = some c := cl_sound scope.names [] (fun _ _ q => by simp at q)
  have cellLt : ∀ y c, X.env.cells.lookup y = some c → c < s.heap.objs.size := fun y c e => by
    obtain ⟨v, q⟩ := I.cell y c e
    exact q.lt
  have cellK : ∀ y c v, X.env.cells.lookup y = some c → s.heap.IsCell c v → h'.IsCell c v := fun y c v _ ⟨o, ho, hd⟩ => ⟨o, hk c o ho, hd⟩
  refine ⟨⟨I.ok.mod, S.kind, I.ok.glob, I.ok.blt, Nat.le_refl _, fun y z c h1 h2 => I.ok.inj y z c (sound y c h1) (sound z c h2), fun y hy => ?_, fun y c hf _ => (by cases hf), I.ok.hd, I.ok.frames, .inl rfl, fun b hb => ⟨Nat.ne_of_lt (hlt b hb), fun y c e => (hf b hb).2.2.2.2.1 y c (sound y c e)⟩, I.bs, Nat.le_trans I.ok.bsz I.sz, fun b o e hb => ?_, fun b hb hs => ?_, I.stack, I.stkFree⟩,
    rfl, I.bare, Un.kept hk, ⟨_, ns, fun i y v h1 h2 h3 => ?_⟩, fun y c e => ?_, I.hok.fresh (Nat.le_refl _), fun y c e => I.freeC y c (sound y c e), fun p hp => absurd (show p ∈ ([] : List (Addr × Obj)) from hp) (by simp), I.hok.kept hk, ?_⟩
  · have hy' : scope.names.lookup y = some .free := relabel_back (env := X.env) S.nocell hy
    obtain ⟨c, hc⟩ := S.cells I.ok (y, .free) (PySem.mem_of_lookup hy') rfl
    exact Option.isSome_iff_exists.mp (cl_has scope.names [] y c (PySem.mem_of_lookup hy') hc)
  · obtain ⟨_, _, _, f3, _⟩ := hf b hb
    rcases f3 with f3 | f3
    · exact I.ok.noex b o e f3
    · exact absurd (Nat.lt_of_lt_of_le (Heap.lt_size e) (Nat.le_trans I.ok.bsz f3)) (Nat.lt_irrefl _)
  · rcases List.mem_cons.mp (I.stkSub b hs) with e | e
    · exact (hf b hb).2.1 e
    · exact (hf b hb).2.2.1 e
  · cases i with
    | zero =>
      have h2' : (none : Option V) = some v := by simpa [compσ] using h2
      cases h2'
    | succ i =>
      have h1' : (ix.map fun i => X.N.getD i "")[i]? = some y := by simpa [compCx, compN] using h1
      have h2' : (ix.map fun i => σ.getD i none)[i]? = some (some v) := by simpa [compσ] using h2
      rw [List.getElem?_map] at h1' h2'
      cases ei : ix[i]? with
      | none => rw [ei] at h1'; cases h1'
      | some j =>
        rw [ei] at h1' h2'
        have h1'' : X.N.getD j "" = y := Option.some.inj h1'
        have h2'' : σ.getD j none = some v := Option.some.inj h2'
        obtain ⟨hj, hfr⟩ := S.cap j (List.mem_of_getElem? ei)
        rw [h1''] at hfr
        have e1 : X.N[j]? = some y := by
          rw [List.getElem?_eq_getElem hj]
          rw [List.getD_eq_getElem?_getD, List.getElem?_eq_getElem hj] at h1''
          exact congrArg some h1''
        have e2 : σ[j]? = some (some v) := by
          have hj' : j < σ.length := by rw [I.len]; exact hj
          rw [List.getElem?_eq_getElem hj']
          rw [List.getD_eq_getElem?_getD, List.getElem?_eq_getElem hj'] at h2''
          exact congrArg some h2''
        have vis : Vis X.env.scope y := by
          rcases S.free (y, .free) (PySem.mem_of_lookup hfr) rfl with q | q
          · exact .inr (.inl q)
          · exact .inr (.inr q)
        obtain ⟨m, hn, hl⟩ := I.loc
        obtain ⟨u, r, q⟩ := hl j y v e1 e2 vis
        refine ⟨u, r, .inr ⟨?_, ?_⟩⟩
        · exact relabel_free (env := X.env) hfr
        · rcases q with ⟨k, _⟩ | ⟨_, c, hc, z⟩
          · rcases S.free (y, .free) (PySem.mem_of_lookup hfr) rfl with q | q
            · rw [show X.env.kindOf y = X.env.scope.names.lookup y from rfl, q] at k; cases k
            · rw [show X.env.kindOf y = X.env.scope.names.lookup y from rfl, q] at k; cases k
          · obtain ⟨c', hc'⟩ := Option.isSome_iff_exists.mp (cl_has scope.names [] y c (PySem.mem_of_lookup hfr) hc)
            have e3 := sound y c' hc'
            rw [hc] at e3; cases e3
            exact ⟨c, hc', cellK y c _ hc z⟩
  · obtain ⟨v, q⟩ := I.cell y c (sound y c e)
    exact ⟨v, cellK y c v (sound y c e) q⟩
  · simp [compσ, compCx, compN]
theorem comp_out {pins : List (Addr × Obj)} {σ σ' : St} {H H' : Hp} {s s' : Shared} {fp : List Addr} {h'' : Heap} (I : Inv X pins σ H s) (hf : ∀ b ∈ fp, FpOk X pins H b) (J : Inv (compCx X scope x ix fp s H) [] σ' H' s')
    (sb : Heap.SameBut s.heap.objs.size s'.heap h'') : Inv X pins σ H' { s' with heap := h'' } := by
  have neC : ∀ b o, s.heap.get? b = some o → b ≠ s.heap.objs.size := fun b o e => Nat.ne_of_lt (Heap.lt_size e)
  have B : Un (frs X.stack) fp H H' s.heap s'.heap := J.base
  have hC : H' s.heap.objs.size = none := J.free
  refine I.call' (ch := fp) J.os ?_ ?_ J.bare fun b hb => ⟨(hf b hb).2.2.2.1, (hf b hb).2.1, (hf b hb).2.2.2.2.1, (hf b hb).2.2.2.2.2⟩
  · refine ⟨fun b o e n hb hx => (sb.2 b (neC b o e)).trans (B.keep b o e n hb hx), fun b o e n hb hx => ?_, B.free, fun b o e hx => ?_, B.tups, B.frzs, B.tbls⟩
    · obtain ⟨sl, q⟩ := B.slot b o e n hb hx
      exact ⟨sl, (sb.2 b (neC b o e)).trans q⟩
    · obtain ⟨o', q⟩ := B.there b o e hx
      exact ⟨o', (sb.2 b (neC b o e)).trans q⟩
  · intro b ob e
    refine (J.hok b ob e).stay (fun c w' hc q => (sb.2 c ?_).trans q) (fun _ q => q) fun _ _ q => q
    rintro rfl
    rcases hc with hc | hc
    · rw [← hc, hC] at e; cases e
    · rw [hC] at hc; cases hc
end
theorem wpAny_of_pure {α β : Type} {M : Model} {A : Around} {a : α} {t : Sem β} {P : α → Shared → Prop} {Q : β → Shared → Prop} {E E' : Value → Shared → Prop} {s : Shared} (h : wpAny M A (pure a : Sem α) P E s) (k : P a s → wpAny M A t Q E' s) : wpAny M A t Q E' s := fun Γ p hΓ => k (h Γ p hΓ) Γ p hΓ
def PIfs (X : Cx) (ifs : List Expr) (t : TT) : Prop :=
  ∀ (pins : List (Addr × Obj)) (s : Shared) (σ : St) (H : Hp) (Q : Bool → Hp → Prop), Inv X pins σ H s → t σ H Q →
    wpAny (model X.prog X.w) X.A (forIn ifs true fun c r => if r = true then do let ok ← isTrue c X.env (eval c X.env); pure (ForInStep.yield ok) else pure (ForInStep.yield r)) (TP X pins σ Q) X.xe s
def tYes : TT := fun _ H Q => Q true H
theorem pifs_nil {X : Cx} : PIfs X [] tYes := fun _ _ _ H _ I h => wpAny_tests_nil ⟨H, I, h⟩
theorem pifs_one {X : Cx} {c : Expr} {t : TT} (h : PT X c t) : PIfs X [c] t := fun pins s σ H Q I q => wpAny_tests_one (h pins s σ H Q I q)
def capσ (σ : St) (ix : List Nat) : St := ix.map fun i => σ.getD i none
def compGo (J : It) (D : Addr) (Q : VK) (ti : TT) (te : TE) (c : St) (H0 : Hp) : Prop :=
  ∃ W : Nat → Nat → Hp → Prop, (∃ m, W 0 m H0) ∧ ∀ i m H, W i m H →
    (J.stop i H ∧ Q (.ref D) H) ∨ (J.go i H ∧ ∃ N : Hp → Prop, (∀ H', N H' → ∃ m', m' < m ∧ W (i + 1) m' H') ∧ ∀ v H', J.yld i H v H' →
      ti (some v :: c) H' fun b H2 => if b = true then te (some v :: c) H2 fun y H3 => ∃ ys, H3 D = some (.lst ys) ∧ ys.length < sizeLine ∧ N (upd H3 D (.lst (ys ++ [y]))) else N H2)
def tComp (wi : TI) (ix : List Nat) (ti : TT) (te : TE) : TE := fun σ H Q => wi σ H fun J H1 => ∀ D, H1 D = none → compGo J D Q ti te (capσ σ ix) (upd H1 D (.lst []))
section
variable {X : Cx} {scope : Scope} {x : Str} {px pos : Pos} {ix : List Nat} {elt iter : Expr} {ifs : List Expr} {wi : TI} {ti : TT} {te : TE}
theorem comp_block {pins : List (Addr × Obj)} {σ : St} {H : Hp} {s : Shared} {fp : List Addr} {it D : Addr} {tn : Nat → Heap → Prop} {J : It} {Q : VK} {E : Value → Shared → Prop} {RR : Result → Shared → Prop} (S : CompSc X scope x ix) (hc : X.calm = true)
    (he : ∀ s H, PE (compCx X scope x ix fp s H) elt te) (hi : ∀ s H, PIfs (compCx X scope x ix fp s H) ifs ti)
    (I : Inv X pins σ H s) (T : Turn X.prog X.w X.K (.Name x px) J fp it tn) (st : tn 0 s.heap) (hf : ∀ b ∈ fp, FpOk X pins H b) (go : compGo J D Q ti te (capσ σ ix) H)
    (nd : (compN X x ix).Nodup)
    (hR : ∀ σ' H' s', Inv (compCx X scope x ix fp s H) [] σ' H' s' → Q (.ref D) H' → RR (.ok .next) s') :
    wpAny (model X.prog X.w) X.A (newFunctionEnv scope X.env.globals (clOf scope.names X.env.cells) [] X.env.qual none .none (some X.env)) (fun cenv s₄ => cenv.locals = s.heap.objs.size ∧
      codeAny (model X.prog X.w) X.A (.compStart (.ListComp elt [⟨.Name x px, iter, ifs, 0⟩] scope pos) 0 (.ref it) (.ref D) { cenv with scope := relabel scope X.env }) RR s₄) E s := by
  refine wpAny_newFunctionEnv S.nocell (by intro y hy; simp at hy) (fun h' ns sb => ⟨rfl, ?_⟩) S.kind
  have hlt : ∀ b ∈ fp, b < s.heap.objs.size := fun b hb => by
    obtain ⟨o, e, _⟩ := T.obj 0 _ st b hb
    exact Heap.lt_size e
  have I0 : Inv (compCx X scope x ix fp s H) [] (compσ σ ix) H { s with heap := h', toks := s.toks + ([] : List (Str × Value)).length } := inv_comp S I hf hlt ns sb
  have st0 : tn 0 h' := T.keep 0 _ _ st fun b hb o e => (sb.2 b (Nat.ne_of_lt (Heap.lt_size e))).trans (Heap.get?_push_of_some _ e)
  obtain ⟨W, ⟨m0, w0⟩, turn⟩ := go
  have stat : ∀ {H' : Hp}, (∀ b ∈ fp, H' b = none) → ∀ b ∈ fp, FpOk (compCx X scope x ix fp s H) [] H' b := fun hn b hb => by
    refine ⟨hn b hb, Nat.ne_of_lt (hlt b hb), fun z => ?_, .inl hb, fun y c e => (I0.ok.exf b hb).2 y c e, fun p hp => absurd (show p ∈ ([] : List (Addr × Obj)) from hp) (by simp)⟩
    exact I0.ok.exfs b hb z
  have loop : codeAny (model X.prog X.w) X.A (.compLoop (.ListComp elt [⟨.Name x px, iter, ifs, 0⟩] scope pos) 0 (.ref it) (.ref D) (compCx X scope x ix fp s H).env) RR { s with heap := h', toks := s.toks + ([] : List (Str × Value)).length } := by
    refine codeAny_compLoop_tests (fun n s' => ∃ i o H', Inv (compCx X scope x ix fp s H) [] (o :: capσ σ ix) H' s' ∧ tn i s'.heap ∧ (∀ b ∈ fp, H' b = none) ∧ W i n H') ?_ m0 ⟨0, none, H, I0, st0, fun b hb => (hf b hb).1, w0⟩
    rintro n s3 ⟨i, o3, H3, I3, st3, fr3, w3⟩
    rcases turn i n H3 w3 with ⟨stop, qn⟩ | ⟨gone, N, hN, step⟩
    · refine thn (T.done (compCx X scope x ix fp s H) rfl rfl rfl hc i [] s3 _ H3 _ I3 (stat fr3) st3 stop) fun r s4 ⟨hr, I4⟩ => ?_
      subst hr
      exact hR _ H3 s4 I4 qn
    · refine thn (T.item (compCx X scope x ix fp s H) rfl rfl rfl hc i [] s3 _ H3 (fun _ _ => False) I3 (stat fr3) st3 gone |> fun z => wpAny_mono z (fun _ _ q => q) fun _ _ f => f.elim) fun r s4 ⟨u, hr, h4⟩ => ?_
      subst hr
      refine wpAny_of_pure (a := ()) h4 fun ⟨y, H5, I5, r5, y5, st5, fr5⟩ => ?_
      have I5' := I5.pinned (stat fr5) (T.obj _ _ st5)
      have hx0 : (compCx X scope x ix fp s H).N[0]? = some x := rfl
      refine wpAny_assign_Name (store_ok I5' nd hx0 (.inl (lookup_relabel_local S.x)) r5 (fun s6 I6 => ?_) (.inr (lookup_relabel_local S.x)))
      refine wpAny_mono (hi s H _ s6 _ H5 _ I6 (step y H5 y5)) (fun ok s7 ⟨H7, I7, q7⟩ => ?_) fun _ _ f => f.elim
      have again : ∀ {o7 : Option V} {H7 : Hp} {s7 : Shared}, Inv (compCx X scope x ix fp s H) ([] ++ pinsAt fp s4.heap) (o7 :: capσ σ ix) H7 s7 → N H7 → ∃ m, m < n ∧ ∃ i o H', Inv (compCx X scope x ix fp s H) [] (o :: capσ σ ix) H' s7 ∧ tn i s7.heap ∧ (∀ b ∈ fp, H' b = none) ∧ W i m H' := fun {o7 H7 s7} I7 n7 => by
        obtain ⟨m', hm, w7⟩ := hN H7 n7
        refine ⟨m', hm, i + 1, o7, H7, I7.unpinned, T.keep _ _ _ st5 fun b hb o e => (I7.pin (b, o) (List.mem_append_right _ (List.mem_append_right _ (mem_pinsAt hb e)))).1, fun b hb => ?_, w7⟩
        obtain ⟨o, e, d⟩ := T.obj _ _ st5 b hb
        exact (I7.pin (b, o) (List.mem_append_right _ (List.mem_append_right _ (mem_pinsAt hb e)))).2.1
      cases ok with
      | false =>
        rw [if_neg (by simp)] at q7
        exact again I7 q7
      | true =>
        rw [if_pos rfl] at q7
        refine wpAny_mono (he s H _ s7 _ H7 _ I7 q7) (fun v s8 ⟨y8, H8, I8, r8, ys, hD, hz, n8⟩ => ?_) fun _ _ f => f.elim
        obtain ⟨z, its, k, rv, e⟩ := I8.hok D _ hD
        have hl : s8.heap.IsList D its.toArray := ⟨_, e, rfl, k, rfl⟩
        refine mt_append _ s8 _ H8 (.ref D) [y8] (.ref D) [v] _ I8 rfl (.cons r8 .nil) ⟨D, ys, y8, rfl, rfl, hD, hz, n8⟩ |> fun z => wpAny_mono z (fun _ s9 ⟨_, H9, I9, _, q9⟩ => again I9 q9) fun _ _ f => f.elim
  exact codeAny_compStart_list loop (T.self _ 0 _ _ _ st0 loop)
end
section
variable {X : Cx} {scope : Scope} {x : Str} {px pos : Pos} {ix : List Nat} {elt iter : Expr} {ifs : List Expr} {wi : TI} {ti : TT} {te : TE}
theorem Inv.fp_upd {pins : List (Addr × Obj)} {H : Hp} {D : Addr} {o : HO} {fp : List Addr} (hf : ∀ b ∈ fp, FpOk X pins H b) (hD : ∀ b ∈ fp, b ≠ D) : ∀ b ∈ fp, FpOk X pins (upd H D o) b := fun b hb =>
  ⟨by rw [upd_ne (hD b hb)]; exact (hf b hb).1, (hf b hb).2⟩
theorem pe_comp (S : CompSc X scope x ix) (nd : (compN X x ix).Nodup) (hc : X.calm = true) (hi : PI X (.Name x px) iter wi) (hif : ∀ fp s H, PIfs (compCx X scope x ix fp s H) ifs ti) (he : ∀ fp s H, PE (compCx X scope x ix fp s H) elt te)
    (hs : ∀ z, foldedSetIterable iter X.env z = pure z := by intro _; rfl) : PE X (.ListComp elt [⟨.Name x px, iter, ifs, 0⟩] scope pos) (tComp wi ix ti te) := by
  intro pins s σ H Q I h
  rw [eval_ListComp]
  refine wpAny_comprehension_free (use := none) rfl hs (closureFor_of (S.cells I.ok)) S.kind S.loc (thn (hi pins s σ H _ I h) fun v s1 h1 => thn h1 fun itv s2 h2 => ?_)
  obtain ⟨it, fp, tn, J, H2, rfl, I2, T, st2, f2, q⟩ := h2
  refine wpAny_newObj_type ?_
  have fr := I2.fresh
  have I3 : Inv X pins σ (upd H2 s2.heap.objs.size (.lst [])) { s2 with heap := s2.heap.push { cls := .type "list", data := .seq ([] : List Value).toArray } } := I2.lnew (t' := s2.toks) .nil (Nat.zero_le _)
  have hD : ∀ b ∈ fp, b ≠ s2.heap.objs.size := fun b hb => by
    obtain ⟨o, e, _⟩ := T.obj 0 _ st2 b hb
    exact Nat.ne_of_lt (Heap.lt_size e)
  have f3 := Inv.fp_upd (o := .lst []) f2 hD
  have st3 : tn 0 (s2.heap.push { cls := .type "list", data := .seq ([] : List Value).toArray }) := T.keep 0 _ _ st2 fun b hb o e => Heap.get?_push_of_some _ e
  refine thn (comp_block (px := px) (pos := pos) (iter := iter) (E := X.xe) (RR := compPost (model X.prog X.w) X.A X.xe none (EP X pins σ Q) (.ref s2.heap.objs.size) (s2.heap.push { cls := .type "list", data := .seq ([] : List Value).toArray }).objs.size) S hc (he fp) (hif fp) I3 T st3 f3 (q _ fr) nd ?_) fun cenv s4 ⟨e, z⟩ => ?_
  · intro σ' H' s' J' q'
    obtain ⟨m, hn, _⟩ := J'.loc
    exact ⟨m, hn, fun h'' sb => ⟨_, H', comp_out I3 f3 J' sb, (show RelV (.ref s2.heap.objs.size) _ from rfl), q'⟩⟩
  · rw [← show cenv.locals = (s2.heap.push { cls := .type "list", data := .seq ([] : List Value).toArray }).objs.size from e] at z; exact z
def tSetC (i : Nat) (wi : TI) (ix : List Nat) (ti : TT) (te : TE) : TS := fun D σ H => tComp wi ix ti te σ H fun v H1 => D.nx (σ.set i (some v)) H1
theorem ps_setc {i : Nat} {y : Str} {py spos : Pos} (hN : X.N.Nodup) (hy : X.N[i]? = some y) (hyl : X.env.scope.names.lookup y = some .local) (S : CompSc X scope x ix) (nd : (compN X x ix).Nodup) (hc : X.calm = true) (hi : PI X (.Name x px) iter wi)
    (hif : ∀ fp s H, PIfs (compCx X scope x ix fp s H) ifs ti) (he : ∀ fp s H, PE (compCx X scope x ix fp s H) elt te)
    (hsw : swapsWith (.ListComp elt [⟨.Name x px, iter, ifs, 0⟩] scope pos) (some (.Name y py)) spos.line X.env = pure true := by rfl)
    (hs : ∀ z, foldedSetIterable iter X.env z = pure z := by intro _; rfl) : PS X (.Assign [.Name y py] (.ListComp elt [⟨.Name x px, iter, ifs, 0⟩] scope pos) spos) (tSetC i wi ix ti te) := by
  intro pins s σ H D I h
  rw [exec_Assign_Name_used _ _ _ _ hsw]
  refine wpAny_bind (wpAny_standAt (wpAny_bind ?_))
  show wpAny _ X.A (do let _ ← comprehension (.ListComp elt [⟨.Name x px, iter, ifs, 0⟩] scope pos) scope X.env _ (newList []) false (eval iter X.env) (some (assign (.Name y py) X.env))) _ _ s
  refine wpAny_bind (wpAny_mono (wpAny_comprehension_free (use := some (assign (.Name y py) X.env)) (Q := fun _ s' => SP X pins D .next s') rfl hs (closureFor_of (S.cells I.ok)) S.kind S.loc (thn (hi pins s σ H _ I h) fun v s1 h1 => thn h1 fun itv s2 h2 => ?_)) (fun _ s' hq => wpAny_pure (wpAny_pure hq)) fun _ _ e => e)
  obtain ⟨it, fp, tn, J, H2, rfl, I2, T, st2, f2, q⟩ := h2
  refine wpAny_newObj_type ?_
  have fr := I2.fresh
  have I3 : Inv X pins σ (upd H2 s2.heap.objs.size (.lst [])) { s2 with heap := s2.heap.push { cls := .type "list", data := .seq ([] : List Value).toArray } } := I2.lnew (t' := s2.toks) .nil (Nat.zero_le _)
  have hD : ∀ b ∈ fp, b ≠ s2.heap.objs.size := fun b hb => by
    obtain ⟨o, e, _⟩ := T.obj 0 _ st2 b hb
    exact Nat.ne_of_lt (Heap.lt_size e)
  have f3 := Inv.fp_upd (o := .lst []) f2 hD
  have st3 : tn 0 (s2.heap.push { cls := .type "list", data := .seq ([] : List Value).toArray }) := T.keep 0 _ _ st2 fun b hb o e => Heap.get?_push_of_some _ e
  refine thn (comp_block (px := px) (pos := pos) (iter := iter) (E := X.xe) (RR := compPost (model X.prog X.w) X.A X.xe (some (assign (.Name y py) X.env)) (fun _ s' => SP X pins D .next s') (.ref s2.heap.objs.size) (s2.heap.push { cls := .type "list", data := .seq ([] : List Value).toArray }).objs.size) S hc (he fp) (hif fp) I3 T st3 f3 (q _ fr) nd ?_) fun cenv s4 ⟨e, z⟩ => ?_
  · intro σ' H' s' J' q'
    have neL : (s2.heap.push { cls := .type "list", data := .seq ([] : List Value).toArray }).objs.size ≠ X.env.locals := Nat.ne_of_gt I3.lt
    have I4 : Inv X pins σ H' { s' with heap := s'.heap } := comp_out I3 f3 J' (.refl ..)
    show wpAny (model X.prog X.w) X.A (assign (.Name y py) X.env (.ref s2.heap.objs.size)) _ X.xe s'
    refine wpAny_assign_Name (store_ok2 (s := s') I4 hN hy (.inl hyl) (show RelV (.ref s2.heap.objs.size) _ from rfl) (fun s6 I6 ⟨a, sb, ha⟩ => ?_) (.inr hyl))
    have ha' : a ≠ (s2.heap.push { cls := .type "list", data := .seq ([] : List Value).toArray }).objs.size := by
      rcases ha with ha | ha
      · rw [ha]; exact Ne.symm neL
      · obtain ⟨v, z⟩ := I3.cell y a ha
        exact Nat.ne_of_lt z.lt
    obtain ⟨m, hn, _⟩ := J'.loc
    refine ⟨m, hn.sameBut sb (Ne.symm ha'), fun h'' sb2 => ⟨σ.set i (some (.ref s2.heap.objs.size)), H', ?_, q'⟩⟩
    -- the block's dict is not ours: its change is no matter
    have I7 : Inv X pins (σ.set i (some (.ref s2.heap.objs.size))) H' s6 := I6
    have hCn : H' (s2.heap.push { cls := .type "list", data := .seq ([] : List Value).toArray }).objs.size = none := J'.free
    refine I7.turned (s := s6) (t' := s6.toks) (it := (s2.heap.push { cls := .type "list", data := .seq ([] : List Value).toArray }).objs.size) (fun b o hb e => (sb2.2 b hb).trans e) hCn neL (.inr (Nat.le_trans I3.sz (Nat.le_refl _))) (fun y c e z => ?_) fun p hp z => ?_
    · obtain ⟨v, q⟩ := I3.cell y c e
      exact absurd z (Nat.ne_of_lt q.lt)
    · exact absurd z (Nat.ne_of_lt (Heap.lt_size (I3.pin p hp).1))
  · rw [← show cenv.locals = (s2.heap.push { cls := .type "list", data := .seq ([] : List Value).toArray }).objs.size from e] at z; exact z
end
theorem comp_range {lo : Int} {n : Nat} {D : Addr} {Q : VK} {te : TE} {c : St} {H0 : Hp} (Pv : Nat → Hp → Prop) (h0 : Pv 0 H0)
    (hs : ∀ i H, i < n → Pv i H → te (some (.int (lo + i)) :: c) H fun y H2 => ∃ ys, H2 D = some (.lst ys) ∧ ys.length < sizeLine ∧ Pv (i + 1) (upd H2 D (.lst (ys ++ [y])))) (hd : ∀ H, Pv n H → Q (.ref D) H) :
    compGo (Itr lo n) D Q tYes te c H0 := by
  refine ⟨fun i m H' => m = n - i ∧ i ≤ n ∧ Pv i H', ⟨n, by simp, Nat.zero_le _, h0⟩, ?_⟩
  rintro i m H' ⟨rfl, hi, p⟩
  by_cases hlt : i < n
  · refine .inr ⟨hlt, Pv (i + 1), fun H'' p => ⟨n - (i + 1), by omega, rfl, hlt, p⟩, fun v H2 y => ?_⟩
    obtain ⟨e, y⟩ := y
    subst e y
    exact iteT (B := Pv (i + 1) H2) (hs i H2 hlt p)
  · have e : i = n := by omega
    subst e
    exact .inl ⟨Nat.le_refl _, hd H' p⟩
theorem comp_listIf {K : PySem.W.Frag} {a : Addr} {xs : List V} {D : Addr} {Q : VK} {ti : TT} {te : TE} {c : St} {H0 : Hp} (Pv : Nat → Hp → Prop) (h0 : Pv 0 H0) (hl : ∀ i H, i ≤ xs.length → Pv i H → SqL K H a xs)
    (hs : ∀ i x H, xs[i]? = some x → Pv i H → ti (some x :: c) H fun b H1 => if b = true then te (some x :: c) H1 fun y H2 => ∃ ys, H2 D = some (.lst ys) ∧ ys.length < sizeLine ∧ Pv (i + 1) (upd H2 D (.lst (ys ++ [y]))) else Pv (i + 1) H1) (hd : ∀ H, Pv xs.length H → Q (.ref D) H) :
    compGo (Itl K a) D Q ti te c H0 := by
  refine ⟨fun i m H' => m = xs.length - i ∧ i ≤ xs.length ∧ Pv i H', ⟨xs.length, by simp, Nat.zero_le _, h0⟩, ?_⟩
  rintro i m H' ⟨rfl, hi, p⟩
  have q := hl i H' hi p
  by_cases hlt : i < xs.length
  · refine .inr ⟨⟨xs, xs[i], q, by simp [hlt]⟩, Pv (i + 1), fun H'' p => ⟨xs.length - (i + 1), by omega, rfl, hlt, p⟩, fun v H2 y => ?_⟩
    obtain ⟨e, y⟩ := y
    subst e
    exact hs i v H2 (y xs q) p
  · have e : i = xs.length := by omega
    subst e
    exact .inl ⟨⟨xs, q, Nat.le_refl _⟩, hd H' p⟩
theorem comp_tupIf {K : PySem.W.Frag} {a : Addr} {xs : List V} {D : Addr} {Q : VK} {ti : TT} {te : TE} {c : St} {H0 : Hp} (Pv : Nat → Hp → Prop) (h0 : Pv 0 H0) (hl : ∀ i H, i ≤ xs.length → Pv i H → SqT K H a xs)
    (hs : ∀ i x H, xs[i]? = some x → Pv i H → ti (some x :: c) H fun b H1 => if b = true then te (some x :: c) H1 fun y H2 => ∃ ys, H2 D = some (.lst ys) ∧ ys.length < sizeLine ∧ Pv (i + 1) (upd H2 D (.lst (ys ++ [y]))) else Pv (i + 1) H1) (hd : ∀ H, Pv xs.length H → Q (.ref D) H) :
    compGo (Itt K a) D Q ti te c H0 := by
  refine ⟨fun i m H' => m = xs.length - i ∧ i ≤ xs.length ∧ Pv i H', ⟨xs.length, by simp, Nat.zero_le _, h0⟩, ?_⟩
  rintro i m H' ⟨rfl, hi, p⟩
  have q := hl i H' hi p
  by_cases hlt : i < xs.length
  · refine .inr ⟨⟨xs, xs[i], q, by simp [hlt]⟩, Pv (i + 1), fun H'' p => ⟨xs.length - (i + 1), by omega, rfl, hlt, p⟩, fun v H2 y => ?_⟩
    obtain ⟨e, y⟩ := y
    subst e
    exact hs i v H2 (y xs q) p
  · have e : i = xs.length := by omega
    subst e
    exact .inl ⟨⟨xs, q, Nat.le_refl _⟩, hd H' p⟩
def Its (x : Str) : It := ⟨fun i _ => i < x.cps.size, fun i H v H' => H' = H ∧ ∃ c, x.cps[i]? = some c ∧ v = .str ⟨#[c]⟩, fun i _ => i = x.cps.size⟩
theorem turn_str {P : Program} {w : World} {K : PySem.W.Frag} {tg : Expr} (x : Str) (t : Tok) (T : String) (it : Addr) (hT : T = "str_ascii_iterator" ∨ T = "str_iterator") : Turn P w K tg (Its x) [it] it (fun i h => h.IsStrIter it T x t i) where
  mem := by simp
  obj := fun i h st b hb => by
    have e : b = it := by simpa using hb
    subst e
    obtain ⟨o, e, c, d⟩ := st
    exact ⟨o, e, fun v z => by rw [d] at z; cases z⟩
  keep := fun i h h' st k => by
    obtain ⟨o, e, r⟩ := st
    exact ⟨o, k it (by simp) o e, r⟩
  item := by
    intro X hP hw hK hc i pins s σ H E I hf st hg
    subst hP hw hK
    obtain ⟨f0, f1, f2, f3, f4, f5⟩ := hf it (by simp)
    have hn : ["enumerate", "zip", "dict_itemiterator", "dict_reverseitemiterator", "odict_iterator", "itertools.zip_longest", "itertools.pairwise"].contains T = false := by rcases hT with rfl | rfl <;> decide
    have fin : ∀ (v : Value) (h' : Heap) (tk : Nat), SignAt x i v → h'.IsStrIter it T x t (i + 1) → (∀ b o, b ∉ [it] → s.heap.get? b = some o → h'.get? b = some o) →
        ∃ u, some v = some u ∧ wpAny (model X.prog X.w) X.A (letOwnedTupleGo tg (.ref it) u) (fun _ s2 => ∃ y H', Inv X pins σ H' s2 ∧ RelV y u ∧ (Its x).yld i H y H' ∧ s2.heap.IsStrIter it T x t (i + 1) ∧ ∀ b ∈ [it], H' b = none) E { s with heap := h', toks := tk } := fun v h' tk hv st' kk => by
      obtain ⟨c, u, hc', rfl⟩ := hv
      have I1 : Inv X pins σ H { s with heap := h', toks := tk } := I.turned (fun b o hb e => kk b o (by simpa using hb) e) f0 f1 f3 f4 f5
      obtain ⟨o, e, c2, d⟩ := id st'
      exact ⟨_, rfl, go_of (s := { s with heap := h', toks := tk }) e c2 d hn ⟨.str ⟨#[c]⟩, H, I1, ⟨u, rfl⟩, ⟨rfl, c, hc', rfl⟩, st', fun b hb => (hf b hb).1⟩⟩
    rcases hT with rfl | rfl
    · exact (Walks.strAscii (prog := X.prog) (w := X.w) (I.ok.hd hc) it x t).item i s _ _ hg st fin
    · exact (Walks.strWide (prog := X.prog) (w := X.w) (I.ok.hd hc) it x t).item i s _ _ hg st fin
  done := by
    intro X hP hw hK hc i pins s σ H E I hf st hg
    subst hP hw hK
    obtain ⟨f0, f1, f2, f3, f4, f5⟩ := hf it (by simp)
    have hi : i = x.cps.size := hg
    subst hi
    have fin : ∀ (h' : Heap) (tk : Nat), (∀ b o, b ∉ [it] → s.heap.get? b = some o → h'.get? b = some o) → (none : Option Value) = none ∧ Inv X pins σ H { s with heap := h', toks := tk } := fun h' tk kk =>
      ⟨rfl, I.turned (fun b o hb e => kk b o (by simpa using hb) e) f0 f1 f3 f4 f5⟩
    rcases hT with rfl | rfl
    · exact (Walks.strAscii (prog := X.prog) (w := X.w) (I.ok.hd hc) it x t).done s _ _ st fin
    · exact (Walks.strWide (prog := X.prog) (w := X.w) (I.ok.hd hc) it x t).done s _ _ st fin
  self := fun A i s Q E st h => by
    rcases hT with rfl | rfl
    · exact wpAny_pyIter_striter_ascii st h
    · exact wpAny_pyIter_striter_wide st h
section
variable {X : Cx} {tg : Expr}
def iStr (tl : TE) : TI := fun σ H R => tl σ H fun x H1 => ∃ z, x = .str z ∧ R (Its z) H1
theorem pi_str {l : Expr} {tl : TE} (hl : PE X l tl) : PI X tg l (iStr tl) := by
  intro pins s σ H R I h
  refine thn (hl pins s σ H _ I h) fun v s1 ⟨x, H1, I1, r1, q1⟩ => ?_
  obtain ⟨z, e, q⟩ := q1
  subst e
  obtain ⟨t, rfl⟩ := r1
  refine wpAny_pyIter_strU ?_
  refine ⟨s1.heap.objs.size, [s1.heap.objs.size], _, _, H1, rfl, I1.kept (t' := s1.toks) fun b o e => Heap.get?_push_of_some _ e, turn_str z t (strIterType z) _ (by unfold strIterType; split <;> simp), ⟨_, Heap.get?_push_size _ rfl, rfl, rfl⟩, fun b hb => ?_, q⟩
  have e : b = s1.heap.objs.size := by simpa using hb
  subst e
  exact I1.fpOk (Nat.le_refl _) (I1.hok.fresh (Nat.le_refl _))
end
abbrev S (w : List Nat) : Str := ⟨w.toArray⟩
theorem for_str {w : List Nat} {g : TG} {tb : TS} {D : Ends} {σ : St} {H : Hp} (Pv : Nat → St → Hp → Prop) (h0 : Pv 0 σ H)
    (hs : ∀ i c σ H, w[i]? = some c → Pv i σ H → g (.str (S [c])) σ H fun σ2 H2 => tb { D with nx := Pv (i + 1), ct := Pv (i + 1), bk := D.nx } σ2 H2) (hd : ∀ σ H, Pv w.length σ H → D.nx σ H) :
    ∃ W : Nat → Nat → St → Hp → Prop, (∃ m, W 0 m σ H) ∧ ∀ i m σ H, W i m σ H →
      ((Its (S w)).stop i H ∧ D.nx σ H) ∨ ((Its (S w)).go i H ∧ ∃ N : St → Hp → Prop, (∀ σ' H', N σ' H' → ∃ m', m' < m ∧ W (i + 1) m' σ' H') ∧ ∀ x H', (Its (S w)).yld i H x H' → g x σ H' fun σ2 H2 => tb { D with nx := N, ct := N, bk := D.nx } σ2 H2) := by
  refine ⟨fun i m σ H => m = w.length - i ∧ i ≤ w.length ∧ Pv i σ H, ⟨w.length, by simp, Nat.zero_le _, h0⟩, ?_⟩
  rintro i m σ H ⟨rfl, hi, p⟩
  by_cases hlt : i < w.length
  · refine .inr ⟨by simpa [Its] using hlt, Pv (i + 1), fun σ' H' p' => ⟨w.length - (i + 1), by omega, rfl, hlt, p'⟩, fun x H' y => ?_⟩
    obtain ⟨e, c, hc, rfl⟩ := y
    subst e
    exact hs i c σ _ (by simpa using hc) p
  · have e : i = w.length := by omega
    subst e
    exact .inl ⟨by simp [Its], hd σ H p⟩
theorem comp_strIf {w : List Nat} {D : Addr} {Q : VK} {ti : TT} {te : TE} {c : St} {H0 : Hp} (Pv : Nat → Hp → Prop) (h0 : Pv 0 H0)
    (hs : ∀ i k H, w[i]? = some k → Pv i H → ti (some (.str (S [k])) :: c) H fun b H1 => if b = true then te (some (.str (S [k])) :: c) H1 fun y H2 => ∃ ys, H2 D = some (.lst ys) ∧ ys.length < sizeLine ∧ Pv (i + 1) (upd H2 D (.lst (ys ++ [y]))) else Pv (i + 1) H1) (hd : ∀ H, Pv w.length H → Q (.ref D) H) :
    compGo (Its (S w)) D Q ti te c H0 := by
  refine ⟨fun i m H' => m = w.length - i ∧ i ≤ w.length ∧ Pv i H', ⟨w.length, by simp, Nat.zero_le _, h0⟩, ?_⟩
  rintro i m H' ⟨rfl, hi, p⟩
  by_cases hlt : i < w.length
  · refine .inr ⟨by simpa [Its] using hlt, Pv (i + 1), fun H'' p => ⟨w.length - (i + 1), by omega, rfl, hlt, p⟩, fun v H2 y => ?_⟩
    obtain ⟨e, k, hk, rfl⟩ := y
    subst e
    exact hs i k H2 (by simpa using hk) p
  · have e : i = w.length := by omega
    subst e
    exact .inl ⟨by simp [Its], hd H' p⟩
section
variable {X : Cx}
def rTab (a : Addr) (D : List (PyData × PyData)) : R2 := fun x y H Q => x = .ref a ∧ ∃ z, y = .str z ∧ ((∃ v, lookup (.str z) D = some (.str v) ∧ Q (.str v) H) ∨ ∃ i, lookup (.str z) D = some (.int i) ∧ Q (.int i) H)
theorem ix_tab {a : Addr} {D : List (PyData × PyData)} (T : ∀ h, X.K.In h → StrTab X.prog X.w h a D) : IxR X (rTab a D) := by
  intro value slice pins s σ H x y v u Q I rx ry h hs
  obtain ⟨rfl, z, rfl, q⟩ := h
  cases rx
  obtain ⟨t, rfl⟩ := ry
  obtain ⟨lo, kvs, hd, hf⟩ := T s.heap I.kIn
  rcases q with ⟨y, hl, q⟩ | ⟨y, hl, q⟩
  · obtain ⟨v, hv, hfl⟩ := hf.of_lookup (enc := PyData.str) PyProof.V.same_str hl
    exact tail_any hd.typeIs slot_dict_getitem.lookup (wpAny_getItem_of (strKind_is X.prog X.w z t) hd.mapOf hv ⟨.str y, H, I.tok _, PyProof.V.Flat.str_inv hfl, q⟩) hs
  · obtain ⟨v, hv, hfl⟩ := hf.of_lookup (enc := PyData.str) PyProof.V.same_str hl
    exact tail_any hd.typeIs slot_dict_getitem.lookup (wpAny_getItem_of (strKind_is X.prog X.w z t) hd.mapOf hv ⟨.int y, H, I.tok _, PyProof.V.Flat.int_inv hfl, q⟩) hs
def rSlS : V → Option Int → Option Int → Hp → VK → Prop := fun x lo hi H Q => ∃ z, x = .str z ∧ z.length ≤ sizeLine ∧ Q (.str (Txt.slice z lo hi)) H
theorem sl_str : SlR X rSlS := by
  intro pins s σ H x v vl vu lo hi sl Q I rx hs pl pu h
  obtain ⟨z, rfl, hz, q⟩ := h
  obtain ⟨t, rfl⟩ := rx
  refine ⟨"str", _, F.slot_str_getitem.lookup, typeIs_str _ _ _, ?_⟩
  obtain ⟨o, ho, hc, hd⟩ := hs
  have fin : ∀ t' k, EP X pins σ Q (.str (Txt.slice z lo hi) t') { s with toks := k } := fun t' k => ⟨.str (Txt.slice z lo hi), H, I.tok _, ⟨t', rfl⟩, q⟩
  cases pl with
  | none =>
    cases pu with
    | none => exact wpAny_getItem_str_slice (l := none) (u := none) (st := none) ⟨o, ho, hc, hd⟩ rfl (post_val_or_str ⟨Nat.le_trans (Txt.slice_le z _ _) hz, fin⟩)
    | int j uj => exact wpAny_getItem_str_slice (l := none) (u := some (j, uj)) (st := none) ⟨o, ho, hc, hd⟩ rfl (post_val_or_str ⟨Nat.le_trans (Txt.slice_le z _ _) hz, fin⟩)
  | int i ui =>
    cases pu with
    | none => exact wpAny_getItem_str_slice (l := some (i, ui)) (u := none) (st := none) ⟨o, ho, hc, hd⟩ rfl (post_val_or_str ⟨Nat.le_trans (Txt.slice_le z _ _) hz, fin⟩)
    | int j uj => exact wpAny_getItem_str_slice (l := some (i, ui)) (u := some (j, uj)) (st := none) ⟨o, ho, hc, hd⟩ rfl (post_val_or_str ⟨Nat.le_trans (Txt.slice_le z _ _) hz, fin⟩)
theorem mt_islower : MtR X "str.islower" (fun x xs H Q => ∃ z, x = .str z ∧ xs = [] ∧ Q (.bl (Txt.islower z)) H) := by
  intro pins s σ H x xs v us Q I rx rs h
  obtain ⟨z, rfl, rfl, q⟩ := h
  obtain ⟨t, rfl⟩ := rx
  cases rs
  exact SC.islower ⟨.bl _, H, I, rfl, q⟩
theorem mt_upper : MtR X "str.upper" (fun x xs H Q => ∃ z, x = .str z ∧ xs = [] ∧ Builtin.Str.tooLong (Txt.upper z).length = false ∧ Q (.str (Txt.upper z)) H) := by
  intro pins s σ H x xs v us Q I rx rs h
  obtain ⟨z, rfl, rfl, hf, q⟩ := h
  obtain ⟨t, rfl⟩ := rx
  cases rs
  exact SC.upper hf ⟨.str _, H, I.tok _, ⟨_, rfl⟩, q⟩
theorem mt_lower : MtR X "str.lower" (fun x xs H Q => ∃ z, x = .str z ∧ xs = [] ∧ Builtin.Str.tooLong (Txt.lower z).length = false ∧ Q (.str (Txt.lower z)) H) := by
  intro pins s σ H x xs v us Q I rx rs h
  obtain ⟨z, rfl, rfl, hf, q⟩ := h
  obtain ⟨t, rfl⟩ := rx
  cases rs
  exact SC.lower hf ⟨.str _, H, I.tok _, ⟨_, rfl⟩, q⟩
theorem strsAre_of : ∀ {zs : List Str} {us : List Value}, Vals (zs.map V.str) us → StrsAre us zs
  | [], _, r => by
    cases r
    exact .nil
  | z :: zs, _, r => by
    rw [List.map_cons] at r
    cases r with
    | cons r1 r2 =>
      obtain ⟨t, rfl⟩ := r1
      exact .cons z t (strsAre_of r2)
theorem mt_join : MtR X "str.join" (fun x xs H Q => ∃ z a zs, x = .str z ∧ xs = [.ref a] ∧ SqL X.K H a (zs.map V.str) ∧ (zs.map (·.length)).sum + zs.length * z.length ≤ 16777216 ∧ Q (.str (Txt.join z zs)) H) := by
  intro pins s σ H x xs v us Q I rx rs h
  obtain ⟨z, a, zs, rfl, rfl, hq, hz, q⟩ := h
  obtain ⟨t, rfl⟩ := rx
  obtain ⟨u, rfl, ru⟩ := rs.one
  cases ru
  obtain ⟨its, r, pl, _⟩ := I.list hq
  exact join_list pl.isList (by simpa using strsAre_of r) hz fun t' k => ⟨.str _, H, I.tok _, ⟨t', rfl⟩, q⟩
end
def tyNames : List String := ["str", "int", "bool", "list", "tuple", "NoneType", "dict"]
def clNames : List String := ["list", "tuple", "bool", "str", "int"]
def subT (t c : String) : Bool := t == c || (t == "bool" && c == "int")
theorem kit_str (K : PySem.W.Frag) (c : String) (h : c ∈ clNames) : PySem.W.kitOne K (.type "str") (.type c) = some (subT "str" c) := by
  simp only [clNames, List.mem_cons, List.not_mem_nil, or_false] at h
  rcases h with rfl | rfl | rfl | rfl | rfl <;> kernel_rfl
theorem kit_int (K : PySem.W.Frag) (c : String) (h : c ∈ clNames) : PySem.W.kitOne K (.type "int") (.type c) = some (subT "int" c) := by
  simp only [clNames, List.mem_cons, List.not_mem_nil, or_false] at h
  rcases h with rfl | rfl | rfl | rfl | rfl <;> kernel_rfl
theorem kit_bool (K : PySem.W.Frag) (c : String) (h : c ∈ clNames) : PySem.W.kitOne K (.type "bool") (.type c) = some (subT "bool" c) := by
  simp only [clNames, List.mem_cons, List.not_mem_nil, or_false] at h
  rcases h with rfl | rfl | rfl | rfl | rfl <;> kernel_rfl
theorem kit_list (K : PySem.W.Frag) (c : String) (h : c ∈ clNames) : PySem.W.kitOne K (.type "list") (.type c) = some (subT "list" c) := by
  simp only [clNames, List.mem_cons, List.not_mem_nil, or_false] at h
  rcases h with rfl | rfl | rfl | rfl | rfl <;> kernel_rfl
theorem kit_tuple (K : PySem.W.Frag) (c : String) (h : c ∈ clNames) : PySem.W.kitOne K (.type "tuple") (.type c) = some (subT "tuple" c) := by
  simp only [clNames, List.mem_cons, List.not_mem_nil, or_false] at h
  rcases h with rfl | rfl | rfl | rfl | rfl <;> kernel_rfl
theorem kit_none (K : PySem.W.Frag) (c : String) (h : c ∈ clNames) : PySem.W.kitOne K (.type "NoneType") (.type c) = some (subT "NoneType" c) := by
  simp only [clNames, List.mem_cons, List.not_mem_nil, or_false] at h
  rcases h with rfl | rfl | rfl | rfl | rfl <;> kernel_rfl
theorem kit_dict (K : PySem.W.Frag) (c : String) (h : c ∈ clNames) : PySem.W.kitOne K (.type "dict") (.type c) = some (subT "dict" c) := by
  simp only [clNames, List.mem_cons, List.not_mem_nil, or_false] at h
  rcases h with rfl | rfl | rfl | rfl | rfl <;> kernel_rfl
theorem kit_all (K : PySem.W.Frag) (t c : String) (ht : t ∈ tyNames) (h : c ∈ clNames) : PySem.W.kitOne K (.type t) (.type c) = some (subT t c) := by
  simp only [tyNames, List.mem_cons, List.not_mem_nil, or_false] at ht
  rcases ht with rfl | rfl | rfl | rfl | rfl | rfl | rfl
  · exact kit_str K c h
  · exact kit_int K c h
  · exact kit_bool K c h
  · exact kit_list K c h
  · exact kit_tuple K c h
  · exact kit_none K c h
  · exact kit_dict K c h
section
variable {X : Cx}
inductive BTy (K : PySem.W.Frag) (H : Hp) : V → String → Prop where
  | non : BTy K H .non "NoneType"
  | bl (x : Bool) : BTy K H (.bl x) "bool"
  | int (i : Int) : BTy K H (.int i) "int"
  | str (x : Str) : BTy K H (.str x) "str"
  | lst {a : Addr} {xs : List V} (e : SqL K H a xs) : BTy K H (.ref a) "list"
  | tup {a : Addr} {xs : List V} (e : SqT K H a xs) : BTy K H (.ref a) "tuple"
theorem BTy.mem {K : PySem.W.Frag} {H : Hp} {x : V} {t : String} (h : BTy K H x t) : t ∈ tyNames := by cases h <;> decide
theorem isi_one {pins : List (Addr × Obj)} {σ : St} {H : Hp} {s : Shared} {A : Around} {E : Value → Shared → Prop} {Q : Value → Shared → Prop} {x : V} {u : Value} {t c : String} (I : Inv X pins σ H s) (rx : RelV x u) (ty : BTy X.K H x t) (hc : c ∈ clNames)
    (h : ∀ tk, Q (.bool (subT t c)) { s with toks := tk }) : wpAny (model X.prog X.w) A (call (.builtin "isinstance") [u, .type c]) Q E s := by
  have e := kit_all X.K t c ty.mem hc
  cases ty with
  | non => cases (show u = Value.none from rx); exact PySem.W.kia_one PySem.W.kitx_none I.kIn True.intro e (fun z => nomatch z) h
  | bl y => cases (show u = Value.bool y from rx); exact PySem.W.kia_one PySem.W.kitx_bool I.kIn True.intro e (fun z => nomatch z) h
  | int i => obtain ⟨t, q⟩ := (show ∃ t, u = Value.int i t from rx); cases q; exact PySem.W.kia_one PySem.W.kitx_int I.kIn True.intro e (fun z => nomatch z) h
  | str y => obtain ⟨t, q⟩ := (show ∃ t, u = Value.str y t from rx); cases q; exact PySem.W.kia_one PySem.W.kitx_str I.kIn True.intro e (fun z => nomatch z) h
  | @lst a xs ea =>
    cases (show u = Value.ref a from rx)
    obtain ⟨its, _, ⟨o, n, h1, h2, _⟩, _⟩ := I.list ea
    exact PySem.W.kia_one PySem.W.kitx_list I.kIn ⟨o, h1, h2⟩ e (fun z => nomatch z) h
  | @tup a xs ea =>
    cases (show u = Value.ref a from rx)
    obtain ⟨its, _, ⟨o, h1, h2, _⟩, _⟩ := I.tuple ea
    exact PySem.W.kia_one PySem.W.kitx_tuple I.kIn ⟨o, h1, h2⟩ e (fun z => nomatch z) h
theorem kitAny_two {K : PySem.W.Frag} {t c d : String} (ht : t ∈ tyNames) (hc : c ∈ clNames) (hd : d ∈ clNames) : PySem.W.kitAny K (.type t) [.type c, .type d] = some (subT t c || subT t d) := by
  unfold PySem.W.kitAny
  rw [kit_all K t c ht hc]
  cases subT t c with
  | true => rfl
  | false =>
    dsimp only
    unfold PySem.W.kitAny
    rw [kit_all K t d ht hd]
    cases subT t d <;> rfl
theorem isi_two {pins : List (Addr × Obj)} {σ : St} {H : Hp} {s : Shared} {A : Around} {E : Value → Shared → Prop} {Q : Value → Shared → Prop} {x : V} {u : Value} {t c d : String} {p : Addr} (I : Inv X pins σ H s) (rx : RelV x u) (ty : BTy X.K H x t) (hp : H p = some (.tup [.ty c, .ty d])) (hc : c ∈ clNames) (hd : d ∈ clNames)
    (h : ∀ tk, Q (.bool (subT t c || subT t d)) { s with toks := tk }) : wpAny (model X.prog X.w) A (call (.builtin "isinstance") [u, .ref p]) Q E s := by
  have e := kitAny_two (K := X.K) ty.mem hc hd
  obtain ⟨_, its, r, ⟨ot, h1, h2, n, h3⟩, _⟩ := I.hok p _ hp
  obtain ⟨u1, u2, rfl, r1, r2⟩ := r.two
  cases (show u1 = Value.type c from r1)
  cases (show u2 = Value.type d from r2)
  obtain ⟨cl, dd, dt, sl⟩ := ot
  have h2' : cl = .type "tuple" := h2
  have h3' : dt = .seq [Value.type c, Value.type d].toArray n := h3
  subst h2' h3'
  cases ty with
  | non => cases (show u = Value.none from rx); exact PySem.W.kia_tup PySem.W.kitx_none I.kIn True.intro h1 e (fun z => nomatch z) h
  | bl y => cases (show u = Value.bool y from rx); exact PySem.W.kia_tup PySem.W.kitx_bool I.kIn True.intro h1 e (fun z => nomatch z) h
  | int i => obtain ⟨t, q⟩ := (show ∃ t, u = Value.int i t from rx); cases q; exact PySem.W.kia_tup PySem.W.kitx_int I.kIn True.intro h1 e (fun z => nomatch z) h
  | str y => obtain ⟨t, q⟩ := (show ∃ t, u = Value.str y t from rx); cases q; exact PySem.W.kia_tup PySem.W.kitx_str I.kIn True.intro h1 e (fun z => nomatch z) h
  | @lst a xs ea =>
    cases (show u = Value.ref a from rx)
    obtain ⟨its, _, ⟨o, n, g1, g2, _⟩, _⟩ := I.list ea
    exact PySem.W.kia_tup PySem.W.kitx_list I.kIn ⟨o, g1, g2⟩ h1 e (fun z => nomatch z) h
  | @tup a xs ea =>
    cases (show u = Value.ref a from rx)
    obtain ⟨its, _, ⟨o, g1, g2, _⟩, _⟩ := I.tuple ea
    exact PySem.W.kia_tup PySem.W.kitx_tuple I.kIn ⟨o, g1, g2⟩ h1 e (fun z => nomatch z) h
def rIsi (K : PySem.W.Frag) : List V → Hp → VK → Prop := fun xs H Q => ∃ x t, BTy K H x t ∧
  ((∃ c, xs = [x, .ty c] ∧ c ∈ clNames ∧ Q (.bl (subT t c)) H) ∨ ∃ c d p, xs = [x, .ref p] ∧ H p = some (.tup [.ty c, .ty d]) ∧ c ∈ clNames ∧ d ∈ clNames ∧ Q (.bl (subT t c || subT t d)) H)
theorem call_isi : CallR X (.builtin "isinstance") (rIsi X.K) := by
  intro pins s σ H xs us Q I r h
  obtain ⟨x, t, ty, ⟨c, rfl, hc, q⟩ | ⟨c, d, p, rfl, hp, hc, hd, q⟩⟩ := h
  · obtain ⟨u, v, rfl, r1, r2⟩ := r.two
    cases (show v = Value.type c from r2)
    exact isi_one I r1 ty hc fun tk => ⟨.bl _, H, I.tok _, rfl, q⟩
  · obtain ⟨u, v, rfl, r1, r2⟩ := r.two
    cases (show v = Value.ref p from r2)
    exact isi_two I r1 ty hp hc hd fun tk => ⟨.bl _, H, I.tok _, rfl, q⟩
theorem pe_ty {x : Str} {T : String} {pos : Pos} (hg : Gl X x) (hm : X.mg x = none) (hv : bootBuiltins x = some (.type T)) (hn : x ≠ "__name__" := by decide) (hd : (x == ("__debug__" : Str)) = false := by decide) : PE X (.Name x pos) (tC (.ty T)) := pe_bltn hg hm hv rfl hn hd
theorem boolsAre_of : ∀ {bs : List Bool} {us : List Value}, Vals (bs.map V.bl) us → LSm.BoolsAre us bs
  | [], _, r => by
    cases r
    exact .nil
  | b :: bs, _, r => by
    rw [List.map_cons] at r
    cases r with
    | cons r1 r2 =>
      cases (show _ = Value.bool b from r1)
      exact .cons b (boolsAre_of r2)
theorem call_allB (hc : X.calm = true) : CallR X (.builtin "all") (fun xs H Q => ∃ (a : Addr) (bs : List Bool), xs = [.ref a] ∧ SqL X.K H a (bs.map V.bl) ∧ Q (.bl (bs.all id)) H) := by
  intro pins s σ H xs us Q I r h
  obtain ⟨a, bs, rfl, hq, q⟩ := h
  obtain ⟨u, rfl, ru⟩ := r.one
  cases ru
  obtain ⟨its, rv, pl, _⟩ := I.list hq
  have hl := pl.isList
  have hb := boolsAre_of rv
  have hlt : a < s.heap.objs.size := by obtain ⟨_, e, _⟩ := hl; exact Heap.lt_size e
  refine call_all_walk (wpAny_pyIter_list hl ?_)
  refine ⟨s.heap.objs.size, [s.heap.objs.size, a], [s.heap.objs.size], its.toArray.size, _, _, fun i => (bs[i]?).getD true, rfl, Walks.list (A := X.A.in1) (I.ok.hd hc) _ a (Nat.ne_of_lt hlt) its.toArray,
    ⟨⟨_, Heap.get?_push_size _ rfl, rfl, rfl⟩, hl.push _⟩, fun i v s' Q' E' hP hQ => ?_, fun h' tk hk => ?_⟩
  · obtain ⟨b, e, rfl⟩ := hb.get i v (by simpa using hP)
    simp only [e, Option.getD_some] at hQ
    exact wpAny_truthy_bool hQ
  · have e : ((List.range its.toArray.size).all fun i => (bs[i]?).getD true) = bs.all id := by
      rw [List.size_toArray, hb.length]; exact LSm.range_all bs
    rw [e]
    exact ⟨.bl _, H, I.kept (t' := tk) (LSm.kept_iter hk), rfl, q⟩
end
end L2
namespace PySem
open Sem (wp)
namespace F
theorem owner_rvd : Manifest.owners.lookup (String.ofList ['d', 'e', 's', 'r', 'e', 'v', 'e', 'r'].reverse) = some Manifest.sig_reversed := by kernel_rfl
theorem slot_rvd_next : Slot "reversed" "__next__" "reversed.__next__" :=
  .of (owner := "reversed") (n := "__next__") (by rw [typeLookup_type, builtinLookup_eq_fast]; kernel_rfl) (by decide +kernel) (by decide +kernel) (by decide +kernel)
    (by first | exact .inl (by decide +kernel) | exact .inr (by decide +kernel)) (by rw [isSubtype_type]; kernel_rfl)
theorem entry_rvd_next : entryFor table "reversed.__next__" = some Builtin.«reversed.__next__» := entryFor_of_tree (by kernel_rfl)
theorem args_rvd_next_1 (a : Value) : argsOk "reversed.__next__" ⟨[a], []⟩ := by
  unfold argsOk; rw [signature?_of (id := "reversed.__next__") (n := ['_', '_', 't', 'x', 'e', 'n', '_', '_']) (o := ['d', 'e', 's', 'r', 'e', 'v', 'e', 'r']) (by kernel_rfl) owner_rvd]; kernel_rfl
theorem slot_rvd_iter : Slot "reversed" "__iter__" "reversed.__iter__" :=
  .of (owner := "reversed") (n := "__iter__") (by rw [typeLookup_type, builtinLookup_eq_fast]; kernel_rfl) (by decide +kernel) (by decide +kernel) (by decide +kernel)
    (by first | exact .inl (by decide +kernel) | exact .inr (by decide +kernel)) (by rw [isSubtype_type]; kernel_rfl)
theorem args_rvd_iter_1 (a : Value) : argsOk "reversed.__iter__" ⟨[a], []⟩ := by
  unfold argsOk; rw [signature?_of (id := "reversed.__iter__") (n := ['_', '_', 'r', 'e', 't', 'i', '_', '_']) (o := ['d', 'e', 's', 'r', 'e', 'v', 'e', 'r']) (by kernel_rfl) owner_rvd]; kernel_rfl
theorem entry_rvd_iter : entryFor table "reversed.__iter__" = some Builtin.«dict_keyiterator.__iter__» :=
  entryFor_alias (id' := "dict_keyiterator.__iter__") (by kernel_rfl) (by first | rfl | decide +kernel | (unfold String.splitOn; simp +decide [String.splitOnAux])) (by decide +kernel) (by kernel_rfl)
theorem slot_rvd_init : Slot "reversed" "__init__" "object.__init__" :=
  .of (owner := "object") (n := "__init__") (by rw [typeLookup_type, builtinLookup_eq_fast]; kernel_rfl) (by decide +kernel) (by decide +kernel) (by decide +kernel)
    (by first | exact .inl (by decide +kernel) | exact .inr (by decide +kernel)) (by rw [isSubtype_type]; kernel_rfl)
theorem called_reversed : TypeCalled "reversed" "reversed.__new__" "object.__init__" :=
  ⟨by decide +kernel, by decide +kernel, ⟨_, _, mro_reversed⟩, madeBy_type mro_reversed lookup_reversed_new (by decide +kernel), by decide +kernel, by rw [isSubtype_type]; kernel_rfl, slot_rvd_init⟩
theorem str_norev : typeLookup (.type "str") "__reversed__" = pure none := by rw [typeLookup_type, builtinLookup_eq_fast]; kernel_rfl
end F
theorem meets_reversed_newS (x : Str) (t : Tok) (hx : ¬ (x.length : Int) ≥ 2 ^ 63) :
    Meets (Builtin.«reversed.__new__» ⟨[.type "reversed", .str x t], []⟩) (fun _ R s => ∀ tk,
      R (.ok (.ret (.ref s.heap.objs.size))) { s with heap := s.heap.push { cls := .type "reversed", data := .fields #[.str x t, rawInt ((x.length : Int) - 1)] }, toks := tk }) :=
  .of_wp fun prog w A R s h => by
    obtain ⟨hp, g, d, tk, os⟩ := s
    have hsub := F.sub_reversed_self
    have hnr := F.str_norev
    have hsd : isSubtype (.type "str") (.type "dict") = pure false := by rw [isSubtype_type]; kernel_rfl
    have hgi := F.slot_str_getitem.lookup
    unfold Builtin.«reversed.__new__»
    refine wpAny_bind (wpAny_of_eq (newClass_reversed _) ?_)
    dsimp only
    refine wpAny_bind (wpAny_of_eq (a := ()) (by first | rfl | kernel_rfl) ?_)
    refine wpAny_bind (wpAny_of_eq (a := ()) (by first | rfl | kernel_rfl) ?_)
    try dsimp only
    wp_walk using P.len_str
    case hfit => exact hx
    all_goals
      refine wpAny_bind (m := asInt? _) (wpAny_of_eq (a := some (x.length : Int)) rfl ?_)
      dsimp only
      refine wpAny_bind ?_
      show wpAny _ _ (newObj (.type "reversed") (.fields #[Value.str x t, rawInt ((x.length : Int) - 1)])) _ _ _
      exact wpAny_newObj_type (wpAny_pure ⟨_, rfl, h _⟩)
def Heap.IsRvd (h : Heap) (a : Addr) (x : Str) (t : Tok) (i : Int) : Prop := ∃ o, h.get? a = some o ∧ o.cls = .type "reversed" ∧ o.data = .fields #[.str x t, rawInt i]
section
variable {prog : Program} {w : World} {A : Around} {E : Value → Shared → Prop} {s : Shared}
theorem Heap.IsRvd.typeIs {a : Addr} {x : Str} {t : Tok} {i : Int} (h : s.heap.IsRvd a x t i) : s.TypeIs (.ref a) "reversed" := let ⟨o, ho, hc, _⟩ := h; ⟨o, ho, hc⟩
theorem call_reversed_str {x : Str} {t : Tok} {Q : Value → Shared → Prop} (hx : ¬ (x.length : Int) ≥ 2 ^ 63)
    (h : ∀ tk, Q (.ref s.heap.objs.size) { s with heap := s.heap.push { cls := .type "reversed", data := .fields #[.str x t, rawInt ((x.length : Int) - 1)] }, toks := tk }) : wpAny (model prog w) A (call (.type "reversed") [.str x t]) Q E s :=
  callType_new F.called_reversed (by decide) (F.typeCall_reversed_1 _) (F.newCall_reversed_1 _) (fun obj => F.args_object_init_2 obj _) F.entry_reversed_new (meets_reversed_newS x t hx) fun tk => ⟨⟨_, Heap.get?_push_size _ rfl, rfl⟩, h tk⟩
theorem wpAny_pyIter_rvd {it : Addr} {x : Str} {t : Tok} {i : Int} {Q : Value → Shared → Prop} (hit : s.heap.IsRvd it x t i) (h : Q (.ref it) s) : wpAny (model prog w) A (pyIter (.ref it)) Q E s := by
  refine wpAny_pyIter_slot hit.typeIs F.slot_rvd_iter (wpAny_call_entry F.slot_rvd_iter hit.typeIs F.entry_rvd_iter ?_ (F.args_rvd_iter_1 _))
  show wpAny _ _ (ret (.ref it)) _ _ s
  exact wpAny_pure ⟨_, rfl, "reversed", _, hit.typeIs, F.slot_rvd_next.lookup, h⟩
theorem wpAny_pyNext_rvd_item {it : Addr} {x : Str} {t : Tok} {i c : Nat} {Q : Option Value → Shared → Prop} (hit : s.heap.IsRvd it x t (i : Int)) (hc : x.cps[i]? = some c) (hx : (x.length : Int) < 2 ^ 63)
    (hQ : ∀ h' tk u, h'.IsRvd it x t ((i : Int) - 1) → Heap.SameBut it s.heap h' → Q (some (.str ⟨#[c]⟩ u)) { s with heap := h', toks := tk }) : wpAny (model prog w) A (pyNext (.ref it)) Q E s := by
  obtain ⟨o, ho, hcl, hd⟩ := id hit
  have hi : i < x.length := by
    have := (Array.getElem?_eq_some_iff.mp hc).1
    exact this
  unfold pyNext
  refine wpAny_bind (wpAny_attempt (wpAny_callSpecial?_slot (name := Str.ofString "__next__") hit.typeIs F.slot_rvd_next
    (wpAny_call_entry F.slot_rvd_next hit.typeIs F.entry_rvd_next ?_ (F.args_rvd_next_1 _))))
  unfold Builtin.«reversed.__next__»
  refine wpAny_bind (wpAny_of_eq (a := (Value.ref it, [])) rfl ?_)
  try dsimp only
  refine wpAny_bind (wpAny_field ho hd (x := .str x t) rfl ?_)
  refine wpAny_bind (wpAny_field ho hd (x := rawInt (i : Int)) rfl ?_)
  show wpAny _ _ (if (i : Int) < 0 then _ else _) _ _ s
  rw [if_neg (by omega)]
  have hgi := F.slot_str_getitem.lookup
  refine wpAny_bind (wpAny_specialOf (T := "str") (typeIs_str _ _ _) hgi ?_)
  show wpAny _ _ (if (some (Value.builtin "str.__getitem__")).isNone = true then _ else _) _ _ _
  rw [if_neg (by simp)]
  refine wpAny_bind (m := mkInt _) (wpAny_mkInt ?_)
  refine wpAny_bind (wpAny_attempt (P.getItem_str (c := c) (by
    have e1 : decide ((i : Int) < -(2 ^ 63 : Int)) = false := decide_eq_false (by omega)
    have e2 : decide ((i : Int) ≥ 2 ^ 63) = false := decide_eq_false (by omega)
    rw [e1, e2, Bool.or_false]) (by rw [seqIndex_of (by omega) (by omega)]; simpa using hc) ?_))
  dsimp only
  refine wpAny_bind (wpAny_field ho hd (x := rawInt (i : Int)) rfl ?_)
  refine wpAny_bind (wpAny_setField ho hd (by simp) ?_)
  refine wpAny_pure ⟨_, rfl, wpAny_pure (hQ _ _ _ ?_ (Heap.SameBut.update ..))⟩
  exact ⟨_, Heap.get?_update_self _ ho (Obj.isFreed_of_fields (Obj.data_mapFields hd _)), (Obj.cls_mapFields ..).trans hcl, by
    rw [Obj.data_mapFields hd]; simp⟩
theorem wpAny_pyNext_rvd_end {it : Addr} {x : Str} {t : Tok} {Q : Option Value → Shared → Prop} (hh : A.handled = none) (hit : s.heap.IsRvd it x t (-1))
    (hQ : ∀ h', Heap.ExtBut it s.heap h' → Q none { s with heap := h' }) : wpAny (model prog w) A (pyNext (.ref it)) Q E s := by
  obtain ⟨o, ho, hcl, hd⟩ := id hit
  unfold pyNext
  refine wpAny_bind (wpAny_attempt (wpAny_callSpecial?_slot (name := Str.ofString "__next__") hit.typeIs F.slot_rvd_next
    (wpAny_call_entry F.slot_rvd_next hit.typeIs F.entry_rvd_next ?_ (F.args_rvd_next_1 _))))
  unfold Builtin.«reversed.__next__»
  refine wpAny_bind (wpAny_of_eq (a := (Value.ref it, [])) rfl ?_)
  try dsimp only
  refine wpAny_bind (wpAny_field ho hd (x := .str x t) rfl ?_)
  refine wpAny_bind (wpAny_field ho hd (x := rawInt (-1)) rfl ?_)
  show wpAny _ _ (if (-1 : Int) < 0 then _ else _) _ _ s
  rw [if_pos (by decide)]
  refine wpAny_bind (wpAny_rule ?_)
  refine wpAny_bind ?_
  show wpAny _ _ (setField (.ref it) 1 (rawInt (-1)) >>= fun _ => setField (.ref it) 0 .none) _ _ _
  refine wpAny_bind (wpAny_setField ho hd (by simp) ?_)
  have ho' : (s.heap.update it (Obj.mapFields fun xs => xs.setIfInBounds 1 (rawInt (-1)))).get? it = some _ := Heap.get?_update_self _ ho (Obj.isFreed_of_fields (Obj.data_mapFields hd (fun xs => xs.setIfInBounds 1 (rawInt (-1)))))
  have hd' := Obj.data_mapFields hd (fun xs => xs.setIfInBounds 1 (rawInt (-1)))
  refine wpAny_setField (s := { s with heap := s.heap.update it (Obj.mapFields fun xs => xs.setIfInBounds 1 (rawInt (-1))) }) ho' hd' (by simp) ?_
  have eb : Heap.ExtBut it s.heap ((s.heap.update it (Obj.mapFields fun xs => xs.setIfInBounds 1 (rawInt (-1)))).update it (Obj.mapFields fun xs => xs.setIfInBounds 0 .none)) := fun b ob hb e =>
    (Heap.get?_update_other _ _ (Ne.symm hb)).trans ((Heap.get?_update_other _ _ (Ne.symm hb)).trans e)
  refine wpAny_bind ?_
  show wpAny _ _ (newExc (.type "StopIteration") [] >>= _) _ _ _
  refine wpAny_bind ?_
  simp only [newExc, newTuple]
  refine wpAny_bind (wpAny_newObj_type ?_ (by size_fits))
  refine wpAny_bind (m := firstArgMember _ _) (wpAny_of_eq (a := Value.none) (by first | rfl | (simp only [firstArgMember]; rfl)) ?_)
  refine wpAny_newObj_type ?_ (by size_fits)
  simp only [raiseNew]
  refine wpAny_bind (wpAny_handled ?_)
  first | rw [show A.in1.handled = none from hh] | rw [hh]
  refine wpAny_bind (wpAny_pure (wpAny_throw ?_))
  refine wpAny_bind (wpAny_isInstance (T := "StopIteration") (b := true) ⟨_, Heap.get?_push_size _ rfl, rfl⟩ isSubtype_stop ?_)
  exact wpAny_pure (hQ _ ((eb.push _).push _))
end
end PySem
namespace L2
open PySem PySem.Spec PyProof.Rows
def Itv (x : Str) : It := ⟨fun i _ => i < x.cps.size, fun i H v H' => H' = H ∧ ∃ c, x.cps[x.cps.size - 1 - i]? = some c ∧ v = .str ⟨#[c]⟩, fun i _ => i = x.cps.size⟩
theorem turn_rvd {P : Program} {w : World} {K : PySem.W.Frag} {tg : Expr} (x : Str) (t : Tok) (it : Addr) (hx : (x.length : Int) < 2 ^ 63) : Turn P w K tg (Itv x) [it] it (fun i h => i ≤ x.cps.size ∧ h.IsRvd it x t ((x.cps.size : Int) - 1 - (i : Int))) where
  mem := by simp
  obj := fun i h st b hb => by
    have e : b = it := by simpa using hb
    subst e
    obtain ⟨_, o, e, c, d⟩ := st
    exact ⟨o, e, fun v z => by rw [d] at z; cases z⟩
  keep := fun i h h' st k => by
    obtain ⟨hi, o, e, r⟩ := st
    exact ⟨hi, o, k it (by simp) o e, r⟩
  item := by
    intro X hP hw hK hc i pins s σ H E I hf st hg
    subst hP hw hK
    obtain ⟨f0, f1, f2, f3, f4, f5⟩ := hf it (by simp)
    obtain ⟨hi, st⟩ := st
    have hg' : i < x.cps.size := hg
    have e1 : (x.cps.size : Int) - 1 - (i : Int) = ((x.cps.size - 1 - i : Nat) : Int) := by omega
    rw [e1] at st
    have hcx : x.cps[x.cps.size - 1 - i]? = some (x.cps[x.cps.size - 1 - i]'(by omega)) := Array.getElem?_eq_getElem (by omega)
    refine wpAny_pyNext_rvd_item st hcx hx fun h' tk u st' sb => ?_
    have e2 : ((x.cps.size - 1 - i : Nat) : Int) - 1 = (x.cps.size : Int) - 1 - ((i + 1 : Nat) : Int) := by omega
    rw [e2] at st'
    have I1 : Inv X pins σ H { s with heap := h', toks := tk } := I.turned (fun b o hb e => (sb.2 b hb).trans e) f0 f1 f3 f4 f5
    obtain ⟨o, e, c, d⟩ := id st'
    exact ⟨_, rfl, go_of (s := { s with heap := h', toks := tk }) e c d (by decide) ⟨.str ⟨#[_]⟩, H, I1, ⟨u, rfl⟩, ⟨rfl, _, hcx, rfl⟩, ⟨hg', st'⟩, fun b hb => (hf b hb).1⟩⟩
  done := by
    intro X hP hw hK hc i pins s σ H E I hf st hg
    subst hP hw hK
    obtain ⟨f0, f1, f2, f3, f4, f5⟩ := hf it (by simp)
    have hi : i = x.cps.size := hg
    subst hi
    have e1 : (x.cps.size : Int) - 1 - ((x.cps.size : Nat) : Int) = -1 := by omega
    have st' := st.2
    rw [e1] at st'
    exact wpAny_pyNext_rvd_end (I.ok.hd hc) st' fun h' eb => ⟨rfl, I.turned (t' := s.toks) (fun b o hb e => eb b o hb e) f0 f1 f3 f4 f5⟩
  self := fun A i s Q E st h => wpAny_pyIter_rvd st.2 h
section
variable {X : Cx} {tg : Expr}
def iRev (ta : TA) : TI := fun σ H R => ta σ H fun vs H1 => ∃ z : Str, vs = [.str z] ∧ z.length ≤ 1000 ∧ R (Itv z) H1
theorem pi_rev {a : Expr} {ta : TA} {p pos : Pos} (hg : Gl X "reversed") (hm : X.mg "reversed" = none) (ha : PA X [a] ta) (hs : starEach [a] X.env = [(false, eval a X.env)] := by rfl) : PI X tg (.Call (.Name "reversed" p) [a] [] pos) (iRev ta) := by
  intro pins s σ H R I h
  refine Call_ (ld_blt I hg hm boot_reversed (PyProof.Rows.callWith_type1 (thn (ha pos pins s σ H _ I h) fun us s1 ⟨vs, H1, I1, r1, q1⟩ => ?_) hs rfl))
  obtain ⟨z, e, hz, q⟩ := q1
  subst e
  obtain ⟨u, rfl, ru⟩ := r1.one
  obtain ⟨t, rfl⟩ := ru
  refine call_reversed_str (by omega) fun tk => ?_
  have I2 : Inv X pins σ H1 { s1 with heap := s1.heap.push { cls := .type "reversed", data := .fields #[.str z t, rawInt ((z.length : Int) - 1)] }, toks := tk } := I1.kept fun b o e => Heap.get?_push_of_some _ e
  have st : (s1.heap.push { cls := .type "reversed", data := .fields #[.str z t, rawInt ((z.length : Int) - 1)] }).IsRvd s1.heap.objs.size z t ((z.length : Int) - 1) := ⟨_, Heap.get?_push_size _ rfl, rfl, rfl⟩
  refine wpAny_pyIter_rvd st ?_
  refine ⟨s1.heap.objs.size, [s1.heap.objs.size], _, _, H1, rfl, I2, turn_rvd z t _ (by omega), ⟨Nat.zero_le _, ?_⟩, fun b hb => ?_, q⟩
  · have e0 : (z.cps.size : Int) - 1 - ((0 : Nat) : Int) = (z.length : Int) - 1 := by show (z.cps.size : Int) - 1 - ((0 : Nat) : Int) = (z.cps.size : Int) - 1; omega
    rw [e0]; exact st
  · have e : b = s1.heap.objs.size := by simpa using hb
    subst e
    exact I1.fpOk (Nat.le_refl _) (I1.hok.fresh (Nat.le_refl _))
end
theorem comp_revIf {w : List Nat} {D : Addr} {Q : VK} {ti : TT} {te : TE} {c : St} {H0 : Hp} (Pv : Nat → Hp → Prop) (h0 : Pv 0 H0)
    (hs : ∀ i k H, w.reverse[i]? = some k → Pv i H → ti (some (.str (S [k])) :: c) H fun b H1 => if b = true then te (some (.str (S [k])) :: c) H1 fun y H2 => ∃ ys, H2 D = some (.lst ys) ∧ ys.length < sizeLine ∧ Pv (i + 1) (upd H2 D (.lst (ys ++ [y]))) else Pv (i + 1) H1) (hd : ∀ H, Pv w.length H → Q (.ref D) H) :
    compGo (Itv (S w)) D Q ti te c H0 := by
  refine ⟨fun i m H' => m = w.length - i ∧ i ≤ w.length ∧ Pv i H', ⟨w.length, by simp, Nat.zero_le _, h0⟩, ?_⟩
  rintro i m H' ⟨rfl, hi, p⟩
  by_cases hlt : i < w.length
  · refine .inr ⟨by simpa [Itv] using hlt, Pv (i + 1), fun H'' p => ⟨w.length - (i + 1), by omega, rfl, hlt, p⟩, fun v H2 y => ?_⟩
    obtain ⟨e, k, hk, rfl⟩ := y
    subst e
    refine hs i k H2 ?_ p
    rw [List.getElem?_reverse hlt]
    simpa using hk
  · have e : i = w.length := by omega
    subst e
    exact .inl ⟨by simp [Itv], hd H' p⟩
def eqVs : List V → List V → Bool
  | [], [] => true
  | x :: xs, y :: ys => eqV x y && eqVs xs ys
  | _, _ => false
theorem eqVs_len : ∀ {xs ys : List V}, xs.length ≠ ys.length → eqVs xs ys = false
  | [], [], h => absurd rfl h
  | [], _ :: _, _ => rfl
  | _ :: _, [], _ => rfl
  | x :: xs, y :: ys, h => by unfold eqVs; rw [eqVs_len (by simpa using h), Bool.and_false]
theorem range_succ_all (n : Nat) (e : Nat → Bool) : (List.range (n + 1)).all e = (e 0 && (List.range n).all fun i => e (i + 1)) := by
  rw [List.range_succ_eq_map, List.all_cons, List.all_map]; rfl
theorem eqVs_range : ∀ {xs ys : List V}, xs.length = ys.length → (List.range xs.length).all (fun i => match xs[i]?, ys[i]? with | some x, some y => eqV x y | _, _ => true) = eqVs xs ys
  | [], [], _ => rfl
  | [], _ :: _, h => by simp at h
  | _ :: _, [], h => by simp at h
  | x :: xs, y :: ys, h => by
    have h' : xs.length = ys.length := by simpa using h
    rw [List.length_cons, range_succ_all]
    unfold eqVs
    rw [← eqVs_range h']
    simp
section
variable {X : Cx}
theorem pairs_eq {A : Around} {s : Shared} {xs ys : List V} {us vs : List Value} (rx : Vals xs us) (ry : Vals ys vs) (fx : xs.all flatV = true) (fy : ys.all flatV = true) :
    ∀ (j : Nat) (h1 : j < us.toArray.size) (h2 : j < vs.toArray.size), SeqAt.EqAt A s us.toArray[j] vs.toArray[j] (match xs[j]?, ys[j]? with | some x, some y => eqV x y | _, _ => true) := fun j h1 h2 => by
  have hx : j < xs.length := by rw [rx.length]; simpa using h1
  have hy : j < ys.length := by rw [ry.length]; simpa using h2
  obtain ⟨u, hu, ru⟩ := rx.get (List.getElem?_eq_getElem hx)
  obtain ⟨v, hv, rv⟩ := ry.get (List.getElem?_eq_getElem hy)
  have eu : us.toArray[j] = u := by
    have : us[j]? = some us.toArray[j] := by rw [List.getElem?_eq_getElem (by simpa using h1)]; simp
    rw [hu] at this; exact (Option.some.inj this).symm
  have ev : vs.toArray[j] = v := by
    have : vs[j]? = some vs.toArray[j] := by rw [List.getElem?_eq_getElem (by simpa using h2)]; simp
    rw [hv] at this; exact (Option.some.inj this).symm
  rw [eu, ev, List.getElem?_eq_getElem hx, List.getElem?_eq_getElem hy]
  exact eqAt_V ru rv (List.all_eq_true.mp fx _ (List.getElem_mem hx)) (List.all_eq_true.mp fy _ (List.getElem_mem hy))
def rEqL (K : PySem.W.Frag) (neg : Bool) : R2 := fun x y H Q => ∃ a b xs ys, x = .ref a ∧ y = .ref b ∧ ((SqL K H a xs ∧ SqL K H b ys) ∨ (SqT K H a xs ∧ SqT K H b ys)) ∧ xs.all flatV = true ∧ ys.all flatV = true ∧ Q (.bl (if neg then !eqVs xs ys else eqVs xs ys)) H
theorem op_eqL (hu : X.A.units < cLine) : OpR X (compareOp .Eq) (rEqL X.K false) := by
  intro pins s σ H x y v u Q I rx ry h
  obtain ⟨a, b, xs, ys, rfl, rfl, hq, fx, fy, q⟩ := h
  cases rx
  cases ry
  rcases hq with ⟨ha, hb⟩ | ⟨ha, hb⟩
  · obtain ⟨us, r1, p1, _⟩ := I.list ha
    obtain ⟨vs, r2, p2, _⟩ := I.list hb
    by_cases hl : xs.length = ys.length
    · refine SeqAt.eq_listAt p1.isList p2.isList (by simp; rw [← r1.length, ← r2.length]; exact hl) hu (pairs_eq r1 r2 fx fy) ?_
      rw [List.size_toArray, ← r1.length, eqVs_range hl]
      exact ⟨.bl _, H, I, rfl, q⟩
    · refine SeqAt.eq_list_lengthsAt p1.isList p2.isList (by simp; rw [← r1.length, ← r2.length]; exact hl) hu ?_
      rw [eqVs_len hl] at q
      exact ⟨.bl _, H, I, rfl, q⟩
  · obtain ⟨us, r1, p1, _⟩ := I.tuple ha
    obtain ⟨vs, r2, p2, _⟩ := I.tuple hb
    refine SeqAt.eq_tupleAt (show s.heap.IsTuple a us.toArray from p1) (show s.heap.IsTuple b vs.toArray from p2) hu (pairs_eq r1 r2 fx fy) ?_
    refine ⟨.bl _, H, I, rfl, ?_⟩
    have e : ((List.range (min us.toArray.size vs.toArray.size)).all (fun i => match xs[i]?, ys[i]? with | some x, some y => eqV x y | _, _ => true) && us.toArray.size == vs.toArray.size) = eqVs xs ys := by
      rw [List.size_toArray, List.size_toArray, ← r1.length, ← r2.length]
      by_cases hl : xs.length = ys.length
      · rw [← hl, Nat.min_self, eqVs_range hl]; simp
      · rw [eqVs_len hl]; simp [hl]
    rw [e]
    exact q
theorem call_listStr (hc : X.calm = true) : CallR X (.type "list") (fun xs H Q => ∃ w : List Nat, xs = [.str (S w)] ∧ w.length ≤ 1000 ∧ ∀ l, H l = none → Q (.ref l) (upd H l (.lst (w.map fun c => V.str (S [c]))))) := by
  intro pins s σ H xs us Q I r h
  obtain ⟨w, rfl, hz, q⟩ := h
  obtain ⟨u, rfl, ru⟩ := r.one
  obtain ⟨t, rfl⟩ := ru
  have hz2 : w.length ≤ sizeLine := Nat.le_of_lt (small1000 hz)
  refine call_list_str (I.ok.hd hc) (S w) t (fun h' tk acc c hk hl hit => ?_) (by simpa using hz2)
  have hv : Vals (w.map fun c => V.str (S [c])) acc.toList := by
    have hn : acc.size = w.length := by simpa using hit.1
    have : ∀ (n : Nat) (w : List Nat) (l : List Value), w.length = n → l.length = n → (∀ (j : Nat) (v : Value), l[j]? = some v → ∃ (c : Nat) (u : Tok), w[j]? = some c ∧ v = Value.str ⟨#[c]⟩ u) → Vals (w.map fun c => V.str (S [c])) l := by
      intro n
      induction n with
      | zero =>
        intro w l h1 h2 _
        have e1 := List.length_eq_zero_iff.mp h1
        have e2 := List.length_eq_zero_iff.mp h2
        subst e1 e2
        exact .nil
      | succ n ih =>
        intro w l h1 h2 h3
        cases w with
        | nil => simp at h1
        | cons c w =>
          cases l with
          | nil => simp at h2
          | cons v l =>
            obtain ⟨c', u, hc', rfl⟩ := h3 0 v rfl
            have hc'' : c = c' := by simpa using hc'
            subst hc''
            exact .cons ⟨u, rfl⟩ (ih w l (by simpa using h1) (by simpa using h2) fun j v hv => by simpa using h3 (j + 1) v (by simpa using hv))
    refine this w.length w acc.toList rfl (by simpa using hn) fun j v hv => ?_
    obtain ⟨c, u, hc, hv'⟩ := hit.2 j v (by simpa using hv)
    exact ⟨c, u, by simpa using hc, hv'⟩
  refine ⟨.ref s.heap.objs.size, _, I.laid (t' := tk) (o := .lst (w.map fun c => V.str (S [c]))) hk (Nat.le_refl _) ⟨by rw [List.length_map]; exact hz2, acc.toList, c, hv, ?_⟩, rfl, q _ I.fresh⟩
  simpa using hl
end
def compChk (sc0 scope : Scope) (N : List Str) (x : Str) (ix : List Nat) : Bool :=
  decide (scope.kind = .function) && scope.names.all (fun y => decide (y.2 ≠ .cell)) && scope.names.all (fun y => decide (y.2 = .local → scope.names.lookup y.1 = some .local)) && decide (scope.names.lookup x = some .local) &&
  scope.names.all (fun y => decide (y.2 = .free → sc0.names.lookup y.1 = some .cell ∨ sc0.names.lookup y.1 = some .free)) && ix.all (fun i => decide (i < N.length) && decide (scope.names.lookup (N.getD i "") = some .free)) && decide ((x :: ix.map fun i => N.getD i "").Nodup)
theorem compSc_of {X : Cx} {sc0 scope : Scope} {N : List Str} {x : Str} {ix : List Nat} (h : compChk sc0 scope N x ix = true) (e1 : X.env.scope = sc0) (e2 : X.N = N) : CompSc X scope x ix ∧ (compN X x ix).Nodup := by
  subst e1 e2
  simp only [compChk, Bool.and_eq_true, List.all_eq_true, decide_eq_true_eq] at h
  obtain ⟨⟨⟨⟨⟨⟨h1, h2⟩, h3⟩, h4⟩, h5⟩, h6⟩, h7⟩ := h
  exact ⟨⟨h1, h2, h3, h4, h5, h6⟩, h7⟩
section
variable {prog : Program} {w : World} {A : Around} {E : Value → Shared → Prop} {s : Shared}
theorem draw_list {it t : Addr} {items : Array Value} (hne : t ≠ it) : ∀ (n i : Nat) (s : Shared) (Q : List Value → Shared → Prop), s.heap.IsListIter it t i → s.heap.IsList t items → i + n ≤ items.size →
    (∀ h', h'.IsListIter it t (i + n) → Heap.SameBut it s.heap h' → Q ((items.toList.drop i).take n) { s with heap := h' }) → wpAny (model prog w) A (draw (.ref it) n) Q E s
  | 0, i, s, Q, hit, _, _, hQ => by
    show wpAny _ _ (pure []) Q E s
    exact wpAny_pure (by simpa using hQ s.heap hit (Heap.SameBut.refl ..))
  | n + 1, i, s, Q, hit, ht, hle, hQ => by
    have hlt : i < items.size := by omega
    show wpAny _ _ (pyNext (.ref it) >>= _) Q E s
    refine wpAny_bind (wpAny_pyNext_list_item hit ht (x := items[i]) (by simp [hlt]) fun h₁ hit₁ hs₁ => ?_)
    refine wpAny_bind (wpAny_holding (draw_list hne n (i + 1) _ _ hit₁ (ht.extBut hs₁.extBut hne) (by omega) fun h₂ hit₂ hs₂ => wpAny_pure ?_))
    have hd : items.toList.drop i = items[i] :: items.toList.drop (i + 1) := by simp [List.drop_eq_getElem_cons, hlt]
    have := hQ h₂ (by rw [show i + (n + 1) = i + 1 + n by omega]; exact hit₂) (hs₁.trans hs₂)
    rw [hd, List.take_succ_cons] at this
    exact this
theorem unpackItems_list {t : Addr} {items : Array Value} {Q : List Value → Shared → Prop} (hh : A.handled = none) (ht : s.heap.IsList t items)
    (hQ : ∀ h', Heap.ExtBut s.heap.objs.size s.heap h' → Q items.toList { s with heap := h' }) : wpAny (model prog w) A (unpackItems (.ref t) items.size none) Q E s := by
  have hlt : t ≠ s.heap.objs.size := by obtain ⟨o, ho, _⟩ := ht; exact Nat.ne_of_lt (Heap.lt_size ho)
  unfold unpackItems
  refine wpAny_bind ?_
  · unfold notIterableAtAll
    refine wpAny_bind (wpAny_specialOf ht.typeIs slot_list_iter.lookup ?_)
    refine wpAny_pure ?_
    simp only [Bool.false_eq_true, if_false]
    refine wpAny_bind (wpAny_holding (wpAny_pyIter_list ht ?_))
    refine wpAny_bind (wpAny_holding (draw_list hlt items.size 0 _ _ ⟨_, Heap.get?_push_size _ rfl, rfl, rfl⟩ (ht.push _) (by omega) fun h₁ hit₁ hs₁ => ?_))
    have hall : List.take items.size (List.drop 0 items.toList) = items.toList := by
      rw [List.drop_zero]; exact List.take_of_length_le (by simp)
    rw [hall]
    rw [if_neg (by simp)]
    have ht₁ : h₁.IsList t items := (ht.push _).extBut hs₁.extBut hlt
    refine wpAny_bind (wpAny_holding (wpAny_pyNext_list_end hh hit₁ ht₁ (by simp) fun h₂ he₂ => ?_))
    simp only [Option.isSome_none, Bool.false_eq_true, if_false]
    refine wpAny_pure (hQ h₂ fun b o hb e => he₂ b o hb (hs₁.extBut b o hb (Heap.get?_push_of_some _ e)))
theorem assign_Tuple_list {env : Env} {elts : List Expr} {x1} {pos : Pos} {t : Addr} {items : Array Value} {Q : Unit → Shared → Prop} (hh : A.handled = none) (ht : s.heap.IsList t items)
    (hn : (assignEach elts env).length = items.size) (hstar : (assignEach elts env).findIdx? (·.1) = none)
    (h : ∀ h', Heap.ExtBut s.heap.objs.size s.heap h' → wpAny (model prog w) A (assignInOrder ((assignEach elts env).map (·.2)) items.toList) Q E { s with heap := h' }) :
    wpAny (model prog w) A (assign (.Tuple elts x1 pos) env (.ref t)) Q E s := by
  rw [assign_Tuple]
  refine wpAny_bind (wpAny_standAt ?_)
  unfold unpack
  rw [hn, hstar]
  exact wpAny_bind (wpAny_holding (unpackItems_list hh ht h))
end
section
variable {X : Cx} {pos : Pos} {K : PySem.W.Frag}
def gSeq (K : PySem.W.Frag) (n : Nat) (t : TGs) : TG := fun v σ H Q => ∃ a xs, v = .ref a ∧ (SqL K H a xs ∨ SqT K H a xs) ∧ xs.length = n ∧ t xs σ H Q
theorem pg_seq {es : List Expr} {k : Nat} {t : TGs} {n : Nat} (hK : X.K = K) (hc : X.calm = true) (h : PGs X es t)
    (hn : (assignEach es X.env).length = n := by rfl) (hst : (assignEach es X.env).findIdx? (·.1) = none := by rfl) : PG X (.Tuple es k pos) (gSeq K n t) := by
  subst hK
  intro pins s σ H v u Q I r hw
  obtain ⟨a, xs, e1, hq, hl, hw⟩ := hw
  subst e1
  cases r
  rcases hq with hq | hq
  · obtain ⟨its, rv, ht, hz⟩ := I.list hq
    refine assign_Tuple_list (I.ok.hd hc) ht.isList (by simp [hn, ← hl, rv.length]) hst fun h' hx => ?_
    have I1 : Inv X pins σ H { s with heap := h' } := I.kept (t' := s.toks) fun b o e => hx b o (Nat.ne_of_lt (Heap.lt_size e)) e
    exact h pins _ σ H xs _ Q I1 (by simpa using rv) hw
  · obtain ⟨its, rv, ht, hz⟩ := I.tuple hq
    refine assign_Tuple_tuple (I.ok.hd hc) ht (by simp [hn, ← hl, rv.length]) hst fun h' hx => ?_
    have I1 : Inv X pins σ H { s with heap := h' } := I.kept (t' := s.toks) fun b o e => hx b o (Nat.ne_of_lt (Heap.lt_size e)) e
    exact h pins _ σ H xs _ Q I1 (by simpa using rv) hw
end
end L2
namespace Ma
def con (c : Nat) : Nat := if 96 < c then c - 32 else c + 32
def isL (c : Nat) : Prop := (97 ≤ c ∧ c ≤ 100) ∨ (65 ≤ c ∧ c ≤ 68)
theorem con_con {c : Nat} (h : isL c) : con (con c) = c := by unfold con; unfold isL at h; split <;> split <;> omega
theorem isL_con {c : Nat} (h : isL c) : isL (con c) := by unfold con; unfold isL at *; split <;> omega
theorem con_ne {c : Nat} (h : isL c) : con c ≠ c := by unfold con; unfold isL at h; split <;> omega
def push (k : List Nat) (c : Nat) : List Nat := match k with
  | [] => [c]
  | x :: r => if x = con c then r else c :: x :: r
def PlainR : List Nat → Prop
  | [] => True
  | [_] => True
  | a :: b :: r => b ≠ con a ∧ PlainR (b :: r)
def AllL (w : List Nat) : Prop := ∀ c ∈ w, isL c
def act (k : List Nat) (w : List Nat) : List Nat := w.foldl push k
def lay (w : List Nat) : List Nat := (act [] w).reverse
def Plain (w : List Nat) : Prop := PlainR w.reverse
def back (w : List Nat) : List Nat := (w.map con).reverse
theorem AllL.cons {c : Nat} {w : List Nat} : AllL (c :: w) ↔ isL c ∧ AllL w := by unfold AllL; simp
theorem AllL.nil : AllL [] := by unfold AllL; simp
theorem AllL.app {u w : List Nat} : AllL (u ++ w) ↔ AllL u ∧ AllL w := by
  unfold AllL; constructor
  · intro h; exact ⟨fun c hc => h c (List.mem_append_left _ hc), fun c hc => h c (List.mem_append_right _ hc)⟩
  · rintro ⟨h1, h2⟩ c hc; rcases List.mem_append.mp hc with h | h; exact h1 c h; exact h2 c h
theorem AllL.rev {w : List Nat} : AllL w.reverse ↔ AllL w := by unfold AllL; simp
theorem PlainR.tail {a : Nat} {r : List Nat} (h : PlainR (a :: r)) : PlainR r := by
  cases r with
  | nil => trivial
  | cons b r => exact h.2
theorem push_plain {k : List Nat} {c : Nat} (hk : PlainR k) : PlainR (push k c) := by
  cases k with
  | nil => trivial
  | cons x r =>
    unfold push
    dsimp only
    split
    · exact hk.tail
    · rename_i h; exact ⟨h, hk⟩
theorem push_all {k : List Nat} {c : Nat} (hk : AllL k) (hc : isL c) : AllL (push k c) := by
  cases k with
  | nil => exact AllL.cons.mpr ⟨hc, hk⟩
  | cons x r =>
    unfold push
    dsimp only
    split
    · exact (AllL.cons.mp hk).2
    · exact AllL.cons.mpr ⟨hc, hk⟩
theorem act_plain : ∀ {w k : List Nat}, PlainR k → PlainR (act k w)
  | [], _, h => h
  | c :: w, k, h => act_plain (w := w) (push_plain h)
theorem act_all : ∀ {w k : List Nat}, AllL k → AllL w → AllL (act k w)
  | [], _, h, _ => h
  | c :: w, k, h, hw => act_all (w := w) (push_all h (AllL.cons.mp hw).1) (AllL.cons.mp hw).2
theorem act_app (k u w : List Nat) : act k (u ++ w) = act (act k u) w := by unfold act; rw [List.foldl_append]
theorem act_snoc (k u : List Nat) (c : Nat) : act k (u ++ [c]) = push (act k u) c := by rw [act_app]; rfl
theorem act_cons (k w : List Nat) (c : Nat) : act k (c :: w) = act (push k c) w := rfl
theorem push_push {k : List Nat} {c : Nat} (hk : PlainR k) (ha : AllL k) (hc : isL c) : push (push k c) (con c) = k := by
  cases k with
  | nil =>
    show (if c = con (con c) then [] else _) = []
    rw [if_pos (con_con hc).symm]
  | cons x r =>
    have hx : isL x := (AllL.cons.mp ha).1
    by_cases e : x = con c
    · have e1 : push (x :: r) c = r := by unfold push; dsimp only; rw [if_pos e]
      rw [e1]
      cases r with
      | nil => unfold push; dsimp only; rw [e]
      | cons y r =>
        have h1 : y ≠ con x := hk.1
        unfold push
        dsimp only
        rw [if_neg (by rw [← e]; exact h1), e]
    · have e1 : push (x :: r) c = c :: x :: r := by unfold push; dsimp only; rw [if_neg e]
      rw [e1]
      unfold push
      dsimp only
      rw [if_pos (con_con hc).symm]
theorem lay_all {w : List Nat} (h : AllL w) : AllL (lay w) := AllL.rev.mpr (act_all AllL.nil h)
theorem lay_plain (w : List Nat) : Plain (lay w) := by unfold Plain lay; rw [List.reverse_reverse]; exact act_plain trivial
theorem push_len (k : List Nat) (c : Nat) : (push k c).length ≤ k.length + 1 := by
  cases k with
  | nil => simp [push]
  | cons x r =>
    unfold push
    dsimp only
    split
    · simp; omega
    · simp
theorem act_len : ∀ (w k : List Nat), (act k w).length ≤ k.length + w.length
  | [], k => by simp [act]
  | c :: w, k => by
    have h1 := act_len w (push k c)
    have h2 := push_len k c
    rw [act_cons, List.length_cons]
    omega
theorem lay_len (w : List Nat) : (lay w).length ≤ w.length := by
  unfold lay; rw [List.length_reverse]; have := act_len w []; simpa using this
theorem lay_cut (u v : List Nat) {a b : Nat} (hu : AllL u) (hb : isL b) (e : a = con b) : lay (u ++ a :: b :: v) = lay (u ++ v) := by
  unfold lay
  have ha : isL a := by rw [e]; exact isL_con hb
  rw [act_app, act_cons, act_cons, act_app]
  have e2 : b = con a := by rw [e, con_con hb]
  rw [e2, push_push (act_plain (k := []) trivial) (act_all AllL.nil hu) ha]
theorem act_plain_id : ∀ (w k : List Nat), PlainR (w.reverse ++ k) → act k w = w.reverse ++ k
  | [], k, _ => rfl
  | c :: w, k, h => by
    have h0 : PlainR (w.reverse ++ (c :: k)) := by simpa using h
    have e : push k c = c :: k := by
      cases k with
      | nil => rfl
      | cons x r =>
        have h1 : x ≠ con c := by
          have : ∀ (l : List Nat), PlainR (l ++ (c :: x :: r)) → x ≠ con c := by
            intro l
            induction l with
            | nil => intro h; exact h.1
            | cons y l ih =>
              intro h
              exact ih (PlainR.tail h)
          exact this _ h0
        unfold push
        dsimp only
        rw [if_neg h1]
    rw [act_cons, e, act_plain_id w (c :: k) h0]
    simp
theorem lay_id {w : List Nat} (h : Plain w) : lay w = w := by
  unfold lay
  rw [act_plain_id w [] (by rw [List.append_nil]; exact h)]
  simp
theorem act_lay : ∀ (n : Nat) (w k : List Nat), w.length = n → PlainR k → AllL k → AllL w → act k (lay w) = act k w := by
  intro n
  induction n with
  | zero =>
    intro w k hn _ _ _
    have : w = [] := List.length_eq_zero_iff.mp hn
    subst this; rfl
  | succ n ih =>
    intro w k hn hk ha hw
    have hne : w ≠ [] := by intro h; subst h; simp at hn
    obtain ⟨u, c, rfl⟩ : ∃ u c, w = u ++ [c] := ⟨w.dropLast, w.getLast hne, (List.dropLast_concat_getLast hne).symm⟩
    have hu : u.length = n := by simpa using hn
    obtain ⟨hau, hac⟩ := AllL.app.mp hw
    have hc : isL c := (AllL.cons.mp hac).1
    have ihu := ih u k hu hk ha hau
    have hal := act_all (k := []) AllL.nil hau
    unfold lay at ihu ⊢
    rw [act_snoc, act_snoc, ← ihu]
    cases e : act [] u with
    | nil => simp [push, act]
    | cons x r =>
      rw [e] at hal
      have hx : isL x := (AllL.cons.mp hal).1
      have har : AllL r := (AllL.cons.mp hal).2
      by_cases h : x = con c
      · have e1 : push (x :: r) c = r := by unfold push; dsimp only; rw [if_pos h]
        rw [e1, List.reverse_cons, act_snoc]
        have e2 : c = con x := by rw [h, con_con hc]
        rw [e2, push_push (act_plain hk) (act_all ha (AllL.rev.mpr har)) hx]
      · have e1 : push (x :: r) c = c :: x :: r := by unfold push; dsimp only; rw [if_neg h]
        rw [e1, List.reverse_cons, act_snoc]
theorem lay_right (u w : List Nat) (hu : AllL u) (hw : AllL w) : lay (u ++ lay w) = lay (u ++ w) := by
  unfold lay
  rw [act_app, act_app]
  have := act_lay w.length w (act [] u) rfl (act_plain trivial) (act_all AllL.nil hu) hw
  unfold lay at this
  rw [this]
theorem lay_left (u w : List Nat) (hu : AllL u) : lay (lay u ++ w) = lay (u ++ w) := by
  unfold lay
  rw [act_app, act_app]
  have e := act_plain_id (lay u) [] (by rw [List.append_nil]; exact lay_plain u)
  unfold lay at e
  rw [e]
  simp
theorem back_app (u w : List Nat) : back (u ++ w) = back w ++ back u := by unfold back; simp
theorem back_len (w : List Nat) : (back w).length = w.length := by unfold back; simp
theorem back_all {w : List Nat} (h : AllL w) : AllL (back w) := by
  unfold back AllL
  intro c hc
  simp only [List.mem_reverse, List.mem_map] at hc
  obtain ⟨a, ha, rfl⟩ := hc
  exact isL_con (h a ha)
theorem back_back : ∀ {w : List Nat}, AllL w → back (back w) = w
  | [], _ => rfl
  | c :: w, h => by
    have e : back (c :: w) = back w ++ [con c] := by unfold back; simp
    have ih := back_back (AllL.cons.mp h).2
    rw [e, back_app, ih]
    unfold back
    simp [con_con (AllL.cons.mp h).1]
theorem lay_back_cancel : ∀ (n : Nat) (w : List Nat), w.length = n → AllL w → lay (w ++ back w) = [] := by
  intro n
  induction n with
  | zero =>
    intro w hn _
    have : w = [] := List.length_eq_zero_iff.mp hn
    subst this; rfl
  | succ n ih =>
    intro w hn hw
    have hne : w ≠ [] := by intro h; subst h; simp at hn
    obtain ⟨u, c, rfl⟩ : ∃ u c, w = u ++ [c] := ⟨w.dropLast, w.getLast hne, (List.dropLast_concat_getLast hne).symm⟩
    obtain ⟨hau, hac⟩ := AllL.app.mp hw
    have hc : isL c := (AllL.cons.mp hac).1
    have e : u ++ [c] ++ back (u ++ [c]) = u ++ c :: con c :: back u := by rw [back_app]; simp [back]
    rw [e, lay_cut u (back u) hau (isL_con hc) (con_con hc).symm]
    exact ih u (by simpa using hn) hau
theorem joined_back {w : List Nat} (h : AllL w) : lay (w ++ back w) = [] := lay_back_cancel _ w rfl h
theorem back_joined {w : List Nat} (h : AllL w) : lay (back w ++ w) = [] := by
  have := joined_back (back_all h)
  rwa [back_back h] at this
theorem plainR_snoc : ∀ (l : List Nat) (a b : Nat), PlainR (l ++ [a]) → b ≠ con a → PlainR (l ++ [a, b])
  | [], a, b, _, h => ⟨h, trivial⟩
  | [x], a, b, h, h2 => ⟨h.1, h2, trivial⟩
  | x :: y :: l, a, b, h, h2 => ⟨h.1, plainR_snoc (y :: l) a b h.2 h2⟩
theorem plainR_conmap : ∀ {k : List Nat}, AllL k → PlainR k → PlainR (k.map con).reverse
  | [], _, _ => trivial
  | [a], _, _ => trivial
  | a :: b :: r, ha, h => by
    have ih := plainR_conmap (AllL.cons.mp ha).2 h.2
    have hA := AllL.cons.mp ha
    have hB := AllL.cons.mp hA.2
    rw [List.map_cons, List.reverse_cons] at ih ⊢
    rw [List.map_cons, List.reverse_cons] at *
    have e : ((r.map con).reverse ++ [con b]) ++ [con a] = (r.map con).reverse ++ [con b, con a] := by simp
    rw [e]
    refine plainR_snoc _ _ _ ih ?_
    rw [con_con hB.1]
    intro e2
    exact h.1 e2.symm
theorem back_plain {w : List Nat} (hw : AllL w) (h : Plain w) : Plain (back w) := by
  unfold Plain back at *
  rw [List.reverse_reverse]
  have := plainR_conmap (AllL.rev.mpr hw) h
  rwa [List.map_reverse, List.reverse_reverse] at this
theorem back_lay : ∀ (n : Nat) (w : List Nat), w.length = n → AllL w → lay (back w) = back (lay w) := by
  intro n
  induction n with
  | zero =>
    intro w hn _
    have : w = [] := List.length_eq_zero_iff.mp hn
    subst this; rfl
  | succ n ih =>
    intro w hn hw
    have hne : w ≠ [] := by intro h; subst h; simp at hn
    obtain ⟨u, c, rfl⟩ : ∃ u c, w = u ++ [c] := ⟨w.dropLast, w.getLast hne, (List.dropLast_concat_getLast hne).symm⟩
    obtain ⟨hau, hac⟩ := AllL.app.mp hw
    have hc : isL c := (AllL.cons.mp hac).1
    have ihu := ih u (by simpa using hn) hau
    have e0 : back (u ++ [c]) = [con c] ++ back u := by rw [back_app]; simp [back]
    have hcc : AllL [con c] := AllL.cons.mpr ⟨isL_con hc, AllL.nil⟩
    rw [e0, ← lay_right [con c] (back u) hcc (back_all hau), ihu]
    have hal := act_all (k := []) AllL.nil hau
    have hpl := act_plain (w := u) (k := []) trivial
    have el : lay u = (act [] u).reverse := rfl
    have el2 : lay (u ++ [c]) = (push (act [] u) c).reverse := by unfold lay; rw [act_snoc]
    rw [el2, el]
    cases e : act [] u with
    | nil => rfl
    | cons x r =>
      rw [e] at hal hpl
      have hx : isL x := (AllL.cons.mp hal).1
      have har : AllL r := (AllL.cons.mp hal).2
      have hbr : AllL (back r.reverse) := back_all (AllL.rev.mpr har)
      have eb : back (x :: r).reverse = con x :: back r.reverse := by rw [List.reverse_cons, back_app]; rfl
      rw [eb]
      have hp2 : Plain (back (x :: r).reverse) := back_plain (AllL.rev.mpr hal) (by unfold Plain; rw [List.reverse_reverse]; exact hpl)
      by_cases h : x = con c
      · have e1 : push (x :: r) c = r := by unfold push; dsimp only; rw [if_pos h]
        rw [e1]
        show lay ([] ++ con c :: con x :: back r.reverse) = _
        rw [lay_cut [] _ AllL.nil (isL_con hx) (by rw [con_con hx, h])]
        exact lay_id (back_plain (AllL.rev.mpr har) (by unfold Plain; rw [List.reverse_reverse]; exact hpl.tail))
      · have e1 : push (x :: r) c = c :: x :: r := by unfold push; dsimp only; rw [if_neg h]
        rw [e1]
        have e3 : back (c :: x :: r).reverse = [con c] ++ con x :: back r.reverse := by rw [List.reverse_cons, back_app, eb]; rfl
        rw [e3]
        refine lay_id ?_
        rw [← e3]
        refine back_plain (AllL.rev.mpr (AllL.cons.mpr ⟨hc, hal⟩)) ?_
        unfold Plain
        rw [List.reverse_reverse]
        exact ⟨h, hpl⟩
theorem lay_back {w : List Nat} (h : AllL w) : lay (back w) = back (lay w) := back_lay _ w rfl h
end Ma
namespace Lw
open PySem PySem.Spec PyProof.Rows L2 Ma
theorem S_len (w : List Nat) : (S w).length = w.length := by simp [Str.length]
theorem S_app (u w : List Nat) : (S u ++ S w : Str) = S (u ++ w) := by
  show Str.append (S u) (S w) = S (u ++ w)
  unfold Str.append; simp
theorem S_inj {u w : List Nat} (h : S u = S w) : u = w := by
  have h' : u.toArray = w.toArray := congrArg Str.cps h
  simpa using congrArg Array.toList h'
theorem VS_dec (u w : List Nat) : decide (V.str (S u) = V.str (S w)) = decide (u = w) := by
  by_cases h : u = w
  · subst h; simp
  · rw [decide_eq_false h, decide_eq_false fun e => h (S_inj (V.str.inj e))]
theorem S_nil : (Str.ofString "" : Str) = S [] := by decide +kernel
theorem S_at (w : List Nat) : (S w).cps.toList = w := by simp
theorem len_1000 {n : Nat} (h : n ≤ 100000) : n ≤ sizeLine := Nat.le_trans h (by decide)
theorem slice_to (w : List Nat) {j : Int} (h0 : 0 ≤ j) (h2 : j ≤ w.length) : Txt.slice (S w) none (some j) = S (w.take j.toNat) := by
  have := slice_closes_toL (x := S w) h0 (by rw [S_len]; exact h2)
  rw [beq_iff_eq.mp this]
  simp
theorem join_S : ∀ (zs : List (List Nat)), Txt.join (S []) (zs.map S) = S zs.flatten
  | [] => by unfold Txt.join; rw [StrLaws.glued_eq_join]; rfl
  | [z] => by unfold Txt.join; rw [StrLaws.glued_eq_join]; simp [Str.join]
  | z :: y :: r => by
    have ih := join_S (y :: r)
    unfold Txt.join at ih ⊢
    rw [StrLaws.glued_eq_join] at ih ⊢
    rw [List.map_cons, List.map_cons]
    show (S z ++ S []) ++ Str.join (S []) (S y :: r.map S) = _
    rw [List.map_cons] at ih
    rw [ih, S_app, S_app]
    simp
theorem sum_len (zs : List (List Nat)) : ((zs.map S).map (·.length)).sum = zs.flatten.length := by
  induction zs with
  | nil => rfl
  | cons z zs ih => simp only [List.map_cons, List.sum_cons, List.flatten_cons, List.length_append, ih, S_len]
def isLow (c : Nat) : Bool := decide (96 < c)
theorem isL_cases {c : Nat} (h : isL c) : c = 97 ∨ c = 98 ∨ c = 99 ∨ c = 100 ∨ c = 65 ∨ c = 66 ∨ c = 67 ∨ c = 68 := by unfold isL at h; omega
theorem islower_S {c : Nat} (h : isL c) : Txt.islower (S [c]) = isLow c := by
  rcases isL_cases h with rfl | rfl | rfl | rfl | rfl | rfl | rfl | rfl <;> decide +kernel
theorem upper_S {c : Nat} (h : isL c) (hl : isLow c = true) : Txt.upper (S [c]) = S [con c] := by
  rcases isL_cases h with rfl | rfl | rfl | rfl | rfl | rfl | rfl | rfl <;> first | (decide +kernel) | (exact absurd hl (by decide))
theorem lower_S {c : Nat} (h : isL c) (hl : isLow c = false) : Txt.lower (S [c]) = S [con c] := by
  rcases isL_cases h with rfl | rfl | rfl | rfl | rfl | rfl | rfl | rfl <;> first | (decide +kernel) | (exact absurd hl (by decide))
theorem short1 (c : Nat) : Builtin.Str.tooLong (S [c]).length = false := by rw [S_len]; show Builtin.Str.tooLong 1 = false; decide +kernel
def conTab_rows : List (Str × PyData) := [("a", .str "A"), ("A", .str "a"), ("b", .str "B"), ("B", .str "b"), ("c", .str "C"), ("C", .str "c"), ("d", .str "D"), ("D", .str "d")]
def conTab : List (PyData × PyData) := conTab_rows.map fun p => (PyData.str p.1, p.2)
theorem conTab_look {c : Nat} (h : isL c) : lookup (.str (S [c])) conTab = some (.str (S [con c])) := by
  rcases isL_cases h with rfl | rfl | rfl | rfl | rfl | rfl | rfl | rfl <;> kernel_rfl
def Kp (fl : Addr) (H H' : Hp) : Prop := ∀ b o, H b = some o → b ≠ fl → H' b = some o
theorem Kp.refl (fl : Addr) (H : Hp) : Kp fl H H := fun _ _ h _ => h
theorem Kp.trans {fl : Addr} {H H1 H2 : Hp} (a : Kp fl H H1) (b : Kp fl H1 H2) : Kp fl H H2 := fun c o h n => b c o (a c o h n) n
theorem _root_.L2.Same.kp {fl : Addr} {H H' : Hp} (h : Same H H') : Kp fl H H' := fun b o e _ => h b o e
theorem _root_.L2.Same.new {H : Hp} {l : Addr} {o : HO} (h : H l = none) : Same H (upd H l o) := fun b u e => by rw [upd_ne (ne_of_none e h)]; exact e
theorem _root_.L2.Same.upd {H H' : Hp} {l : Addr} {o : HO} (s : Same H H') (h : H l = none) : Same H (upd H' l o) := fun b u e => by rw [upd_ne (ne_of_none e h)]; exact s b u e
theorem _root_.L2.Same.upd' {H H' : Hp} {l : Addr} {o : HO} (s : Same H H') (h : H' l = none) : Same H (upd H' l o) := s.trans (Same.new h)
theorem Kp.upd {fl : Addr} {H H' : Hp} {l : Addr} {o : HO} (s : Kp fl H H') (h : H l = none) : Kp fl H (upd H' l o) := fun b u e n => by rw [upd_ne (ne_of_none e h)]; exact s b u e n
theorem Kp.self {fl : Addr} {H H' : Hp} {o : HO} (s : Kp fl H H') : Kp fl H (L2.upd H' fl o) := fun b u e n => by rw [upd_ne n]; exact s b u e n
theorem Kp.free {fl : Addr} {H H' : Hp} (k : Kp fl H H') {l : Addr} (h : H' l = none) (n : l ≠ fl) : H l = none := by
  cases q : H l with
  | none => rfl
  | some o => rw [k l o q n] at h; cases h
def IsFl (H : Hp) (fl sc : Addr) : Prop := ∃ (ns : List Int) (i a b c : Int), H fl = some (.lst [.ref sc, .int i, .int a, .int b, .int c]) ∧ H sc = some (.lst (ns.map V.int)) ∧ ns.length ≤ 63 ∧ 0 ≤ i ∧ 0 ≤ a ∧ 0 ≤ b
theorem IsFl.same {H H' : Hp} {fl sc : Addr} (s : Same H H') (h : IsFl H fl sc) : IsFl H' fl sc := by
  obtain ⟨ns, i, a, b, c, h1, h2, r⟩ := h
  exact ⟨ns, i, a, b, c, s _ _ h1, s _ _ h2, r⟩
theorem IsFl.some {H : Hp} {fl sc : Addr} (h : IsFl H fl sc) : (∃ o, H fl = some o) ∧ ∃ o, H sc = some o := by
  obtain ⟨ns, i, a, b, c, h1, h2, r⟩ := h
  exact ⟨⟨_, h1⟩, ⟨_, h2⟩⟩
theorem IsFl.ne {H : Hp} {fl sc l : Addr} (h : IsFl H fl sc) (n : H l = none) : l ≠ fl := by
  obtain ⟨⟨o, e⟩, _⟩ := h.some
  exact (ne_of_none e n).symm
theorem IsFl.ne2 {H : Hp} {fl sc l : Addr} (h : IsFl H fl sc) (n : H l = none) : l ≠ sc := by
  obtain ⟨_, ⟨o, e⟩⟩ := h.some
  exact (ne_of_none e n).symm
theorem IsFl.upd {H : Hp} {fl sc l : Addr} {o : HO} (h : IsFl H fl sc) (n : H l = none) : IsFl (L2.upd H l o) fl sc := h.same (Same.new n)
theorem IsFl.set {H : Hp} {fl sc l : Addr} {o : HO} (h : IsFl H fl sc) (n : l ≠ fl) (n2 : l ≠ sc) : IsFl (L2.upd H l o) fl sc := by
  obtain ⟨ns, i, a, b, c, h1, h2, r⟩ := h
  exact ⟨ns, i, a, b, c, by rw [upd_ne n.symm]; exact h1, by rw [upd_ne n2.symm]; exact h2, r⟩
structure Df (K : PySem.W.Frag) (mg : Str → Option Value) (x : Str) (st : Stmt) (ps : List Str) (f : Addr) (fd : FuncData) : Prop where
  F : Fun K x x st f fd
  b : Binds K fd ps []
  m : mg x = some (.ref f)
def Cl (P : Program) (w : World) (K : PySem.W.Frag) (mg : Str → Option Value) (base : Heap) (x : Str) (ps : List Str) (n : Nat) (sp : Sp) : Prop :=
  ∃ f fd, FnOk P w K mg base CX0 n f fd ps sp ∧ mg x = some (.ref f) ∧ PySem.W.keepIn K (.ref f) = true ∧ Binds K fd ps []
theorem Df.cl {P : Program} {w : World} {K : PySem.W.Frag} {mg : Str → Option Value} {base : Heap} {x : Str} {st : Stmt} {ps : List Str} {f : Addr} {fd : FuncData} {n : Nat} {sp : Sp} (D : Df K mg x st ps f fd) (h : FnOk P w K mg base CX0 n f fd ps sp) : Cl P w K mg base x ps n sp :=
  ⟨f, fd, h, D.m, D.F.kp, D.b⟩
def lets : List Nat := [97, 65, 98, 66, 99, 67, 100, 68]
def letsN (n : Int) : List Nat := lets.take (2 * n).toNat
def OfN (n : Int) (w : List Nat) : Prop := ∀ c ∈ w, c ∈ letsN n
theorem letsN_isL {n : Int} {c : Nat} (h : c ∈ letsN n) : isL c := by
  have h2 : c ∈ lets := List.mem_of_mem_take h
  unfold lets at h2
  simp only [List.mem_cons, List.not_mem_nil, or_false] at h2
  unfold isL
  omega
theorem OfN.all {n : Int} {w : List Nat} (h : OfN n w) : AllL w := fun c hc => letsN_isL (h c hc)
theorem letsN_len {n : Int} (h1 : 1 ≤ n) (h4 : n ≤ 4) : (letsN n).length = (2 * n).toNat := by
  unfold letsN lets
  rw [List.length_take]
  simp
  omega
def lstC (w : List Nat) : List V := w.map fun c => V.str (S [c])
theorem lstC_eq (w : List Nat) : lstC w = (w.map fun c => S [c]).map V.str := by unfold lstC; rw [List.map_map]; rfl
theorem flat_ones : ∀ (w : List Nat), (w.map fun c => [c]).flatten = w
  | [] => rfl
  | c :: w => by rw [List.map_cons, List.flatten_cons, flat_ones w]; rfl
theorem ones_S (w : List Nat) : (w.map fun c => [c]).map S = w.map fun c => S [c] := by rw [List.map_map]; rfl
theorem join_lets (w : List Nat) : Txt.join (Str.ofString "") (w.map fun c => S [c]) = S w := by
  have h := join_S (w.map fun c => [c])
  rw [ones_S, flat_ones] at h
  rw [S_nil]
  exact h
theorem join_letsB (w : List Nat) (hw : w.length ≤ 100000) : ((w.map fun c => S [c]).map (·.length)).sum + (w.map fun c => S [c]).length * (Str.ofString "").length ≤ 16777216 := by
  have h := sum_len (w.map fun c => [c])
  rw [ones_S, flat_ones] at h
  have e2 : (Str.ofString "").length = 0 := by decide +kernel
  rw [e2, Nat.mul_zero, Nat.add_zero, h]
  omega
theorem lstC_snoc (w : List Nat) (c : Nat) : lstC (w ++ [c]) = lstC w ++ [V.str (S [c])] := by unfold lstC; simp
theorem lstC_len (w : List Nat) : (lstC w).length = w.length := by unfold lstC; simp
theorem lstC_get {w : List Nat} {i : Nat} {c : Nat} (h : w[i]? = some c) : (lstC w)[i]? = some (.str (S [c])) := by unfold lstC; rw [List.getElem?_map, h]; rfl
theorem atI_S {w : List Nat} {i : Int} {c : Nat} (h0 : 0 ≤ i) (h : w[i.toNat]? = some c) : atI (S w).cps.toList i = some c := by
  rw [S_at]
  have := atI_nat h
  rwa [Int.toNat_of_nonneg h0] at this
theorem atI_of {α : Type} {xs : List α} {i : Int} {v : α} (h0 : 0 ≤ i) (h : xs[i.toNat]? = some v) : atI xs i = some v := by
  have := atI_nat h
  rwa [Int.toNat_of_nonneg h0] at this
theorem take_snoc {w : List Nat} {i c : Nat} (h : w[i]? = some c) : w.take (i + 1) = w.take i ++ [c] := by rw [List.take_add_one, h]; rfl
def spFlow (K : PySem.W.Frag) : Sp := fun vs H Q _ => ∃ (a : Addr) (ns : List Int), vs = [.ref a] ∧ SqL K H a (ns.map V.int) ∧ ns.length ≤ 63 ∧ ∀ (fl sc : Addr) (H' : Hp), H fl = none → Same H H' → IsFl H' fl sc → Q (.ref fl) H'
def spPick : Sp := fun vs H Q _ => ∃ (fl sc : Addr) (m : Int), vs = [.ref fl, .int m] ∧ IsFl H fl sc ∧ 0 < m ∧ m < 1073741824 ∧ ∀ (d : Int) (H' : Hp), 0 ≤ d → d < m → IsFl H' fl sc → Kp fl H H' → Q (.int d) H'
def spCon : Sp := fun vs H Q _ => ∃ c : Nat, vs = [.str (S [c])] ∧ isL c ∧ ∀ H', Same H H' → Q (.str (S [con c])) H'
def spLay : Sp := fun vs H Q _ => ∃ w : List Nat, vs = [.str (S w)] ∧ AllL w ∧ w.length ≤ 60000 ∧ ∀ H', Same H H' → Q (.str (S (lay w))) H'
def spBack : Sp := fun vs H Q _ => ∃ w : List Nat, vs = [.str (S w)] ∧ AllL w ∧ w.length ≤ 1000 ∧ ∀ H', Same H H' → Q (.str (S (back w))) H'
def spJoin : Sp := fun vs H Q _ => ∃ u w : List Nat, vs = [.str (S u), .str (S w)] ∧ AllL u ∧ AllL w ∧ u.length + w.length ≤ 10000 ∧ ∀ H', Same H H' → Q (.str (S (lay (u ++ w)))) H'
def spLetters : Sp := fun vs H Q _ => ∃ n : Int, vs = [.int n] ∧ 1 ≤ n ∧ n ≤ 4 ∧ ∀ (l : Addr) (H' : Hp), H l = none → Same H H' → H' l = some (.lst (lstC (letsN n))) → Q (.ref l) H'
def spLaw (K : PySem.W.Frag) : Sp := fun vs H Q _ => ∃ (a : Addr) (ns : List Int), vs = [.ref a] ∧ SqL K H a (ns.map V.int) ∧ ns.length ≤ 63 ∧ ∀ H', Q (.bl true) H'
end Lw
namespace L2
open PySem PySem.Spec PyProof.Rows
def tMid (t u : TS) : TS := fun D σ H => ∃ M : St → Hp → Prop, t { D with nx := M } σ H ∧ ∀ σ' H', M σ' H' → u D σ' H'
theorem pss_mid {X : Cx} {st : Stmt} {rest : List Stmt} {t u : TS} (h1 : PS X st t) (h2 : PSs X rest u) : PSs X (st :: rest) (tMid t u) := by
  intro pins s σ H D I ⟨M, q1, q2⟩
  refine wpAny_execs_cons (thn (h1 pins s σ H { D with nx := M } I q1) fun f s1 q => ?_)
  cases f with
  | next =>
    obtain ⟨σ', H', I', q⟩ := q
    exact h2 pins s1 σ' H' D I' (q2 σ' H' q)
  | ret v => exact q
  | brk => exact q
  | cont => exact q
end L2
namespace Lw
open PySem PySem.Spec PyProof.Rows L2 Ma
def okc (x : List Nat) (c : Nat) : Bool := match x.getLast? with
  | none => true
  | some z => !decide ([c] = [con z])
theorem okc_pos {n : Int} {x : List Nat} (h1 : 1 ≤ n) (h4 : n ≤ 4) : 0 < ((letsN n).filter (okc x)).length := by
  have m1 : 97 ∈ letsN n ∧ 65 ∈ letsN n := by
    have : n = 1 ∨ n = 2 ∨ n = 3 ∨ n = 4 := by omega
    rcases this with rfl | rfl | rfl | rfl <;> decide
  have : okc x 97 = true ∨ okc x 65 = true := by
    unfold okc
    cases x.getLast? with
    | none => exact .inl rfl
    | some z =>
      by_cases e : con z = 97
      · right; dsimp only; rw [e]; rfl
      · left; dsimp only; simp; omega
  rcases this with h | h
  · exact List.length_pos_of_mem (List.mem_filter.mpr ⟨m1.1, h⟩)
  · exact List.length_pos_of_mem (List.mem_filter.mpr ⟨m1.2, h⟩)
end Lw
namespace L2
open PySem PySem.Spec PyProof.Rows
section
variable {X : Cx} {K : PySem.W.Frag}
theorem ix_listK (h : X.K = K) : IxR X (rIxL K) := by subst h; exact ix_list
theorem ix_tupK (h : X.K = K) : IxR X (rIxT K) := by subst h; exact ix_tup
theorem sl_listK (h : X.K = K) : SlR X (rSlL K) := by subst h; exact sl_list
theorem sl_tupK (h : X.K = K) : SlR X (rSlT K) := by subst h; exact sl_tup
theorem call_lenK (h : X.K = K) : CallR X (.builtin "len") (fun xs H Q => ∃ p ys, xs = [.ref p] ∧ (SqL K H p ys ∨ SqT K H p ys) ∧ Q (.int ys.length) H) := by subst h; exact call_len_seq
theorem call_isiK (h : X.K = K) : CallR X (.builtin "isinstance") (rIsi K) := by subst h; exact call_isi
theorem call_listK (h : X.K = K) : CallR X (.type "list") (fun xs H Q => ∃ p ys, xs = [.ref p] ∧ (SqL K H p ys ∨ SqT K H p ys) ∧ ∀ l, H l = none → Q (.ref l) (upd H l (.lst ys))) := by subst h; exact call_list_of
theorem call_tupleK (h : X.K = K) : CallR X (.type "tuple") (fun xs H Q => ∃ p ys, xs = [.ref p] ∧ ((SqL K H p ys ∧ ∀ l, H l = none → Q (.ref l) (upd H l (.tup ys))) ∨ (SqT K H p ys ∧ Q (.ref p) H))) := by subst h; exact call_tuple_of
theorem call_allK (h : X.K = K) (hc : X.calm = true) : CallR X (.builtin "all") (fun xs H Q => ∃ (a : Addr) (bs : List Bool), xs = [.ref a] ∧ SqL K H a (bs.map V.bl) ∧ Q (.bl (bs.all id)) H) := by subst h; exact call_allB hc
theorem mt_joinK (h : X.K = K) : MtR X "str.join" (fun x xs H Q => ∃ z a zs, x = .str z ∧ xs = [.ref a] ∧ SqL K H a (zs.map V.str) ∧ (zs.map (·.length)).sum + zs.length * z.length ≤ 16777216 ∧ Q (.str (Txt.join z zs)) H) := by subst h; exact mt_join
theorem op_eqLK (h : X.K = K) (hu : X.A.units < cLine) : OpR X (compareOp .Eq) (rEqL K false) := by subst h; exact op_eqL hu
theorem op_inK (h : X.K = K) : OpR X (compareOp .In) (rIn K false) := by subst h; exact op_in_seq
theorem op_catTK (h : X.K = K) : OpR X (binaryOp .Add) (rCatT K) := by subst h; exact op_catT
theorem pi_listK {tg l : Expr} {tl : TE} (h : X.K = K) (hl : PE X l tl) : PI X tg l (iList K tl) := by subst h; exact pi_list hl
theorem pi_tupK {tg l : Expr} {tl : TE} (h : X.K = K) (hl : PE X l tl) : PI X tg l (iTup K tl) := by subst h; exact pi_tup hl
variable {o e : Expr} {es : List Expr} {to : TE} {t : TA} {name : Str} {apos cpos : Pos} {T id : String} {r : V → List V → Hp → VK → Prop}
theorem pe_bm0K (h : X.K = K) (pa : PlainAttrs T) (slot : Slot T name id) (hty : typeOf (.builtin id) = pure (.type "method_descriptor")) (hm : MtR X id r) (ho : PE X o to)
    (hbase : attributeBase o name X.env (eval o X.env) = eval o X.env := by rfl) (hline : (apos.endLine == cpos.line) = true := by rfl) : PE X (.Call (.Attribute o name apos) [] [] cpos) (tBM0 K T r to) := by subst h; exact pe_bm0 pa slot hty hm ho hbase hline
theorem pe_bmK (h : X.K = K) (pa : PlainAttrs T) (slot : Slot T name id) (hty : typeOf (.builtin id) = pure (.type "method_descriptor")) (hm : MtR X id r) (ho : PE X o to) (ha : PA X (e :: es) t)
    (hbase : attributeBase o name X.env (eval o X.env) = eval o X.env := by rfl)
    (hfew : ((backTo cpos (starEach (e :: es) X.env)).all (fun x => !x.1) && (backToKw cpos (keywordEach [] X.env)).all (fun x => x.1.isSome)
      && decide ((e :: es).length + ([] : List Keyword).length + (if ([] : List Keyword).isEmpty then 0 else 1) < 30)) = true := by rfl)
    (hline : (apos.endLine == cpos.line) = true := by rfl) (hs : starEach (e :: es) X.env = (false, eval e X.env) :: starEach es X.env := by rfl) (hplain : (backTo cpos (starEach es X.env)).any (·.1) = false := by rfl) :
    PE X (.Call (.Attribute o name apos) (e :: es) [] cpos) (tBM K T r to t) := by subst h; exact pe_bm pa slot hty hm ho ha hbase hfew hline hs hplain
end
section
variable {X : Cx} {scope : Scope} {x : Str} {px pos : Pos} {ix : List Nat} {elt iter : Expr} {ifs : List Expr} {wi : TI} {ti : TT} {te : TE}
theorem pe_compc {sc0 : Scope} {N : List Str} (h : compChk sc0 scope N x ix = true) (e1 : X.env.scope = sc0) (e2 : X.N = N) (hc : X.calm = true) (hi : PI X (.Name x px) iter wi) (hif : ∀ fp s H, PIfs (compCx X scope x ix fp s H) ifs ti) (he : ∀ fp s H, PE (compCx X scope x ix fp s H) elt te)
    (hs : ∀ z, foldedSetIterable iter X.env z = pure z := by intro _; rfl) : PE X (.ListComp elt [⟨.Name x px, iter, ifs, 0⟩] scope pos) (tComp wi ix ti te) :=
  pe_comp (compSc_of h e1 e2).1 (compSc_of h e1 e2).2 hc hi hif he hs
theorem ps_setcc {i : Nat} {y : Str} {py spos : Pos} {sc0 : Scope} {N : List Str} (hN : X.N.Nodup) (hy : X.N[i]? = some y) (hyl : X.env.scope.names.lookup y = some .local) (h : compChk sc0 scope N x ix = true) (e1 : X.env.scope = sc0) (e2 : X.N = N) (hc : X.calm = true) (hi : PI X (.Name x px) iter wi)
    (hif : ∀ fp s H, PIfs (compCx X scope x ix fp s H) ifs ti) (he : ∀ fp s H, PE (compCx X scope x ix fp s H) elt te)
    (hsw : swapsWith (.ListComp elt [⟨.Name x px, iter, ifs, 0⟩] scope pos) (some (.Name y py)) spos.line X.env = pure true := by rfl)
    (hs : ∀ z, foldedSetIterable iter X.env z = pure z := by intro _; rfl) : PS X (.Assign [.Name y py] (.ListComp elt [⟨.Name x px, iter, ifs, 0⟩] scope pos) spos) (tSetC i wi ix ti te) :=
  ps_setc hN hy hyl (compSc_of h e1 e2).1 (compSc_of h e1 e2).2 hc hi hif he hsw hs
end
end L2
namespace Lw
open PySem PySem.Spec PyProof.Rows L2 Ma
def Adj (x : List Nat) (k : Nat) : Prop := ∃ a b, x[k]? = some a ∧ x[k + 1]? = some b ∧ a = con b
theorem adj_split {x : List Nat} {k : Nat} (h : Adj x k) : ∃ a b, x = x.take k ++ a :: b :: x.drop (k + 2) ∧ a = con b ∧ k + 1 < x.length := by
  obtain ⟨a, b, h1, h2, e⟩ := h
  obtain ⟨l1, e1⟩ := List.getElem?_eq_some_iff.mp h1
  obtain ⟨l2, e2⟩ := List.getElem?_eq_some_iff.mp h2
  refine ⟨a, b, ?_, e, l2⟩
  have q1 : x.drop k = x[k] :: x.drop (k + 1) := List.drop_eq_getElem_cons l1
  have q2 : x.drop (k + 1) = x[k + 1] :: x.drop (k + 1 + 1) := List.drop_eq_getElem_cons l2
  rw [e1] at q1
  rw [e2] at q2
  have q3 := List.take_append_drop k x
  rw [q1, q2] at q3
  exact q3.symm
theorem adj_lay {x : List Nat} {k : Nat} (hx : AllL x) (h : Adj x k) : lay (x.take k ++ x.drop (k + 2)) = lay x := by
  obtain ⟨a, b, e, hab, _⟩ := adj_split h
  have hx' : AllL (x.take k ++ a :: b :: x.drop (k + 2)) := by rw [← e]; exact hx
  obtain ⟨h1, h2⟩ := AllL.app.mp hx'
  have hb : isL b := (AllL.cons.mp (AllL.cons.mp h2).2).1
  have := lay_cut (x.take k) (x.drop (k + 2)) h1 hb hab
  rw [← this, ← e]
theorem plainR_of : ∀ (k : List Nat), (∀ i a b, k[i]? = some a → k[i + 1]? = some b → b ≠ con a) → PlainR k
  | [], _ => trivial
  | [_], _ => trivial
  | a :: b :: r, h => ⟨h 0 a b rfl rfl, plainR_of (b :: r) fun i x y h1 h2 => h (i + 1) x y (by simpa using h1) (by simpa using h2)⟩
theorem plain_of_noadj {x : List Nat} (h : ∀ k, ¬ Adj x k) : Plain x := by
  unfold Plain
  refine plainR_of _ fun i a b h1 h2 e => ?_
  have l2 : i + 1 < x.length := by
    have := (List.getElem?_eq_some_iff.mp h2).1
    simpa using this
  rw [List.getElem?_reverse (by omega)] at h1 h2
  refine h (x.length - 1 - (i + 1)) ⟨b, a, h2, ?_, e⟩
  rw [show x.length - 1 - (i + 1) + 1 = x.length - 1 - i by omega]
  exact h1
end Lw
namespace Lw
open PySem PySem.Spec PyProof.Rows L2 Ma
theorem letsN_con {n : Int} {c : Nat} (h1 : 1 ≤ n) (h4 : n ≤ 4) (h : c ∈ letsN n) : con c ∈ letsN n := by
  have : n = 1 ∨ n = 2 ∨ n = 3 ∨ n = 4 := by omega
  have hL := isL_cases (letsN_isL h)
  rcases this with rfl | rfl | rfl | rfl <;> rcases hL with rfl | rfl | rfl | rfl | rfl | rfl | rfl | rfl <;> revert h <;> decide
end Lw
namespace Lw
open PySem PySem.Spec PyProof.Rows L2 Ma
theorem push_sub {k : List Nat} {c d : Nat} (h : d ∈ push k c) : d ∈ k ∨ d = c := by
  cases k with
  | nil => right; simpa [push] using h
  | cons x r =>
    unfold push at h
    dsimp only at h
    split at h
    · left; exact List.mem_cons_of_mem _ h
    · rcases List.mem_cons.mp h with q | q
      · exact .inr q
      · exact .inl q
theorem act_sub : ∀ {w k : List Nat} {d : Nat}, d ∈ act k w → d ∈ k ∨ d ∈ w
  | [], _, _, h => .inl h
  | c :: w, k, d, h => by
    rcases act_sub (w := w) (k := push k c) h with q | q
    · rcases push_sub q with q | q
      · exact .inl q
      · exact .inr (by rw [q]; exact List.mem_cons_self)
    · exact .inr (List.mem_cons_of_mem _ q)
theorem lay_sub {w : List Nat} {c : Nat} (h : c ∈ lay w) : c ∈ w := by
  rcases act_sub (w := w) (k := []) (List.mem_reverse.mp h) with q | q
  · exact nomatch q
  · exact q
theorem OfN.back {n : Int} {w : List Nat} (h : OfN n w) (h1 : 1 ≤ n) (h4 : n ≤ 4) : OfN n (Ma.back w) := fun c hc => by
  unfold Ma.back at hc
  simp only [List.mem_reverse, List.mem_map] at hc
  obtain ⟨a, ha, rfl⟩ := hc
  exact letsN_con h1 h4 (h a ha)
theorem OfN.lay {n : Int} {w : List Nat} (h : OfN n w) : OfN n (Ma.lay w) := fun c hc => h c (lay_sub hc)
theorem OfN.app {n : Int} {u w : List Nat} (h : OfN n u) (h2 : OfN n w) : OfN n (u ++ w) := fun c hc => (List.mem_append.mp hc).elim (h c) (h2 c)
theorem OfN.nil {n : Int} : OfN n [] := fun c hc => nomatch hc
end Lw
namespace LtL
open PySem PyProof.Rows HT
open PySem.SeqAt
open PySem.AutoSeq1 (wpAny_loadPart')
open PySem.MeetsSeq PySem.MeetsSeq2 PySem.MeetsSeq3
theorem ints_at : ∀ {us : List Value} {ns : List Int}, IntsAre us ns → ∀ i, i < us.length → ∃ a t, us[i]? = some (.int a t) ∧ ns[i]? = some a
  | _, _, .nil, i, h => by simp at h
  | _, _, .cons a t r, 0, _ => ⟨a, t, rfl, rfl⟩
  | _, _, .cons a t r, i + 1, h => by
    obtain ⟨c, u, h1, h2⟩ := ints_at r i (by simpa using h)
    exact ⟨c, u, by simpa using h1, by simpa using h2⟩
theorem drop_at {ns : List Int} {i : Nat} {a : Int} (h : ns[i]? = some a) : ns.drop i = a :: ns.drop (i + 1) := by
  obtain ⟨hl, e⟩ := List.getElem?_eq_some_iff.mp h
  rw [List.drop_eq_getElem_cons hl, e]
theorem lt_loop (l b : Addr) (us vs : List Value) (n n2 : Nat) (ns ms : List Int) (hi : IntsAre us ns) (hj : IntsAre vs ms) (k : Nat) :
    ∀ i : Nat, us.length - i = k → us.length = vs.length → Meets (Builtin.«list.__eq__.loop» ⟨[.ref l, .ref b, rawInt i, rawInt 0], []⟩)
      (fun A R s => s.heap.get? l = some { cls := .type "list", data := .seq us.toArray n } ∧ s.heap.get? b = some { cls := .type "list", data := .seq vs.toArray n2 } ∧ R (.ok (.ret (.bool (lexLt (ns.drop i) (ms.drop i))))) s) := by
  have ln : us.length = ns.length := hi.length
  have lm : vs.length = ms.length := hj.length
  induction k with
  | zero =>
    intro i hk hlen prog w A R s h
    obtain ⟨hp, g, d, tk, os⟩ := s; obtain ⟨hl, hb, h⟩ := h
    wp_walk using wpAny_loadPart' hl, wpAny_loadPart' hb
    have n1 : us.toArray[((i : Nat) : Int).toNat]? = none := by simp; omega
    have n2' : vs.toArray[((i : Nat) : Int).toNat]? = none := by simp; omega
    rw [n1, n2']
    wp_walk using wpAny_loadPart' hl, wpAny_loadPart' hb
    have d1 : ns.drop i = [] := by simp; omega
    have d2 : ms.drop i = [] := by simp; omega
    rw [d1, d2] at h
    have e : (decide (us.toArray.size < vs.toArray.size)) = HT.lexLt [] [] := by rw [List.size_toArray, List.size_toArray, hlen]; simp [HT.lexLt]
    show R (.ok (.ret (.bool (decide (us.toArray.size < vs.toArray.size))))) _
    rw [e]
    exact h
  | succ k ih =>
    intro i hk hlen prog w A R s h
    obtain ⟨hp, g, d, tk, os⟩ := s; obtain ⟨hl, hb, h⟩ := h
    obtain ⟨a, t, ha, ha'⟩ := ints_at hi i (by omega)
    obtain ⟨c, u, hc, hc'⟩ := ints_at hj i (by omega)
    have n1 : us.toArray[((i : Nat) : Int).toNat]? = some (.int a t) := by simpa using ha
    have n2' : vs.toArray[((i : Nat) : Int).toNat]? = some (.int c u) := by simpa using hc
    rw [drop_at ha', drop_at hc', lexLt_cons] at h
    wp_walk using wpAny_loadPart' hl, wpAny_loadPart' hb
    rw [n1, n2']
    have he := SeqAt.EqAt.int_int (A := A.in1) (s := ⟨hp, g, d, tk, os⟩) a t c u
    refine wpAny_bind (he prog w _ _ ?_)
    cases q : (a == c) with
    | true =>
      have q' : a = c := by simpa using q
      rw [if_pos q'] at h
      wp_walk
      refine ⟨plainId_quiet plain_eq_loop _, codeAny_builtin entry_eq_loop ?_⟩
      rw [Around.under_plainId plain_eq_loop _]
      exact ih (i + 1) (by omega) hlen prog w A R _ ⟨hl, hb, h⟩
    | false =>
      have q' : ¬ a = c := by simpa using q
      rw [if_neg q'] at h
      have hri := rcLt_int A.in1 ⟨hp, g, d, tk, os⟩ a t c u prog w
      wp_walk using wpAny_loadPart' hl, wpAny_loadPart' hb
      rw [n1, n2']
      wp_walk using hri
      exact h
theorem list_lt (l b : Addr) (us vs : List Value) (n n2 : Nat) (ns ms : List Int) (hi : IntsAre us ns) (hj : IntsAre vs ms) (hlen : us.length = vs.length) :
    Meets (Builtin.«list.__lt__» ⟨[.ref l, .ref b], []⟩)
      (fun A R s => s.heap.get? l = some { cls := .type "list", data := .seq us.toArray n } ∧ s.heap.get? b = some { cls := .type "list", data := .seq vs.toArray n2 } ∧ R (.ok (.ret (.bool (lexLt ns ms)))) s) := by
  intro prog w A R s h
  obtain ⟨hp, g, d, tk, os⟩ := s; obtain ⟨hl, hb, h⟩ := h
  have f3 := AutoSeq1.sub_list_list
  wp_walk using wpAny_loadPart' hl, wpAny_loadPart' hb
  refine ⟨plainId_quiet plain_eq_loop _, codeAny_builtin entry_eq_loop ?_⟩
  rw [Around.under_plainId plain_eq_loop _]
  exact lt_loop l b us vs n n2 ns ms hi hj _ 0 rfl hlen prog w A R _ ⟨hl, hb, h⟩
end LtL
namespace L2
open PySem PySem.Spec PyProof.Rows
theorem lexLt_self : ∀ ns : List Int, HT.lexLt ns ns = false
  | [] => rfl
  | n :: ns => by rw [HT.lexLt_cons, if_pos rfl]; exact lexLt_self ns
theorem eqVs_int : ∀ (a b : List Int), eqVs (a.map V.int) (b.map V.int) = decide (a = b)
  | [], [] => by simp [eqVs]
  | [], _ :: _ => by simp [eqVs]
  | _ :: _, [] => by simp [eqVs]
  | x :: xs, y :: ys => by
    have e : eqV (V.int x) (V.int y) = decide (x = y) := by
      unfold eqV; by_cases h : x = y <;> simp [h]
    rw [List.map_cons, List.map_cons]
    unfold eqVs
    rw [eqVs_int xs ys, e]
    by_cases h : x = y <;> by_cases h2 : xs = ys <;> simp [h, h2]
section
variable {X : Cx}
theorem mt_index (hc : X.calm = true) : MtR X "str.index" (fun x xs H Q => ∃ z y, x = .str z ∧ xs = [.str y] ∧ (Builtin.Str.occurrences z y 0 z.length 1).isEmpty = false ∧ Q (.int (Txt.find z y)) H) := by
  intro pins s σ H x xs v us Q I rx rs h
  obtain ⟨z, y, rfl, rfl, ho, q⟩ := h
  obtain ⟨t, rfl⟩ := rx
  obtain ⟨u, rfl, ru⟩ := rs.one
  obtain ⟨t', rfl⟩ := ru
  exact index_or (I.ok.hd hc) (fun _ e => by rw [e] at ho; cases ho) fun _ _ => ⟨.int _, H, I.tok _, ⟨_, rfl⟩, q⟩
end
end L2
namespace MaR
section
variable {g : Nat → Nat} {n : Nat}
end
end MaR
namespace Lw
open PySem PySem.Spec PyProof.Rows L2 Ma MaR
def rk (c : Nat) : Nat := if 96 < c then 2 * (c - 97) else 2 * (c - 65) + 1
theorem rk_inj {a b : Nat} (ha : isL a) (hb : isL b) (h : rk a = rk b) : a = b := by unfold rk at h; unfold isL at *; split at h <;> split at h <;> omega
end Lw
namespace Lw
open PySem PySem.Spec PyProof.Rows L2 Ma MaR
end Lw
namespace Lw
open PySem PySem.Spec PyProof.Rows L2 Ma MaR
def rks (x : List Nat) : List Int := x.map fun c => ((rk c : Nat) : Int)
theorem rks_len (x : List Nat) : (rks x).length = x.length := by unfold rks; rw [List.length_map]
theorem idx_S {c : Nat} (h : isL c) : (Builtin.Str.occurrences (Str.ofString "aAbBcCdD") (S [c]) 0 (Str.ofString "aAbBcCdD").length 1).isEmpty = false ∧ Txt.find (Str.ofString "aAbBcCdD") (S [c]) = ((rk c : Nat) : Int) := by
  rcases isL_cases h with rfl | rfl | rfl | rfl | rfl | rfl | rfl | rfl <;> exact ⟨by decide +kernel, by decide +kernel⟩
def spKey : Sp := fun vs H Q _ => ∃ x : List Nat, vs = [.str (S x)] ∧ AllL x ∧ x.length ≤ 900 ∧ ∀ (p a : Addr) (H' : Hp), H p = none → H a = none → Same H H' → H' p = some (.tup [.int (x.length : Nat), .ref a]) → H' a = some (.lst ((rks x).map V.int)) → Q (.ref p) H'
end Lw
namespace Lw
open PySem PySem.Spec PyProof.Rows L2 Ma MaR
end Lw
namespace Lw
open PySem PySem.Spec PyProof.Rows L2 Ma MaR
end Lw
namespace Lw
open PySem PySem.Spec PyProof.Rows L2 Ma MaR
end Lw
namespace L2
open PySem PySem.Spec PyProof.Rows
section
variable {X : Cx} {e : Expr} {te : TE} {lo hi : Option Expr} {stp : Expr} {tl th tk : TO} {pos p2 : Pos}
def SlR3 (X : Cx) (r : V → Option Int → Option Int → Option Int → Hp → VK → Prop) : Prop :=
  ∀ (pins : List (Addr × Obj)) (s : Shared) (σ : St) (H : Hp) (x : V) (v vl vu vk : Value) (lo hi st : Option Int) (sl : Addr) (Q : VK), Inv X pins σ H s → RelV x v → s.heap.IsSliceOf sl vl vu vk → IsPart vl lo → IsPart vu hi → IsPart vk st → r x lo hi st H Q →
    ∃ T id, typeLookup (.type T) "__getitem__" = pure (some (.builtin id)) ∧ s.TypeIs v T ∧ wpAny (model X.prog X.w) X.A (getItem v (.ref sl)) (EP X pins σ Q) X.xe s
def tSl3 (r : V → Option Int → Option Int → Option Int → Hp → VK → Prop) (te : TE) (tl th tk : TO) : TE := fun σ H Q => te σ H fun x H1 => tl σ H1 fun l H2 => th σ H2 fun u H3 => tk σ H3 fun k H4 => r x l u k H4 Q
theorem pe_slice3 {r : V → Option Int → Option Int → Option Int → Hp → VK → Prop} (hr : SlR3 X r) (he : PE X e te) (hl : PO X lo tl) (hu : PO X hi th) (hk : PO X (some stp) tk) : PE X (.Subscript e (.Slice lo hi (some stp) p2) pos) (tSl3 r te tl th tk) := by
  intro pins s σ H Q I h
  refine Subscript_ (thn (he pins s σ H _ I h) fun v s1 ⟨x, H1, I1, r1, q1⟩ => ?_)
  refine wpAny_Slice (thn (hl pins s1 σ H1 _ I1 q1) fun vl s2 ⟨l, H2, I2, pl, q2⟩ => thn (hu pins s2 σ H2 _ I2 q2) fun vu s3 ⟨u, H3, I3, pu, q3⟩ => thn (hk pins s3 σ H3 _ I3 q3) fun vk s4 ⟨k, H4, I4, pk, q4⟩ => ?_)
  have I5 : Inv X pins σ H4 { s4 with heap := s4.heap.push { cls := .type "slice", data := .fields #[vl, vu, vk] } } := I4.kept (t' := s4.toks) fun b ob q => Heap.get?_push_of_some _ q
  obtain ⟨T, id, hT, ht, hg⟩ := hr pins { s4 with heap := s4.heap.push { cls := .type "slice", data := .fields #[vl, vu, vk] } } σ H4 x v vl vu vk l u k s4.heap.objs.size Q I5 r1 (Heap.IsSliceOf.new ..) pl pu pk q4
  show wpAny (model X.prog X.w) X.A (subscriptTail e (.Slice lo hi (some stp) p2) v (.ref s4.heap.objs.size)) (EP X pins σ Q) X.xe { s4 with heap := s4.heap.push { cls := .type "slice", data := .fields #[vl, vu, vk] } }
  exact tail_any (ops := [v, .ref s4.heap.objs.size]) ht hT hg rfl
end
abbrev Cx.one (X : Cx) : Cx := { X with A := X.A.in1, xe := fun _ _ => False }
theorem Cx.Ok.one {X : Cx} (o : X.Ok) : X.one.Ok :=
  ⟨o.mod, o.kind, o.glob, o.blt, o.above, o.inj, o.has, o.cab, o.hd, o.frames, o.stk, o.exf, o.bs, o.bsz, o.noex, o.exfs, o.funs, o.frf⟩
section
variable {X : Cx} {pins : List (Addr × Obj)} {σ : St} {H : Hp} {s : Shared}
theorem Inv.one (I : Inv X pins σ H s) : Inv X.one pins σ H s := ⟨I.ok.one, I.os, I.bare, I.base, I.loc, I.cell, I.free, I.freeC, I.pin, I.hok, I.len⟩
theorem Inv.unone (o : X.Ok) (I : Inv X.one pins σ H s) : Inv X pins σ H s := ⟨o, I.os, I.bare, I.base, I.loc, I.cell, I.free, I.freeC, I.pin, I.hok, I.len⟩
end
section
variable {X : Cx} {k : Nat} {f : Addr} {fd : FuncData} {ps : List Str} {sp : Sp} {rlt : R2}
end
end L2
namespace Lw
open PySem PySem.Spec PyProof.Rows L2 Ma MaR
theorem lay_mid (u v w : List Nat) (hu : AllL u) (hv : AllL v) (hw : AllL w) : lay (u ++ lay v ++ w) = lay (u ++ v ++ w) := by
  rw [← lay_left (u ++ lay v) w (AllL.app.mpr ⟨hu, lay_all hv⟩), lay_right u v hu hv, lay_left (u ++ v) w (AllL.app.mpr ⟨hu, hv⟩)]
end Lw
namespace Lw
open PySem PySem.Spec PyProof.Rows L2 Ma MaR
end Lw
namespace Lw
open PySem PySem.Spec PyProof.Rows L2 Ma MaR
def lo (c : Nat) : Nat := if 96 < c then c else c + 32
theorem isL_lets {c : Nat} (h : isL c) : c ∈ lets := by rcases isL_cases h with rfl | rfl | rfl | rfl | rfl | rfl | rfl | rfl <;> decide
end Lw
namespace PySem
open Sem (wp)
section
variable {prog : Program} {w : World} {A : Around} {E : Value → Shared → Prop} {s : Shared}
theorem drawT_item {j t : Addr} {k : Nat} {vs : Array Value} {x : Value} {Q : Value → Shared → Prop} (hj : s.heap.IsTupleIter j t k) (ht : s.heap.IsTuple t vs) (hx : vs[k]? = some x)
    (hQ : ∀ g, g.IsTupleIter j t (k + 1) → Heap.SameBut j s.heap g → Q x { s with heap := g }) : wpAny (model prog w) A (Builtin.SmallTypes.nextOf (.ref j)) Q E s := by
  obtain ⟨oj, goj, cj, dj⟩ := id hj
  obtain ⟨ot, got, _, m, dt⟩ := ht
  unfold Builtin.SmallTypes.nextOf
  refine wpAny_bind (wpAny_callSpecial?_slot (name := Str.ofString "__next__") hj.typeIs F.slot_tuple_iterator_next (wpAny_call_entry F.slot_tuple_iterator_next hj.typeIs F.entry_tuple_iterator_next ?_ (F.args_tuple_iterator_next_1 _)))
  show wpAny _ _ (field (.ref j) 0 >>= _) _ _ s
  refine wpAny_bind (wpAny_field goj dj (x := .ref t) rfl ?_)
  show wpAny _ _ (if (Value.ref t == Value.none) = true then _ else _) _ _ s
  rw [if_neg (by intro c; cases c)]
  show wpAny _ _ (field (.ref j) 1 >>= _) _ _ s
  refine wpAny_bind (wpAny_field goj dj (x := .int k 0) rfl ?_)
  show wpAny _ _ (seqItems? (.ref t) >>= _) _ _ s
  refine wpAny_bind (wpAny_seqItems got dt ?_)
  simp only [Int.toNat_natCast, hx]
  refine wpAny_bind (wpAny_setField goj dj (by simp) (wpAny_pure ⟨x, rfl, wpAny_pure (hQ _ ?_ (Heap.SameBut.update ..))⟩))
  refine ⟨_, Heap.get?_update_self _ goj (Obj.isFreed_of_fields (Obj.data_mapFields dj _)), (Obj.cls_mapFields ..).trans cj, ?_⟩
  rw [Obj.data_mapFields dj]
  simp [rawInt]
theorem drawT_end {j t : Addr} {k : Nat} {vs : Array Value} {Q : Value → Shared → Prop} (hh : A.handled = none) (hj : s.heap.IsTupleIter j t k) (ht : s.heap.IsTuple t vs) (hx : vs[k]? = none)
    (hE : ∀ g e, Heap.ExtBut j s.heap g → (∃ o, g.get? e = some o ∧ o.cls = .type "StopIteration") → E (.ref e) { s with heap := g }) : wpAny (model prog w) A (Builtin.SmallTypes.nextOf (.ref j)) Q E s := by
  obtain ⟨oj, goj, cj, dj⟩ := id hj
  obtain ⟨ot, got, _, m, dt⟩ := ht
  unfold Builtin.SmallTypes.nextOf
  refine wpAny_bind (wpAny_callSpecial?_slot (name := Str.ofString "__next__") hj.typeIs F.slot_tuple_iterator_next (wpAny_call_entry F.slot_tuple_iterator_next hj.typeIs F.entry_tuple_iterator_next ?_ (F.args_tuple_iterator_next_1 _)))
  show wpAny _ _ (field (.ref j) 0 >>= _) _ _ s
  refine wpAny_bind (wpAny_field goj dj (x := .ref t) rfl ?_)
  show wpAny _ _ (if (Value.ref t == Value.none) = true then _ else _) _ _ s
  rw [if_neg (by intro c; cases c)]
  show wpAny _ _ (field (.ref j) 1 >>= _) _ _ s
  refine wpAny_bind (wpAny_field goj dj (x := .int k 0) rfl ?_)
  show wpAny _ _ (seqItems? (.ref t) >>= _) _ _ s
  refine wpAny_bind (wpAny_seqItems got dt ?_)
  simp only [Int.toNat_natCast, hx]
  refine wpAny_bind (wpAny_rule (wpAny_bind (wpAny_setField goj dj (by simp) ?_)))
  show wpAny _ _ (newExc (.type "StopIteration") [] >>= _) _ _ _
  refine wpAny_bind ?_
  simp only [newExc, newTuple]
  refine wpAny_bind (wpAny_newObj_type ?_ (by size_fits))
  refine wpAny_bind (m := firstArgMember _ _) (wpAny_of_eq (a := Value.none) (by first | rfl | (simp only [firstArgMember]; rfl)) ?_)
  refine wpAny_newObj_type ?_ (by size_fits)
  simp only [raiseNew]
  refine wpAny_bind (wpAny_handled ?_)
  first | rw [show A.in1.handled = none from hh] | rw [hh]
  refine wpAny_bind (wpAny_pure (wpAny_throw ?_))
  exact hE _ _ (((Heap.SameBut.update ..).extBut.push _).push _) ⟨_, Heap.get?_push_size _ rfl, rfl⟩
structure ZApart (z a b i j t u : Addr) : Prop where
  az : a ≠ z
  bz : b ≠ z
  iz : i ≠ z
  jz : j ≠ z
  ab : a ≠ b
  ai : a ≠ i
  aj : a ≠ j
  bi : b ≠ i
  bj : b ≠ j
  ij : i ≠ j
  tz : t ≠ z
  tb : t ≠ b
  ti : t ≠ i
  tj : t ≠ j
  uz : u ≠ z
  ub : u ≠ b
  ui : u ≠ i
  uj : u ≠ j
structure ZSt (h : Heap) (z a b i j t u : Addr) (k : Nat) (f0 : Value) : Prop where
  zip : IsZip h z a b f0
  its : IsPair h a (.ref i) (.ref j)
  own : ∃ p q, IsPair h b p q
  one : h.IsTupleIter i t k
  two : h.IsTupleIter j u k
theorem ZSt.at {h h' : Heap} {z a b i j t u : Addr} {k : Nat} {f0 : Value} (S : ZSt h z a b i j t u k f0) (kp : ∀ c ∈ [z, a, b, i, j], ∀ o, h.get? c = some o → h'.get? c = some o) : ZSt h' z a b i j t u k f0 := by
  obtain ⟨p, q, ho⟩ := S.own
  obtain ⟨o1, g1, r1⟩ := S.one
  obtain ⟨o2, g2, r2⟩ := S.two
  exact ⟨kp z (by simp) _ S.zip, kp a (by simp) _ S.its, ⟨p, q, kp b (by simp) _ ho⟩, ⟨o1, kp i (by simp) _ g1, r1⟩, ⟨o2, kp j (by simp) _ g2, r2⟩⟩
theorem zipT_item {z a b i j t u : Addr} {k : Nat} {xs ys : Array Value} {x y : Value} {Q : Value → Shared → Prop} (D : ZApart z a b i j t u) (S : ZSt s.heap z a b i j t u k .none)
    (ht : s.heap.IsTuple t xs) (hu : s.heap.IsTuple u ys) (hx : xs[k]? = some x) (hy : ys[k]? = some y)
    (hQ : ∀ g, ZSt g z a b i j t u (k + 1) (rawInt s.heap.objs.size) → IsPair g s.heap.objs.size x y → g.objs.size = s.heap.objs.size + 1 → (∀ c o, c ≠ z → c ≠ b → c ≠ i → c ≠ j → s.heap.get? c = some o → g.get? c = some o) → Q (.ref s.heap.objs.size) { s with heap := g }) :
    wpAny (model prog w) A (Builtin.«zip.__next__» ⟨[.ref z], []⟩) (fun fin s' => ∃ v, fin = .done (.ret v) ∧ Q v s') E s := by
  obtain ⟨hz, hI, ⟨p, q, hO⟩, h1, h2⟩ := S
  show wpAny _ _ (field (.ref z) 2 >>= _) _ _ _
  refine wpAny_bind (wpAny_field hz rfl (x := .bool false) rfl ?_)
  show wpAny _ _ (field (.ref z) 3 >>= _) _ _ _
  refine wpAny_bind (wpAny_field hz rfl (x := .ref a) rfl (wpAny_bind (wpAny_seqItems hI rfl ?_)))
  show wpAny _ _ (Builtin.SmallTypes.ownedTupleIsFree (.ref z) >>= _) _ _ _
  unfold Builtin.SmallTypes.ownedTupleIsFree
  refine wpAny_bind (wpAny_bind (wpAny_field hz rfl (x := .none) rfl (wpAny_pure ?_)))
  simp only [if_true]
  refine wpAny_bind (wpAny_rule (wpAny_bind (wpAny_field hz rfl (x := .ref b) rfl (wpAny_bind (wpAny_setField_rec hz (by simp) fun g1 z1 e1 => ?_)))))
  replace z1 : IsZip g1 z a b .ellipsis := z1
  refine wpAny_bind ?_
  simp only [List.zipIdx_cons, List.zipIdx_nil, List.forIn_cons, List.forIn_nil]
  refine wpAny_bind (wpAny_bind (wpAny_onRaise ?_))
  show wpAny _ _ (Builtin.SmallTypes.nextOf (.ref i) >>= _) _ _ _
  refine wpAny_bind (drawT_item (h1.extBut e1.extBut D.iz) (ht.extBut e1.extBut D.tz) hx fun g2 i2 e2 => wpAny_pure ?_)
  have o2 : IsPair g2 b p q := e2.extBut _ _ D.bi (e1.extBut _ _ D.bz hO)
  refine wpAny_bind (wpAny_seqItems o2 rfl (wpAny_bind (wpAny_updateSeq_pair o2 fun g3 o3 e3 => wpAny_bind (wpAny_letGo (wpAny_pure ?_)))))
  replace o3 : IsPair g3 b x q := o3
  refine wpAny_bind (wpAny_bind (wpAny_onRaise ?_))
  show wpAny _ _ (Builtin.SmallTypes.nextOf (.ref j) >>= _) _ _ _
  have j3 := ((h2.extBut e1.extBut D.jz).extBut e2.extBut D.ij.symm).extBut e3.extBut D.bj.symm
  have u3 := ((hu.extBut e1.extBut D.uz).extBut e2.extBut D.ui).extBut e3.extBut D.ub
  refine wpAny_bind (drawT_item j3 u3 hy fun g4 j4 e4 => wpAny_pure ?_)
  have o4 : IsPair g4 b x q := e4.extBut _ _ D.bj o3
  refine wpAny_bind (wpAny_seqItems o4 rfl (wpAny_bind (wpAny_updateSeq_pair o4 fun g5 o5 e5 => wpAny_bind (wpAny_letGo (wpAny_pure (wpAny_pure ?_))))))
  replace o5 : IsPair g5 b x y := o5
  refine wpAny_bind (wpAny_seqItems o5 rfl (wpAny_bind (wpAny_newTuple ?_)))
  have sz : g5.objs.size = s.heap.objs.size := by rw [e5.1, e4.1, e3.1, e2.1, e1.1]
  have z5 : IsZip g5 z a b .ellipsis := e5.extBut _ _ D.bz.symm (e4.extBut _ _ D.jz.symm (e3.extBut _ _ D.bz.symm (e2.extBut _ _ D.iz.symm z1)))
  have kp : ∀ c o, c ≠ z → c ≠ b → c ≠ i → c ≠ j → s.heap.get? c = some o → g5.get? c = some o := fun c o c1 c2 c3 c4 e => e5.extBut _ _ c2 (e4.extBut _ _ c4 (e3.extBut _ _ c2 (e2.extBut _ _ c3 (e1.extBut _ _ c1 e))))
  have i5 : g5.IsTupleIter i t (k + 1) := ((i2.extBut e3.extBut D.bi.symm).extBut e4.extBut D.ij).extBut e5.extBut D.bi.symm
  have j5 : g5.IsTupleIter j u (k + 1) := j4.extBut e5.extBut D.bj.symm
  have lz := Heap.lt_size z5
  show wpAny _ _ (Builtin.SmallTypes.ownedTupleHandOut (.ref z) (.ref g5.objs.size) >>= _) _ _ _
  unfold Builtin.SmallTypes.ownedTupleHandOut
  have z6 : IsZip (g5.push { cls := .type "tuple", data := .seq #[x, y] }) z a b .ellipsis := Heap.get?_push_of_some _ z5
  refine wpAny_bind (wpAny_bind (wpAny_setField_rec z6 (by simp) fun g7 z7 e7 => ?_))
  replace z7 : IsZip g7 z a b (rawInt g5.objs.size) := z7
  refine wpAny_setField_rec z7 (by simp) fun g8 z8 e8 => wpAny_pure ⟨_, rfl, ?_⟩
  replace z8 : IsZip g8 z a b (rawInt g5.objs.size) := z8
  have up : ∀ c o, c ≠ z → g5.get? c = some o → g8.get? c = some o := fun c o c1 e => e8.extBut _ _ c1 (e7.extBut _ _ c1 (Heap.get?_push_of_some _ e))
  have T8 : IsPair g8 g5.objs.size x y := e8.extBut _ _ (Nat.ne_of_gt lz) (e7.extBut _ _ (Nat.ne_of_gt lz) (Heap.get?_push_size _ rfl))
  have n8 : g8.objs.size = g5.objs.size + 1 := by rw [e8.1, e7.1, Heap.size_push]
  show Q (.ref g5.objs.size) _
  rw [sz] at z8 T8 n8 ⊢
  obtain ⟨oi, goi, ri⟩ := i5
  obtain ⟨oj, goj, rj⟩ := j5
  exact hQ g8 ⟨z8, up _ _ D.az (kp _ _ D.az D.ab D.ai D.aj hI), ⟨x, y, up _ _ D.bz o5⟩, ⟨oi, up _ _ D.iz goi, ri⟩, ⟨oj, up _ _ D.jz goj, rj⟩⟩ T8 n8 fun c o c1 c2 c3 c4 e => up c o c1 (kp c o c1 c2 c3 c4 e)
theorem zipT_end {z a b i j t u : Addr} {k : Nat} {xs ys : Array Value} {Q : Fin → Shared → Prop} (hh : A.handled = none) (D : ZApart z a b i j t u) (S : ZSt s.heap z a b i j t u k .none)
    (ht : s.heap.IsTuple t xs) (hu : s.heap.IsTuple u ys) (hn : xs[k]? = none ∨ ys[k]? = none)
    (hE : ∀ g e, (∀ c o, c ≠ z → c ≠ b → c ≠ i → c ≠ j → s.heap.get? c = some o → g.get? c = some o) → (∃ o, g.get? e = some o ∧ o.cls = .type "StopIteration") → E (.ref e) { s with heap := g }) :
    wpAny (model prog w) A (Builtin.«zip.__next__» ⟨[.ref z], []⟩) Q E s := by
  obtain ⟨hz, hI, ⟨p, q, hO⟩, h1, h2⟩ := S
  show wpAny _ _ (field (.ref z) 2 >>= _) _ _ _
  refine wpAny_bind (wpAny_field hz rfl (x := .bool false) rfl ?_)
  show wpAny _ _ (field (.ref z) 3 >>= _) _ _ _
  refine wpAny_bind (wpAny_field hz rfl (x := .ref a) rfl (wpAny_bind (wpAny_seqItems hI rfl ?_)))
  show wpAny _ _ (Builtin.SmallTypes.ownedTupleIsFree (.ref z) >>= _) _ _ _
  unfold Builtin.SmallTypes.ownedTupleIsFree
  refine wpAny_bind (wpAny_bind (wpAny_field hz rfl (x := .none) rfl (wpAny_pure ?_)))
  simp only [if_true]
  refine wpAny_bind (wpAny_rule (wpAny_bind (wpAny_field hz rfl (x := .ref b) rfl (wpAny_bind (wpAny_setField_rec hz (by simp) fun g1 z1 e1 => ?_)))))
  replace z1 : IsZip g1 z a b .ellipsis := z1
  refine wpAny_bind ?_
  simp only [List.zipIdx_cons, List.zipIdx_nil, List.forIn_cons, List.forIn_nil]
  refine wpAny_bind (wpAny_bind (wpAny_onRaise ?_))
  show wpAny _ _ (Builtin.SmallTypes.nextOf (.ref i) >>= _) _ _ _
  cases hx : xs[k]? with
  | none =>
    refine wpAny_bind (drawT_end hh (h1.extBut e1.extBut D.iz) (ht.extBut e1.extBut D.tz) hx fun g2 e e2 he => ?_)
    obtain ⟨oe, goe, ce⟩ := he
    have z2 : IsZip g2 z a b .ellipsis := e2 _ _ D.iz.symm z1
    have ne : e ≠ z := fun c => by subst c; rw [z2] at goe; cases goe; simp at ce
    exact wpAny_setField_rec z2 (by simp) fun g3 _ e3 => hE g3 e (fun c o c1 _ c3 _ v => e3.extBut _ _ c1 (e2 _ _ c3 (e1.extBut _ _ c1 v))) ⟨oe, e3.extBut _ _ ne goe, ce⟩
  | some x =>
    have hy : ys[k]? = none := by
      rcases hn with h | h
      · rw [hx] at h; cases h
      · exact h
    refine wpAny_bind (drawT_item (h1.extBut e1.extBut D.iz) (ht.extBut e1.extBut D.tz) hx fun g2 i2 e2 => wpAny_pure ?_)
    have o2 : IsPair g2 b p q := e2.extBut _ _ D.bi (e1.extBut _ _ D.bz hO)
    refine wpAny_bind (wpAny_seqItems o2 rfl (wpAny_bind (wpAny_updateSeq_pair o2 fun g3 o3 e3 => wpAny_bind (wpAny_letGo (wpAny_pure ?_)))))
    refine wpAny_bind (wpAny_bind (wpAny_onRaise ?_))
    show wpAny _ _ (Builtin.SmallTypes.nextOf (.ref j) >>= _) _ _ _
    have j3 := ((h2.extBut e1.extBut D.jz).extBut e2.extBut D.ij.symm).extBut e3.extBut D.bj.symm
    have u3 := ((hu.extBut e1.extBut D.uz).extBut e2.extBut D.ui).extBut e3.extBut D.ub
    refine wpAny_bind (drawT_end hh j3 u3 hy fun g4 e e4 he => ?_)
    obtain ⟨oe, goe, ce⟩ := he
    have z4 : IsZip g4 z a b .ellipsis := e4 _ _ D.jz.symm (e3.extBut _ _ D.bz.symm (e2.extBut _ _ D.iz.symm z1))
    have ne : e ≠ z := fun c => by subst c; rw [z4] at goe; cases goe; simp at ce
    exact wpAny_setField_rec z4 (by simp) fun g5 _ e5 => hE g5 e (fun c o c1 c2 c3 c4 v => e5.extBut _ _ c1 (e4 _ _ c4 (e3.extBut _ _ c2 (e2.extBut _ _ c3 (e1.extBut _ _ c1 v))))) ⟨oe, e5.extBut _ _ ne goe, ce⟩
theorem nextZ_item {z a b i j t u : Addr} {k : Nat} {xs ys : Array Value} {x y : Value} {Q : Option Value → Shared → Prop} (D : ZApart z a b i j t u) (S : ZSt s.heap z a b i j t u k .none)
    (ht : s.heap.IsTuple t xs) (hu : s.heap.IsTuple u ys) (hx : xs[k]? = some x) (hy : ys[k]? = some y)
    (hQ : ∀ g, ZSt g z a b i j t u (k + 1) (rawInt s.heap.objs.size) → IsPair g s.heap.objs.size x y → g.objs.size = s.heap.objs.size + 1 → (∀ c o, c ≠ z → c ≠ b → c ≠ i → c ≠ j → s.heap.get? c = some o → g.get? c = some o) → Q (some (.ref s.heap.objs.size)) { s with heap := g }) :
    wpAny (model prog w) A (pyNext (.ref z)) Q E s := by
  have hT : s.TypeIs (.ref z) "zip" := ⟨_, S.zip, rfl⟩
  unfold pyNext
  exact wpAny_bind (wpAny_attempt (wpAny_callSpecial?_slot (name := Str.ofString "__next__") hT F.slot_zip_next (wpAny_call_entry F.slot_zip_next hT F.entry_zip_next (zipT_item D S ht hu hx hy fun g b1 b2 b3 b4 => wpAny_pure (hQ g b1 b2 b3 b4)) (F.args_zip_next_1 _))))
theorem nextZ_end {z a b i j t u : Addr} {k : Nat} {xs ys : Array Value} {Q : Option Value → Shared → Prop} (hh : A.handled = none) (D : ZApart z a b i j t u) (S : ZSt s.heap z a b i j t u k .none)
    (ht : s.heap.IsTuple t xs) (hu : s.heap.IsTuple u ys) (hn : xs[k]? = none ∨ ys[k]? = none)
    (hQ : ∀ g, (∀ c o, c ≠ z → c ≠ b → c ≠ i → c ≠ j → s.heap.get? c = some o → g.get? c = some o) → Q none { s with heap := g }) : wpAny (model prog w) A (pyNext (.ref z)) Q E s := by
  have hT : s.TypeIs (.ref z) "zip" := ⟨_, S.zip, rfl⟩
  unfold pyNext
  refine wpAny_bind (wpAny_attempt (wpAny_callSpecial?_slot (name := Str.ofString "__next__") hT F.slot_zip_next (wpAny_call_entry F.slot_zip_next hT F.entry_zip_next (zipT_end hh D S ht hu hn fun g e kp he => ?_) (F.args_zip_next_1 _))))
  obtain ⟨o, go, co⟩ := he
  exact wpAny_bind (wpAny_isInstance (T := "StopIteration") (b := true) ⟨o, go, co⟩ isSubtype_stop (wpAny_pure (hQ _ kp)))
end
abbrev zh1 (h : Heap) (t : Addr) : Heap := h.push { cls := .type "tuple_iterator", data := .fields #[.ref t, .int 0 0] }
abbrev zh2 (h : Heap) (t u : Addr) : Heap := (zh1 h t).push { cls := .type "tuple_iterator", data := .fields #[.ref u, .int 0 0] }
abbrev zh3 (h : Heap) (t u : Addr) : Heap := (zh2 h t u).push { cls := .type "tuple", data := .seq #[.ref h.objs.size, .ref (zh1 h t).objs.size] }
abbrev zh4 (h : Heap) (t u : Addr) : Heap := (zh3 h t u).push { cls := .type "tuple", data := .seq #[.none, .none] }
abbrev zh5 (h : Heap) (t u : Addr) : Heap := (zh4 h t u).push { cls := .type "zip", data := .fields #[.none, .bool false, .bool false, .ref (zh2 h t u).objs.size, .ref (zh3 h t u).objs.size] }
theorem meets_zipT (t u : Addr) (xs ys : Array Value) :
    Meets (Builtin.«zip.__new__» ⟨[.type "zip", .ref t, .ref u], []⟩) (fun _ R s => s.heap.IsTuple t xs ∧ s.heap.IsTuple u ys ∧ R (.ok (.ret (.ref (zh4 s.heap t u).objs.size))) { s with heap := zh5 s.heap t u }) :=
  .of_wp fun prog w A R s h => by
    obtain ⟨hp, g, d, tk, os⟩ := s
    obtain ⟨ht, hu, h⟩ := h
    have hsub := sub_zip
    have hL1 : Heap.IsTuple (Shared.heap ⟨hp, g, d, tk, os⟩) t xs := ht
    have hL2 : Heap.IsTuple (Shared.heap ⟨hp.push { cls := .type "tuple_iterator", data := .fields #[.ref t, .int 0 0] }, g, d, tk, os⟩) u ys := Heap.IsTuple.push hu _
    wp_walk using wpAny_pyIter_tuple hL1, wpAny_pyIter_tuple hL2
    exact ⟨_, rfl, h⟩
end PySem
namespace L2
open PySem PySem.Spec PyProof.Rows
section
variable {X : Cx} {pins : List (Addr × Obj)} {σ : St} {H : Hp} {s : Shared} {h' : Heap}
theorem Inv.turnedN {t' : Nat} {ch : List Addr} {a : Addr} {xs : List V} (I : Inv X pins σ H s) (k : ∀ b o, b ∉ ch → s.heap.get? b = some o → h'.get? b = some o) (hf : ∀ b ∈ ch, FpOk X pins H b) (ha : s.heap.objs.size ≤ a)
    (new : ObjOk X.prog X.w (upd H a (.tup xs)) h' a (.tup xs)) : Inv X pins σ (upd H a (.tup xs)) { s with heap := h', toks := t' } := by
  have hn : H a = none := I.hok.fresh ha
  have un : ∀ {b u}, H b = some u → upd H a (.tup xs) b = some u := fun e => by rw [upd_ne (ne_of_none e hn)]; exact e
  have nch : ∀ {b u}, H b = some u → b ∉ ch := fun e hb => by rw [(hf _ hb).1] at e; cases e
  refine I.step (g' := s.gens) (d' := s.drawn) (ch := ch) (fun b hb => ?_) (fun b o _ _ hc e _ => k b o hc e) (fun b o _ _ hc e _ => ⟨o.slots, k b o hc e⟩) (fun b o _ e n => ?_) (fun b o hc e => ⟨o, k b o hc e⟩) (fun _ _ e => un e) (fun _ _ _ e => un e)
    (fun b ps e => ⟨#[], by rw [un e]; simp⟩) (fun m hm => ?_) (fun b u e => ?_) I.bare
  · obtain ⟨f0, f1, f2, f3, f4, f5⟩ := hf b hb
    exact ⟨f3, f1, f4, f5⟩
  · rw [upd_ne (Nat.ne_of_lt (Nat.lt_of_lt_of_le (Heap.lt_size e) ha))]
    exact n
  · obtain ⟨o, es, ep, ho, r⟩ := hm
    exact ⟨o, es, ep, k _ o (fun hb => (hf _ hb).2.1 rfl) ho, r⟩
  · by_cases hb : b = a
    · subst hb
      rw [upd_same] at e
      cases e
      exact new
    · rw [upd_ne hb] at e
      refine (I.hok b u e).stay (fun c v hc q => k c v ?_ q) (fun c q => un q) fun c ys q => un q
      rcases hc with z | z
      · rw [z]; exact nch e
      · exact nch z
theorem Inv.turnedM {t' : Nat} {ch : List Addr} (I : Inv X pins σ H s) (k : ∀ b o, b ∉ ch → s.heap.get? b = some o → h'.get? b = some o) (hf : ∀ b ∈ ch, FpOk X pins H b) : Inv X pins σ H { s with heap := h', toks := t' } := by
  have nch : ∀ {b u}, H b = some u → b ∉ ch := fun e hb => by rw [(hf _ hb).1] at e; cases e
  refine I.step (g' := s.gens) (d' := s.drawn) (ch := ch) (fun b hb => ?_) (fun b o _ _ hc e _ => k b o hc e) (fun b o _ _ hc e _ => ⟨o.slots, k b o hc e⟩) (fun b o _ e n => n) (fun b o hc e => ⟨o, k b o hc e⟩) (fun _ _ e => e) (fun _ _ _ e => e)
    (fun b ps e => ⟨#[], by rw [e]; simp⟩) (fun m hm => ?_) (fun b u e => ?_) I.bare
  · obtain ⟨f0, f1, f2, f3, f4, f5⟩ := hf b hb
    exact ⟨f3, f1, f4, f5⟩
  · obtain ⟨o, es, ep, ho, r⟩ := hm
    exact ⟨o, es, ep, k _ o (fun hb => (hf _ hb).2.1 rfl) ho, r⟩
  · refine (I.hok b u e).stay (fun c v hc q => k c v ?_ q) (fun c q => q) fun c ys q => q
    rcases hc with z | z
    · rw [z]; exact nch e
    · exact nch z
end
def Itz (K : PySem.W.Frag) (t u : Addr) : It :=
  ⟨fun i H => ∃ xs ys x y, SqT K H t xs ∧ SqT K H u ys ∧ xs[i]? = some x ∧ ys[i]? = some y,
   fun i H v H' => ∃ p x y, v = .ref p ∧ H p = none ∧ H' = upd H p (.tup [x, y]) ∧ ∀ xs ys, SqT K H t xs → SqT K H u ys → xs[i]? = some x ∧ ys[i]? = some y,
   fun i H => ∃ xs ys, SqT K H t xs ∧ SqT K H u ys ∧ (xs.length ≤ i ∨ ys.length ≤ i)⟩
theorem turn_zip {P : Program} {w : World} {K : PySem.W.Frag} {es : List Expr} {x1} {pos : Pos} (z a b i j t u : Addr) (D : ZApart z a b i j t u) : Turn P w K (.Tuple es x1 pos) (Itz K t u) [z, a, b, i, j] z (fun k h => ZSt h z a b i j t u k .none) where
  mem := by simp
  obj := fun k h st c hc => by
    obtain ⟨p, q, ho⟩ := st.own
    obtain ⟨o1, g1, c1, d1⟩ := st.one
    obtain ⟨o2, g2, c2, d2⟩ := st.two
    simp only [List.mem_cons, List.not_mem_nil, or_false] at hc
    rcases hc with rfl | rfl | rfl | rfl | rfl
    · exact ⟨_, st.zip, fun v e => by cases e⟩
    · exact ⟨_, st.its, fun v e => by cases e⟩
    · exact ⟨_, ho, fun v e => by cases e⟩
    · exact ⟨o1, g1, fun v e => by rw [d1] at e; cases e⟩
    · exact ⟨o2, g2, fun v e => by rw [d2] at e; cases e⟩
  keep := fun k h h' st kp => st.at kp
  item := by
    intro X hP hw hK hc k pins s σ H E I hf st hg
    subst hP hw hK
    obtain ⟨xs, ys, x, y, hq1, hq2, hx, hy⟩ := hg
    obtain ⟨v1, r1, p1, _⟩ := I.tuple hq1
    obtain ⟨v2, r2, p2, _⟩ := I.tuple hq2
    obtain ⟨ux, hux, rux⟩ := r1.get hx
    obtain ⟨uy, huy, ruy⟩ := r2.get hy
    refine nextZ_item D st (show s.heap.IsTuple t v1.toArray from p1) (show s.heap.IsTuple u v2.toArray from p2) (x := ux) (y := uy) (by simpa using hux) (by simpa using huy) fun g S1 hT hn kp => ⟨_, rfl, ?_⟩
    refine wpAny_letOwnedTupleGo_zip S1.zip fun g2 z2 e2 => ?_
    have kp2 : ∀ c o, c ≠ z → c ≠ b → c ≠ i → c ≠ j → s.heap.get? c = some o → g2.get? c = some o := fun c o c1 c2 c3 c4 e => (e2.2 c c1).trans (kp c o c1 c2 c3 c4 e)
    have nz : s.heap.objs.size ≠ z := Nat.ne_of_gt (Heap.lt_size st.zip)
    have hT2 : IsPair g2 s.heap.objs.size ux uy := (e2.2 _ nz).trans hT
    have hsub : ∀ c ∈ [z, b, i, j], FpOk X pins H c := fun c hc => hf c (by
      simp only [List.mem_cons, List.not_mem_nil, or_false] at hc ⊢
      rcases hc with h | h | h | h <;> simp [h])
    have kpn : ∀ c o, c ∉ [z, b, i, j] → s.heap.get? c = some o → g2.get? c = some o := fun c o hn e => kp2 c o (fun q => hn (by simp [q])) (fun q => hn (by simp [q])) (fun q => hn (by simp [q])) (fun q => hn (by simp [q])) e
    have hHn : H s.heap.objs.size = none := I.hok.fresh (Nat.le_refl _)
    refine ⟨.ref s.heap.objs.size, upd H s.heap.objs.size (.tup [x, y]), ?_, rfl, ⟨_, x, y, rfl, hHn, rfl, fun xs' ys' h1 h2 => by rw [I.tuple_inj h1 hq1, I.tuple_inj h2 hq2]; exact ⟨hx, hy⟩⟩, ?_, fun c hc => ?_⟩
    · exact I.turnedN (t' := s.toks) (h' := g2) kpn hsub (Nat.le_refl _) ⟨by show 2 ≤ sizeLine; decide, [ux, uy], .cons rux (.cons ruy .nil), ⟨_, hT2, rfl, 0, rfl⟩, ⟨_, hT2, rfl⟩⟩
    · obtain ⟨p, q, ho⟩ := S1.own
      obtain ⟨o1, g1, d1⟩ := S1.one
      obtain ⟨o2, gg2, d2⟩ := S1.two
      exact ⟨z2, (e2.2 _ D.az).trans S1.its, ⟨p, q, (e2.2 _ D.bz).trans ho⟩, ⟨o1, (e2.2 _ D.iz).trans g1, d1⟩, ⟨o2, (e2.2 _ D.jz).trans gg2, d2⟩⟩
    · have hce : c ≠ s.heap.objs.size := by
        obtain ⟨p, q, ho⟩ := st.own
        obtain ⟨o1, g1, _⟩ := st.one
        obtain ⟨o2, g2', _⟩ := st.two
        simp only [List.mem_cons, List.not_mem_nil, or_false] at hc
        rcases hc with rfl | rfl | rfl | rfl | rfl
        · exact Nat.ne_of_lt (Heap.lt_size st.zip)
        · exact Nat.ne_of_lt (Heap.lt_size st.its)
        · exact Nat.ne_of_lt (Heap.lt_size ho)
        · exact Nat.ne_of_lt (Heap.lt_size g1)
        · exact Nat.ne_of_lt (Heap.lt_size g2')
      rw [upd_ne hce]
      exact (hf c hc).1
  done := by
    intro X hP hw hK hc k pins s σ H E I hf st hg
    subst hP hw hK
    obtain ⟨xs, ys, hq1, hq2, hn⟩ := hg
    obtain ⟨v1, r1, p1, _⟩ := I.tuple hq1
    obtain ⟨v2, r2, p2, _⟩ := I.tuple hq2
    have l1 := r1.length
    have l2 := r2.length
    refine nextZ_end (I.ok.hd hc) D st (show s.heap.IsTuple t v1.toArray from p1) (show s.heap.IsTuple u v2.toArray from p2) (by
      rcases hn with h | h
      · exact .inl (by simp; omega)
      · exact .inr (by simp; omega)) fun g kp => ⟨rfl, ?_⟩
    refine I.turnedM (t' := s.toks) (ch := [z, b, i, j]) (fun c o hn e => kp c o (fun q => hn (by simp [q])) (fun q => hn (by simp [q])) (fun q => hn (by simp [q])) (fun q => hn (by simp [q])) e) fun c hc => hf c ?_
    simp only [List.mem_cons, List.not_mem_nil, or_false] at hc ⊢
    rcases hc with h | h | h | h <;> simp [h]
  self := fun A k s Q E st h => wpAny_pyIter_zip st.zip h
section
variable {X : Cx}
theorem zap (n t u : Nat) (h1 : t < n) (h2 : u < n) : ZApart (n + 4) (n + 2) (n + 3) n (n + 1) t u :=
  ⟨(by omega : (n + 2 : Nat) ≠ n + 4), (by omega : (n + 3 : Nat) ≠ n + 4), (by omega : (n : Nat) ≠ n + 4), (by omega : (n + 1 : Nat) ≠ n + 4), (by omega : (n + 2 : Nat) ≠ n + 3), (by omega : (n + 2 : Nat) ≠ n), (by omega : (n + 2 : Nat) ≠ n + 1), (by omega : (n + 3 : Nat) ≠ n), (by omega : (n + 3 : Nat) ≠ n + 1), (by omega : (n : Nat) ≠ n + 1),
   (by omega : (t : Nat) ≠ n + 4), (by omega : (t : Nat) ≠ n + 3), (by omega : (t : Nat) ≠ n), (by omega : (t : Nat) ≠ n + 1), (by omega : (u : Nat) ≠ n + 4), (by omega : (u : Nat) ≠ n + 3), (by omega : (u : Nat) ≠ n), (by omega : (u : Nat) ≠ n + 1)⟩
def iZip (K : PySem.W.Frag) (ta : TA) : TI := fun σ H R => ta σ H fun vs H1 => ∃ t u, vs = [.ref t, .ref u] ∧ (∃ xs, SqT K H1 t xs) ∧ (∃ ys, SqT K H1 u ys) ∧ R (Itz K t u) H1
theorem call_zipT {pins : List (Addr × Obj)} {σ : St} {H : Hp} {s : Shared} {t u : Addr} {xs ys : Array Value} {Q : Value → Shared → Prop} {E : Value → Shared → Prop} (ht : s.heap.IsTuple t xs) (hu : s.heap.IsTuple u ys)
    (h : ∀ g, ZSt g (s.heap.objs.size + 4) (s.heap.objs.size + 2) (s.heap.objs.size + 3) s.heap.objs.size (s.heap.objs.size + 1) t u 0 .none → (∀ c o, s.heap.get? c = some o → g.get? c = some o) → Q (.ref (s.heap.objs.size + 4)) { s with heap := g }) :
    wpAny (model X.prog X.w) X.A (call (.type "zip") [.ref t, .ref u]) Q E s := by
  refine callType_new F.called_zip (by decide) (F.typeCall_zip_2 _ _) (F.newCall_zip_2 _ _) (fun obj => F.args_object_init_3 obj _ _) F.entry_zip_new (meets_zipT t u xs ys) ⟨ht, hu, ?_⟩
  have n1 : (zh1 s.heap t).objs.size = s.heap.objs.size + 1 := Heap.size_push ..
  have n2 : (zh2 s.heap t u).objs.size = s.heap.objs.size + 2 := by rw [Heap.size_push, n1]
  have n3 : (zh3 s.heap t u).objs.size = s.heap.objs.size + 3 := by rw [Heap.size_push, n2]
  have n4 : (zh4 s.heap t u).objs.size = s.heap.objs.size + 4 := by rw [Heap.size_push, n3]
  have g5 : (zh5 s.heap t u).get? (zh4 s.heap t u).objs.size = some _ := Heap.get?_push_size _ rfl
  have g4 : (zh5 s.heap t u).get? (zh3 s.heap t u).objs.size = some _ := Heap.get?_push_of_some _ (Heap.get?_push_size _ rfl)
  have g3 : (zh5 s.heap t u).get? (zh2 s.heap t u).objs.size = some _ := Heap.get?_push_of_some _ (Heap.get?_push_of_some _ (Heap.get?_push_size _ rfl))
  have g2 : (zh5 s.heap t u).get? (zh1 s.heap t).objs.size = some _ := Heap.get?_push_of_some _ (Heap.get?_push_of_some _ (Heap.get?_push_of_some _ (Heap.get?_push_size _ rfl)))
  have g1 : (zh5 s.heap t u).get? s.heap.objs.size = some _ := Heap.get?_push_of_some _ (Heap.get?_push_of_some _ (Heap.get?_push_of_some _ (Heap.get?_push_of_some _ (Heap.get?_push_size _ rfl))))
  show _ ∧ _
  rw [n2, n3, n4] at g5
  rw [n1, n2] at g3
  rw [n3] at g4
  rw [n1] at g2
  rw [n4]
  exact ⟨⟨_, g5, rfl⟩, h _ ⟨g5, g3, ⟨_, _, g4⟩, ⟨_, g1, rfl, rfl⟩, ⟨_, g2, rfl, rfl⟩⟩ fun c o e => Heap.get?_push_of_some _ (Heap.get?_push_of_some _ (Heap.get?_push_of_some _ (Heap.get?_push_of_some _ (Heap.get?_push_of_some _ e))))⟩
theorem pi_zip {es : List Expr} {x1} {tpos : Pos} {a b : Expr} {ta : TA} {p pos : Pos} {K : PySem.W.Frag} (hK : X.K = K) (hg : Gl X "zip") (hm : X.mg "zip" = none) (ha : PA X [a, b] ta) (hs : starEach [a, b] X.env = [(false, eval a X.env), (false, eval b X.env)] := by rfl) (hs2 : starEach [b] X.env = [(false, eval b X.env)] := by rfl) :
    PI X (.Tuple es x1 tpos) (.Call (.Name "zip" p) [a, b] [] pos) (iZip K ta) := by
  subst hK
  intro pins s σ H R I h
  refine Call_ (ld_blt I hg hm boot_zip (PyProof.Rows.callWith_type1 (thn (ha pos pins s σ H _ I h) fun us s1 ⟨vs, H1, I1, r1, q1⟩ => ?_) (by rw [hs, hs2]) (by rw [hs2]; rfl)))
  obtain ⟨t, u, e, ⟨xs, hx⟩, ⟨ys, hy⟩, q⟩ := q1
  subst e
  obtain ⟨v1, v2, rfl, rv1, rv2⟩ := vals2 r1
  cases rv1
  cases rv2
  obtain ⟨w1, rw1, p1, _⟩ := I1.tuple hx
  obtain ⟨w2, rw2, p2, _⟩ := I1.tuple hy
  have lt : t < s1.heap.objs.size := by obtain ⟨o, e, _⟩ := p1; exact Heap.lt_size e
  have lu : u < s1.heap.objs.size := by obtain ⟨o, e, _⟩ := p2; exact Heap.lt_size e
  refine call_zipT (pins := pins) (σ := σ) (H := H1) (show s1.heap.IsTuple t w1.toArray from p1) (show s1.heap.IsTuple u w2.toArray from p2) fun g st kp => ?_
  have I2 : Inv X pins σ H1 { s1 with heap := g } := I1.kept (t' := s1.toks) kp
  have D : ZApart (s1.heap.objs.size + 4) (s1.heap.objs.size + 2) (s1.heap.objs.size + 3) s1.heap.objs.size (s1.heap.objs.size + 1) t u := by
    exact zap _ t u lt lu
  refine wpAny_pyIter_zip st.zip ⟨s1.heap.objs.size + 4, [s1.heap.objs.size + 4, s1.heap.objs.size + 2, s1.heap.objs.size + 3, s1.heap.objs.size, s1.heap.objs.size + 1], _, _, H1, rfl, I2, turn_zip _ _ _ _ _ t u D, st, fun c hc => ?_, q⟩
  have hle : s1.heap.objs.size ≤ c := by
    simp only [List.mem_cons, List.not_mem_nil, or_false] at hc
    rcases hc with h | h | h | h | h <;> rw [h]
    · exact Nat.le_add_right _ _
    · exact Nat.le_add_right _ _
    · exact Nat.le_add_right _ _
    · exact Nat.le_refl _
    · exact Nat.le_add_right _ _
  exact I1.fpOk hle (I1.hok.fresh hle)
end
theorem for_zip {K : PySem.W.Frag} {t u : Addr} {xs ys : List V} {g : TG} {tb : TS} {D : Ends} {σ : St} {H : Hp} (Pv : Nat → St → Hp → Prop) (h0 : Pv 0 σ H) (hl : ∀ i σ H, i ≤ min xs.length ys.length → Pv i σ H → SqT K H t xs ∧ SqT K H u ys)
    (hs : ∀ i x y p σ H, xs[i]? = some x → ys[i]? = some y → H p = none → Pv i σ H → g (.ref p) σ (upd H p (.tup [x, y])) fun σ2 H2 => tb { D with nx := Pv (i + 1), ct := Pv (i + 1), bk := D.nx } σ2 H2) (hd : ∀ σ H, Pv (min xs.length ys.length) σ H → D.nx σ H) :
    ∃ W : Nat → Nat → St → Hp → Prop, (∃ m, W 0 m σ H) ∧ ∀ i m σ H, W i m σ H →
      ((Itz K t u).stop i H ∧ D.nx σ H) ∨ ((Itz K t u).go i H ∧ ∃ N : St → Hp → Prop, (∀ σ' H', N σ' H' → ∃ m', m' < m ∧ W (i + 1) m' σ' H') ∧ ∀ x H', (Itz K t u).yld i H x H' → g x σ H' fun σ2 H2 => tb { D with nx := N, ct := N, bk := D.nx } σ2 H2) := by
  refine ⟨fun i m σ H => m = min xs.length ys.length - i ∧ i ≤ min xs.length ys.length ∧ Pv i σ H, ⟨_, rfl, Nat.zero_le _, h0⟩, ?_⟩
  rintro i m σ H ⟨rfl, hi, p⟩
  obtain ⟨q1, q2⟩ := hl i σ H hi p
  by_cases hlt : i < min xs.length ys.length
  · have l1 : i < xs.length := by omega
    have l2 : i < ys.length := by omega
    refine .inr ⟨⟨xs, ys, xs[i], ys[i], q1, q2, by simp [l1], by simp [l2]⟩, Pv (i + 1), fun σ' H' p' => ⟨min xs.length ys.length - (i + 1), by omega, rfl, hlt, p'⟩, fun v H' hv => ?_⟩
    obtain ⟨pp, x, y, rfl, hn, rfl, hxy⟩ := hv
    obtain ⟨ex, ey⟩ := hxy xs ys q1 q2
    exact hs i x y pp σ H ex ey hn p
  · have e : i = min xs.length ys.length := by omega
    subst e
    refine .inl ⟨⟨xs, ys, q1, q2, ?_⟩, hd σ H p⟩
    rcases Nat.le_total xs.length ys.length with h | h
    · exact .inl (by omega)
    · exact .inr (by omega)
section
variable {κ : Type} [DecidableEq κ]
def valV (kvs : List (κ × V)) (k : κ) : Option V := (kvs.find? fun kv => decide (kv.1 = k)).map (·.2)
def putK (kvs : List (κ × V)) (k : κ) (v : V) : List (κ × V) :=
  if (kvs.any fun kv => decide (kv.1 = k)) = true then kvs.map (fun kv => if kv.1 = k then (kv.1, v) else kv) else kvs ++ [(k, v)]
theorem valV_pos {p : κ × V} {r : List (κ × V)} {k : κ} (e : p.1 = k) : valV (p :: r) k = some p.2 := by simp [valV, List.find?_cons, e]
theorem valV_neg {p : κ × V} {r : List (κ × V)} {k : κ} (e : ¬ p.1 = k) : valV (p :: r) k = valV r k := by simp [valV, List.find?_cons, e]
theorem valV_any (k : κ) : ∀ kvs : List (κ × V), (kvs.any fun kv => decide (kv.1 = k)) = (valV kvs k).isSome
  | [] => rfl
  | p :: r => by
    rw [List.any_cons]
    by_cases e : p.1 = k
    · simp only [valV_pos e, decide_eq_true e, Bool.true_or, Option.isSome_some]
    · rw [valV_neg e, decide_eq_false e, Bool.false_or]; exact valV_any k r
theorem valV_map (k j : κ) (y : V) : ∀ kvs : List (κ × V), valV (kvs.map fun kv => if kv.1 = k then (kv.1, y) else kv) j = (valV kvs j).map fun x => if j = k then y else x
  | [] => rfl
  | p :: r => by
    have ih := valV_map k j y r
    rw [List.map_cons]
    by_cases h : p.1 = k
    · rw [if_pos h]
      by_cases e : p.1 = j
      · rw [valV_pos (p := (p.1, y)) e, valV_pos e, Option.map_some, if_pos (e.symm.trans h)]
      · rw [valV_neg (p := (p.1, y)) e, valV_neg e, ih]
    · rw [if_neg h]
      by_cases e : p.1 = j
      · rw [valV_pos (p := p) e, valV_pos e, Option.map_some, if_neg (fun z => h (e.trans z))]
      · rw [valV_neg (p := p) e, valV_neg e, ih]
theorem valV_snoc (k j : κ) (y : V) : ∀ kvs : List (κ × V), valV kvs k = none → valV (kvs ++ [(k, y)]) j = if j = k then some y else valV kvs j
  | [], _ => by
    by_cases e : k = j
    · rw [if_pos e.symm]; exact valV_pos (p := (k, y)) e
    · rw [if_neg (fun z => e z.symm)]; exact valV_neg (p := (k, y)) e
  | p :: r, hn => by
    rw [List.cons_append]
    have hk : ¬ p.1 = k := fun z => by rw [valV_pos z] at hn; cases hn
    rw [valV_neg hk] at hn
    have ih := valV_snoc k j y r hn
    by_cases e : p.1 = j
    · rw [valV_pos e, valV_pos e, if_neg (fun z => hk (e.trans z))]
    · rw [valV_neg e, valV_neg e, ih]
theorem valV_put (kvs : List (κ × V)) (k j : κ) (y : V) : valV (putK kvs k y) j = if j = k then some y else valV kvs j := by
  unfold putK
  by_cases a : (kvs.any fun kv => decide (kv.1 = k)) = true
  · rw [if_pos a, valV_map]
    rw [valV_any] at a
    by_cases e : j = k
    · obtain ⟨x, hx⟩ := Option.isSome_iff_exists.mp a
      rw [if_pos e, e, hx, Option.map_some, if_pos rfl]
    · rw [if_neg e]
      cases valV kvs j with
      | none => rfl
      | some x => rw [Option.map_some, if_neg e]
  · rw [if_neg a]
    refine valV_snoc k j y kvs ?_
    rw [valV_any] at a
    cases q : valV kvs k with
    | none => rfl
    | some x => rw [q] at a; exact (a rfl).elim
theorem length_putK (kvs : List (κ × V)) (k : κ) (v : V) : (putK kvs k v).length ≤ kvs.length + 1 := by
  unfold putK
  split
  · rw [List.length_map]; omega
  · rw [List.length_append, List.length_cons, List.length_nil]; omega
theorem RelO.isSome_eq {o : Option V} {u : Option Value} (r : RelO o u) : o.isSome = u.isSome := by
  cases o with
  | none => cases u with
    | none => rfl
    | some _ => exact (show False from r).elim
  | some _ => cases u with
    | none => exact (show False from r).elim
    | some _ => rfl
theorem RelO.getD {o : Option V} {u : Option Value} {d : V} {d' : Value} (r : RelO o u) (rd : RelV d d') : RelV (o.getD d) (u.getD d') := by
  cases o with
  | none => cases u with
    | none => exact rd
    | some _ => exact (show False from r).elim
  | some _ => cases u with
    | none => exact (show False from r).elim
    | some _ => exact r
theorem KV.val {kvs : List (κ × V)} {vs : List (κ × Value)} (r : KV kvs vs) (k : κ) : RelO (valV kvs k) (valueAt vs k) := by
  unfold KV at r
  induction r with
  | nil => exact True.intro
  | @cons p q ps qs h t ih =>
    obtain ⟨h1, h2⟩ := h
    by_cases e : p.1 = k
    · have e' : q.1 = k := h1.symm.trans e
      have b : valueAt (q :: qs) k = some q.2 := by simp [valueAt, List.find?_cons, e']
      rw [valV_pos e, b]; exact h2
    · have e' : ¬ q.1 = k := fun z => e (h1.trans z)
      have b : valueAt (q :: qs) k = valueAt qs k := by simp [valueAt, List.find?_cons, e']
      rw [valV_neg e, b]; exact ih
theorem KV.any {kvs : List (κ × V)} {vs : List (κ × Value)} (r : KV kvs vs) (k : κ) : (kvs.any fun kv => decide (kv.1 = k)) = vs.any fun kv => decide (kv.1 = k) := by
  unfold KV at r
  induction r with
  | nil => rfl
  | cons h t ih => rw [List.any_cons, List.any_cons, ih, h.1]
theorem KV.repl {kvs : List (κ × V)} {vs : List (κ × Value)} (r : KV kvs vs) (k : κ) {y : V} {u : Value} (ry : RelV y u) :
    KV (kvs.map fun kv => if kv.1 = k then (kv.1, y) else kv) (vs.map fun kv => if kv.1 = k then (kv.1, u) else kv) := by
  unfold KV at r ⊢
  induction r with
  | nil => exact .nil
  | @cons p q ps qs h t ih =>
    rw [List.map_cons, List.map_cons]
    refine .cons ?_ ih
    obtain ⟨h1, h2⟩ := h
    by_cases e : p.1 = k
    · rw [if_pos e, if_pos (h1.symm.trans e)]; exact ⟨h1, ry⟩
    · rw [if_neg e, if_neg (fun z => e (h1.trans z))]; exact ⟨h1, h2⟩
theorem KV.put {kvs : List (κ × V)} {vs : List (κ × Value)} (r : KV kvs vs) (k : κ) {y : V} {u : Value} (ry : RelV y u) : KV (putK kvs k y) (stored vs k u) := by
  unfold putK stored
  rw [r.any k]
  by_cases e : (vs.any fun kv => decide (kv.1 = k)) = true
  · rw [if_pos e, if_pos e]; exact r.repl k ry
  · rw [if_neg e, if_neg e]; exact Paired.snoc r ⟨rfl, ry⟩
theorem KV.length {kvs : List (κ × V)} {vs : List (κ × Value)} (r : KV kvs vs) : kvs.length = vs.length := Paired.length r
end
theorem kV_is {P : Program} {w : World} {k : Key} {u : Value} (r : RelV (kV k) u) : (mixKind P w).is k u = true := by
  cases k with
  | inl i => obtain ⟨t, e⟩ := (show ∃ t, u = Value.int i t from r); subst e; exact mixKind_int P w i t
  | inr x => obtain ⟨t, e⟩ := (show ∃ t, u = Value.str x t from r); subst e; exact mixKind_str P w x t
theorem items_are {P : Program} {w : World} : ∀ {ks : List Key} {us : List Value}, Vals (ks.map kV) us → ItemsAre (mixKind P w) ks us
  | [], _, r => by rw [List.map_nil] at r; cases r; exact .nil
  | k :: ks, _, r => by
    rw [List.map_cons] at r
    cases r with
    | cons h t => exact .cons (kV_is h) (items_are t)
abbrev KT (H : Hp) : List (List Key × V) → List (List Key × Addr × Value) → Prop := Paired fun p q => p.1 = q.1 ∧ H q.2.1 = some (.tup (p.1.map kV)) ∧ RelV p.2 q.2.2
theorem KT.val {H : Hp} {kvs : List (List Key × V)} {xs : List (List Key × Addr × Value)} (r : KT H kvs xs) (k : List Key) : RelO (valV kvs k) ((atKey xs k).map (·.2)) := by
  induction r with
  | nil => exact True.intro
  | @cons p q ps qs h t ih =>
    obtain ⟨h1, _, h2⟩ := h
    by_cases e : p.1 = k
    · have e' : q.1 = k := h1.symm.trans e
      have b : atKey (q :: qs) k = some q.2 := by simp [atKey, List.find?_cons, e']
      rw [valV_pos e, b]; exact h2
    · have e' : ¬ q.1 = k := fun z => e (h1.trans z)
      have b : atKey (q :: qs) k = atKey qs k := by simp [atKey, List.find?_cons, e']
      rw [valV_neg e, b]; exact ih
theorem KT.repl {H : Hp} {kvs : List (List Key × V)} {xs : List (List Key × Addr × Value)} (r : KT H kvs xs) (k : List Key) {y : V} {u : Value} (ry : RelV y u) :
    KT H (kvs.map fun kv => if kv.1 = k then (kv.1, y) else kv) (xs.map (putAt k u)) := by
  induction r with
  | nil => exact .nil
  | @cons p q ps qs h t ih =>
    rw [List.map_cons, List.map_cons]
    refine .cons ?_ ih
    obtain ⟨h1, h2, h3⟩ := h
    unfold putAt
    by_cases e : p.1 = k
    · rw [if_pos e, if_pos (h1.symm.trans e)]; exact ⟨h1, h2, ry⟩
    · rw [if_neg e, if_neg (fun z => e (h1.trans z))]; exact ⟨h1, h2, h3⟩
theorem KT.put {H : Hp} {kvs : List (List Key × V)} {xs : List (List Key × Addr × Value)} (r : KT H kvs xs) (k : List Key) {b : Addr} {y : V} {u : Value} (hb : H b = some (.tup (k.map kV))) (ry : RelV y u) :
    KT H (putK kvs k y) (storedH xs k b u) := by
  have e : (kvs.any fun kv => decide (kv.1 = k)) = (atKey xs k).isSome := by
    rw [valV_any, (r.val k).isSome_eq, Option.isSome_map]
  unfold putK storedH
  rw [e]
  by_cases q : (atKey xs k).isSome = true
  · rw [if_pos q, if_pos q]; exact r.repl k ry
  · rw [if_neg q, if_neg q]; exact Paired.snoc r ⟨rfl, hb, ry⟩
theorem KT.keeps {H H' : Hp} {kvs : List (List Key × V)} {xs : List (List Key × Addr × Value)} (r : KT H kvs xs) (ht : ∀ b ys, H b = some (.tup ys) → H' b = some (.tup ys)) : KT H' kvs xs :=
  Paired.mapP r fun _ _ z => ⟨z.1, ht _ _ z.2.1, z.2.2⟩
section
variable {P : Program} {w : World} {H : Hp} {h : Heap} {a : Addr}
theorem rd_of {u : HO} (ok : HOk P w H h) (e : Rd H a u) : ObjOk P w H h a u := e.ok ok
theorem dk_rd {kvs : List (Key × V)} (ok : HOk P w H h) (e : Rd H a (.dK kvs)) : kvs.length ≤ sizeLine ∧ (a == sysModules) = false ∧ ∃ vs, KV kvs vs ∧ h.DictOf (mixKind P w) a vs :=
  show ObjOk P w H h a (.dK kvs) from rd_of ok e
theorem dk_of {kvs : List (Key × V)} (ok : HOk P w H h) (e : H a = some (.dK kvs)) : kvs.length ≤ sizeLine ∧ (a == sysModules) = false ∧ ∃ vs, KV kvs vs ∧ h.DictOf (mixKind P w) a vs := dk_rd ok (.inl e)
theorem key_of {ks : List Key} (ok : HOk P w H h) (e : H a = some (.tup (ks.map kV))) : (tupleKind (mixKind P w)).is h ks a := by
  obtain ⟨_, its, r, ⟨o, h1, h2, n, h3⟩, _⟩ := (show ObjOk P w H h a (.tup (ks.map kV)) from ok a _ e)
  exact ⟨o, its.toArray, n, h1, h2, h3, by simpa using items_are r⟩
theorem dt_rd {kvs : List (List Key × V)} (ok : HOk P w H h) (e : Rd H a (.dT kvs)) : kvs.length ≤ sizeLine ∧ (a == sysModules) = false ∧
    ∃ xs, KT H kvs xs ∧ h.DictOfH (tupleKind (mixKind P w)) a xs := by
  obtain ⟨z, y, xs, r, o, es, ep, h1, h2, h3, h4, h5⟩ := (show ObjOk P w H h a (.dT kvs) from rd_of ok e)
  refine ⟨z, y, xs, r, o, es, ep, h1, h2, h3, h4, fun x hx => ?_, h5⟩
  have all : ∀ {l : List (List Key × V)} {m : List (List Key × Addr × Value)}, KT H l m → ∀ x ∈ m, (tupleKind (mixKind P w)).is h x.1 x.2.1 := by
    intro l m q
    induction q with
    | nil => intro x hx; exact nomatch hx
    | @cons p q ps qs hq t ih =>
      intro x hx
      rcases List.mem_cons.mp hx with e | hx
      · subst e
        exact key_of ok (by rw [← hq.1]; exact hq.2.1)
      · exact ih x hx
  exact all r x hx
theorem dt_of {kvs : List (List Key × V)} (ok : HOk P w H h) (e : H a = some (.dT kvs)) : kvs.length ≤ sizeLine ∧ (a == sysModules) = false ∧
    ∃ xs, KT H kvs xs ∧ h.DictOfH (tupleKind (mixKind P w)) a xs := dt_rd ok (.inl e)
end
def DGet (H : Hp) (a : Addr) (y : V) (r : Option V) : Prop :=
  (∃ kvs k, Rd H a (.dK kvs) ∧ y = kV k ∧ r = valV kvs k) ∨ ∃ kvs k b, Rd H a (.dT kvs) ∧ y = .ref b ∧ H b = some (.tup (k.map kV)) ∧ r = valV kvs k
def DPut (H : Hp) (a : Addr) (y v : V) (H' : Hp) : Prop :=
  (∃ kvs k, H a = some (.dK kvs) ∧ y = kV k ∧ kvs.length < sizeLine ∧ H' = upd H a (.dK (putK kvs k v))) ∨
  ∃ kvs k b, H a = some (.dT kvs) ∧ y = .ref b ∧ H b = some (.tup (k.map kV)) ∧ kvs.length < sizeLine ∧ H' = upd H a (.dT (putK kvs k v))
theorem DGet.k {H : Hp} {a : Addr} {kvs : List (Key × V)} {k : Key} (e : H a = some (.dK kvs)) : DGet H a (kV k) (valV kvs k) := .inl ⟨kvs, k, .inl e, rfl, rfl⟩
theorem DPut.k {H : Hp} {a : Addr} {kvs : List (Key × V)} {k : Key} {v : V} (e : H a = some (.dK kvs)) (hl : kvs.length < sizeLine) : DPut H a (kV k) v (upd H a (.dK (putK kvs k v))) := .inl ⟨kvs, k, e, rfl, hl, rfl⟩
section
variable {X : Cx} {pins : List (Addr × Obj)} {σ : St} {H : Hp} {s : Shared} {a : Addr} {y v : V} {u r : Value} {o : Option V} {A : Around} {E : Value → Shared → Prop}
theorem Inv.big (I : Inv X pins σ H s) : sysModules < s.heap.objs.size := by
  have h : mainGlobals < s.heap.objs.size := (I.mod.glob.keeps I.bk).lt
  exact Nat.lt_trans (by decide) h
theorem d_getItem {Q : Value → Shared → Prop} (hu : A.units + 1 < cLine) (I : Inv X pins σ H s) (g : DGet H a y (some v)) (ry : RelV y u) (h : ∀ w' s', Inv X pins σ H s' → RelV v w' → Q w' s') :
    wpAny (model X.prog X.w) A (getItem (.ref a) u) Q E s := by
  rcases g with ⟨kvs, k, e, ey, l⟩ | ⟨kvs, k, b, e, ey, eb, l⟩
  · subst ey
    obtain ⟨z, hd, vs, rel, dd⟩ := dk_rd I.hok e
    obtain ⟨w', hw, rw'⟩ := RelO.some_of (v := v) (o := valueAt vs k) (by rw [l]; exact rel.val k)
    exact wpAny_getItem_of (kV_is ry) dd.mapOf hw (h w' _ (I.tok _) rw')
  · subst ey
    cases (show u = Value.ref b from ry)
    obtain ⟨z, hd, xs, rel, dd⟩ := dt_rd I.hok e
    obtain ⟨w', hw, rw'⟩ := RelO.some_of (v := v) (o := (atKey xs k).map (·.2)) (by rw [l]; exact rel.val k)
    obtain ⟨p, hp, hp2⟩ := Option.map_eq_some_iff.mp hw
    refine wpAny_getItem_heap (tupleKind_room_in1 hu) (key_of I.hok eb) dd hp ?_
    rw [hp2]
    exact h w' _ (I.tok _) rw'
theorem d_notIn {Q : Value → Shared → Prop} (hu : A.units + 1 < cLine) (I : Inv X pins σ H s) (g : DGet H a y o) (ry : RelV y u) (h : ∀ s', Inv X pins σ H s' → Q (.bool (!o.isSome)) s') :
    wpAny (model X.prog X.w) A (compareOp .NotIn u (.ref a)) Q E s := by
  rcases g with ⟨kvs, k, e, ey, l⟩ | ⟨kvs, k, b, e, ey, eb, l⟩
  · subst ey
    obtain ⟨z, hd, vs, rel, dd⟩ := dk_rd I.hok e
    refine wpAny_notIn_of (kV_is ry) hd dd.mapOf ?_
    rw [← (rel.val k).isSome_eq, ← l]
    exact h _ (I.tok _)
  · subst ey
    cases (show u = Value.ref b from ry)
    obtain ⟨z, hd, xs, rel, dd⟩ := dt_rd I.hok e
    refine wpAny_notIn_heap (tupleKind_room_in1 hu) (key_of I.hok eb) hd dd ?_
    have q := (rel.val k).isSome_eq
    rw [Option.isSome_map] at q
    rw [← q, ← l]
    exact h _ (I.tok _)
theorem d_write {h' : Heap} {t' : Nat} {ob : HO} (I : Inv X pins σ H s) (mu : Mut (H a)) (hs : Heap.SameBut a s.heap h') (he : ∃ q, h'.get? a = some q) (new : ObjOk X.prog X.w (upd H a ob) h' a ob) :
    Inv X pins σ (upd H a ob) { s with heap := h', toks := t' } :=
  I.write (x := a) (e := a) mu (.inl rfl) (fun b q hb z => (hs.2 b hb).trans z) he new
theorem dk_new {P : Program} {w : World} {H' : Hp} {h' : Heap} {kvs : List (Key × V)} {vs : List (Key × Value)} (z : kvs.length ≤ sizeLine) (hd : (a == sysModules) = false) (rel : KV kvs vs) (dd : h'.DictOf (mixKind P w) a vs) :
    ObjOk P w H' h' a (.dK kvs) := ⟨z, hd, vs, rel, dd⟩
theorem d_setItem {H' : Hp} {Q : Unit → Shared → Prop} (hu : A.units + 1 < cLine) (I : Inv X pins σ H s) (g : DPut H a y v H') (ry : RelV y u) (rv : RelV v r) (h : ∀ s', Inv X pins σ H' s' → Q () s') :
    wpAny (model X.prog X.w) A (setItem (.ref a) u r) Q E s := by
  rcases g with ⟨kvs, k, e, ey, l, eH⟩ | ⟨kvs, k, b, e, ey, eb, l, eH⟩
  · subst ey eH
    obtain ⟨z, hd, vs, rel, dd⟩ := dk_of I.hok e
    have hz : vs.length ≤ sizeLine := by rw [← rel.length]; exact z
    have hl : (putK kvs k v).length ≤ sizeLine := by have := length_putK kvs k v; omega
    refine wpAny_setItem_pairs (hsz := hz) (kV_is ry) dd fun h' dd' hs => h _ ?_
    have he : ∃ q, h'.get? a = some q := let ⟨q, _, _, hq, _⟩ := dd'; ⟨q, hq⟩
    exact d_write I (by rw [e]; exact True.intro) hs he (dk_new hl hd (rel.put k rv) dd')
  · subst ey eH
    cases (show u = Value.ref b from ry)
    obtain ⟨z, hd, xs, rel, dd⟩ := dt_of I.hok e
    have hz : xs.length ≤ sizeLine := by rw [← Paired.length rel]; exact z
    have hl : (putK kvs k v).length ≤ sizeLine := by have := length_putK kvs k v; omega
    refine wpAny_setItem_heap (hsz := hz) (tupleKind_room_in1 hu) (key_of I.hok eb) dd fun h' dd' hs => h _ ?_
    obtain ⟨q, es, ep, hq, h2, h3, h4, _, h5⟩ := dd'
    refine d_write I (by rw [e]; exact True.intro) hs ⟨q, hq⟩ ⟨hl, hd, _, (rel.put k eb rv).keeps fun c ys ec => ?_, q, es, ep, hq, h2, h3, h4, h5⟩
    rw [upd_ne (ne_of ec e (fun z => nomatch z))]
    exact ec
end
section
variable {X : Cx} {pins : List (Addr × Obj)} {σ : St} {H : Hp} {s : Shared} {a : Addr} {kvs : List (Key × V)} {k : Key} {u : Value} {A : Around} {E : Value → Shared → Prop}
end
def NoSl (i : Expr) : Prop := ∀ ov iv, subscripted i false ov iv = operate [ov, iv] (getItem ov iv)
theorem subD_of {prog : Program} {w : World} {A : Around} {E : Value → Shared → Prop} {s : Shared} {env : Env} {value slice : Expr} {pos : Pos} {T id : String} {Q : Value → Shared → Prop}
    (hl : typeLookup (.type T) "__getitem__" = pure (some (.builtin id))) (hs : NoSl slice)
    (h : wpAny (model prog w) A (eval value env) (fun o s₁ => wpAny (model prog w) A (eval slice env) (fun i s₂ => s₂.TypeIs o T ∧ wpAny (model prog w) A (getItem o i) Q E s₂) E s₁) E s) :
    wpAny (model prog w) A (eval (.Subscript value slice pos) env) Q E s := by
  refine Subscript_ (wpAny_mono h (fun o s₁ h₁ => wpAny_mono h₁ (fun i s₂ h₂ => ?_) fun _ _ x => x) fun _ _ x => x)
  obtain ⟨hT, h₂⟩ := h₂
  unfold subscriptTail
  refine wpAny_bind ?_
  rw [getitemInPython_of_ne hT.not_modules]
  refine wpAny_bind (wpAny_specialOf hT hl ?_)
  have fin : wpAny (model prog w) A (subscripted slice false o i) (fun r s₃ => wpAny (model prog w) A (letTemporaryGo value o r >>= fun _ => pure r) Q E s₃) E s₂ := by
    rw [hs o i]
    exact wpAny_operating (wpAny_mono h₂ (fun r s₃ h₃ => wpAny_bind (wpAny_letTemporaryGo (wpAny_pure h₃))) fun _ _ x => x)
  first
    | exact wpAny_pure (wpAny_bind fin)
    | exact wpAny_bind (wpAny_pure (wpAny_bind fin))
    | exact wpAny_bind fin
theorem dict_typeIs {X : Cx} {pins : List (Addr × Obj)} {σ : St} {H : Hp} {s : Shared} {a : Addr} {y : V} {o : Option V} (I : Inv X pins σ H s) (g : DGet H a y o) : s.TypeIs (.ref a) "dict" := by
  rcases g with ⟨kvs, k, e, _, _⟩ | ⟨kvs, k, b, e, _, _, _⟩
  · obtain ⟨_, _, vs, _, dd⟩ := dk_rd I.hok e
    exact dd.typeIs
  · obtain ⟨_, _, xs, _, dd⟩ := dt_rd I.hok e
    exact dd.typeIs
def tDGet (td ty : TE) : TE := fun σ H Q => td σ H fun x H1 => ty σ H1 fun y H2 => ∃ a v, x = .ref a ∧ DGet H2 a y (some v) ∧ Q v H2
def tDNotIn (ty td : TE) : TE := fun σ H Q => ty σ H fun y H1 => td σ H1 fun x H2 => ∃ a o, x = .ref a ∧ DGet H2 a y o ∧ Q (.bl (!o.isSome)) H2
def sDPut (td ty tv : TE) : TS := fun D σ H => tv σ H fun v H1 => td σ H1 fun x H2 => ty σ H2 fun y H3 => ∃ a H4, x = .ref a ∧ DPut H3 a y v H4 ∧ D.nx σ H4
section
variable {X : Cx} {o i e value : Expr} {pos pos' tpos : Pos} {td ty tv : TE}
theorem pe_dget (hu : X.A.units + 1 < cLine) (ho : PE X o td) (hi : PE X i ty) (hs : NoSl i) : PE X (.Subscript o i pos) (tDGet td ty) := by
  intro pins s σ H Q I h
  refine subD_of PySem.F.slot_dict_getitem.lookup hs (thn (ho pins s σ H _ I h) fun u s1 ⟨x, H1, I1, rx, q1⟩ => thn (hi pins s1 σ H1 _ I1 q1) fun iv s2 ⟨y, H2, I2, ry, a, v, ex, g, q2⟩ => ?_)
  subst ex
  obtain rfl : u = Value.ref a := rx
  exact ⟨dict_typeIs I2 g, d_getItem hu I2 g ry fun w' s3 I3 rw' => ⟨v, H2, I3, rw', q2⟩⟩
theorem pc_dnotin (hu : X.A.units + 1 < cLine) (hi : PE X i ty) (ho : PE X o td) : PC X .NotIn i o (tDNotIn ty td) := by
  intro pins s σ H Q I h
  refine thn (hi pins s σ H _ I h) fun iv s1 ⟨y, H1, I1, ry, q1⟩ => thn (ho pins s1 σ H1 _ I1 q1) fun u s2 ⟨x, H2, I2, rx, a, ov, ex, g, q2⟩ => ?_
  subst ex
  obtain rfl : u = Value.ref a := rx
  exact d_notIn hu I2 g ry fun s3 I3 => ⟨.bl (!ov.isSome), H2, I3, rfl, q2⟩
theorem ps_dput (hu : X.A.units + 1 < cLine) (ho : PE X o td) (hi : PE X i ty) (hv : PE X value tv) (hs : swapsWith value (some (.Subscript o i pos')) pos.line X.env = pure false) :
    PS X (.Assign [.Subscript o i pos'] value pos) (sDPut td ty tv) := by
  intro pins s σ H D I h
  refine wpAny_Assign_Subscript (thn (hv pins s σ H _ I h) fun r s1 ⟨v, H1, I1, rv, q1⟩ => thn (ho pins s1 σ H1 _ I1 q1) fun u s2 ⟨x, H2, I2, rx, q2⟩ => thn (hi pins s2 σ H2 _ I2 q2) fun iv s3 ⟨y, H3, I3, ry, a, H4, ex, g, q3⟩ => ?_) hs
  subst ex
  obtain rfl : u = Value.ref a := rx
  exact d_setItem hu I3 g ry rv fun s4 I4 => ⟨σ, H4, I4, q3⟩
end
theorem dk_empty {P : Program} {w : World} {H : Hp} (h : Heap) (hb : sysModules < h.objs.size) : ObjOk P w H (h.push { cls := .type "dict", data := .dict #[] }) h.objs.size (.dK []) :=
  ⟨Nat.zero_le _, beq_eq_false_iff_ne.mpr (Ne.symm (Nat.ne_of_lt hb)), [], .nil, Heap.DictOf.new h⟩
def tDNewK : TE := fun _ H Q => ∀ p, H p = none → Q (.ref p) (upd H p (.dK []))
section
variable {X : Cx} {pos : Pos}
theorem pe_dnewK : PE X (.Dict [] [] pos) tDNewK := fun pins s σ H Q I h =>
  wpAny_Dict_empty ⟨.ref s.heap.objs.size, _, I.laid (a := s.heap.objs.size) (o := .dK []) (t' := s.toks) (fun _ _ q => Heap.get?_push_of_some _ q) (Nat.le_refl _) (dk_empty s.heap I.big), rfl, h _ (I.hok.fresh (Nat.le_refl _))⟩
end
def tPairs : List (TE × TE) → St → Hp → (List (V × V) → Hp → Prop) → Prop
  | [], _, H, Q => Q [] H
  | (tk, tv) :: r, σ, H, Q => tk σ H fun x H1 => tv σ H1 fun y H2 => tPairs r σ H2 fun ps H3 => Q ((x, y) :: ps) H3
abbrev VV : List (V × V) → List (Value × Value) → Prop := Paired fun p q => RelV p.1 q.1 ∧ RelV p.2 q.2
def PPs (X : Cx) (pos : Pos) (keys : List (Option Expr)) (values : List Expr) (trs : List (TE × TE)) : Prop :=
  ∀ (pins : List (Addr × Obj)) (s : Shared) (σ : St) (H : Hp) (Q : List (V × V) → Hp → Prop), Inv X pins σ H s → tPairs trs σ H Q →
    wpAny (model X.prog X.w) X.A (evalPairs (pairTrees keys values X.env pos)) (fun vs s' => ∃ ps H', Inv X pins σ H' s' ∧ VV ps vs ∧ Q ps H') X.xe s
theorem pps_nil {X : Cx} {pos : Pos} : PPs X pos [] [] [] := fun pins s σ H Q I h => pairTrees_nil_walk ⟨[], H, I, .nil, h⟩
theorem pps_cons {X : Cx} {pos : Pos} {k v : Expr} {ks : List (Option Expr)} {vs : List Expr} {tk tv : TE} {trs : List (TE × TE)} (hk : PE X k tk) (hv : PE X v tv) (hr : PPs X pos ks vs trs) :
    PPs X pos (some k :: ks) (v :: vs) ((tk, tv) :: trs) := fun pins s σ H Q I h =>
  pairTrees_cons_walk (thn (hk pins s σ H _ I h) fun u s1 ⟨x, H1, I1, rx, q1⟩ => thn (hv pins s1 σ H1 _ I1 q1) fun w2 s2 ⟨y, H2, I2, ry, q2⟩ =>
    thn (hr pins s2 σ H2 _ I2 q2) fun ws s3 ⟨ps, H3, I3, rel, q3⟩ => ⟨(x, y) :: ps, H3, I3, .cons ⟨rx, ry⟩ rel, q3⟩)
def mergeK (kvs more : List (Key × V)) : List (Key × V) := more.foldl (fun acc kv => putK acc kv.1 kv.2) kvs
theorem KV.merge : ∀ {more : List (Key × V)} {rs : List (Key × Value)} {kvs : List (Key × V)} {vs : List (Key × Value)}, KV more rs → KV kvs vs → KV (mergeK kvs more) (merged vs rs) := by
  intro more rs kvs vs r
  unfold KV at r
  induction r generalizing kvs vs with
  | nil => intro q; exact q
  | @cons p q ps qs h t ih =>
    intro r0
    have e : KV (putK kvs p.1 p.2) (stored vs q.1 q.2) := by
      have := r0.put p.1 h.2
      rw [← h.1]; exact this
    exact ih e
theorem length_mergeK : ∀ (more kvs : List (Key × V)), (mergeK kvs more).length ≤ kvs.length + more.length
  | [], kvs => by show kvs.length ≤ kvs.length + 0; omega
  | p :: r, kvs => by
    have h1 := length_mergeK r (putK kvs p.1 p.2)
    have h2 := length_putK kvs p.1 p.2
    show (mergeK (putK kvs p.1 p.2) r).length ≤ _
    rw [List.length_cons]; omega
theorem carries_of {P : Program} {w : World} : ∀ {kvs : List (Key × V)} {ws : List (Value × Value)}, VV (kvs.map fun kv => (kV kv.1, kv.2)) ws → ∃ rs, Carries (mixKind P w) ws rs ∧ KV kvs rs
  | [], _, r => by rw [List.map_nil] at r; cases r; exact ⟨[], True.intro, .nil⟩
  | p :: kvs, _, r => by
    rw [List.map_cons] at r
    cases r with
    | @cons a b as bs h t =>
      obtain ⟨rs, c, q⟩ := carries_of (P := P) (w := w) t
      obtain ⟨b1, b2⟩ := b
      exact ⟨(p.1, b2) :: rs, ⟨kV_is h.1, rfl, c⟩, .cons ⟨rfl, h.2⟩ q⟩
def tDisp (trs : List (TE × TE)) : TE := fun σ H Q => ∀ p, H p = none → tPairs trs σ (upd H p (.dK [])) fun ps H2 => H2 p = some (.dK []) ∧ ∃ kvs : List (Key × V), ps = kvs.map (fun kv => (kV kv.1, kv.2)) ∧ kvs.length ≤ 15 ∧ Q (.ref p) (upd H2 p (.dK (mergeK [] kvs)))
theorem pe_disp {X : Cx} {pos : Pos} {keys : List (Option Expr)} {values : List Expr} {trs : List (TE × TE)} (h : PPs X pos keys values trs) (hall : keys.all (·.isSome) = true) (hl : keys.length = values.length) (h0 : keys ≠ [])
    (h15 : keys.length ≤ 15) : PE X (.Dict keys values pos) (tDisp trs) := by
  intro pins s σ H Q I q
  have hn := I.hok.fresh (Nat.le_refl s.heap.objs.size)
  have I1 := I.laid (a := s.heap.objs.size) (o := .dK []) (h' := s.heap.push { cls := .type "dict", data := .dict #[] }) (t' := s.toks) (fun _ _ q => Heap.get?_push_of_some _ q) (Nat.le_refl _) (dk_empty s.heap I.big)
  refine wpAny_Dict_walk (knd := mixKind X.prog X.w) hall hl h0 h15 (thn (h pins _ σ _ _ I1 (q _ hn)) fun ws s2 ⟨ps, H2, I2, rel, e, kvs, ep, lk, q2⟩ => ?_)
  subst ep
  obtain ⟨rs, c, rk⟩ := carries_of (P := X.prog) (w := X.w) rel
  obtain ⟨z, hd, vs0, r0, dd⟩ := dk_of I2.hok e
  cases r0
  refine ⟨rs, c, dd, fun h' dd' hs => ⟨.ref s.heap.objs.size, _, ?_, rfl, q2⟩⟩
  have hz : (mergeK [] kvs).length ≤ sizeLine := by
    have h1 := length_mergeK kvs []
    rw [List.length_nil] at h1
    rw [sizeLine_eq]; omega
  have he : ∃ q, h'.get? s.heap.objs.size = some q := let ⟨q, _, _, hq, _⟩ := dd'; ⟨q, hq⟩
  exact d_write I2 (by rw [e]; exact True.intro) hs he (dk_new hz hd (rk.merge .nil) dd')
structure M1 (X : Cx) (o : Expr) (m : Str) (apos : Pos) (e : Expr) (cpos : Pos) : Prop where
  base : attributeBase o m X.env (eval o X.env) = eval o X.env
  few : ((backTo cpos (starEach [e] X.env)).all (fun x => !x.1) && (backToKw cpos (keywordEach [] X.env)).all (fun x => x.1.isSome)
    && decide (([e] : List Expr).length + ([] : List Keyword).length + (if ([] : List Keyword).isEmpty then 0 else 1) < 30)) = true
  line : (apos.endLine == cpos.line) = true
  trees : backTo cpos (starEach [e] X.env) = [(false, eval e X.env)]
structure M2 (X : Cx) (o : Expr) (m : Str) (apos : Pos) (e f : Expr) (cpos : Pos) : Prop where
  base : attributeBase o m X.env (eval o X.env) = eval o X.env
  few : ((backTo cpos (starEach [e, f] X.env)).all (fun x => !x.1) && (backToKw cpos (keywordEach [] X.env)).all (fun x => x.1.isSome)
    && decide (([e, f] : List Expr).length + ([] : List Keyword).length + (if ([] : List Keyword).isEmpty then 0 else 1) < 30)) = true
  line : (apos.endLine == cpos.line) = true
  trees : backTo cpos (starEach [e, f] X.env) = [(false, eval e X.env), (false, eval f X.env)]
def IsD (H : Hp) (a : Addr) : Prop := (∃ kvs, Rd H a (.dK kvs)) ∨ ∃ kvs, Rd H a (.dT kvs)
theorem isD_at {X : Cx} {pins : List (Addr × Obj)} {σ : St} {H : Hp} {s : Shared} {a : Addr} (I : Inv X pins σ H s) (d : IsD H a) :
    s.TypeIs (.ref a) "dict" ∧ (∀ b, Value.ref a = .ref b → ∃ ob, s.heap.get? b = some ob ∧ ob.dict = none) ∧ (a == sysModules) = false := by
  rcases d with ⟨kvs, e⟩ | ⟨kvs, e⟩
  · obtain ⟨_, hd, vs, _, dd⟩ := dk_rd I.hok e
    refine ⟨dd.typeIs, fun b q => ?_, hd⟩
    cases q
    obtain ⟨ob, _, _, h1, h2, _⟩ := dd
    exact ⟨ob, h1, h2.2.1⟩
  · obtain ⟨_, hd, xs, _, dd⟩ := dt_rd I.hok e
    refine ⟨dd.typeIs, fun b q => ?_, hd⟩
    cases q
    obtain ⟨ob, _, _, h1, h2, _⟩ := dd
    exact ⟨ob, h1, h2.2.1⟩
section
variable {X : Cx} {pins : List (Addr × Obj)} {σ : St} {H : Hp} {s : Shared} {a : Addr} {y d : V} {u r : Value} {o : Option V} {A : Around} {E : Value → Shared → Prop}
theorem d_get1 {Q : Value → Shared → Prop} (hu : A.units + 1 < cLine) (I : Inv X pins σ H s) (g : DGet H a y o) (ry : RelV y u) (h : ∀ w' s', Inv X pins σ H s' → RelV (o.getD .non) w' → Q w' s') :
    wpAny (model X.prog X.w) A (call (.builtin "dict.get") [.ref a, u]) Q E s := by
  rcases g with ⟨kvs, k, e, ey, l⟩ | ⟨kvs, k, b, e, ey, eb, l⟩
  · subst ey
    obtain ⟨z, hd, vs, rel, dd⟩ := dk_rd I.hok e
    refine call_meetsIn PySem.F.slot_dict_get dd.typeIs PySem.F.entry_dict_get (PySem.F.args_dict_get_2 _ _) (meets_dict_get (mixKind X.prog X.w) a (kV_is ry) hd) ⟨_, dd.mapOf, h _ _ (I.tok _) ?_⟩
    rw [l]
    exact (rel.val k).getD rfl
  · subst ey
    cases (show u = Value.ref b from ry)
    obtain ⟨z, hd, xs, rel, dd⟩ := dt_rd I.hok e
    refine call_meetsIn PySem.F.slot_dict_get dd.typeIs PySem.F.entry_dict_get (PySem.F.args_dict_get_2 _ _) (meetsH_dict_get (tupleKind (mixKind X.prog X.w)) a b hd) ⟨tupleKind_room_in1 hu, k, xs, key_of I.hok eb, dd, h _ _ (I.tok _) ?_⟩
    rw [l]
    exact (rel.val k).getD rfl
end
def tDGet1 (td ty : TE) : TE := fun σ H Q => td σ H fun x H1 => ∃ a, x = .ref a ∧ IsD H1 a ∧ ty σ H1 fun y H2 => ∃ o, DGet H2 a y o ∧ Q (o.getD .non) H2
section
variable {X : Cx} {o e f : Expr} {apos cpos : Pos} {td ty tx : TE}
theorem pe_dget1 (hu : X.A.units + 1 < cLine) (ho : PE X o td) (he : PE X e ty) (m : M1 X o "get" apos e cpos) : PE X (.Call (.Attribute o "get" apos) [e] [] cpos) (tDGet1 td ty) := by
  intro pins s σ H Q I h
  refine wpAny_Call_method m.base m.few m.line PySem.F.plainAttrs_dict PySem.F.slot_dict_get PySem.F.type_dict_get (thn (ho pins s σ H _ I h) fun u s1 ⟨x, H1, I1, rx, a, ex, d, q1⟩ => ?_)
  subst ex
  obtain rfl : u = Value.ref a := rx
  obtain ⟨t1, t2, _⟩ := isD_at I1 d
  refine ⟨t1, t2, ?_⟩
  rw [m.trees]
  refine Calls.callWith_builtin rfl (Calls.evalArgs_plain (Calls.spliced_cons (thn (he pins s1 σ H1 _ I1 q1) fun iv s2 ⟨y, H2, I2, ry, ov, g, q2⟩ => Calls.spliced_nil ?_)))
  exact d_get1 hu I2 g ry fun w' s3 I3 rw' => ⟨_, H2, I3, rw', q2⟩
end
section
variable {X : Cx} {pins : List (Addr × Obj)} {σ : St} {H : Hp} {s : Shared} {a : Addr} {kvs : List (Key × V)} {A : Around} {E : Value → Shared → Prop}
end
section
variable {X : Cx} {pins : List (Addr × Obj)} {σ : St} {H : Hp} {s : Shared} {a : Addr} {y : V} {u : Value} {A : Around} {E : Value → Shared → Prop}
end
def picks (xs : List V) (f : Nat → Nat) (l : List Nat) : List V := l.filterMap fun m => xs[f m]?
theorem vals_picks {xs : List V} {us : List Value} (r : Vals xs us) (f : Nat → Nat) : ∀ l : List Nat, Vals (picks xs f l) (l.filterMap fun m => us[f m]?)
  | [] => .nil
  | m :: l => by
    have ih := vals_picks r f l
    unfold picks at *
    rw [List.filterMap_cons, List.filterMap_cons]
    cases hx : xs[f m]? with
    | none =>
      have : us[f m]? = none := by
        have h1 := r.length
        have h2 := List.getElem?_eq_none_iff.mp hx
        exact List.getElem?_eq_none (by omega)
      rw [this]
      exact ih
    | some x =>
      obtain ⟨u, hu, ru⟩ := r.get hx
      rw [hu]
      exact .cons ru ih
theorem picks_len (xs : List V) (f : Nat → Nat) (l : List Nat) : (picks xs f l).length ≤ l.length := List.length_filterMap_le _ _
section
variable {prog : Program} {w : World} {A : Around} {E : Value → Shared → Prop} {s : Shared}
theorem applied_two {sl : Addr} {vu vk : Value} {j n : Nat} {Q : Int × Int × Nat → Shared → Prop} (hs : s.heap.IsSliceOf sl .none vu vk) (pu : IsPart vu (some (j : Int))) (pk : IsPart vk (some 2)) (hj : j ≤ n)
    (h : Q (0, 2, (j + 1) / 2) s) : wpAny (model prog w) A (Builtin.Slice.sliceApplied (.ref sl) (pure (n : Int))) Q E s := by
  obtain ⟨os, hos, hcs, hds⟩ := id hs
  unfold Builtin.Slice.sliceApplied Builtin.Slice.sliceFields
  refine wpAny_bind (wpAny_bind (wpAny_field hos hds (x := .none) rfl (wpAny_bind (wpAny_field hos hds (x := vu) rfl (wpAny_bind (wpAny_field hos hds (x := vk) rfl (wpAny_pure ?_)))))))
  refine wpAny_bind (HT.slicePart_ pk ?_)
  show wpAny _ _ (if ((2 : Int) == 0) = true then _ else _) _ _ s
  rw [if_neg (by decide)]
  refine wpAny_bind (HT.slicePart_ .none (wpAny_bind (HT.slicePart_ pu (wpAny_bind (wpAny_pure ?_)))))
  show wpAny _ _ (match Builtin.Slice.sliceAdjust none (some (j : Int)) 2 (n : Int) with | (lo, hi) => pure (lo, (2 : Int), Builtin.Slice.slicePlaces lo hi 2)) _ _ s
  have e1 : Builtin.Slice.sliceAdjust none (some (j : Int)) 2 (n : Int) = (0, (j : Int)) := by
    unfold Builtin.Slice.sliceAdjust
    have h1 : ¬ ((2 : Int) < 0) := by omega
    have h2 : ¬ ((j : Int) < 0) := by omega
    simp only [if_neg h1, if_neg h2]
    congr 1
    omega
  rw [e1]
  show wpAny _ _ (pure ((0 : Int), (2 : Int), Builtin.Slice.slicePlaces 0 (j : Int) 2)) _ _ s
  have e2 : Builtin.Slice.slicePlaces 0 (j : Int) 2 = (j + 1) / 2 := by
    unfold Builtin.Slice.slicePlaces
    rw [if_pos (by omega)]
    split <;> omega
  rw [e2]
  exact wpAny_pure h
theorem item_two {t sl : Addr} {items : Array Value} {vu vk : Value} {j : Nat} {Q : Value → Shared → Prop} (ht : IsTup s.heap t items) (hs : s.heap.IsSliceOf sl .none vu vk) (pu : IsPart vu (some (j : Int))) (pk : IsPart vk (some 2)) (hj : j ≤ items.size)
    (h : Q (.ref s.heap.objs.size) { s with heap := s.heap.push { cls := .type "tuple", data := .seq ((List.range ((j + 1) / 2)).filterMap fun m => items.toList[2 * m]?).toArray } })
    (hsz : items.size ≤ sizeLine) : wpAny (model prog w) A (getItem (.ref t) (.ref sl)) Q E s := by
  have htake : sizeOk (.seq ((List.range ((j + 1) / 2)).filterMap fun m => items.toList[2 * m]?).toArray) := by
    show ((List.range ((j + 1) / 2)).filterMap fun m => items.toList[2 * m]?).toArray.size ≤ sizeLine
    rw [List.size_toArray]
    refine Nat.le_trans (List.length_filterMap_le _ _) ?_
    rw [List.length_range]
    omega
  obtain ⟨os, hos, hcs, hds⟩ := id hs
  have hTs : s.TypeIs (.ref sl) "slice" := ⟨os, hos, hcs⟩
  unfold getItem
  try with_reducible refine wpAny_holding ?_
  first | refine wpAny_bind (wpAny_pure ?_) | skip
  refine wpAny_bind (wpAny_sequenceKey ht.typeIs (by decide) ?_)
  refine wpAny_bind (wpAny_callSpecial?_slot (name := Str.ofString "__getitem__") ht.typeIs PyProof.Rows.slot_tuple_getitem
    (wpAny_call_entry PyProof.Rows.slot_tuple_getitem ht.typeIs entry_tuple_getitem ?_ (args_tuple_getitem _ _)))
  show wpAny _ _ (Builtin.Tuple.tupleItemsOf (.ref t) >>= _) _ _ s
  refine wpAny_bind (tupleItemsOf_ ht ?_)
  refine wpAny_bind (wpAny_typeOf hTs ?_)
  rw [if_pos (by decide)]
  refine wpAny_bind (applied_two hs pu pk hj ?_)
  show wpAny _ _ (if ((0 : Int) == 0 && (2 : Int) == 1 && ((j + 1) / 2) == items.size) = true then _ else _) _ _ s
  rw [if_neg (by simp)]
  have e : (fun (m : Nat) => items[((0 : Int) + (m : Int) * 2).toNat]?) = fun m => items.toList[2 * m]? := by
    funext m
    have : ((0 : Int) + (m : Int) * 2).toNat = 2 * m := by omega
    rw [this]
    simp
  rw [e]
  first
    | exact wpAny_bind (m := Builtin.Tuple.tupleExact _) (wpAny_newObj_type (wpAny_pure ⟨_, rfl, wpAny_pure h⟩) htake)
    | exact wpAny_bind (m := Builtin.Tuple.tupleExact _) (wpAny_newObj_type (wpAny_bind (wpAny_pure (wpAny_pure ⟨_, rfl, wpAny_pure h⟩))) htake)
    | exact wpAny_bind (wpAny_bind (m := Builtin.Tuple.tupleExact _) (wpAny_newObj_type (wpAny_pure (wpAny_pure ⟨_, rfl, wpAny_pure h⟩)) htake))
    | exact wpAny_bind (wpAny_bind (m := Builtin.Tuple.tupleExact _) (wpAny_newObj_type (wpAny_pure ⟨_, rfl, wpAny_pure h⟩) htake))
end
def rSl2 (K : PySem.W.Frag) : V → Option Int → Option Int → Option Int → Hp → VK → Prop := fun x lo hi st H Q => ∃ (a : Addr) (xs : List V) (j : Nat), x = .ref a ∧ SqT K H a xs ∧ lo = none ∧ hi = some (j : Int) ∧ st = some 2 ∧ j ≤ xs.length ∧ ∀ p, H p = none → Q (.ref p) (upd H p (.tup (picks xs (2 * ·) (List.range ((j + 1) / 2)))))
theorem sl3_tupK {X : Cx} {K : PySem.W.Frag} (hK : X.K = K) : SlR3 X (rSl2 K) := by
  subst hK
  intro pins s σ H x v vl vu vk lo hi st sl Q I rx hs pl pu pk h
  obtain ⟨a, xs, j, rfl, hx, rfl, rfl, rfl, hj, q⟩ := h
  cases rx
  cases pl
  obtain ⟨its, r, ht, hz⟩ := I.tuple hx
  have hlen := r.length
  refine ⟨"tuple", _, PyProof.Rows.slot_tuple_getitem.lookup, ht.typeIs, ?_⟩
  refine item_two ht hs pu pk (by rw [List.size_toArray]; omega) ?_ (by rw [List.size_toArray]; omega)
  have rv := vals_picks r (2 * ·) (List.range ((j + 1) / 2))
  have pl := picks_len xs (2 * ·) (List.range ((j + 1) / 2))
  rw [List.length_range] at pl
  refine ⟨.ref s.heap.objs.size, _, I.laid (t' := s.toks) (o := .tup (picks xs (2 * ·) (List.range ((j + 1) / 2)))) (fun b ob q => Heap.get?_push_of_some _ q) (Nat.le_refl _) ?_, rfl, q _ (I.hok.fresh (Nat.le_refl _))⟩
  refine ⟨by omega, _, rv, ?_⟩
  exact ⟨IsTup.new _ _, NoD.new _ _⟩
end L2
namespace Lw
open PySem PySem.Spec PyProof.Rows L2 Ma MaR
def wds (rs : List (List Nat)) : List V := rs.map fun x => V.str (S x)
theorem wds_len (rs : List (List Nat)) : (wds rs).length = rs.length := by unfold wds; rw [List.length_map]
theorem wds_get {rs : List (List Nat)} {i : Nat} {v : V} (h : (wds rs)[i]? = some v) : ∃ x, rs[i]? = some x ∧ v = .str (S x) := by
  unfold wds at h
  rw [List.getElem?_map] at h
  cases hq : rs[i]? with
  | none => rw [hq] at h; cases h
  | some x => rw [hq] at h; exact ⟨x, rfl, (Option.some.inj h).symm⟩
structure RT (rs : List (List Nat)) (n M : Nat) : Prop where
  len : rs.length = n
  all : ∀ x ∈ rs, AllL x
  le : ∀ x ∈ rs, x.length ≤ M
def tell (rs : List (List Nat)) (c : Nat) : List Nat := if isLow c = true then rs.getD (c - 97) [] else back (rs.getD (c - 65) [])
def told (rs : List (List Nat)) (w : List Nat) : List Nat := w.flatMap (tell rs)
def retl (rs : List (List Nat)) (w : List Nat) : List Nat := lay (told rs w)
theorem getD_mem {rs : List (List Nat)} {P : List Nat → Prop} (h0 : P []) (h : ∀ x ∈ rs, P x) (i : Nat) : P (rs.getD i []) := by
  rw [List.getD_eq_getElem?_getD]
  cases hq : rs[i]? with
  | none => exact h0
  | some x => exact h x (List.mem_of_getElem? hq)
section
variable {rs : List (List Nat)} {n M : Nat}
theorem RT.getA (r : RT rs n M) (i : Nat) : AllL (rs.getD i []) := getD_mem AllL.nil r.all i
theorem RT.getL (r : RT rs n M) (i : Nat) : (rs.getD i []).length ≤ M := getD_mem (P := fun x => x.length ≤ M) (Nat.zero_le _) r.le i
theorem tell_all (r : RT rs n M) (c : Nat) : AllL (tell rs c) := by
  unfold tell
  split
  · exact r.getA _
  · exact back_all (r.getA _)
theorem tell_len (r : RT rs n M) (c : Nat) : (tell rs c).length ≤ M := by
  unfold tell
  split
  · exact r.getL _
  · rw [back_len]; exact r.getL _
theorem tell_con (r : RT rs n M) {c : Nat} (h : isL c) : tell rs (con c) = back (tell rs c) := by
  have hc : (isLow c = true ∧ isLow (con c) = false ∧ con c - 65 = c - 97) ∨ (isLow c = false ∧ isLow (con c) = true ∧ con c - 97 = c - 65) := by
    rcases isL_cases h with rfl | rfl | rfl | rfl | rfl | rfl | rfl | rfl <;> decide
  unfold tell
  rcases hc with ⟨h1, h2, h3⟩ | ⟨h1, h2, h3⟩
  · rw [if_pos h1, if_neg (by rw [h2]; decide), h3]
  · rw [if_pos h2, if_neg (c := isLow c = true) (by rw [h1]; decide), h3, back_back (r.getA _)]
theorem told_app (u v : List Nat) : told rs (u ++ v) = told rs u ++ told rs v := by unfold told; rw [List.flatMap_append]
theorem told_cons (c : Nat) (w : List Nat) : told rs (c :: w) = tell rs c ++ told rs w := by unfold told; rw [List.flatMap_cons]
theorem told_nil : told rs [] = [] := rfl
theorem told_all (r : RT rs n M) (w : List Nat) : AllL (told rs w) := by
  induction w with
  | nil => exact AllL.nil
  | cons c w ih => rw [told_cons]; exact AllL.app.mpr ⟨tell_all r c, ih⟩
theorem told_len (r : RT rs n M) (w : List Nat) : (told rs w).length ≤ w.length * M := by
  induction w with
  | nil => simp [told]
  | cons c w ih =>
    rw [told_cons, List.length_append, List.length_cons, Nat.succ_mul]
    have := tell_len r c
    omega
theorem retl_all (r : RT rs n M) (w : List Nat) : AllL (retl rs w) := lay_all (told_all r w)
theorem retl_len (r : RT rs n M) (w : List Nat) : (retl rs w).length ≤ w.length * M := Nat.le_trans (lay_len _) (told_len r w)
theorem told_back (r : RT rs n M) {w : List Nat} (h : AllL w) : told rs (back w) = back (told rs w) := by
  induction w with
  | nil => rfl
  | cons c w ih =>
    obtain ⟨hc, hw⟩ := AllL.cons.mp h
    have e : back (c :: w) = back w ++ [con c] := by unfold back; simp
    rw [e, told_app, ih hw, told_cons c w, back_app, told_cons, told_nil, List.append_nil, tell_con r hc]
theorem lay_told (r : RT rs n M) : ∀ (k : Nat) (w : List Nat), w.length = k → AllL w → lay (told rs (lay w)) = lay (told rs w) := by
  intro k
  induction k using Nat.strongRecOn with
  | ind k ih =>
    intro w hk hw
    by_cases hp : ∀ j, ¬ Adj w j
    · rw [lay_id (plain_of_noadj hp)]
    · obtain ⟨j, hj⟩ : ∃ j, Adj w j := Classical.byContradiction fun c => hp fun j hj => c ⟨j, hj⟩
      obtain ⟨a, b, e, hab, hl⟩ := adj_split hj
      have e1 := adj_lay hw hj
      generalize hu : w.take j = u at *
      generalize hv : w.drop (j + 2) = v at *
      have hw' : AllL (u ++ a :: b :: v) := by rw [← e]; exact hw
      obtain ⟨ha1, ha2⟩ := AllL.app.mp hw'
      obtain ⟨_, ha3⟩ := AllL.cons.mp ha2
      obtain ⟨hb, ha4⟩ := AllL.cons.mp ha3
      have huv : AllL (u ++ v) := AllL.app.mpr ⟨ha1, ha4⟩
      have hlen : (u ++ v).length < k := by
        rw [← hk, e, List.length_append, List.length_append, List.length_cons, List.length_cons]; omega
      have q := ih _ hlen (u ++ v) rfl huv
      rw [← e1, q, e, told_app, told_app, told_cons, told_cons, hab, tell_con r hb]
      have e9 : told rs u ++ (back (tell rs b) ++ (tell rs b ++ told rs v)) = told rs u ++ (back (tell rs b) ++ tell rs b) ++ told rs v := by simp [List.append_assoc]
      rw [e9, ← lay_mid _ _ _ (told_all r u) (AllL.app.mpr ⟨back_all (tell_all r b), tell_all r b⟩) (told_all r v), back_joined (tell_all r b), List.append_nil]
theorem retl_lay (r : RT rs n M) {w : List Nat} (hw : AllL w) : retl rs (lay w) = retl rs w := lay_told r _ w rfl hw
theorem retl_back (r : RT rs n M) {w : List Nat} (hw : AllL w) : retl rs (back w) = back (retl rs w) := by unfold retl; rw [told_back r hw, lay_back (told_all r w)]
end
def lowN (n : Nat) : List Nat := [97, 98, 99, 100].take n
def lowW (n : Nat) : List (List Nat) := (lowN n).map fun c => [c]
theorem n14 {n : Nat} (h1 : 1 ≤ n) (h4 : n ≤ 4) : n = 1 ∨ n = 2 ∨ n = 3 ∨ n = 4 := by omega
theorem lowW_rt {n : Nat} (h1 : 1 ≤ n) (h4 : n ≤ 4) : RT (lowW n) n 1 := by
  refine ⟨?_, ?_, ?_⟩
  · rcases n14 h1 h4 with rfl | rfl | rfl | rfl <;> rfl
  · intro x hx
    obtain ⟨c, hc, rfl⟩ := List.mem_map.mp hx
    intro d hd
    rw [List.mem_singleton.mp hd]
    have : c ∈ [97, 98, 99, 100] := List.mem_of_mem_take hc
    simp only [List.mem_cons, List.not_mem_nil, or_false] at this
    unfold isL
    omega
  · intro x hx
    obtain ⟨c, _, rfl⟩ := List.mem_map.mp hx
    exact Nat.le_refl _
theorem tell_same {n : Nat} (h1 : 1 ≤ n) (h4 : n ≤ 4) {c : Nat} (h : c ∈ letsN n) : tell (lowW n) c = [c] := by
  have hL := isL_cases (letsN_isL h)
  rcases n14 h1 h4 with rfl | rfl | rfl | rfl <;> rcases hL with rfl | rfl | rfl | rfl | rfl | rfl | rfl | rfl <;> revert h <;> decide
theorem told_same {n : Nat} (h1 : 1 ≤ n) (h4 : n ≤ 4) {w : List Nat} (h : OfN n w) : told (lowW n) w = w := by
  induction w with
  | nil => rfl
  | cons c w ih => rw [told_cons, tell_same h1 h4 (h c List.mem_cons_self), ih fun d hd => h d (List.mem_cons_of_mem _ hd)]; rfl
theorem retl_same {n : Nat} (h1 : 1 ≤ n) (h4 : n ≤ 4) {w : List Nat} (h : OfN n w) (hp : Plain w) : retl (lowW n) w = w := by unfold retl; rw [told_same h1 h4 h, lay_id hp]
def thenR (f s : List (List Nat)) : List (List Nat) := f.map (retl s)
theorem then_getD (f s : List (List Nat)) (i : Nat) : (thenR f s).getD i [] = retl s (f.getD i []) := by
  unfold thenR
  rw [List.getD_eq_getElem?_getD, List.getD_eq_getElem?_getD, List.getElem?_map]
  cases f[i]? <;> rfl
theorem tell_then {f s : List (List Nat)} {n m M L : Nat} (hf : RT f n M) (hs : RT s m L) (c : Nat) : tell (thenR f s) c = lay (told s (tell f c)) := by
  unfold tell
  split
  · rw [then_getD]; rfl
  · rw [then_getD, ← retl_back hs (hf.getA _)]; rfl
theorem lay_flat {g : Nat → List Nat} : ∀ (w : List Nat), (∀ c, AllL (g c)) → lay (w.flatMap fun c => lay (g c)) = lay (w.flatMap g)
  | [], _ => rfl
  | c :: w, h => by
    have ih := lay_flat w h
    have ha : ∀ w : List Nat, AllL (w.flatMap g) := fun w d hd => by
      obtain ⟨c, _, hc⟩ := List.mem_flatMap.mp hd
      exact h c d hc
    have hb : ∀ w : List Nat, AllL (w.flatMap fun c => lay (g c)) := fun w d hd => by
      obtain ⟨c, _, hc⟩ := List.mem_flatMap.mp hd
      exact lay_all (h c) d hc
    rw [List.flatMap_cons, List.flatMap_cons, lay_left _ _ (h c), ← lay_right _ _ (h c) (hb w), ih, lay_right _ _ (h c) (ha w)]
theorem told_told (f s : List (List Nat)) (w : List Nat) : (w.flatMap fun c => told s (tell f c)) = told s (told f w) := by
  induction w with
  | nil => rfl
  | cons c w ih => rw [List.flatMap_cons, told_cons, told_app, ih]
theorem retl_then {f s : List (List Nat)} {n m M L : Nat} (hf : RT f n M) (hs : RT s m L) (w : List Nat) : retl (thenR f s) w = retl s (retl f w) := by
  rw [show retl f w = lay (told f w) from rfl, retl_lay hs (told_all hf w)]
  unfold retl
  rw [← told_told, ← lay_flat w fun c => told_all hs _]
  congr 1
  unfold told
  congr 1
  funext c
  exact tell_then hf hs c
theorem then_rt {f s : List (List Nat)} {n m M L : Nat} (hf : RT f n M) (hs : RT s m L) : RT (thenR f s) n (M * L) := by
  refine ⟨by unfold thenR; rw [List.length_map]; exact hf.len, fun x hx => ?_, fun x hx => ?_⟩
  · obtain ⟨y, _, rfl⟩ := List.mem_map.mp hx
    exact retl_all hs y
  · obtain ⟨y, hy, rfl⟩ := List.mem_map.mp hx
    exact Nat.le_trans (retl_len hs y) (Nat.mul_le_mul_right _ (hf.le y hy))
theorem then_then {f s t : List (List Nat)} {n m k M L J : Nat} (hf : RT f n M) (hs : RT s m L) (ht : RT t k J) : thenR (thenR f s) t = thenR f (thenR s t) := by
  unfold thenR
  rw [List.map_map]
  refine List.map_congr_left fun x hx => ?_
  exact (retl_then hs ht x).symm
theorem _root_.L2.SqT.same {K : PySem.W.Frag} {H H' : Hp} {a : Addr} {xs : List V} (s : Same H H') (h : SqT K H a xs) : SqT K H' a xs := by
  rcases h with (h | ⟨o, h⟩) | h
  · exact .inl (.inl (s _ _ h))
  · exact .inl (.inr ⟨o, s _ _ h⟩)
  · exact .inr h
theorem SqT.new {K : PySem.W.Frag} {H : Hp} {a p : Addr} {xs : List V} {o : HO} (h : SqT K H a xs) (hp : H p = none) : SqT K (upd H p o) a xs := h.same (Same.new hp)
def spFirst : Sp := fun vs H Q _ => ∃ n : Nat, vs = [.int (n : Nat)] ∧ 1 ≤ n ∧ n ≤ 4 ∧ ∀ (p : Addr) (H' : Hp), H p = none → Same H H' → H' p = some (.tup (wds (lowW n))) → Q (.ref p) H'
def Tab (kvs : List (Key × V)) (rs : List (List Nat)) : Prop := ∀ c, c ∈ letsN rs.length → valV kvs (.inr (S [c])) = some (.str (S (tell rs c)))
def spTab (K : PySem.W.Frag) : Sp := fun vs H Q _ => ∃ (a : Addr) (rs : List (List Nat)) (n M : Nat), vs = [.ref a] ∧ SqT K H a (wds rs) ∧ RT rs n M ∧ 1 ≤ n ∧ n ≤ 4 ∧ M ≤ 1000 ∧ ∀ (p : Addr) (kvs : List (Key × V)) (H' : Hp), H p = none → Same H H' → H' p = some (.dK kvs) → Tab kvs rs → Q (.ref p) H'
def spRetold (K : PySem.W.Frag) : Sp := fun vs H Q _ => ∃ (a : Addr) (rs : List (List Nat)) (n M : Nat) (w : List Nat), vs = [.ref a, .str (S w)] ∧ SqT K H a (wds rs) ∧ RT rs n M ∧ 1 ≤ n ∧ n ≤ 4 ∧ M ≤ 1000 ∧ OfN n w ∧ w.length ≤ 60000 ∧ w.length * M ≤ 60000 ∧ ∀ H', Same H H' → Q (.str (S (retl rs w))) H'
def spThen (K : PySem.W.Frag) : Sp := fun vs H Q _ => ∃ (a b : Addr) (f s : List (List Nat)) (n M L : Nat), vs = [.ref a, .ref b] ∧ SqT K H a (wds f) ∧ SqT K H b (wds s) ∧ RT f n M ∧ RT s n L ∧ (∀ x ∈ f, OfN n x) ∧ 1 ≤ n ∧ n ≤ 4 ∧ M ≤ 1000 ∧ L ≤ 1000 ∧ M * L ≤ 9000 ∧ ∀ (p : Addr) (H' : Hp), H p = none → Same H H' → H' p = some (.tup (wds (thenR f s))) → Q (.ref p) H'
def letV : List V := lstC lets
theorem letV_len : letV.length = 8 := rfl
theorem tab_fit {xs : List V} {i : Array Value} (h : Vals xs i.toList) (hl : xs.length ≤ 1000) : i.size ≤ sizeLine := by
  have h2 : xs.length = i.toList.length := h.length
  have h3 : i.toList.length = i.size := Array.length_toList
  exact len_1000 (by omega)
theorem picks_low {n : Nat} (h1 : 1 ≤ n) (h4 : n ≤ 4) : picks letV (2 * ·) (List.range ((2 * n + 1) / 2)) = wds (lowW n) := by
  rcases n14 h1 h4 with rfl | rfl | rfl | rfl <;> rfl
def TabI (kvs : List (Key × V)) (rs : List (List Nat)) (i : Nat) : Prop := ∀ j, j < i → valV kvs (.inr (S [97 + j])) = some (.str (S (tell rs (97 + j)))) ∧ valV kvs (.inr (S [65 + j])) = some (.str (S (tell rs (65 + j))))
theorem key_eq (a b : Nat) : ((Sum.inr (S [a]) : Key) = Sum.inr (S [b])) ↔ a = b := by
  constructor
  · intro h
    have := S_inj (Sum.inr.inj h)
    simpa using this
  · rintro rfl; rfl
theorem tab_put {rs : List (List Nat)} {kvs : List (Key × V)} {i : Nat} {r : List Nat} (hi : rs[i]? = some r) (hi4 : i < 4) (h : TabI kvs rs i) :
    TabI (putK (putK kvs (.inr (S [97 + i])) (.str (S r))) (.inr (S [con (97 + i)])) (.str (S (back r)))) rs (i + 1) := by
  have ec : con (97 + i) = 65 + i := by unfold con; rw [if_pos (by omega)]; omega
  have e1 : tell rs (97 + i) = r := by
    unfold tell
    rw [if_pos (by unfold isLow; exact decide_eq_true (by omega)), show 97 + i - 97 = i by omega, List.getD_eq_getElem?_getD, hi]; rfl
  have e2 : tell rs (65 + i) = back r := by
    unfold tell
    rw [if_neg (by unfold isLow; simp; omega), show 65 + i - 65 = i by omega, List.getD_eq_getElem?_getD, hi]; rfl
  intro j hj
  rw [valV_put, valV_put, valV_put, valV_put, ec]
  simp only [key_eq]
  by_cases c : j = i
  · subst c
    rw [if_neg (by omega), if_pos rfl, if_pos rfl, e1, e2]
    exact ⟨rfl, rfl⟩
  · rw [if_neg (by omega), if_neg (by omega), if_neg (by omega), if_neg (by omega)]
    exact h j (by omega)
theorem tab_end {rs : List (List Nat)} {kvs : List (Key × V)} {n : Nat} (hl : rs.length = n) (h1 : 1 ≤ n) (h4 : n ≤ 4) (h : TabI kvs rs n) : Tab kvs rs := by
  intro c hc
  rw [hl] at hc
  have hd : (c - 97 < n ∧ 97 ≤ c) ∨ (c - 65 < n ∧ c < 97 ∧ 65 ≤ c) := by
    have hL := isL_cases (letsN_isL hc)
    rcases n14 h1 h4 with rfl | rfl | rfl | rfl <;> rcases hL with rfl | rfl | rfl | rfl | rfl | rfl | rfl | rfl <;> revert hc <;> decide
  rcases hd with ⟨h2, h3⟩ | ⟨h2, h3, h5⟩
  · have := (h (c - 97) h2).1
    rw [show 97 + (c - 97) = c by omega] at this
    exact this
  · have := (h (c - 65) h2).2
    rw [show 65 + (c - 65) = c by omega] at this
    exact this
theorem low_get {n i : Nat} (h4 : n ≤ 4) {v : V} (h : (wds (lowW n))[i]? = some v) : v = .str (S [97 + i]) ∧ i < n := by
  have hi : i < n := by
    have := (List.getElem?_eq_some_iff.mp h).1
    rw [wds_len] at this
    unfold lowW lowN at this
    rw [List.length_map, List.length_take] at this
    omega
  obtain ⟨x, hx, rfl⟩ := wds_get h
  unfold lowW lowN at hx
  rw [List.getElem?_map, List.getElem?_take_of_lt hi] at hx
  have : i = 0 ∨ i = 1 ∨ i = 2 ∨ i = 3 := by omega
  rcases this with rfl | rfl | rfl | rfl <;> (cases hx; exact ⟨rfl, hi⟩)
theorem abcd_S : (Str.ofString "abcd" : Str) = S [97, 98, 99, 100] := by decide +kernel
theorem tell_ofn {rs : List (List Nat)} {n : Nat} (h1 : 1 ≤ n) (h4 : n ≤ 4) (h : ∀ x ∈ rs, OfN n x) (c : Nat) : OfN n (tell rs c) := by
  unfold tell
  split
  · exact getD_mem (P := OfN n) OfN.nil h _
  · exact (getD_mem (P := OfN n) OfN.nil h _).back (by omega) (by omega)
theorem retl_ofn {rs : List (List Nat)} {n : Nat} (h1 : 1 ≤ n) (h4 : n ≤ 4) (h : ∀ x ∈ rs, OfN n x) (w : List Nat) : OfN n (retl rs w) := by
  refine OfN.lay ?_
  intro d hd
  obtain ⟨c, _, hc⟩ := List.mem_flatMap.mp hd
  exact tell_ofn h1 h4 h c d hc
theorem then_ofn {f s : List (List Nat)} {n : Nat} (h1 : 1 ≤ n) (h4 : n ≤ 4) (h : ∀ x ∈ s, OfN n x) : ∀ x ∈ thenR f s, OfN n x := by
  intro x hx
  obtain ⟨y, _, rfl⟩ := List.mem_map.mp hx
  exact retl_ofn h1 h4 h y
theorem low_ofn {n : Nat} (h1 : 1 ≤ n) (h4 : n ≤ 4) : ∀ x ∈ lowW n, OfN n x := by
  intro x hx c hc
  obtain ⟨d, hd, rfl⟩ := List.mem_map.mp hx
  rw [List.mem_singleton.mp hc]
  rcases n14 h1 h4 with rfl | rfl | rfl | rfl <;> (unfold lowN at hd; simp at hd; revert hd; first | (rintro rfl; decide) | (rintro (rfl | rfl) <;> decide) | (rintro (rfl | rfl | rfl) <;> decide) | (rintro (rfl | rfl | rfl | rfl) <;> decide))
theorem kp_tup {fl sc p : Addr} {H H' : Hp} {xs : List V} (f : IsFl H fl sc) (k : Kp fl H H') (h : H p = some (.tup xs)) : H' p = some (.tup xs) := by
  obtain ⟨ns, i, x, b, c, h1, _⟩ := f
  exact k _ _ h fun e => by rw [e, h1] at h; cases h
end Lw
namespace PySem
section
variable {prog : Program} {w : World} {A : Around} {R : Result → Shared → Prop} {s : Shared}
end
end PySem
namespace L2
open PySem PySem.Spec PyProof.Rows
section
variable {X : Cx} {scope : Scope} {x y : Str} {ix : List Nat}
end
section
variable {X : Cx} {scope : Scope} {x y : Str} {px py tp pos : Pos} {k1 : Nat} {ix : List Nat} {elt iter : Expr} {ifs : List Expr} {wi : TI} {ti : TT} {te : TE}
end
end L2
namespace L2
open PySem PySem.Spec PyProof.Rows PySem.Calls
section
variable {X : Cx}
end
end L2
namespace PySem
open Sem (wp)
section
variable {prog : Program} {w : World} {A : Around} {E : Value → Shared → Prop} {s : Shared}
end
end PySem
namespace L2
open PySem PySem.Spec PyProof.Rows
section
variable {X : Cx}
end
def Itn (x : Str) : It :=
  ⟨fun i _ => i < x.cps.size, fun i H v H' => ∃ p c, v = .ref p ∧ H p = none ∧ H' = upd H p (.tup [.int (i : Nat), .str ⟨#[c]⟩]) ∧ x.cps[i]? = some c, fun i _ => i = x.cps.size⟩
theorem draws_str {prog : Program} {w : World} {A : Around} (hh : A.handled = none) (it : Addr) (x : Str) (t : Tok) (T : String) (hT : T = "str_ascii_iterator" ∨ T = "str_iterator") :
    Draws prog w A it [it] x.cps.size (fun i v => ∃ c u, x.cps[i]? = some c ∧ v = .str ⟨#[c]⟩ u) (fun i h => h.IsStrIter it T x t i) := by
  rcases hT with rfl | rfl
  · exact Draws.strAscii hh it x t
  · exact Draws.strWide hh it x t
theorem turn_enum {P : Program} {w : World} {K : PySem.W.Frag} {es : List Expr} {x1} {pos : Pos} (x : Str) (t : Tok) (T : String) (e it : Addr) (hne : e ≠ it) (hT : T = "str_ascii_iterator" ∨ T = "str_iterator") :
    Turn P w K (.Tuple es x1 pos) (Itn x) [e, it] e (fun i h => (∃ old, IsEnum h e it ((i : Nat) : Int) old) ∧ h.IsStrIter it T x t i) where
  mem := by simp
  obj := fun i h st b hb => by
    obtain ⟨⟨old, he⟩, o, g, c, d⟩ := st
    simp only [List.mem_cons, List.not_mem_nil, or_false] at hb
    rcases hb with rfl | rfl
    · exact ⟨_, he, fun v z => by cases z⟩
    · exact ⟨o, g, fun v z => by rw [d] at z; cases z⟩
  keep := fun i h h' st k => by
    obtain ⟨⟨old, he⟩, o, g, r⟩ := st
    exact ⟨⟨old, k e (by simp) _ he⟩, o, k it (by simp) o g, r⟩
  item := by
    intro X hP hw hK hc i pins s σ H E I hf st hg
    subst hP hw hK
    obtain ⟨⟨old, he⟩, hs⟩ := st
    have hei : e ∉ [it] := by simpa using hne
    have DD := draws_str (prog := X.prog) (w := X.w) (A := X.A.in1) (I.ok.hd hc) it x t T hT
    refine wpAny_pyNext_enum_itemD DD he hs hg hne hei fun v h1 tk hv ho hs1 hT1 hz1 kp => ⟨_, rfl, ?_⟩
    obtain ⟨c, u, hc', rfl⟩ := hv
    refine wpAny_letOwnedTupleGo_enum ho fun h2 he2 e2 => ?_
    have ne : s.heap.objs.size ≠ e := Nat.ne_of_gt (Heap.lt_size he)
    have hT2 : h2.get? s.heap.objs.size = some { cls := .type "tuple", data := .seq #[.int i tk, .str ⟨#[c]⟩ u] } := (e2.2 _ ne).trans hT1
    have hHn : H s.heap.objs.size = none := I.hok.fresh (Nat.le_refl _)
    have kpn : ∀ b o, b ∉ [e, it] → s.heap.get? b = some o → h2.get? b = some o := fun b o hn q => (e2.2 b fun z => hn (by simp [z])).trans (kp b o (fun z => hn (by simp [z])) (fun z => hn (by simp [z])) q)
    refine ⟨.ref s.heap.objs.size, upd H s.heap.objs.size (.tup [.int (i : Nat), .str ⟨#[c]⟩]), ?_, rfl, ⟨_, c, rfl, hHn, rfl, hc'⟩, ⟨⟨_, by simpa using he2⟩, ?_⟩, fun b hb => ?_⟩
    · exact I.turnedN (t' := tk + 1) (h' := h2) kpn hf (Nat.le_refl _) ⟨by show 2 ≤ sizeLine; decide, [.int i tk, .str ⟨#[c]⟩ u], .cons ⟨_, rfl⟩ (.cons ⟨_, rfl⟩ .nil), ⟨_, hT2, rfl, 0, rfl⟩, ⟨_, hT2, rfl⟩⟩
    · obtain ⟨o, g, r⟩ := hs1
      exact ⟨o, (e2.2 it hne.symm).trans g, r⟩
    · have hce : b ≠ s.heap.objs.size := by
        obtain ⟨o1, g1, _⟩ := hs
        simp only [List.mem_cons, List.not_mem_nil, or_false] at hb
        rcases hb with rfl | rfl
        · exact Nat.ne_of_lt (Heap.lt_size he)
        · exact Nat.ne_of_lt (Heap.lt_size g1)
      rw [upd_ne hce]
      exact (hf b hb).1
  done := by
    intro X hP hw hK hc i pins s σ H E I hf st hg
    subst hP hw hK
    obtain ⟨⟨old, he⟩, hs⟩ := st
    have hi : i = x.cps.size := hg
    subst hi
    have DD := draws_str (prog := X.prog) (w := X.w) (A := X.A.in1) (I.ok.hd hc) it x t T hT
    refine wpAny_pyNext_enum_endD DD he hs fun h1 e1 => ⟨rfl, ?_⟩
    exact I.turnedM (t' := s.toks) (ch := [e, it]) (fun b o hn q => e1 b o (fun z => hn (by simp [z])) q) hf
  self := fun A i s Q E st h => by
    obtain ⟨⟨old, he⟩, _⟩ := st
    exact wpAny_pyIter_enum he h
section
variable {X : Cx}
def iEnum (ta : TA) : TI := fun σ H R => ta σ H fun vs H1 => ∃ z, vs = [.str z] ∧ R (Itn z) H1
theorem pi_enum {es : List Expr} {x1} {tpos : Pos} {a : Expr} {ta : TA} {p pos : Pos} (hg : Gl X "enumerate") (hm : X.mg "enumerate" = none) (ha : PA X [a] ta) (hs : starEach [a] X.env = [(false, eval a X.env)] := by rfl) :
    PI X (.Tuple es x1 tpos) (.Call (.Name "enumerate" p) [a] [] pos) (iEnum ta) := by
  intro pins s σ H R I h
  refine Call_ (ld_blt I hg hm boot_enumerate (PyProof.Rows.callWith_type1 (thn (ha pos pins s σ H _ I h) fun us s1 ⟨vs, H1, I1, r1, q1⟩ => ?_) hs rfl))
  obtain ⟨z, e, q⟩ := q1
  subst e
  obtain ⟨u, rfl, ru⟩ := r1.one
  obtain ⟨t, rfl⟩ := ru
  refine call_enumerate_str fun h' he hit hz kp => ?_
  have I2 : Inv X pins σ H1 { s1 with heap := h' } := I1.kept (t' := s1.toks) kp
  have hne : s1.heap.objs.size + 1 ≠ s1.heap.objs.size := by omega
  refine wpAny_pyIter_enum he ⟨s1.heap.objs.size + 1, [s1.heap.objs.size + 1, s1.heap.objs.size], _, _, H1, rfl, I2, turn_enum z t (strIterType z) _ _ hne (by unfold strIterType; split <;> simp), ⟨⟨_, he⟩, hit⟩, fun b hb => ?_, q⟩
  have hle : s1.heap.objs.size ≤ b := by
    simp only [List.mem_cons, List.not_mem_nil, or_false] at hb
    rcases hb with h | h <;> rw [h]
    · exact Nat.le_add_right _ _
    · exact Nat.le_refl _
  exact I1.fpOk hle (I1.hok.fresh hle)
end
theorem for_enum {w : List Nat} {g : TG} {tb : TS} {D : Ends} {σ : St} {H : Hp} (Pv : Nat → St → Hp → Prop) (h0 : Pv 0 σ H)
    (hs : ∀ i c p σ H, w[i]? = some c → H p = none → Pv i σ H → g (.ref p) σ (upd H p (.tup [.int (i : Nat), .str (S [c])])) fun σ2 H2 => tb { D with nx := Pv (i + 1), ct := Pv (i + 1), bk := D.nx } σ2 H2) (hd : ∀ σ H, Pv w.length σ H → D.nx σ H) :
    ∃ W : Nat → Nat → St → Hp → Prop, (∃ m, W 0 m σ H) ∧ ∀ i m σ H, W i m σ H →
      ((Itn (S w)).stop i H ∧ D.nx σ H) ∨ ((Itn (S w)).go i H ∧ ∃ N : St → Hp → Prop, (∀ σ' H', N σ' H' → ∃ m', m' < m ∧ W (i + 1) m' σ' H') ∧ ∀ x H', (Itn (S w)).yld i H x H' → g x σ H' fun σ2 H2 => tb { D with nx := N, ct := N, bk := D.nx } σ2 H2) := by
  refine ⟨fun i m σ H => m = w.length - i ∧ i ≤ w.length ∧ Pv i σ H, ⟨w.length, by simp, Nat.zero_le _, h0⟩, ?_⟩
  rintro i m σ H ⟨rfl, hi, p⟩
  by_cases hlt : i < w.length
  · refine .inr ⟨by simpa [Itn] using hlt, Pv (i + 1), fun σ' H' p' => ⟨w.length - (i + 1), by omega, rfl, hlt, p'⟩, fun x H' y => ?_⟩
    obtain ⟨pp, c, rfl, hn, rfl, hc⟩ := y
    exact hs i c pp σ H (by simpa using hc) hn p
  · have e : i = w.length := by omega
    subst e
    exact .inl ⟨by simp [Itn], hd σ H p⟩
section
variable {prog : Program} {w : World} {A : Around} {E : Value → Shared → Prop} {s : Shared}
theorem item_whole {t sl : Addr} {items : Array Value} {vl vu : Value} {lo hi : Option Int} {Q : Value → Shared → Prop} (ht : IsTup s.heap t items) (hs : s.heap.IsSliceOf sl vl vu .none) (pl : IsPart vl lo) (pu : IsPart vu hi)
    (h1 : HT.sIx items.size 0 lo = 0) (h2 : HT.sIx items.size items.size hi = items.size)
    (h : Q (.ref t) s) : wpAny (model prog w) A (getItem (.ref t) (.ref sl)) Q E s := by
  obtain ⟨os, hos, hcs, hds⟩ := id hs
  have hTs : s.TypeIs (.ref sl) "slice" := ⟨os, hos, hcs⟩
  unfold getItem
  try with_reducible refine wpAny_holding ?_
  first | refine wpAny_bind (wpAny_pure ?_) | skip
  refine wpAny_bind (wpAny_sequenceKey ht.typeIs (by decide) ?_)
  refine wpAny_bind (wpAny_callSpecial?_slot (name := Str.ofString "__getitem__") ht.typeIs PyProof.Rows.slot_tuple_getitem
    (wpAny_call_entry PyProof.Rows.slot_tuple_getitem ht.typeIs entry_tuple_getitem ?_ (args_tuple_getitem _ _)))
  show wpAny _ _ (Builtin.Tuple.tupleItemsOf (.ref t) >>= _) _ _ s
  refine wpAny_bind (tupleItemsOf_ ht ?_)
  refine wpAny_bind (wpAny_typeOf hTs ?_)
  rw [if_pos (by decide)]
  refine wpAny_bind (HT.sliceApplied_gen hs pl pu ?_)
  rw [h1, h2]
  show wpAny _ _ (if (((0 : Nat) : Int) == 0 && (1 : Int) == 1 && (items.size - 0) == items.size) = true then _ else _) _ _ s
  rw [if_pos (by simp)]
  refine wpAny_bind ?_
  unfold Builtin.Tuple.tupleIsExact
  refine wpAny_bind (wpAny_typeOf ht.typeIs (wpAny_pure ?_))
  rw [if_pos (by decide)]
  exact wpAny_bind (wpAny_rule (wpAny_pure ⟨_, rfl, wpAny_pure h⟩))
end
def rSlB (K : PySem.W.Frag) : V → Option Int → Option Int → Hp → VK → Prop := fun x lo hi H Q => ∃ (a : Addr) (xs : List V) (j : Nat), x = .ref a ∧ SqT K H a xs ∧ lo = none ∧ hi = some (j : Int) ∧ j ≤ xs.length ∧
  (j < xs.length → ∀ p, H p = none → Q (.ref p) (upd H p (.tup (xs.take j)))) ∧ (j = xs.length → Q (.ref a) H)
theorem sl_tupB {X : Cx} {K : PySem.W.Frag} (hK : X.K = K) : SlR X (rSlB K) := by
  subst hK
  intro pins s σ H x v vl vu lo hi sl Q I rx hs pl pu h
  obtain ⟨a, xs, j, rfl, hx, rfl, rfl, hj, q1, q2⟩ := h
  have e0 : HT.sIx xs.length 0 none = 0 := rfl
  have e1 : HT.sIx xs.length xs.length (some (j : Int)) = j := by
    unfold HT.sIx
    simp only
    rw [if_neg (by omega)]
    simp
    omega
  rcases Nat.lt_or_ge j xs.length with hlt | hge
  · refine sl_tup pins s σ H _ v vl vu _ _ sl Q I rx hs pl pu ⟨a, xs, rfl, hx, fun z => ?_, ?_⟩
    · rw [e1] at z; omega
    · have e : cutV xs none (some (j : Int)) = xs.take j := by
        unfold cutV
        rw [e1, e0]
        simp
      rw [e]
      exact q1 hlt
  · have ej : j = xs.length := by omega
    cases rx
    obtain ⟨its, r, ht, hz⟩ := I.tuple hx
    have hlen : its.toArray.size = xs.length := by rw [List.size_toArray]; exact r.length.symm
    refine ⟨"tuple", _, PyProof.Rows.slot_tuple_getitem.lookup, ht.typeIs, ?_⟩
    exact item_whole ht hs pl pu (by rw [hlen]; exact e0) (by rw [hlen, e1]; exact ej) ⟨.ref a, H, I, rfl, q2 ej⟩
end L2
namespace L2
open PySem PySem.W PyProof.Rows
def KTr (lt : Nat → Nat → Bool) (n : Nat) {α : Type} : KasT α → (α → Prop) → Prop
  | .ret a, Q => Q a
  | .ask i j k, Q => i < n ∧ j < n ∧ KTr lt n (k (lt i j)) Q
theorem KTr.bind {lt : Nat → Nat → Bool} {n : Nat} {α β : Type} {f : α → KasT β} {Q : β → Prop} : ∀ {t : KasT α}, KTr lt n t (fun a => KTr lt n (f a) Q) → KTr lt n (t.bind f) Q
  | .ret a, h => h
  | .ask i j k, h => ⟨h.1, h.2.1, KTr.bind h.2.2⟩
theorem KTr.wp {lt : Nat → Nat → Bool} {n : Nat} {α : Type} {cmp : Nat → Nat → (Bool → Shared → Prop) → Shared → Prop} {Ok : Shared → Prop}
    (hc : ∀ i j C s, i < n → j < n → Ok s → (∀ s', Ok s' → C (lt i j) s') → cmp i j C s) {Q : α → Prop} {R : α → Shared → Prop} (hq : ∀ a s, Q a → Ok s → R a s) : ∀ {t : KasT α} {s : Shared}, KTr lt n t Q → Ok s → t.kasWp cmp R s
  | .ret a, s, h, o => hq a s h o
  | .ask i j k, s, h, o => hc i j _ s h.1 h.2.1 o fun s' o' => KTr.wp hc hq h.2.2 o'
structure TotLt (lt : Nat → Nat → Bool) : Prop where
  asym : ∀ i j, lt i j = true → lt j i = false
  tr : ∀ i j k, lt j i = false → lt k j = false → lt k i = false
section
variable {lt : Nat → Nat → Bool} {n : Nat}
theorem TotLt.irr (T : TotLt lt) (i : Nat) : lt i i = false := by
  cases h : lt i i with
  | false => rfl
  | true => have := T.asym i i h; rw [h] at this; cases this
def PermN (n : Nat) (p : Array Nat) : Prop := p.Perm (List.toArray (List.range n))
theorem PermN.size {p : Array Nat} (h : PermN n p) : p.size = n := by
  have := (Array.perm_iff_toList_perm.mp h).length_eq
  simpa using this
theorem PermN.below {p : Array Nat} (h : PermN n p) {i : Nat} (hi : i < n) : p.getD i 0 < n := by
  have hs := h.size
  have e : p.getD i 0 = p[i]'(by omega) := by simp [Array.getD, show i < p.size by omega]
  rw [e]
  have hm : p[i]'(by omega) ∈ p := Array.getElem_mem _
  have : p[i]'(by omega) ∈ (List.toArray (List.range n)) := h.mem_iff.mp hm
  simpa using this
theorem getD_of {p q : Array Nat} {i j : Nat} (h : p[i]? = q[j]?) : p.getD i 0 = q.getD j 0 := by
  rw [Array.getD_eq_getD_getElem?, Array.getD_eq_getD_getElem?, h]
theorem rev_get {p : Array Nat} {i j : Nat} (hj : j ≤ p.size) (k : Nat) : (kas_rev p i j).getD k 0 = if i ≤ k ∧ k < j then p.getD (i + j - 1 - k) 0 else p.getD k 0 := by
  have := getElem?_mirror_all (i := i) hj k
  unfold kas_rev
  split
  · rename_i h; rw [if_pos h] at this; exact getD_of this
  · rename_i h; rw [if_neg h] at this; exact getD_of this
theorem PermN.rev {p : Array Nat} (h : PermN n p) (i j : Nat) : PermN n (kas_rev p i j) := (mirror_perm p i j _).trans h
theorem PermN.bub {p : Array Nat} (h : PermN n p) (k d : Nat) : PermN n (bubble p k d) := (bubble_perm p k d).trans h
def SoTo (lt : Nat → Nat → Bool) (p : Array Nat) (m : Nat) : Prop := ∀ i j, i ≤ j → j < m → lt (p.getD j 0) (p.getD i 0) = false
def NoInc (lt : Nat → Nat → Bool) (p : Array Nat) (m : Nat) : Prop := ∀ i j, i ≤ j → j < m → lt (p.getD i 0) (p.getD j 0) = false
def EqT (lt : Nat → Nat → Bool) (p : Array Nat) (m q : Nat) : Prop := ∀ i j, m ≤ i + q + 1 → i < m → m ≤ j + q + 1 → j < m → lt (p.getD i 0) (p.getD j 0) = false
theorem asc_tr (T : TotLt lt) {p : Array Nat} (g : PermN n p) {Q : Nat → Prop} : ∀ (f m : Nat), 1 ≤ m → m + f = n → SoTo lt p m →
    (∀ m', m ≤ m' → m' ≤ n → SoTo lt p m' → (m' = n ∨ lt (p.getD m' 0) (p.getD (m' - 1) 0) = true) → Q m') → KTr lt n (kas_asc p f m) Q
  | 0, m, h1, h2, hs, hq => hq m (Nat.le_refl _) (by omega) hs (.inl (by omega))
  | f + 1, m, h1, h2, hs, hq => by
    refine ⟨g.below (by omega), g.below (by omega), ?_⟩
    cases hc : lt (p.getD m 0) (p.getD (m - 1) 0) with
    | true => exact hq m (Nat.le_refl _) (by omega) hs (.inr hc)
    | false =>
      refine asc_tr T g f (m + 1) (by omega) (by omega) (fun i j hij hj => ?_) fun m' hm => hq m' (by omega)
      by_cases e : j = m
      · subst e
        by_cases e2 : i = j
        · subst e2; exact T.irr _
        · exact T.tr _ _ _ (hs i (j - 1) (by omega) (by omega)) hc
      · exact hs i j hij (by omega)
theorem noinc_eqv (T : TotLt lt) {p q : Array Nat} {m : Nat} (h : NoInc lt p m) (e1 : ∀ i, i < m → lt (q.getD i 0) (p.getD i 0) = false) (e2 : ∀ i, i < m → lt (p.getD i 0) (q.getD i 0) = false) : NoInc lt q m := fun i j hij hj =>
  T.tr _ _ _ (e2 j hj) (T.tr _ _ _ (h i j hij hj) (e1 i (by omega)))
theorem noinc_rev (T : TotLt lt) {p : Array Nat} (g : PermN n p) {m q k : Nat} (hm : m ≤ n) (hq : q + 1 ≤ m) (hmk : m ≤ k) (h : NoInc lt p k) (e : EqT lt p m q) : NoInc lt (kas_rev p (m - (q + 1)) m) k := by
  have hs := g.size
  have rd := rev_get (p := p) (i := m - (q + 1)) (j := m) (by omega)
  refine noinc_eqv T h (fun i hi => ?_) fun i hi => ?_
  · rw [rd]
    split
    · exact e _ _ (by omega) (by omega) (by omega) (by omega)
    · exact T.irr _
  · rw [rd]
    split
    · exact e _ _ (by omega) (by omega) (by omega) (by omega)
    · exact T.irr _
theorem desc_tr (T : TotLt lt) {Q : Array Nat × Nat × Nat → Prop} : ∀ (f : Nat) (p : Array Nat) (m q : Nat), PermN n p → 1 ≤ m → q + 1 ≤ m → m + f = n → NoInc lt p m → EqT lt p m q →
    (∀ p' m' q', PermN n p' → 1 ≤ m' → m' ≤ n → q' + 1 ≤ m' → NoInc lt p' m' → EqT lt p' m' q' → Q (p', m', q')) → KTr lt n (kas_desc f p m q) Q
  | 0, p, m, q, g, h1, hq, h2, hn, he, k => k p m q g h1 (by omega) hq hn he
  | f + 1, p, m, q, g, h1, hq, h2, hn, he, k => by
    refine ⟨g.below (by omega), g.below (by omega), ?_⟩
    cases hc : lt (p.getD m 0) (p.getD (m - 1) 0) with
    | true =>
      have hn1 : NoInc lt p (m + 1) := fun i j hij hj => by
        by_cases e : j = m
        · subst e
          by_cases e2 : i = j
          · subst e2; exact T.irr _
          · exact T.tr _ _ _ (T.asym _ _ hc) (hn i (j - 1) (by omega) (by omega))
        · exact hn i j hij (by omega)
      have z0 : ∀ (p : Array Nat) (m : Nat), EqT lt p (m + 1) 0 := fun p m i j hi hi2 hj hj2 => by
        have e1 : i = m := by omega
        have e2 : j = m := by omega
        rw [e1, e2]; exact T.irr _
      show KTr lt n (if q > 0 then _ else _) Q
      split
      · exact desc_tr T f _ (m + 1) 0 (g.rev _ _) (by omega) (by omega) (by omega) (noinc_rev T g (by omega) hq (by omega) hn1 he) (z0 _ _) k
      · exact desc_tr T f p (m + 1) 0 g (by omega) (by omega) (by omega) hn1 (z0 _ _) k
    | false =>
      refine ⟨g.below (by omega), g.below (by omega), ?_⟩
      cases hd : lt (p.getD (m - 1) 0) (p.getD m 0) with
      | true => exact k p m q g h1 (by omega) hq hn he
      | false =>
        refine desc_tr T f p (m + 1) (q + 1) g (by omega) (by omega) (by omega) (fun i j hij hj => ?_) (fun i j hi hi2 hj hj2 => ?_) k
        · by_cases e : j = m
          · subst e
            by_cases e2 : i = j
            · subst e2; exact T.irr _
            · exact T.tr _ _ _ hd (hn i (j - 1) (by omega) (by omega)) |> fun z => by
                first | exact z | exact T.tr _ _ _ hc (hn i (j - 1) (by omega) (by omega))
          · exact hn i j hij (by omega)
        · by_cases e : i = m
          · subst e
            by_cases e2 : j = i
            · subst e2; exact T.irr _
            · exact T.tr _ _ _ (he j (i - 1) (by omega) (by omega) (by omega) (by omega) |> fun z => he (i - 1) j (by omega) (by omega) (by omega) (by omega)) hc
          · by_cases e2 : j = m
            · subst e2
              exact T.tr _ _ _ hd (he i (j - 1) (by omega) (by omega) (by omega) (by omega))
            · exact he i j (by omega) (by omega) (by omega) (by omega)
theorem tail3_tr (T : TotLt lt) {p : Array Nat} (g : PermN n p) {m : Nat} (h1 : 1 ≤ m) (hm : m ≤ n) (hn : NoInc lt p m) {Q : Nat × Array Nat → Prop}
    (k : ∀ p' m', PermN n p' → 1 ≤ m' → m' ≤ n → SoTo lt p' m' → Q (m', p')) : KTr lt n (kas_tail3 m n p) Q := by
  unfold kas_tail3
  have hs := g.size
  have rd := rev_get (p := p) (i := 0) (j := m) (by omega)
  refine KTr.bind (asc_tr T (g.rev 0 m) (n - m) m h1 (by omega) (fun i j hij hj => ?_) fun m' hm' hn' so _ => k _ m' (g.rev 0 m) (by omega) hn' so)
  rw [rd, rd, if_pos ⟨by omega, by omega⟩, if_pos ⟨by omega, by omega⟩]
  exact hn _ _ (by omega) (by omega)
theorem descPart_tr (T : TotLt lt) {p : Array Nat} (g : PermN n p) {m : Nat} (hm : m + 1 ≤ n) (hn : NoInc lt p (m + 1)) {Q : Nat × Array Nat → Prop}
    (k : ∀ p' m', PermN n p' → 1 ≤ m' → m' ≤ n → SoTo lt p' m' → Q (m', p')) : KTr lt n (kas_descPart m n p) Q := by
  unfold kas_descPart
  refine KTr.bind (desc_tr T (n - (m + 1)) p (m + 1) 0 g (by omega) (by omega) (by omega) hn (fun i j hi hi2 hj hj2 => ?_) fun p' m' q' g' h1 h2 hq hn' he => ?_)
  · have e1 : i = m := by omega
    have e2 : j = m := by omega
    rw [e1, e2]; exact T.irr _
  · show KTr lt n (if q' > 0 then _ else _) Q
    split
    · exact tail3_tr T (g'.rev _ _) h1 h2 (noinc_rev T g' h2 hq (Nat.le_refl _) hn' he) k
    · exact tail3_tr T g' h1 h2 hn' k
theorem count_tr (T : TotLt lt) {p : Array Nat} (g : PermN n p) (h1 : 1 ≤ n) {Q : Nat × Array Nat → Prop}
    (k : ∀ p' m', PermN n p' → 1 ≤ m' → m' ≤ n → SoTo lt p' m' → Q (m', p')) : KTr lt n (kas_count n p) Q := by
  unfold kas_count
  have hs := g.size
  refine KTr.bind (asc_tr T g (n - 1) 1 (Nat.le_refl _) (by omega) (fun i j hij hj => ?_) fun m hm hn so hor => ?_)
  · have e1 : i = j := by omega
    rw [e1]; exact T.irr _
  · split
    · exact k p m g hm hn so
    · rename_i hne
      have hne' : m ≠ n := fun e => hne (by rw [e]; simp)
      have hlt : lt (p.getD m 0) (p.getD (m - 1) 0) = true := by
        rcases hor with e | e
        · exact absurd e hne'
        · exact e
      split
      · rename_i hm1
        refine ⟨g.below (by omega), g.below (by omega), ?_⟩
        cases hc : lt (p.getD 0 0) (p.getD (m - 1) 0) with
        | true => exact k p m g hm hn so
        | false =>
          have all : ∀ i j, i < m → j < m → lt (p.getD i 0) (p.getD j 0) = false := fun i j hi hj =>
            T.tr _ _ _ (so j (m - 1) (by omega) (by omega)) (T.tr _ _ _ hc (so 0 i (by omega) hi))
          have hn1 : NoInc lt p (m + 1) := fun i j hij hj => by
            by_cases e : j = m
            · subst e
              by_cases e2 : i = j
              · subst e2; exact T.irr _
              · exact T.tr _ _ _ (T.asym _ _ hlt) (all i (j - 1) (by omega) (by omega))
            · exact all i j (by omega) (by omega)
          have hr := noinc_rev T g (q := m - 1) hn (by omega) (Nat.le_succ m) hn1 (fun i j _ hi _ hj => all i j hi hj)
          rw [show m - (m - 1 + 1) = 0 by omega] at hr
          exact descPart_tr T (g.rev 0 m) (by omega) hr k
      · rename_i hm1
        have e1 : m = 1 := by omega
        subst e1
        refine descPart_tr T g (by omega) (fun i j hij hj => ?_) k
        by_cases e : i = j
        · subst e; exact T.irr _
        · have e1 : i = 0 := by omega
          have e2 : j = 1 := by omega
          rw [e1, e2]
          exact T.asym _ _ hlt
theorem place_tr (T : TotLt lt) {p : Array Nat} (g : PermN n p) {k : Nat} (hk : k < n) (so : SoTo lt p k) {Q : Nat → Prop} : ∀ (f l r : Nat), l ≤ r → r ≤ k → r - l ≤ f → (∀ i, i < l → lt (p.getD k 0) (p.getD i 0) = false) → (∀ i, r ≤ i → i < k → lt (p.getD k 0) (p.getD i 0) = true) →
    (∀ l', l' ≤ k → (∀ i, i < l' → lt (p.getD k 0) (p.getD i 0) = false) → (∀ i, l' ≤ i → i < k → lt (p.getD k 0) (p.getD i 0) = true) → Q l') → KTr lt n (kas_place p k f l r) Q
  | 0, l, r, h1, h2, h3, ha, hb, q => q l (by omega) ha fun i hi => hb i (by omega)
  | f + 1, l, r, h1, h2, h3, ha, hb, q => by
    show KTr lt n (if l ≥ r then _ else _) Q
    split
    · exact q l (by omega) ha fun i hi => hb i (by omega)
    · refine ⟨g.below hk, g.below (by omega), ?_⟩
      cases hc : lt (p.getD k 0) (p.getD ((l + r) / 2) 0) with
      | true =>
        refine place_tr T g hk so f l ((l + r) / 2) (by omega) (by omega) (by omega) ha (fun i hi hik => ?_) q
        cases hz : lt (p.getD k 0) (p.getD i 0) with
        | true => rfl
        | false =>
          have := T.tr _ _ _ (so ((l + r) / 2) i hi hik) hz
          rw [hc] at this; cases this
      | false =>
        refine place_tr T g hk so f ((l + r) / 2 + 1) r (by omega) h2 (by omega) (fun i hi => ?_) hb q
        exact T.tr _ _ _ (so i ((l + r) / 2) (by omega) (by omega)) hc
theorem bub_get {p : Array Nat} {k l : Nat} (hk : k < p.size) (hl : l ≤ k) (i : Nat) : (bubble p k (k - l)).getD i 0 = if i = l then p.getD k 0 else if l < i ∧ i ≤ k then p.getD (i - 1) 0 else p.getD i 0 := by
  have := getElem?_bubble hk (k - l) (by omega) i
  rw [show k - (k - l) = l by omega] at this
  by_cases h : i = l
  · rw [if_pos h] at this ⊢; exact getD_of this
  · rw [if_neg h] at this ⊢
    by_cases h2 : l < i ∧ i ≤ k
    · rw [if_pos h2] at this ⊢; exact getD_of this
    · rw [if_neg h2] at this ⊢; exact getD_of this
theorem bin_tr (T : TotLt lt) {Q : Array Nat → Prop} : ∀ (f : Nat) (p : Array Nat) (k : Nat), PermN n p → k + f = n → SoTo lt p k → (∀ p', PermN n p' → SoTo lt p' n → Q p') → KTr lt n (kas_bin f p k) Q
  | 0, p, k, g, h, so, q => q p g (by rw [← h]; exact so)
  | f + 1, p, k, g, h, so, q => by
    have hs := g.size
    refine KTr.bind (place_tr T g (by omega) so k 0 k (by omega) (Nat.le_refl _) (by omega) (fun i hi => absurd hi (Nat.not_lt_zero _)) (fun i h1 h2 => absurd h2 (by omega)) fun l hl ha hb => ?_)
    refine bin_tr T f _ (k + 1) (g.bub _ _) (by omega) (fun i j hij hj => ?_) q
    have rd := bub_get (p := p) (k := k) (l := l) (by omega) hl
    rw [rd, rd]
    by_cases e1 : i = j
    · subst e1; exact T.irr _
    · by_cases cj : j = l
      · rw [if_pos cj, if_neg (by omega), if_neg (by omega)]
        exact ha i (by omega)
      · rw [if_neg cj]
        by_cases ci : i = l
        · rw [if_pos ci, if_pos (by omega)]
          exact T.asym _ _ (hb (j - 1) (by omega) (by omega))
        · rw [if_neg ci]
          split <;> split
          · exact so _ _ (by omega) (by omega)
          · exact so _ _ (by omega) (by omega)
          · exact so _ _ (by omega) (by omega)
          · exact so _ _ (by omega) (by omega)
theorem sort_tr (T : TotLt lt) (h1 : 1 ≤ n) : KTr lt n (kas_sort n) fun p => PermN n p ∧ SoTo lt p n := by
  unfold kas_sort
  refine KTr.bind (count_tr T (Array.Perm.refl _) h1 fun p m g h2 h3 so => ?_)
  show KTr lt n (if m < n then _ else _) _
  split
  · rw [show max m 1 = m by omega]
    exact bin_tr T (n - m) p m g (by omega) so fun p' g' so' => ⟨g', so'⟩
  · rename_i h
    have e : m = n := by omega
    subst e
    exact ⟨g, so⟩
end
end L2
namespace L2
open PySem PySem.W PySem.Spec PyProof.Rows
def ltK (x y : Int × List Int) : Bool := if x.1 = y.1 then HT.lexLt x.2 y.2 else decide (x.1 < y.1)
def KeyAt (H : Hp) (v : V) (k : Int × List Int) : Prop := ∃ (p a : Addr), v = .ref p ∧ H p = some (.tup [.int k.1, .ref a]) ∧ H a = some (.lst (k.2.map V.int))
theorem key_cmp {X : Cx} {pins : List (Addr × Obj)} {σ : St} {H : Hp} {s : Shared} (hu : X.A.units + 8 < cLine) (I : Inv X pins σ H s) {v y : V} {u z : Value} {k m : Int × List Int} (hv : KeyAt H v k) (hw : KeyAt H y m) (ru : RelV v u) (rz : RelV y z)
    (hl : k.1 = m.1 → k.2.length = m.2.length) {Q : Bool → Shared → Prop} {E : Value → Shared → Prop} (h : Q (ltK k m) s) : wpAny (model X.prog X.w) X.A (keyLt' (tuples' true) u z) Q E s := by
  obtain ⟨L, ns⟩ := k
  obtain ⟨M, ms⟩ := m
  obtain ⟨p, a, rfl, hp, ha⟩ := hv
  obtain ⟨q, c, rfl, hq, hc⟩ := hw
  cases ru
  cases rz
  obtain ⟨_, ip, rp, ⟨op, gp1, gp2, np, gp3⟩, _⟩ := I.hok p _ hp
  obtain ⟨_, iq, rq, ⟨oq, gq1, gq2, nq, gq3⟩, _⟩ := I.hok q _ hq
  obtain ⟨u1, u2, rfl, r1, r2⟩ := rp.two
  obtain ⟨w1, w2, rfl, r3, r4⟩ := rq.two
  obtain ⟨t1, rfl⟩ := r1
  obtain ⟨t3, rfl⟩ := r3
  cases r2
  cases r4
  obtain ⟨_, us, n1, ru, gu⟩ := I.hok a _ ha
  obtain ⟨_, vs, n2, rv, gv⟩ := I.hok c _ hc
  have lus : us.length = ns.length := by rw [← ru.length, List.length_map]
  have lvs : vs.length = ms.length := by rw [← rv.length, List.length_map]
  have hla : s.heap.IsList a us.toArray := ⟨_, gu, rfl, n1, rfl⟩
  have hlc : s.heap.IsList c vs.toArray := ⟨_, gv, rfl, n2, rfl⟩
  have fl : ∀ zs : List Int, (zs.map V.int).all flatV = true := fun zs => by rw [List.all_map]; exact List.all_eq_true.mpr fun _ _ => rfl
  have hu1 : X.A.in1.units < cLine := by unfold Around.in1; show X.A.units + 1 < cLine; omega
  have hu0 : X.A.units < cLine := by omega
  have hiu := intsAre_of ru
  have hiv := intsAre_of rv
  refine kat_lt gp1 gp3 gq1 gq3 ?_
  refine kat_cons ((SeqAt.EqAt.int_int L t1 M t3 (A := X.A) (s := s)) X.prog X.w _ _ ?_)
  show KatGo _ _ _ _ _ _ _ _ _ _ (L == M) s
  by_cases e : L = M
  · subst e
    have hlen : ns.length = ms.length := hl rfl
    have h' : Q (HT.lexLt ns ms) s := by
      have : ltK (L, ns) (L, ms) = HT.lexLt ns ms := by unfold ltK; rw [if_pos rfl]
      rw [← this]; exact h
    rw [show (L == L) = true from by simp]
    refine kat_yes ?_
    have heq : SeqAt.EqAt X.A s (.ref a) (.ref c) (decide (ns = ms)) := by
      by_cases hac : a = c
      · subst hac
        rw [ha] at hc
        have e1 : ns = ms := by
          have := HO.lst.inj (Option.some.inj hc)
          exact (List.map_inj_right (fun x y h => V.int.inj h)).mp this
        rw [decide_eq_true e1]
        exact SeqAt.EqAt.same _
      · have z := SeqAt.RcAt.lists (A := X.A) hla hlc (by simp; omega) hu0 (pairs_eq (A := X.A.in1) (s := s) ru rv (fl ns) (fl ms))
        rw [List.size_toArray, ← ru.length, eqVs_range (by rw [List.length_map, List.length_map]; exact hlen), eqVs_int] at z
        exact SeqAt.EqAt.of_refs hac z
    refine kat_cons (heq X.prog X.w _ _ ?_)
    show KatGo _ _ _ _ _ _ _ _ _ _ (decide (ns = ms)) s
    by_cases e2 : ns = ms
    · rw [decide_eq_true e2]
      refine kat_yes (kat_nil ?_)
      rw [e2, lexLt_self] at h'
      exact h'
    · rw [decide_eq_false e2]
      refine kat_no (kat_one _ _ ?_)
      exact richCompare_meets_room (op := .Lt) ⟨_, gu, rfl⟩ ⟨_, gv, rfl⟩ PySem.F.slot_list_lt PySem.F.entry_list_lt (PySem.F.args_list_lt_2 _ _) (LtL.list_lt a c us vs n1 n2 ns ms hiu hiv (by omega))
        ⟨gu, gv, show Value.bool (HT.lexLt ns ms) ≠ Value.notImplemented ∧ PySem.W.BoolBack Q (.bool (HT.lexLt ns ms)) s from ⟨(fun x => nomatch x), h'⟩⟩ hu0
  · have h' : Q (decide (L < M)) s := by
      have : ltK (L, ns) (M, ms) = decide (L < M) := by unfold ltK; rw [if_neg e]
      rw [← this]; exact h
    rw [show (L == M) = false from by simpa using e]
    exact kat_no (oneLt_int h')
section
variable {X : Cx} {pins : List (Addr × Obj)} {σ : St} {H : Hp} {s : Shared} {h' : Heap}
theorem Inv.adopt {t' : Nat} {D : Addr} {xs : List V} (I : Inv X pins σ H s) (k : ∀ b o, b ≠ D → s.heap.get? b = some o → h'.get? b = some o) (hf : FpOk X pins H D)
    (new : ObjOk X.prog X.w (upd H D (.lst xs)) h' D (.lst xs)) : Inv X pins σ (upd H D (.lst xs)) { s with heap := h', toks := t' } := by
  obtain ⟨f0, f1, f2, f3, f4, f5⟩ := hf
  have un : ∀ {b u}, H b = some u → upd H D (.lst xs) b = some u := fun e => by rw [upd_ne (ne_of_none e f0)]; exact e
  have nch : ∀ {b u}, H b = some u → b ≠ D := fun e => ne_of_none e f0
  refine I.step (g' := s.gens) (d' := s.drawn) (ch := [D]) (fun b hb => ?_) (fun b o _ _ hc e _ => k b o (by simpa using hc) e) (fun b o _ _ hc e _ => ⟨o.slots, k b o (by simpa using hc) e⟩) (fun b o hc e n => ?_) (fun b o hc e => ⟨o, k b o (by simpa using hc) e⟩) (fun _ _ e => un e) (fun _ _ _ e => un e)
    (fun b ps e => ⟨#[], by rw [un e]; simp⟩) (fun m hm => ?_) (fun b u e => ?_) I.bare
  · have e : b = D := by simpa using hb
    subst e
    exact ⟨f3, f1, f4, f5⟩
  · rw [upd_ne (by simpa using hc)]
    exact n
  · obtain ⟨o, es, ep, ho, r⟩ := hm
    exact ⟨o, es, ep, k _ o (fun z => f1 z.symm) ho, r⟩
  · by_cases hb : b = D
    · subst hb
      rw [upd_same] at e
      cases e
      exact new
    · rw [upd_ne hb] at e
      refine (I.hok b u e).stay (fun c v hc q => k c v ?_ q) (fun c q => un q) fun c ys q => un q
      rcases hc with z | z
      · rw [z]; exact hb
      · exact nch z
end
def tSortK (K : PySem.W.Frag) (sp : Sp) (ta : TA) : TE := fun σ H Q => ta σ H fun vs H1 => ∃ (l : Addr) (xs : List V) (kz : List (Int × List Int)) (Pv : Addr → Nat → List V → Hp → Prop), vs = [.ref l] ∧ SqL K H1 l xs ∧ xs.length < 64 ∧ kz.length = xs.length ∧
  (∀ (i j : Nat) (a b : Int × List Int), kz[i]? = some a → kz[j]? = some b → a.1 = b.1 → a.2.length = b.2.length) ∧ TotLt (fun i j => ltK (kz.getD i (0, [])) (kz.getD j (0, []))) ∧
  (∀ S, H1 S = none → Pv S 0 [] (upd H1 S (.lst []))) ∧
  (∀ S i ks H, Pv S i ks H → ∀ y, xs[i]? = some y → sp [y] H (fun v H2 => H2 S = some (.lst ks) ∧ ks.length = i ∧ Pv S (i + 1) (ks ++ [v]) (upd H2 S (.lst (ks ++ [v])))) E0) ∧
  (∀ S ks H, Pv S xs.length ks H → H S = some (.lst ks) ∧ ks.length = xs.length ∧ (∀ (i : Nat) (v : V) (k : Int × List Int), ks[i]? = some v → kz[i]? = some k → KeyAt H v k) ∧
    ∀ p : Array Nat, PermN xs.length p → SoTo (fun i j => ltK (kz.getD i (0, [])) (kz.getD j (0, []))) p xs.length → ∀ D, upd H S (.lst []) D = none → Q (.ref D) (upd (upd H S (.lst [])) D (.lst (p.toList.map fun i => xs.getD i .non))))
section
variable {X : Cx} {k : Nat} {f : Addr} {fd : FuncData} {ps : List Str} {sp : Sp}
theorem keys_go {pins : List (Addr × Obj)} {σ : St} {S : Addr} {xs : List V} {Pv : Nat → List V → Hp → Prop} {body : Value → PUnit → Sem (ForInStep PUnit)} {E : Value → Shared → Prop}
    (F : FnOk X.prog X.w X.K X.mg X.base CX0 k f fd ps sp) (hr : Room k X.one.one.A) (hb : Binds X.K fd ps []) (h64 : xs.length < 64)
    (hbody : ∀ x (s : Shared) (R : ForInStep PUnit → Shared → Prop), wpAny (model X.prog X.w) X.one.one.A (call (.ref f) [x]) (fun kv s' => wpAny (model X.prog X.w) X.one.one.A (Builtin.List.listUpdate (.ref S) (·.push kv)) (fun _ s'' => R (.yield ⟨⟩) s'') E s') (fun _ _ => False) s → wpAny (model X.prog X.w) X.one.one.A (body x ⟨⟩) R E s)
    (hst : ∀ i ks H, Pv i ks H → ∀ y, xs[i]? = some y → sp [y] H (fun v H2 => H2 S = some (.lst ks) ∧ ks.length = i ∧ Pv (i + 1) (ks ++ [v]) (upd H2 S (.lst (ks ++ [v])))) E0) :
    ∀ (r : List V) (us : List Value) (i : Nat) (ks : List V) (s : Shared) (H : Hp), Vals r us → xs.drop i = r → i + r.length = xs.length → Inv X.one.one pins σ H s → Pv i ks H →
      wpAny (model X.prog X.w) X.one.one.A (forIn us PUnit.unit body) (fun _ s' => ∃ ks H', Inv X.one.one pins σ H' s' ∧ Pv xs.length ks H') E s
  | [], us, i, ks, s, H, rv, hd, hl, I, pv => by
    cases rv
    rw [List.forIn_nil]
    have : i = xs.length := by simpa using hl
    subst this
    exact wpAny_pure ⟨ks, H, I, pv⟩
  | y :: r, us, i, ks, s, H, rv, hd, hl, I, pv => by
    cases rv with
    | cons ru rr =>
      rename_i u us
      have hy : xs[i]? = some y := by
        have := congrArg List.head? hd
        rw [List.head?_drop] at this
        exact this
      rw [List.forIn_cons]
      refine wpAny_bind (hbody _ _ _ (wpAny_mono (run_fn (X := X.one.one) F hr hb .nil pass0 I (.cons ru .nil) (hst i ks H pv y hy)) (fun kv s1 hq => ?_) fun _ _ e => e))
      obtain ⟨v, H1, I1, rk, eS, hkl, pv1⟩ := hq
      obtain ⟨z, its, n, rks, hlk, eo⟩ := I1.lstM eS
      rw [List.length_cons] at hl
      have h64' : its.length < 64 := by omega
      refine listUpdate_at eo rfl ?_ (by rw [List.size_toArray, sizeLine_eq]; omega) (Nat.le_trans (Nat.le_of_eq (Array.size_push ..)) (by rw [List.size_toArray, sizeLine_eq]; omega))
      have I2 := I1.lset (t' := s1.toks) (its' := its ++ [kv]) (ys := ks ++ [v]) (f := (·.push kv)) eS eo (by simp) (rks.append (.cons rk .nil)) (by rw [List.length_append, List.length_singleton, sizeLine_eq]; omega)
      exact keys_go F hr hb h64 hbody hst r us (i + 1) (ks ++ [v]) _ _ rr (by rw [← List.drop_drop, hd]; rfl) (by omega) I2 pv1
theorem kz_get {kz : List (Int × List Int)} {i : Nat} (h : i < kz.length) : kz[i]? = some (kz.getD i (0, [])) := by
  rw [List.getD_eq_getElem?_getD, List.getElem?_eq_getElem h]; rfl
theorem katTups_of {pins : List (Addr × Obj)} {σ : St} {H : Hp} {s : Shared} (I : Inv X pins σ H s) : ∀ (ks : List V) (us : List Value), Vals ks us → (∀ v ∈ ks, ∃ q, KeyAt H v q) → ∃ fs, PySem.W.KatTups s.heap us fs ∧ fs.length = us.length ∧ ∀ v ∈ fs, ∃ i t, v = Value.int i t
  | [], us, r, _ => by
    cases r
    exact ⟨[], .nil, rfl, fun v hv => (nomatch hv)⟩
  | v :: ks, us, r, h => by
    cases r with
    | cons r1 r2 =>
      obtain ⟨fs, t, hl, hi⟩ := katTups_of I ks _ r2 fun y hy => h y (List.mem_cons_of_mem _ hy)
      obtain ⟨q, p, a, rfl, hp, ha⟩ := h v (List.mem_cons_self ..)
      cases r1
      obtain ⟨_, ip, rp, ⟨op, gp1, gp2, np, gp3⟩, _⟩ := I.hok p _ hp
      obtain ⟨u1, u2, rfl, r1, r2⟩ := rp.two
      obtain ⟨t1, rfl⟩ := r1
      refine ⟨Value.int q.1 t1 :: fs, .cons gp1 gp2 gp3 (by simp) t, by simp [hl], fun y hy => ?_⟩
      rcases List.mem_cons.mp hy with rfl | hy
      · exact ⟨_, _, rfl⟩
      · exact hi y hy
theorem vals_at {xs : List V} {us : List Value} (r : Vals xs us) (i : Nat) (h : i < xs.length) : RelV (xs.getD i .non) (us.getD i Value.none) := by
  obtain ⟨u, hu, ru⟩ := r.get (List.getElem?_eq_getElem h)
  rw [List.getD_eq_getElem?_getD, List.getD_eq_getElem?_getD, hu, List.getElem?_eq_getElem h]
  exact ru
theorem vals_perm {xs : List V} {us : List Value} (r : Vals xs us) : ∀ l : List Nat, (∀ i ∈ l, i < xs.length) → Vals (l.map fun i => xs.getD i .non) (l.map fun i => us.getD i Value.none)
  | [], _ => .nil
  | i :: l, h => .cons (vals_at r i (h i (List.mem_cons_self ..))) (vals_perm r l fun j hj => h j (List.mem_cons_of_mem _ hj))
theorem zip_snd (us vs : List Value) (h : us.length = vs.length) : (us.toArray.zip vs.toArray).map (·.2) = vs.toArray := by
  apply Array.toList_inj.mp
  rw [Array.toList_map, ksk_zip]
  simp only [List.toList_toArray]
  rw [List.map_snd_zip (by omega)]
theorem range_getD (vs : List Value) : List.toArray ((List.toArray (List.range vs.length)).toList.map fun i => vs.getD i Value.none) = vs.toArray := by
  congr 1
  refine List.ext_getElem? fun i => ?_
  by_cases h : i < vs.length
  · simp [h]
  · simp [h]
theorem sort_end {pins : List (Addr × Obj)} {σ : St} {H : Hp} {s : Shared} {S D : Addr} {e1 : Nat} {ks xs : List V} {vs : List Value} {kz : List (Int × List Int)} {P : PySem.Fin → Shared → Prop} {E : Value → Shared → Prop} (hu : X.one.one.A.units + 8 < cLine)
    (I : Inv X.one.one (pins ++ [(D, seqObj "list" #[] e1)]) σ H s) (hf : FpOk X.one.one pins H D) (eS : H S = some (.lst ks)) (rx : Vals xs vs) (hl : ks.length = xs.length) (h64 : xs.length < 64) (hkl : kz.length = xs.length)
    (hk : ∀ (i : Nat) (v : V) (q : Int × List Int), ks[i]? = some v → kz[i]? = some q → KeyAt H v q)
    (hlen : ∀ (i j : Nat) (a b : Int × List Int), kz[i]? = some a → kz[j]? = some b → a.1 = b.1 → a.2.length = b.2.length) (T : TotLt (fun i j => ltK (kz.getD i (0, [])) (kz.getD j (0, []))))
    (h : ∀ (p : Array Nat) (s' : Shared), PermN xs.length p → SoTo (fun i j => ltK (kz.getD i (0, [])) (kz.getD j (0, []))) p xs.length → Inv X.one.one pins σ (upd (upd H S (.lst [])) D (.lst (p.toList.map fun i => xs.getD i .non))) s' → P (.done (.ret .none)) s') :
    wpAny (model X.prog X.w) X.one.one.A (Builtin.List.listItems (.ref S) >>= fun keys => ksk_end D false vs.toArray e1 (.ref S) keys) P E s := by
  obtain ⟨z, us, n, ru, hlu, eo⟩ := I.lstM eS
  have lx := rx.length
  have hD : s.heap.get? D = some (seqObj "list" #[] e1) := (I.pin (D, seqObj "list" #[] e1) (List.mem_append_right _ (List.mem_append_right _ (List.mem_singleton_self _)))).1
  refine wpAny_bind (listItems_at eo rfl ?_)
  -- the last steps: the keys' list is emptied, the sorted one is laid
  have tail : ∀ (st : SortSt) (p : Array Nat) (s1 : Shared), Inv X.one.one (pins ++ [(D, seqObj "list" #[] e1)]) σ H s1 → (arrOf st).map (·.2) = List.toArray (p.toList.map fun i => vs.getD i Value.none) → failedOf st = none → PermN xs.length p →
      SoTo (fun i j => ltK (kz.getD i (0, [])) (kz.getD j (0, []))) p xs.length → wpAny (model X.prog X.w) X.one.one.A (ksk_tail D false e1 (.ref S) st) P E s1 := fun st p s1 I1 hout hfl hp hso => by
    obtain ⟨z1, us1, n1, ru1, hlu1, eo1⟩ := I1.lstM eS
    have I2 := I1.lset (t' := s1.toks) (its' := []) (ys := []) (f := fun _ => #[]) eS eo1 rfl .nil (Nat.zero_le _)
    have hD1 : s1.heap.get? D = some (seqObj "list" #[] e1) := (I1.pin (D, seqObj "list" #[] e1) (List.mem_append_right _ (List.mem_append_right _ (List.mem_singleton_self _)))).1
    have hD2 : (s1.heap.update S (Obj.mapSeq fun _ => (#[] : Array Value))).get? D = some (seqObj "list" #[] e1) := (I2.pin (D, seqObj "list" #[] e1) (List.mem_append_right _ (List.mem_append_right _ (List.mem_singleton_self _)))).1
    have hps : p.toList.length = xs.length := by rw [Array.length_toList]; exact hp.size
    have hpb : ∀ i ∈ p.toList, i < xs.length := fun i hi => by
      have := (Array.perm_iff_toList_perm.mp hp).mem_iff.mp hi
      simpa using this
    unfold ksk_tail
    try dsimp only
    rw [hout]
    refine wpAny_bind (listUpdate_at eo1 rfl ?_ (by rw [List.size_toArray, sizeLine_eq]; omega) (Nat.zero_le _))
    refine wpAny_bind (wpAny_letGo ?_)
    refine wpAny_bind (seqEpoch_at hD2 rfl ?_)
    simp only [Bool.false_eq_true, if_false]
    refine wpAny_bind (listUpdate_at hD2 rfl ?_ (Nat.zero_le _) (by show (List.toArray (p.toList.map fun i => vs.getD i Value.none)).size ≤ _; rw [List.size_toArray, List.length_map, hps, sizeLine_eq]; omega))
    rw [hfl]
    simp only [bne_self_eq_false, Bool.false_eq_true, if_false]
    refine wpAny_pure (h p _ hp hso ?_)
    have rv := vals_perm rx p.toList hpb
    have I3 := I2.unpinned
    have f2 : FpOk X.one.one pins (upd H S (.lst [])) D := ⟨by rw [upd_ne (ne_of_none eS hf.1).symm]; exact hf.1, hf.2⟩
    have sb := Heap.SameBut.update (s1.heap.update S (Obj.mapSeq fun _ => (#[] : Array Value))) D (Obj.mapSeq fun _ => List.toArray (p.toList.map fun i => vs.getD i Value.none))
    refine I3.adopt (t' := s1.toks) (D := D) (fun b o hb e => (sb.2 b hb).trans e) f2 ⟨by rw [List.length_map, hps, sizeLine_eq]; omega, _, _, rv, get?_update_seq hD2 fun _ => List.toArray (p.toList.map fun i => vs.getD i Value.none)⟩
  unfold ksk_end
  try dsimp only
  simp only [Bool.false_eq_true, if_false]
  by_cases h2 : xs.length < 2
  · have h2' : vs.toArray.size < 2 := by rw [List.size_toArray]; omega
    rw [if_pos h2', if_pos h2']
    refine wpAny_bind (wpAny_pure ?_)
    show wpAny _ _ (pure ((), SortSt.mk' general' (us.toArray.zip vs.toArray) #[] 7 none) >>= _) _ _ _
    refine wpAny_bind (wpAny_pure ?_)
    refine tail _ (List.toArray (List.range xs.length)) s I ?_ rfl (Array.Perm.refl _) (fun i j hij hj => ?_)
    · show (us.toArray.zip vs.toArray).map (·.2) = _
      rw [zip_snd us vs (by omega), lx, range_getD]
    · have e : i = j := by omega
      rw [e]; exact T.irr _
  · have h2' : ¬ vs.toArray.size < 2 := by rw [List.size_toArray]; omega
    rw [if_neg h2', if_neg h2']
    have lu : us.length = vs.length := by omega
    obtain ⟨fs, ht, hfl, hfi⟩ := katTups_of I ks us ru fun v hv => by
      obtain ⟨i, hi⟩ := List.getElem?_of_mem hv
      have hi' : i < ks.length := (List.getElem?_eq_some_iff.mp hi).1
      exact ⟨_, hk i v _ hi (kz_get (by omega))⟩
    refine wpAny_bind (PySem.W.kat_kind (T := .type "int") ht (by omega) (fun v hv => ?_) (by decide) ?_)
    · obtain ⟨i, t, rfl⟩ := hfi v hv
      exact .now
    · have hsort := KTr.wp (cmp := PySem.W.kas_ask X.prog X.w X.one.one.A (tuples' true) us) (Ok := Inv X.one.one (pins ++ [(D, seqObj "list" #[] e1)]) σ H) (fun i j C s' hi hj o k' => ?_) (R := fun p s' => (PermN xs.length p ∧ SoTo (fun i j => ltK (kz.getD i (0, [])) (kz.getD j (0, []))) p xs.length) ∧ Inv X.one.one (pins ++ [(D, seqObj "list" #[] e1)]) σ H s') (fun a s' q o => ⟨q, o⟩) (sort_tr T (n := xs.length) (by omega)) I
      · refine wpAny_bind (wpAny_mono (PySem.W.kat_run (Q := fun st s' => ∃ p : Array Nat, arrOf st = p.map (PySem.W.kas_item (us.toArray.zip vs.toArray)) ∧ failedOf st = none ∧ (PermN xs.length p ∧ SoTo (fun i j => ltK (kz.getD i (0, [])) (kz.getD j (0, []))) p xs.length) ∧ Inv X.one.one (pins ++ [(D, seqObj "list" #[] e1)]) σ H s')
          lu (by omega) (by omega) (fun p st s' _ a2 a3 a4 => ⟨p, a2, a3, a4⟩) (by rw [← lx]; exact hsort)) ?_ fun _ _ x => x)
        rintro ⟨⟨⟩, st⟩ s1 ⟨p, har, hfl1, ⟨hp, hso⟩, I1⟩
        exact tail st p s1 I1 (PySem.W.kat_snds lu har) hfl1 hp hso
      · have e1' : ks[i]? = some (ks.getD i .non) := by rw [List.getD_eq_getElem?_getD, List.getElem?_eq_getElem (by omega)]; rfl
        have e2' : ks[j]? = some (ks.getD j .non) := by rw [List.getD_eq_getElem?_getD, List.getElem?_eq_getElem (by omega)]; rfl
        have z1 := kz_get (kz := kz) (i := i) (by omega)
        have z2 := kz_get (kz := kz) (i := j) (by omega)
        exact key_cmp hu o (hk i _ _ e1' z1) (hk j _ _ e2' z2) (vals_at ru i (by omega)) (vals_at ru j (by omega)) (hlen i j _ _ z1 z2) (k' s' o)
theorem sort_run {pins : List (Addr × Obj)} {σ : St} {Q : VK} {l : Addr} {xs : List V} {kz : List (Int × List Int)} {Pv : Addr → Nat → List V → Hp → Prop} {s : Shared} {H : Hp}
    (F : FnOk X.prog X.w X.K X.mg X.base CX0 k f fd ps sp) (hr : Room (k + 2) X.A) (hu : X.one.one.A.units + 8 < cLine) (hb : Binds X.K fd ps []) (I : Inv X pins σ H s) (hq : SqL X.K H l xs) (h64 : xs.length < 64) (hkl : kz.length = xs.length)
    (hlen : ∀ (i j : Nat) (a b : Int × List Int), kz[i]? = some a → kz[j]? = some b → a.1 = b.1 → a.2.length = b.2.length) (T : TotLt (fun i j => ltK (kz.getD i (0, [])) (kz.getD j (0, []))))
    (h0 : ∀ S, H S = none → Pv S 0 [] (upd H S (.lst [])))
    (hst : ∀ S i ks H, Pv S i ks H → ∀ y, xs[i]? = some y → sp [y] H (fun v H2 => H2 S = some (.lst ks) ∧ ks.length = i ∧ Pv S (i + 1) (ks ++ [v]) (upd H2 S (.lst (ks ++ [v])))) E0)
    (hend : ∀ S ks H, Pv S xs.length ks H → H S = some (.lst ks) ∧ ks.length = xs.length ∧ (∀ (i : Nat) (v : V) (k : Int × List Int), ks[i]? = some v → kz[i]? = some k → KeyAt H v k) ∧
      ∀ p : Array Nat, PermN xs.length p → SoTo (fun i j => ltK (kz.getD i (0, [])) (kz.getD j (0, []))) p xs.length → ∀ D, upd H S (.lst []) D = none → Q (.ref D) (upd (upd H S (.lst [])) D (.lst (p.toList.map fun i => xs.getD i .non)))) :
    wpAny (model X.prog X.w) X.A (call (.builtin "sorted") [.ref l] [(Str.ofString "key", .ref f)]) (EP X pins σ Q) X.xe s := by
  obtain ⟨vs, rx, pl, hz⟩ := I.list hq
  have lx := rx.length
  refine call_function_entry_kw kind_sorted plain_sorted entry_sorted (ksk_s1 _ _) ?_
  unfold Builtin.«sorted»
  refine wpAny_bind (m := checkCount "sorted" 1 1 _) (wpAny_pure ?_)
  refine wpAny_bind (collect_list pl.isList ?_ (by rw [sizeLine_eq]; omega))
  refine wpAny_bind (wpAny_newList ?_ (by rw [sizeLine_eq]; omega))
  have hsz : ((s.heap.push (seqObj "list" #[] 0)).update s.heap.objs.size (Obj.mapSeq (· ++ vs.toArray))).objs.size = s.heap.objs.size + 1 := by
    rw [Heap.size_update, size_push']
  have hoL : (((s.heap.push (seqObj "list" #[] 0)).update s.heap.objs.size (Obj.mapSeq (· ++ vs.toArray))).push (seqObj "list" vs.toArray 0)).get? (s.heap.objs.size + 1) = some (seqObj "list" vs.toArray 0) := by
    rw [← hsz]; exact Heap.get?_push_size _ rfl
  have keep : ∀ b o, s.heap.get? b = some o → (((s.heap.push (seqObj "list" #[] 0)).update s.heap.objs.size (Obj.mapSeq (· ++ vs.toArray))).push (seqObj "list" vs.toArray 0)).get? b = some o := fun b o q => by
    have hlt : b < s.heap.objs.size := Heap.lt_size q
    rw [Heap.get?_push_ne _ _ _ (by rw [hsz]; exact Nat.ne_of_lt (Nat.lt_succ_of_lt hlt)), Heap.get?_update_ne _ _ _ _ (Nat.ne_of_lt hlt), Heap.get?_push_ne _ _ _ (Nat.ne_of_lt hlt)]
    exact q
  show wpAny _ _ _ _ _ { s with heap := ((s.heap.push (seqObj "list" #[] 0)).update s.heap.objs.size (Obj.mapSeq (· ++ vs.toArray))).push (seqObj "list" vs.toArray 0) }
  rw [hsz]
  have I0 : Inv X.one.one pins σ H { s with heap := ((s.heap.push (seqObj "list" #[] 0)).update s.heap.objs.size (Obj.mapSeq (· ++ vs.toArray))).push (seqObj "list" vs.toArray 0) } := I.one.one.kept (t' := s.toks) keep
  have fD : FpOk X.one.one pins H (s.heap.objs.size + 1) := I.one.one.fpOk (Nat.le_succ _) (I.hok.fresh (Nat.le_succ _))
  generalize ((s.heap.push (seqObj "list" #[] 0)).update s.heap.objs.size (Obj.mapSeq (· ++ vs.toArray))).push (seqObj "list" vs.toArray 0) = hA at hoL keep I0
  generalize s.heap.objs.size + 1 = D at hoL fD
  refine wpAny_bind (wpAny_holding (wpAny_call_entry_kw slot_list_sort ⟨_, hoL, rfl⟩ entry_list_sort ?body (ksk_l1 _ _)))
  case body =>
    show wpAny (model X.prog X.w) X.A.in1.in1 (Builtin.«list.sort» ⟨[.ref D], [(Str.ofString "key", .ref f)]⟩) _ _ _
    rw [ksk_t1]
    obtain ⟨f0, f1, f2, f3, f4, f5⟩ := id fD
    have s1 := Heap.SameBut.update hA D (Obj.mapSeq fun _ => (#[] : Array Value))
    obtain ⟨e1, ho1⟩ : ∃ e1, (hA.update D (Obj.mapSeq fun _ => (#[] : Array Value))).get? D = some (seqObj "list" #[] e1) := ⟨_, get?_update_seq hoL fun _ => #[]⟩
    have I1 : Inv X.one.one pins σ H { s with heap := hA.update D (Obj.mapSeq fun _ => (#[] : Array Value)) } := I0.turned (t' := s.toks) (fun b o hb e => (s1.2 b hb).trans e) f0 f1 f3 f4 f5
    unfold ksk_tree
    refine wpAny_bind (listItems_at hoL rfl ?_)
    refine wpAny_bind (listUpdate_at hoL rfl ?_ (by rw [List.size_toArray, sizeLine_eq]; omega) (Nat.zero_le _))
    refine wpAny_bind (seqEpoch_at ho1 rfl ?_)
    refine wpAny_bind (wpAny_newTuple ?_ (by show vs.length ≤ _; rw [sizeLine_eq]; omega))
    refine wpAny_bind (wpAny_newList ?_ (Nat.zero_le _))
    refine wpAny_holding ?_
    show wpAny (model X.prog X.w) X.one.one.A _ _ _ { s with heap := ((hA.update D (Obj.mapSeq fun _ => (#[] : Array Value))).push (seqObj "tuple" vs.toArray 0)).push (seqObj "list" #[] 0) }
    generalize hA.update D (Obj.mapSeq fun _ => (#[] : Array Value)) = hB at ho1 I1
    have I2 : Inv X.one.one pins σ H { s with heap := hB.push (seqObj "tuple" vs.toArray 0) } := I1.kept (t' := s.toks) fun b o e => Heap.get?_push_of_some _ e
    have ho2 : (hB.push (seqObj "tuple" vs.toArray 0)).get? D = some (seqObj "list" #[] e1) := Heap.get?_push_of_some _ ho1
    generalize hB.push (seqObj "tuple" vs.toArray 0) = hC at ho2 I2
    have fS : H hC.objs.size = none := I2.hok.fresh (Nat.le_refl _)
    have I3 : Inv X.one.one pins σ (upd H hC.objs.size (.lst [])) { s with heap := hC.push (seqObj "list" #[] 0) } := I2.lnew (t' := s.toks) (its := []) (ys := []) .nil (Nat.zero_le _)
    have ho3 : (hC.push (seqObj "list" #[] 0)).get? D = some (seqObj "list" #[] e1) := Heap.get?_push_of_some _ ho2
    have hDS : D ≠ hC.objs.size := Nat.ne_of_lt (Heap.lt_size ho2)
    have fD3 : FpOk X.one.one pins (upd H hC.objs.size (.lst [])) D := ⟨by rw [upd_ne hDS]; exact f0, fD.2⟩
    have I4 := I3.pinned (fp := [D]) (fun b hb => by rw [List.mem_singleton.mp hb]; exact fD3) (fun b hb => by rw [List.mem_singleton.mp hb]; exact ⟨_, ho3, fun v z => by cases z⟩)
    have epn : pinsAt [D] (hC.push (seqObj "list" #[] 0)) = [(D, seqObj "list" #[] e1)] := by unfold pinsAt; simp [ho3]
    have I5 : Inv X.one.one (pins ++ [(D, seqObj "list" #[] e1)]) σ (upd H hC.objs.size (.lst [])) { s with heap := hC.push (seqObj "list" #[] 0) } := by rw [← epn]; exact I4
    generalize hC.objs.size = S at fS I5 hDS
    unfold ksk_rest
    refine wpAny_bind (wpAny_rule ?_)
    first
      | rw [List.forIn_toArray]
      | (rw [← Array.forIn_toList]; simp only [List.toList_toArray])
      | rw [← Array.forIn_toList]
    refine wpAny_bind (wpAny_mono (keys_go (X := X) (pins := pins ++ [(D, seqObj "list" #[] e1)]) (S := S) (Pv := Pv S) F hr.in1.in1 hb h64 (fun x s' R hx => ?_) (hst S) xs vs 0 [] _ _ rx rfl (by simp) I5 (h0 S fS)) (fun _ s' hd => ?_) fun _ _ x => x)
    · refine wpAny_bind (wpAny_attempt (wpAny_mono hx (fun kv s'' hk => ?_) fun _ _ hF => hF.elim))
      try dsimp only
      exact wpAny_bind (wpAny_mono hk (fun _ s3 h3 => wpAny_pure h3) fun _ _ x => x)
    · obtain ⟨ks, H', I6, pv⟩ := hd
      obtain ⟨eS, hkl2, hka, hfin⟩ := hend S ks H' pv
      have pD := (I6.pin (D, seqObj "list" #[] e1) (List.mem_append_right _ (List.mem_append_right _ (List.mem_singleton_self _)))).2.1
      refine sort_end (X := X) (pins := pins) (D := D) (kz := kz) hu I6 ⟨pD, fD.2⟩ eS rx hkl2 h64 hkl hka hlen T fun p s4 hp hso I7 => ?_
      exact ⟨_, rfl, wpAny_pure ⟨_, rfl, ⟨.ref D, _, (I7.unone I.ok.one).unone I.ok, rfl, hfin p hp hso D (by rw [upd_ne (ne_of_none eS pD).symm]; exact pD)⟩⟩⟩
theorem pe_sortK {K : PySem.W.Frag} {e : Expr} {ta : TA} {kn : Str} {p kp kpos pos : Pos} (hK : X.K = K) (F : FnOk X.prog X.w X.K X.mg X.base CX0 k f fd ps sp) (hr : Room (k + 2) X.A) (hb : Binds X.K fd ps [])
    (hg : Gl X "sorted") (hm : X.mg "sorted" = none) (hgk : Gl X kn) (hmk : X.mg kn = some (.ref f)) (ha : PA X [e] ta) (hkd : (kn == ("__debug__" : Str)) = false := by decide)
    (hall : (backToKw pos (keywordEach [⟨some (Str.ofString "key"), .Name kn kp, kpos⟩] X.env)).all (·.1.isSome) = true := by rfl) (hks : (backToKw pos (keywordEach [⟨some (Str.ofString "key"), .Name kn kp, kpos⟩] X.env)).filterMap (·.1) = [Str.ofString "key"] := by rfl)
    (hs : backTo pos (starEach [e] X.env) = [(false, eval e X.env)] := by rfl) (hkw : (backToKw pos (keywordEach [⟨some (Str.ofString "key"), .Name kn kp, kpos⟩] X.env)).any (·.1.isNone) = false := by rfl) :
    PE X (.Call (.Name "sorted" p) [e] [⟨some (Str.ofString "key"), .Name kn kp, kpos⟩] pos) (tSortK K sp ta) := by
  subst hK
  intro pins s σ H Q I h
  refine wpAny_Call_Name_kw (ld_blt I hg hm boot_sorted ?_ (by decide) (by decide))
  refine callWith_kw (thn (ha pos pins s σ H _ I h) fun us s1 ⟨vs, H1, I1, r1, q1⟩ => ?_) (by rw [hs]; rfl) (by rw [hs]; rfl) hall hkw
  obtain ⟨l, xs, kz, Pv, rfl, hq, h64, hkl, hlen, T, h0, hst, hend⟩ := q1
  have hpk : PK X [⟨some (Str.ofString "key"), .Name kn kp, kpos⟩] (tCons (tC (.ref f)) tNil) := pk_cons (pe_glob (v := .ref f) hgk hmk rfl hkd) pk_nil
  refine thn (hpk pos pins s1 σ H1 (fun zs H2 => zs = [.ref f] ∧ H2 = H1) I1 ⟨rfl, rfl⟩) fun ks s2 ⟨zs, H2, I2, r2, e2, e3⟩ => ?_
  subst e2 e3
  obtain ⟨u, rfl, ru⟩ := vals1 r1
  obtain ⟨kf, rfl, rk⟩ := vals1 r2
  cases ru
  cases rk
  rw [hks]
  have hu : X.one.one.A.units + 8 < cLine := by
    have := hr.units
    show X.A.units + 1 + 1 + 8 < cLine
    omega
  exact sort_run F hr hu hb I2 hq h64 hkl hlen T h0 hst hend
end
end L2
namespace PySem
open Sem (wp)
section
variable {prog : Program} {w : World} {A : Around} {E : Value → Shared → Prop} {s : Shared} {P1 P2 : Nat → Value → Prop} {St1 St2 : Nat → Heap → Prop} {n1 n2 : Nat}
end
end PySem
namespace L2
open PySem PySem.Spec PyProof.Rows
section
variable {X : Cx}
end
def isTx (z : Str) : Value → Bool
  | .str w _ => w == z
  | _ => false
theorem count_tx (z : Str) : ∀ {ws : List Str} {us : List Value}, Vals (ws.map V.str) us → us.countP (isTx z) = ws.countP (· == z) ∧ ∀ u ∈ us, ∃ w t, u = Value.str w t
  | [], us, r => by
    cases r
    exact ⟨rfl, fun u hu => (nomatch hu)⟩
  | w :: ws, us, r => by
    rw [List.map_cons] at r
    cases r with
    | cons r1 r2 =>
      obtain ⟨t, rfl⟩ := r1
      obtain ⟨h1, h2⟩ := count_tx z r2
      refine ⟨?_, fun u hu => ?_⟩
      · rw [List.countP_cons, List.countP_cons, h1]
        rfl
      · rcases List.mem_cons.mp hu with rfl | hu
        · exact ⟨_, _, rfl⟩
        · exact h2 u hu
end L2
namespace Lw
open PySem PySem.Spec PyProof.Rows L2 Ma MaR
def keyW (x : List Nat) : Int × List Int := ((x.length : Nat), rks x)
theorem lex_asym : ∀ {a b : List Int}, a.length = b.length → HT.lexLt a b = true → HT.lexLt b a = false
  | [], [], _, h => by cases h
  | x :: a, y :: b, hl, h => by
    rw [HT.lexLt_cons] at h ⊢
    by_cases e : x = y
    · subst e
      rw [if_pos rfl] at h ⊢
      exact lex_asym (by simpa using hl) h
    · rw [if_neg e] at h
      rw [if_neg (fun z => e z.symm)]
      have := of_decide_eq_true h
      exact decide_eq_false (by omega)
theorem lex_tr : ∀ {a b c : List Int}, a.length = b.length → b.length = c.length → HT.lexLt b a = false → HT.lexLt c b = false → HT.lexLt c a = false
  | [], [], [], _, _, _, h => h
  | x :: a, y :: b, z :: c, h1, h2, h3, h4 => by
    rw [HT.lexLt_cons] at h3 h4 ⊢
    by_cases e : y = x
    · subst e
      rw [if_pos rfl] at h3
      by_cases e2 : z = y
      · subst e2
        rw [if_pos rfl] at h4 ⊢
        exact lex_tr (by simpa using h1) (by simpa using h2) h3 h4
      · rw [if_neg e2] at h4 ⊢
        exact h4
    · rw [if_neg e] at h3
      have q1 := of_decide_eq_false h3
      by_cases e2 : z = y
      · subst e2
        rw [if_neg e]
        exact h3
      · rw [if_neg e2] at h4
        have q2 := of_decide_eq_false h4
        rw [if_neg (by omega)]
        exact decide_eq_false (by omega)
def KOk (k : Int × List Int) : Prop := k.1 = (k.2.length : Nat)
theorem ltK_asym {a b : Int × List Int} (ha : KOk a) (hb : KOk b) (h : ltK a b = true) : ltK b a = false := by
  unfold ltK at h ⊢
  unfold KOk at ha hb
  by_cases e : a.1 = b.1
  · rw [if_pos e] at h
    rw [if_pos e.symm]
    exact lex_asym (by omega) h
  · rw [if_neg e] at h
    rw [if_neg (fun z => e z.symm)]
    have := of_decide_eq_true h
    exact decide_eq_false (by omega)
theorem ltK_tr {a b c : Int × List Int} (ha : KOk a) (hb : KOk b) (hc : KOk c) (h1 : ltK b a = false) (h2 : ltK c b = false) : ltK c a = false := by
  unfold ltK at h1 h2 ⊢
  unfold KOk at ha hb hc
  by_cases e : b.1 = a.1
  · rw [if_pos e] at h1
    by_cases e2 : c.1 = b.1
    · rw [if_pos e2] at h2
      rw [if_pos (e2.trans e)]
      exact lex_tr (by omega) (by omega) h1 h2
    · rw [if_neg e2] at h2
      rw [if_neg (by omega)]
      have := of_decide_eq_false h2
      exact decide_eq_false (by omega)
  · rw [if_neg e] at h1
    have q1 := of_decide_eq_false h1
    by_cases e2 : c.1 = b.1
    · rw [if_neg (by omega)]
      exact decide_eq_false (by omega)
    · rw [if_neg e2] at h2
      have q2 := of_decide_eq_false h2
      rw [if_neg (by omega)]
      exact decide_eq_false (by omega)
theorem keyW_ok (x : List Nat) : KOk (keyW x) := by
  unfold KOk keyW
  rw [rks_len]
theorem keys_getD (ws : List (List Nat)) (i : Nat) : (ws.map keyW).getD i (0, []) = keyW (ws.getD i []) := by
  rw [List.getD_eq_getElem?_getD, List.getElem?_map, List.getD_eq_getElem?_getD]
  cases ws[i]? with
  | none => rfl
  | some x => rfl
theorem keys_tot (ws : List (List Nat)) : TotLt (fun i j => ltK ((ws.map keyW).getD i (0, [])) ((ws.map keyW).getD j (0, []))) := by
  refine ⟨fun i j h => ?_, fun i j k h1 h2 => ?_⟩
  · simp only [keys_getD] at h ⊢
    exact ltK_asym (keyW_ok _) (keyW_ok _) h
  · simp only [keys_getD] at h1 h2 ⊢
    exact ltK_tr (keyW_ok _) (keyW_ok _) (keyW_ok _) h1 h2
def leW (x y : List Nat) : Prop := ltK (keyW y) (keyW x) = false
theorem perm_words {ws : List (List Nat)} {p : Array Nat} (h : PermN ws.length p) : (p.toList.map fun i => ws.getD i []).Perm ws := by
  have h1 := (Array.perm_iff_toList_perm.mp h).map fun i => ws.getD i []
  have e : (List.range ws.length).map (fun i => ws.getD i []) = ws := by
    refine List.ext_getElem? fun i => ?_
    by_cases hi : i < ws.length
    · simp [hi]
    · simp [hi]
  simp only [List.toList_toArray] at h1
  rw [e] at h1
  exact h1
theorem sorted_words {ws : List (List Nat)} {p : Array Nat} {n : Nat} (hn : ws.length = n) (h : PermN n p) (so : SoTo (fun i j => ltK ((ws.map keyW).getD i (0, [])) ((ws.map keyW).getD j (0, []))) p n) : (p.toList.map fun i => ws.getD i []).Pairwise leW := by
  rw [List.pairwise_iff_getElem]
  intro i j hi hj hij
  have hs := h.size
  rw [List.length_map, Array.length_toList] at hi hj
  have := so i j (by omega) (by omega)
  simp only [keys_getD] at this
  unfold leW
  rw [List.getElem_map, List.getElem_map]
  have e1 : p.getD i 0 = p.toList[i]'(by rw [Array.length_toList]; exact hi) := by simp [Array.getD, hi]
  have e2 : p.getD j 0 = p.toList[j]'(by rw [Array.length_toList]; exact hj) := by simp [Array.getD, hj]
  rw [← e1, ← e2]
  exact this
theorem wds_perm (ws : List (List Nat)) (l : List Nat) (h : ∀ i ∈ l, i < ws.length) : (l.map fun i => (wds ws).getD i .non) = wds (l.map fun i => ws.getD i []) := by
  unfold wds
  rw [List.map_map]
  refine List.map_congr_left fun i hi => ?_
  have := h i hi
  simp [List.getD_eq_getElem?_getD, this]
theorem rks_inj : ∀ {x y : List Nat}, AllL x → AllL y → rks x = rks y → x = y
  | [], [], _, _, _ => rfl
  | [], _ :: _, _, _, h => by simp [rks] at h
  | _ :: _, [], _, _, h => by simp [rks] at h
  | a :: x, b :: y, hx, hy, h => by
    obtain ⟨e1, e2⟩ := List.cons.inj (show ((rk a : Nat) : Int) :: rks x = ((rk b : Nat) : Int) :: rks y from h)
    rw [rk_inj (AllL.cons.mp hx).1 (AllL.cons.mp hy).1 (by omega), rks_inj (AllL.cons.mp hx).2 (AllL.cons.mp hy).2 e2]
theorem lex_eq : ∀ {a b : List Int}, a.length = b.length → HT.lexLt a b = false → HT.lexLt b a = false → a = b
  | [], [], _, _, _ => rfl
  | x :: a, y :: b, hl, h1, h2 => by
    rw [HT.lexLt_cons] at h1 h2
    by_cases e : x = y
    · subst e
      rw [if_pos rfl] at h1 h2
      rw [lex_eq (by simpa using hl) h1 h2]
    · rw [if_neg e] at h1
      rw [if_neg (fun z => e z.symm)] at h2
      have := of_decide_eq_false h1
      have := of_decide_eq_false h2
      omega
theorem leW_anti {x y : List Nat} (hx : AllL x) (hy : AllL y) (h1 : leW x y) (h2 : leW y x) : x = y := by
  unfold leW ltK keyW at h1 h2
  dsimp only at h1 h2
  by_cases e : x.length = y.length
  · rw [if_pos (by omega)] at h1 h2
    exact rks_inj hx hy (lex_eq (by rw [rks_len, rks_len, e]) h2 h1)
  · rw [if_neg (by omega)] at h1 h2
    have := of_decide_eq_false h1
    have := of_decide_eq_false h2
    omega
theorem order_one : ∀ {ps qs : List (List Nat)}, (∀ x ∈ ps, AllL x) → ps.Perm qs → ps.Pairwise leW → qs.Pairwise leW → ps = qs
  | [], qs, _, h, _, _ => by rw [List.nil_perm.mp h]
  | x :: ps, [], _, h, _, _ => by exact absurd h.length_eq (by simp)
  | x :: ps, y :: qs, ha, h, h1, h2 => by
    have hy : y ∈ x :: ps := h.mem_iff.mpr List.mem_cons_self
    have hx : x ∈ y :: qs := h.mem_iff.mp List.mem_cons_self
    obtain ⟨p1, p2⟩ := List.pairwise_cons.mp h1
    obtain ⟨q1, q2⟩ := List.pairwise_cons.mp h2
    have e : x = y := by
      rcases List.mem_cons.mp hy with e | m1
      · exact e.symm
      · rcases List.mem_cons.mp hx with e | m2
        · exact e
        · exact leW_anti (ha x List.mem_cons_self) (ha y hy) (p1 y m1) (q1 x m2)
    subst e
    rw [order_one (fun z hz => ha z (List.mem_cons_of_mem _ hz)) (List.perm_cons _ |>.mp h) p2 q2]
end Lw
namespace Lw
open PySem PySem.Spec PyProof.Rows L2 Ma MaR
end Lw
namespace Lw
open PySem PySem.Spec PyProof.Rows L2 Ma MaR
theorem one_all {c : Nat} (h : isL c) : AllL [c] := fun d hd => by rw [List.mem_singleton.mp hd]; exact h
theorem low_isL {n c : Nat} (h : c ∈ lowN n) : isL c := by
  have : c ∈ [97, 98, 99, 100] := List.mem_of_mem_take h
  simp only [List.mem_cons, List.not_mem_nil, or_false] at this
  unfold isL
  omega
theorem lowN_len {n : Nat} (h4 : n ≤ 4) : (lowN n).length = n := by unfold lowN; rw [List.length_take]; simp; omega
theorem lets_low {n c : Nat} (h1 : 1 ≤ n) (h4 : n ≤ 4) (h : c ∈ letsN n) : (isLow c = true ∧ (lowN n)[c - 97]? = some c) ∨ (isLow c = false ∧ (lowN n)[c - 65]? = some (con c)) := by
  have hL := isL_cases (letsN_isL h)
  rcases n14 h1 h4 with rfl | rfl | rfl | rfl <;> rcases hL with rfl | rfl | rfl | rfl | rfl | rfl | rfl | rfl <;> revert h <;> decide
theorem flat_congr {f g : Nat → List Nat} : ∀ {w : List Nat}, (∀ c ∈ w, f c = g c) → w.flatMap f = w.flatMap g
  | [], _ => rfl
  | c :: w, h => by rw [List.flatMap_cons, List.flatMap_cons, h c List.mem_cons_self, flat_congr fun d hd => h d (List.mem_cons_of_mem _ hd)]
theorem low_lets {n c : Nat} (h1 : 1 ≤ n) (h4 : n ≤ 4) (h : c ∈ lowN n) : c ∈ letsN n := low_ofn h1 h4 [c] (List.mem_map.mpr ⟨c, h, rfl⟩) c (List.mem_singleton.mpr rfl)
theorem lowN_get {n i : Nat} (hv : (wds (lowW n))[i]? = some (.str (S [97 + i]))) : (lowN n)[i]? = some (97 + i) := by
  obtain ⟨x, hx, ex⟩ := wds_get hv
  have ex' := S_inj (V.str.inj ex)
  unfold lowW at hx
  rw [List.getElem?_map] at hx
  cases hq : (lowN n)[i]? with
  | none => rw [hq] at hx; cases hx
  | some c => rw [hq] at hx; cases hx; simpa using ex'.symm
theorem RT.mono {rs : List (List Nat)} {n M L : Nat} (h : RT rs n M) (hl : M ≤ L) : RT rs n L := ⟨h.len, h.all, fun x hx => Nat.le_trans (h.le x hx) hl⟩
end Lw
namespace Lw
open PySem PySem.Spec PyProof.Rows L2 Ma MaR
def chg (c : Nat) (sd : List Nat) (d : Nat) : List Nat := if d = lo c then [d] else (if con d ∈ sd then [con c] else []) ++ [d] ++ (if d ∈ sd then [c] else [])
def chgR (n c : Nat) (sd : List Nat) : List (List Nat) := (lowN n).map (chg c sd)
theorem in_lst (d : Nat) (sd : List Nat) : inV (.str (S [d])) (lstC sd) = decide (d ∈ sd) := by
  unfold inV lstC
  rw [Bool.eq_iff_iff, List.any_eq_true, decide_eq_true_iff]
  constructor
  · rintro ⟨v, hv, he⟩
    obtain ⟨e, hm, rfl⟩ := List.mem_map.mp hv
    have h2 : decide (S [e] = S [d]) = true := he
    have := S_inj (of_decide_eq_true h2)
    have h3 : e = d := by simpa using this
    rw [← h3]; exact hm
  · intro h
    refine ⟨_, List.mem_map.mpr ⟨d, h, rfl⟩, ?_⟩
    show decide (S [d] = S [d]) = true
    exact decide_eq_true rfl
theorem lstC_flat (sd : List Nat) : (lstC sd).all flatV = true := by
  rw [List.all_eq_true]
  intro v hv
  obtain ⟨x, _, rfl⟩ := List.mem_map.mp hv
  rfl
structure GoodC (n c : Nat) (sd : List Nat) : Prop where
  let' : c ∈ letsN n
  side : ∀ d ∈ sd, d ∈ letsN n
  le : sd.length ≤ 8
def IsChg (H : Hp) (p : Addr) (c : Nat) (sd : List Nat) : Prop := ∃ q, H p = some (.tup [.str (S [c]), .ref q]) ∧ H q = some (.tup (lstC sd))
theorem chg_len (c : Nat) (sd : List Nat) (d : Nat) : (chg c sd d).length ≤ 3 := by
  unfold chg
  split
  · simp
  · rw [List.length_append, List.length_append]
    split <;> split <;> simp
theorem chg_all {c d : Nat} {sd : List Nat} (hc : isL c) (hd : isL d) : AllL (chg c sd d) := by
  unfold chg
  split
  · exact one_all hd
  · refine AllL.app.mpr ⟨AllL.app.mpr ⟨?_, one_all hd⟩, ?_⟩
    · split
      · exact one_all (isL_con hc)
      · exact AllL.nil
    · split
      · exact one_all hc
      · exact AllL.nil
theorem chg_ofn {n c d : Nat} {sd : List Nat} (h1 : 1 ≤ n) (h4 : n ≤ 4) (hc : c ∈ letsN n) (hd : d ∈ letsN n) : OfN n (chg c sd d) := by
  have one : ∀ {e : Nat}, e ∈ letsN n → OfN n [e] := fun he z hz => by rw [List.mem_singleton.mp hz]; exact he
  unfold chg
  split
  · exact one hd
  · refine OfN.app (OfN.app ?_ (one hd)) ?_
    · split
      · exact one (letsN_con (by omega) (by omega) hc)
      · exact OfN.nil
    · split
      · exact one hc
      · exact OfN.nil
theorem chgR_rt {n c : Nat} {sd : List Nat} (h4 : n ≤ 4) (hc : isL c) : RT (chgR n c sd) n 3 := by
  refine ⟨by unfold chgR; rw [List.length_map, lowN_len h4], fun x hx => ?_, fun x hx => ?_⟩
  · obtain ⟨d, hd, rfl⟩ := List.mem_map.mp hx
    exact chg_all hc (low_isL hd)
  · obtain ⟨d, hd, rfl⟩ := List.mem_map.mp hx
    exact chg_len c sd d
theorem chgR_ofn {n c : Nat} {sd : List Nat} (h1 : 1 ≤ n) (h4 : n ≤ 4) (hc : c ∈ letsN n) : ∀ x ∈ chgR n c sd, OfN n x := fun x hx => by
  obtain ⟨d, hd, rfl⟩ := List.mem_map.mp hx
  exact chg_ofn h1 h4 hc (low_lets h1 h4 hd)
theorem low_pair {c d : Nat} (hc : isL c) (hd : isL d) (hl : isLow d = true) : decide (d ∈ [c, con c]) = decide (d = lo c) := by
  rcases isL_cases hc with rfl | rfl | rfl | rfl | rfl | rfl | rfl | rfl <;> rcases isL_cases hd with rfl | rfl | rfl | rfl | rfl | rfl | rfl | rfl <;> revert hl <;> decide
theorem low_low {n d : Nat} (h : d ∈ lowN n) : isLow d = true := by
  have : d ∈ [97, 98, 99, 100] := List.mem_of_mem_take h
  simp only [List.mem_cons, List.not_mem_nil, or_false] at this
  unfold isLow
  exact decide_eq_true (by omega)
def spLC (K : PySem.W.Frag) : Sp := fun vs H Q _ => ∃ (d c : Nat) (q : Addr) (sd : List Nat), vs = [.str (S [d]), .str (S [c]), .ref q] ∧ H q = some (.tup (lstC sd)) ∧ isL d ∧ isLow d = true ∧ isL c ∧ ∀ H', Same H H' → Q (.str (S (chg c sd d))) H'
def spChTold : Sp := fun vs H Q _ => ∃ (n : Nat) (p : Addr) (c : Nat) (sd : List Nat), vs = [.int (n : Nat), .ref p] ∧ 1 ≤ n ∧ n ≤ 4 ∧ IsChg H p c sd ∧ isL c ∧ (∀ d ∈ sd, isL d) ∧ ∀ (t : Addr) (H' : Hp), H t = none → Same H H' → H' t = some (.tup (wds (chgR n c sd))) → Q (.ref t) H'
end Lw
namespace L2
open PySem PySem.Spec PyProof.Rows
section
variable {X : Cx}
end
section
variable {prog : Program} {w : World} {A : Around} {E : Value → Shared → Prop} {s : Shared}
theorem keyT_item {it d : Addr} {i n ep : Nat} {o : Obj} {es : Array DictEntry} {e : DictEntry} {Q : Fin → Shared → Prop} (hit : s.heap.IsKeyIter it d i es.size ep) (hd : s.heap.get? d = some o) (dt : o.data = .dict es ep) (he : es[i]? = some e)
    (hQ : ∀ g, g.IsKeyIter it d (i + 1) es.size ep → Heap.SameBut it s.heap g → Q (.done (.ret e.key)) { s with heap := g }) :
    wpAny (model prog w) A (Builtin.«dict_keyiterator.__next__» ⟨[.ref it], []⟩) Q E s := by
  obtain ⟨oi, go, co, do'⟩ := id hit
  have hT : s.TypeIs (.ref it) "dict_keyiterator" := ⟨_, go, co⟩
  show wpAny _ _ (Builtin.Dict_items.slot0 "__next__" ⟨[.ref it], []⟩ >>= _) _ _ _
  rw [show Builtin.Dict_items.slot0 "__next__" ⟨[.ref it], []⟩ = pure (.ref it) from rfl]
  refine wpAny_bind (wpAny_pure (wpAny_bind ?_))
  show wpAny _ _ (_ >>= _) _ _ _
  refine wpAny_bind ?_
  refine wpAny_bind (wpAny_typeNameOfWhole_keyiter hT (wpAny_pure ?_))
  rw [show (if Builtin.Dict_items.ownsTuple "dict_keyiterator" = true then 2 else 0) = 0 from rfl]
  refine wpAny_bind (wpAny_fieldsOf go do' ?_)
  show wpAny _ _ (if (Value.ref d == Value.none) = true then _ else _) _ _ _
  rw [if_neg (by intro c; cases c)]
  refine wpAny_bind (wpAny_pure (wpAny_bind (wpAny_dictEntries hd dt ?_)))
  dsimp only
  rw [if_neg (by simp)]
  refine wpAny_bind (wpAny_pure (wpAny_bind (wpAny_dictEpoch hd dt ?_)))
  rw [if_neg (by simp)]
  refine wpAny_pure ?_
  dsimp only
  rw [if_neg (by omega), Int.toNat_natCast, he]
  dsimp only
  refine wpAny_bind (wpAny_bind (wpAny_typeNameOfWhole_keyiter hT (wpAny_pure ?_)))
  rw [show (if Builtin.Dict_items.ownsTuple "dict_keyiterator" = true then 2 else 0) = 0 from rfl]
  refine wpAny_bind (wpAny_isOneOf_keyiter hT ?_)
  refine wpAny_bind (wpAny_setField go do' (by simp) ?_)
  have gu : (s.heap.update it (Obj.mapFields fun x => x.setIfInBounds (0 + 1) (rawInt ((i : Int) + 1)))).IsKeyIter it d (i + 1) es.size ep := by
    refine ⟨_, Heap.get?_update_self _ go (Obj.isFreed_of_fields (Obj.data_mapFields do' _)), (Obj.cls_mapFields ..).trans co, ?_⟩
    rw [Obj.data_mapFields do' _]
    rfl
  have sb : Heap.SameBut it s.heap (s.heap.update it (Obj.mapFields fun x => x.setIfInBounds (0 + 1) (rawInt ((i : Int) + 1)))) := Heap.SameBut.update ..
  have hT2 : Shared.TypeIs { s with heap := s.heap.update it (Obj.mapFields fun x => x.setIfInBounds (0 + 1) (rawInt ((i : Int) + 1))) } (.ref it) "dict_keyiterator" := by
    obtain ⟨o2, g2, c2, _⟩ := gu
    exact ⟨_, g2, c2⟩
  refine wpAny_bind (wpAny_holding (wpAny_bind (wpAny_isOneOf_keyiter hT2 ?_)))
  refine wpAny_pure (wpAny_pure ?_)
  exact hQ _ gu sb
theorem keyT_end {it d : Addr} {i n ep : Nat} {o : Obj} {es : Array DictEntry} {Q : Fin → Shared → Prop} (hh : A.handled = none) (hit : s.heap.IsKeyIter it d i es.size ep) (hd : s.heap.get? d = some o) (dt : o.data = .dict es ep) (he : es[i]? = none)
    (hE : ∀ g e, Heap.ExtBut it s.heap g → (∃ o, g.get? e = some o ∧ o.cls = .type "StopIteration") → E (.ref e) { s with heap := g }) :
    wpAny (model prog w) A (Builtin.«dict_keyiterator.__next__» ⟨[.ref it], []⟩) Q E s := by
  obtain ⟨oi, go, co, do'⟩ := id hit
  have hT : s.TypeIs (.ref it) "dict_keyiterator" := ⟨_, go, co⟩
  show wpAny _ _ (Builtin.Dict_items.slot0 "__next__" ⟨[.ref it], []⟩ >>= _) _ _ _
  rw [show Builtin.Dict_items.slot0 "__next__" ⟨[.ref it], []⟩ = pure (.ref it) from rfl]
  refine wpAny_bind (wpAny_pure (wpAny_bind ?_))
  show wpAny _ _ (_ >>= _) _ _ _
  refine wpAny_bind ?_
  refine wpAny_bind (wpAny_typeNameOfWhole_keyiter hT (wpAny_pure ?_))
  rw [show (if Builtin.Dict_items.ownsTuple "dict_keyiterator" = true then 2 else 0) = 0 from rfl]
  refine wpAny_bind (wpAny_fieldsOf go do' ?_)
  show wpAny _ _ (if (Value.ref d == Value.none) = true then _ else _) _ _ _
  rw [if_neg (by intro c; cases c)]
  refine wpAny_bind (wpAny_pure (wpAny_bind (wpAny_dictEntries hd dt ?_)))
  dsimp only
  rw [if_neg (by simp)]
  refine wpAny_bind (wpAny_pure (wpAny_bind (wpAny_dictEpoch hd dt ?_)))
  rw [if_neg (by simp)]
  refine wpAny_pure ?_
  dsimp only
  rw [if_neg (by omega), Int.toNat_natCast, he]
  dsimp only
  refine wpAny_bind (wpAny_bind (wpAny_typeNameOfWhole_keyiter hT (wpAny_pure ?_)))
  rw [show (if Builtin.Dict_items.ownsTuple "dict_keyiterator" = true then 2 else 0) = 0 from rfl]
  refine wpAny_bind (wpAny_setField go do' (by simp) ?_)
  refine wpAny_bind ?_
  simp only [newExc, newTuple]
  refine wpAny_bind (wpAny_newObj_type ?_ (by size_fits))
  refine wpAny_bind (m := firstArgMember _ _) (wpAny_of_eq (a := Value.none) (by first | rfl | (simp only [firstArgMember]; rfl)) ?_)
  refine wpAny_newObj_type ?_ (by size_fits)
  simp only [raiseNew]
  refine wpAny_bind (wpAny_handled ?_)
  first | rw [show A.in1.handled = none from hh] | rw [hh]
  refine wpAny_bind (wpAny_pure (wpAny_throw ?_))
  exact hE _ _ (((Heap.SameBut.update ..).extBut.push _).push _) ⟨_, Heap.get?_push_size _ rfl, rfl⟩
theorem nextK_item {it d : Addr} {i n ep : Nat} {o : Obj} {es : Array DictEntry} {e : DictEntry} {Q : Option Value → Shared → Prop} (hit : s.heap.IsKeyIter it d i es.size ep) (hd : s.heap.get? d = some o) (dt : o.data = .dict es ep) (he : es[i]? = some e)
    (hQ : ∀ g, g.IsKeyIter it d (i + 1) es.size ep → Heap.SameBut it s.heap g → Q (some e.key) { s with heap := g }) : wpAny (model prog w) A (pyNext (.ref it)) Q E s := by
  have hT : s.TypeIs (.ref it) "dict_keyiterator" := let ⟨_, go, co, _⟩ := hit; ⟨_, go, co⟩
  unfold pyNext
  exact wpAny_bind (wpAny_attempt (wpAny_callSpecial?_slot (name := Str.ofString "__next__") hT F.slot_dict_keyiterator_next (wpAny_call_entry F.slot_dict_keyiterator_next hT F.entry_dict_keyiterator_next (keyT_item (n := 0) hit hd dt he fun g b1 b2 => ⟨_, rfl, wpAny_pure (hQ g b1 b2)⟩) (F.args_dict_keyiterator_next_1 _))))
theorem nextK_end {it d : Addr} {i n ep : Nat} {o : Obj} {es : Array DictEntry} {Q : Option Value → Shared → Prop} (hh : A.handled = none) (hit : s.heap.IsKeyIter it d i es.size ep) (hd : s.heap.get? d = some o) (dt : o.data = .dict es ep) (he : es[i]? = none)
    (hQ : ∀ g, Heap.ExtBut it s.heap g → Q none { s with heap := g }) : wpAny (model prog w) A (pyNext (.ref it)) Q E s := by
  have hT : s.TypeIs (.ref it) "dict_keyiterator" := let ⟨_, go, co, _⟩ := hit; ⟨_, go, co⟩
  unfold pyNext
  refine wpAny_bind (wpAny_attempt (wpAny_callSpecial?_slot (name := Str.ofString "__next__") hT F.slot_dict_keyiterator_next (wpAny_call_entry F.slot_dict_keyiterator_next hT F.entry_dict_keyiterator_next (keyT_end (n := 0) hh hit hd dt he fun g e kp hx => ?_) (F.args_dict_keyiterator_next_1 _))))
  obtain ⟨o, go, co⟩ := hx
  exact wpAny_bind (wpAny_isInstance (T := "StopIteration") (b := true) ⟨o, go, co⟩ isSubtype_stop (wpAny_pure (hQ _ kp)))
end
section
variable {X : Cx} {pins : List (Addr × Obj)} {σ : St} {H : Hp} {s : Shared}
theorem Inv.swap {d : Addr} {u u' : HO} (I : Inv X pins σ H s) (e : H d = some u) (nt : ∀ xs, u ≠ .tup xs) (nf : (∀ o v, u ≠ .frz o v) ∨ ∀ o v, X.H₀ d ≠ some (.frz o v)) (nb : ∀ ps, u ≠ .tbl ps) (no : ∀ x, u ≠ .own x)
    (new : ObjOk X.prog X.w (upd H d u') s.heap d u') : Inv X pins σ (upd H d u') s := by
  have ne : ∀ {b : Addr}, H b = none → b ≠ d := fun h z => by rw [z, e] at h; cases h
  have tp : ∀ b xs, H b = some (.tup xs) → upd H d u' b = some (.tup xs) := fun b xs h => by
    rw [upd_ne (fun z => by rw [z, e] at h; exact nt xs (Option.some.inj h))]; exact h
  refine ⟨I.ok, I.os, I.bare, ⟨I.base.keep, I.base.slot, fun b o h n hx => ?_, I.base.there, fun b xs h => tp b xs (I.base.tups b xs h), fun b o v h => ?_, fun b ps h => ?_⟩, I.loc, I.cell, ?_, fun x c h => ?_, fun p hp => ?_, fun b v h => ?_, I.len⟩
  · have := I.base.free b o h n hx
    rw [upd_ne (ne this)]; exact this
  · have h1 := I.base.frzs b o v h
    rw [upd_ne]
    · exact h1
    · intro z
      subst z
      rcases nf with nf | nf
      · rw [e] at h1; exact nf o v (Option.some.inj h1)
      · exact nf o v h
  · obtain ⟨more, h1⟩ := I.base.tbls b ps h
    refine ⟨more, ?_⟩
    rw [upd_ne]
    · exact h1
    · intro z
      subst z
      rw [e] at h1
      exact nb _ (Option.some.inj h1)
  · rw [upd_ne (ne I.free)]; exact I.free
  · rw [upd_ne (ne (I.freeC x c h))]; exact I.freeC x c h
  · obtain ⟨h1, h2, h3⟩ := I.pin p hp
    exact ⟨h1, by rw [upd_ne (ne h2)]; exact h2, h3⟩
  · by_cases hb : b = d
    · subst hb
      rw [upd_same] at h
      cases h
      exact new
    · rw [upd_ne hb] at h
      refine (I.hok b v h).stay (fun _ _ _ q => q) (fun c q => ?_) tp
      rw [upd_ne (fun z => by rw [z, e] at q; exact no b (Option.some.inj q))]; exact q
end
theorem iter_key {prog : Program} {w : World} {A : Around} {E : Value → Shared → Prop} {s : Shared} {d : Addr} {o : Obj} {es : Array DictEntry} {ep : Nat} {Q : Value → Shared → Prop} (hn : (d == sysModules) = false) (hd : s.heap.get? d = some o) (ho : o.ExactDict) (dt : o.data = .dict es ep)
    (h : Q (.ref s.heap.objs.size) { s with heap := s.heap.push { cls := .type "dict_keyiterator", data := .fields #[.ref d, .int 0 0, .int es.size 0, .int ep 0] } }) : wpAny (model prog w) A (pyIter (.ref d)) Q E s := by
  have hT : s.TypeIs (.ref d) "dict" := ⟨_, hd, ho.1⟩
  refine wpAny_pyIter_slot hT F.slot_dict_iter (wpAny_call_entry F.slot_dict_iter hT F.entry_dict_iter ?_ (F.args_dict_iter_1 _))
  unfold Builtin.«dict.__iter__» Builtin.Dict.dictSlotNone Builtin.Dict.notOrdered
  rw [if_pos (by decide)]
  refine wpAny_bind (wpAny_bind (wpAny_bind (wpAny_typeOf hT ?_)))
  rw [if_neg (by decide)]
  refine wpAny_pure ?_
  rw [show slotArgs "__iter__" 0 ⟨[.ref d], []⟩ = pure (.ref d, []) from rfl]
  refine wpAny_bind (wpAny_pure (wpAny_pure (wpAny_bind (wpAny_pure (wpAny_bind ?_)))))
  unfold Builtin.Dict.showsAll
  rw [hn]
  refine wpAny_pure (wpAny_bind (wpAny_dictEntries hd dt (wpAny_bind (wpAny_dictEpoch hd dt (wpAny_bind ?_)))))
  unfold newFields
  refine wpAny_newObj_type (wpAny_pure ⟨_, rfl, "dict_keyiterator", _, ⟨_, Heap.get?_push_size _ rfl, rfl⟩, F.slot_dict_keyiterator_next.lookup, ?_⟩) (by size_fits)
  exact h
section
variable {X : Cx}
end
section
variable {X : Cx} {K : PySem.W.Frag}
end
section
variable {X : Cx} {pins : List (Addr × Obj)} {σ : St} {H : Hp} {s : Shared} {a b : Addr} {v : V} {A : Around} {E : Value → Shared → Prop}
end
section
variable {X : Cx} {o e : Expr} {apos cpos : Pos} {td ty : TE}
end
theorem fm_congr {α β : Type} {f g : α → Option β} : ∀ {l : List α}, (∀ x ∈ l, f x = g x) → l.filterMap f = l.filterMap g
  | [], _ => rfl
  | x :: l, h => by rw [List.filterMap_cons, List.filterMap_cons, h x List.mem_cons_self, fm_congr fun y hy => h y (List.mem_cons_of_mem _ hy)]
section
variable {prog : Program} {w : World} {A : Around} {E : Value → Shared → Prop} {s : Shared}
theorem applied_rev {sl : Addr} {vk : Value} {n : Nat} {Q : Int × Int × Nat → Shared → Prop} (hs : s.heap.IsSliceOf sl .none .none vk) (pk : IsPart vk (some (-1)))
    (h : Q ((n : Int) - 1, -1, n) s) : wpAny (model prog w) A (Builtin.Slice.sliceApplied (.ref sl) (pure (n : Int))) Q E s := by
  obtain ⟨os, hos, hcs, hds⟩ := id hs
  unfold Builtin.Slice.sliceApplied Builtin.Slice.sliceFields
  refine wpAny_bind (wpAny_bind (wpAny_field hos hds (x := .none) rfl (wpAny_bind (wpAny_field hos hds (x := .none) rfl (wpAny_bind (wpAny_field hos hds (x := vk) rfl (wpAny_pure ?_)))))))
  refine wpAny_bind (HT.slicePart_ pk ?_)
  show wpAny _ _ (if ((-1 : Int) == 0) = true then _ else _) _ _ s
  rw [if_neg (by decide)]
  refine wpAny_bind (HT.slicePart_ .none (wpAny_bind (HT.slicePart_ .none (wpAny_bind (wpAny_pure ?_)))))
  show wpAny _ _ (match Builtin.Slice.sliceAdjust none none (-1) (n : Int) with | (lo, hi) => pure (lo, (-1 : Int), Builtin.Slice.slicePlaces lo hi (-1))) _ _ s
  have e1 : Builtin.Slice.sliceAdjust none none (-1) (n : Int) = ((n : Int) - 1, -1) := by
    unfold Builtin.Slice.sliceAdjust
    have h1 : ((-1 : Int) < 0) := by omega
    simp only [if_pos h1]
  rw [e1]
  show wpAny _ _ (pure ((n : Int) - 1, (-1 : Int), Builtin.Slice.slicePlaces ((n : Int) - 1) (-1) (-1))) _ _ s
  have e2 : Builtin.Slice.slicePlaces ((n : Int) - 1) (-1) (-1) = n := by
    unfold Builtin.Slice.slicePlaces
    rw [if_neg (by omega), show (- -1 : Int) = 1 from rfl, Int.ediv_one]
    split <;> omega
  rw [e2]
  exact wpAny_pure h
theorem item_rev {t sl : Addr} {items : Array Value} {vk : Value} {Q : Value → Shared → Prop} (ht : IsTup s.heap t items) (hs : s.heap.IsSliceOf sl .none .none vk) (pk : IsPart vk (some (-1)))
    (h : Q (.ref s.heap.objs.size) { s with heap := s.heap.push { cls := .type "tuple", data := .seq ((List.range items.size).filterMap fun m => items.toList[items.size - 1 - m]?).toArray } })
    (hsz : items.size ≤ sizeLine) : wpAny (model prog w) A (getItem (.ref t) (.ref sl)) Q E s := by
  have htake : sizeOk (.seq ((List.range items.size).filterMap fun m => items.toList[items.size - 1 - m]?).toArray) := by
    show ((List.range items.size).filterMap fun m => items.toList[items.size - 1 - m]?).toArray.size ≤ sizeLine
    rw [List.size_toArray]
    refine Nat.le_trans (List.length_filterMap_le _ _) ?_
    rw [List.length_range]
    omega
  obtain ⟨os, hos, hcs, hds⟩ := id hs
  have hTs : s.TypeIs (.ref sl) "slice" := ⟨os, hos, hcs⟩
  unfold getItem
  try with_reducible refine wpAny_holding ?_
  first | refine wpAny_bind (wpAny_pure ?_) | skip
  refine wpAny_bind (wpAny_sequenceKey ht.typeIs (by decide) ?_)
  refine wpAny_bind (wpAny_callSpecial?_slot (name := Str.ofString "__getitem__") ht.typeIs PyProof.Rows.slot_tuple_getitem
    (wpAny_call_entry PyProof.Rows.slot_tuple_getitem ht.typeIs entry_tuple_getitem ?_ (args_tuple_getitem _ _)))
  show wpAny _ _ (Builtin.Tuple.tupleItemsOf (.ref t) >>= _) _ _ s
  refine wpAny_bind (tupleItemsOf_ ht ?_)
  refine wpAny_bind (wpAny_typeOf hTs ?_)
  rw [if_pos (by decide)]
  refine wpAny_bind (applied_rev hs pk ?_)
  show wpAny _ _ (if (((items.size : Nat) : Int) - 1 == 0 && (-1 : Int) == 1 && items.size == items.size) = true then _ else _) _ _ s
  rw [if_neg (by simp)]
  have e : ((List.range items.size).filterMap fun (m : Nat) => items[(((items.size : Nat) : Int) - 1 + (m : Int) * -1).toNat]?) = (List.range items.size).filterMap fun m => items.toList[items.size - 1 - m]? := by
    refine fm_congr fun m hm => ?_
    have hm' := List.mem_range.mp hm
    have : (((items.size : Nat) : Int) - 1 + (m : Int) * -1).toNat = items.size - 1 - m := by omega
    rw [this]
    simp
  rw [e]
  first
    | exact wpAny_bind (m := Builtin.Tuple.tupleExact _) (wpAny_newObj_type (wpAny_pure ⟨_, rfl, wpAny_pure h⟩) htake)
    | exact wpAny_bind (m := Builtin.Tuple.tupleExact _) (wpAny_newObj_type (wpAny_bind (wpAny_pure (wpAny_pure ⟨_, rfl, wpAny_pure h⟩))) htake)
    | exact wpAny_bind (wpAny_bind (m := Builtin.Tuple.tupleExact _) (wpAny_newObj_type (wpAny_pure (wpAny_pure ⟨_, rfl, wpAny_pure h⟩)) htake))
    | exact wpAny_bind (wpAny_bind (m := Builtin.Tuple.tupleExact _) (wpAny_newObj_type (wpAny_pure ⟨_, rfl, wpAny_pure h⟩) htake))
end
theorem range_rev {α : Type} (xs : List α) : ((List.range xs.length).filterMap fun m => xs[xs.length - 1 - m]?) = xs.reverse := by
  have e : ∀ n, n ≤ xs.length → ((List.range n).filterMap fun m => xs[xs.length - 1 - m]?) = xs.reverse.take n := by
    intro n
    induction n with
    | zero => intro _; rfl
    | succ n ih =>
      intro hn
      rw [List.range_succ, List.filterMap_append, ih (by omega), List.take_add_one, List.getElem?_reverse (by omega)]
      rw [List.filterMap_cons, List.getElem?_eq_getElem (by omega)]
      rfl
  rw [e _ (Nat.le_refl _), List.take_of_length_le (by simp)]
def rRevT (K : PySem.W.Frag) : V → Option Int → Option Int → Option Int → Hp → VK → Prop := fun x lo hi st H Q => ∃ (a : Addr) (xs : List V), x = .ref a ∧ SqT K H a xs ∧ lo = none ∧ hi = none ∧ st = some (-1) ∧ ∀ p, H p = none → Q (.ref p) (upd H p (.tup xs.reverse))
theorem sl3_revT {X : Cx} {K : PySem.W.Frag} (hK : X.K = K) : SlR3 X (rRevT K) := by
  subst hK
  intro pins s σ H x v vl vu vk lo hi st sl Q I rx hs pl pu pk h
  obtain ⟨a, xs, rfl, hx, rfl, rfl, rfl, q⟩ := h
  cases rx
  cases pl
  cases pu
  obtain ⟨its, r, ht, hz⟩ := I.tuple hx
  have hlen := r.length
  refine ⟨"tuple", _, PyProof.Rows.slot_tuple_getitem.lookup, ht.typeIs, ?_⟩
  refine item_rev ht hs pk ?_ (by rw [List.size_toArray]; omega)
  rw [show (List.filterMap (fun m => its.toArray.toList[its.toArray.size - 1 - m]?) (List.range its.toArray.size)) = its.reverse from range_rev its]
  have rv : Vals xs.reverse its.reverse := by
    have := vals_picks r (fun m => xs.length - 1 - m) (List.range xs.length)
    unfold picks at this
    rw [range_rev] at this
    rw [hlen, range_rev] at this
    exact this
  refine ⟨.ref s.heap.objs.size, _, I.laid (t' := s.toks) (o := .tup xs.reverse) (fun b ob q => Heap.get?_push_of_some _ q) (Nat.le_refl _) ?_, rfl, q _ (I.hok.fresh (Nat.le_refl _))⟩
  refine ⟨by rw [List.length_reverse]; omega, _, rv, ?_⟩
  exact ⟨IsTup.new _ _, NoD.new _ _⟩
end L2
namespace Lw
open PySem PySem.Spec PyProof.Rows L2 Ma MaR
abbrev sortAsk (K : PySem.W.Frag) (sp : Sp) (vs : List V) (H1 : Hp) (Q : VK) : Prop := ∃ (l : Addr) (xs : List V) (kz : List (Int × List Int)) (Pv : Addr → Nat → List V → Hp → Prop), vs = [.ref l] ∧ SqL K H1 l xs ∧ xs.length < 64 ∧ kz.length = xs.length ∧
  (∀ (i j : Nat) (a b : Int × List Int), kz[i]? = some a → kz[j]? = some b → a.1 = b.1 → a.2.length = b.2.length) ∧ TotLt (fun i j => ltK (kz.getD i (0, [])) (kz.getD j (0, []))) ∧
  (∀ S, H1 S = none → Pv S 0 [] (upd H1 S (.lst []))) ∧
  (∀ S i ks H, Pv S i ks H → ∀ y, xs[i]? = some y → sp [y] H (fun v H2 => H2 S = some (.lst ks) ∧ ks.length = i ∧ Pv S (i + 1) (ks ++ [v]) (upd H2 S (.lst (ks ++ [v])))) E0) ∧
  (∀ S ks H, Pv S xs.length ks H → H S = some (.lst ks) ∧ ks.length = xs.length ∧ (∀ (i : Nat) (v : V) (k : Int × List Int), ks[i]? = some v → kz[i]? = some k → KeyAt H v k) ∧
    ∀ p : Array Nat, PermN xs.length p → SoTo (fun i j => ltK (kz.getD i (0, [])) (kz.getD j (0, []))) p xs.length → ∀ D, upd H S (.lst []) D = none → Q (.ref D) (upd (upd H S (.lst [])) D (.lst (p.toList.map fun i => xs.getD i .non))))
theorem sort_wds {K : PySem.W.Frag} {H : Hp} {Q : VK} {l : Addr} {ws : List (List Nat)} (hq : SqL K H l (wds ws)) (h64 : ws.length < 64) (hall : ∀ x ∈ ws, AllL x ∧ x.length ≤ 900)
    (k : ∀ (D : Addr) (ws' : List (List Nat)) (H' : Hp), H D = none → Same H H' → H' D = some (.lst (wds ws')) → ws'.Perm ws → ws'.Pairwise leW → Q (.ref D) H') : sortAsk K spKey [.ref l] H Q := by
  refine ⟨l, wds ws, ws.map keyW, fun S i ks H1 => H S = none ∧ Same H H1 ∧ H1 S = some (.lst ks) ∧ ks.length = i ∧ ∀ (j : Nat) (v : V) (x : List Nat), ks[j]? = some v → ws[j]? = some x → ∃ p a : Addr, v = .ref p ∧ a ≠ S ∧ H1 p = some (.tup [.int (keyW x).1, .ref a]) ∧ H1 a = some (.lst ((keyW x).2.map V.int)), rfl, hq, by rw [wds_len]; exact h64, by rw [wds_len, List.length_map], fun i j a b ha hb e => ?_, keys_tot ws, fun S hS => ⟨hS, Same.new hS, upd_same, rfl, fun j v x hv => by simp at hv⟩, ?_, ?_⟩
  · rw [List.getElem?_map] at ha hb
    obtain ⟨x, _, rfl⟩ := Option.map_eq_some_iff.mp ha
    obtain ⟨y, _, rfl⟩ := Option.map_eq_some_iff.mp hb
    have h1 := keyW_ok x
    have h2 := keyW_ok y
    unfold KOk at h1 h2
    omega
  · rintro S i ks H1 ⟨hS, s1, eS, hkl, hks⟩ y hy
    obtain ⟨x, hx, rfl⟩ := wds_get hy
    obtain ⟨hxa, hxl⟩ := hall x (List.mem_of_getElem? hx)
    refine ⟨x, rfl, hxa, hxl, fun p a H2 hp ha s2 ep ea => ⟨s2 _ _ eS, hkl, hS, (s1.trans s2).upd hS, upd_same, by rw [List.length_append, hkl]; rfl, fun j v z hv hz => ?_⟩⟩
    have hpS : p ≠ S := (ne_of_none eS hp).symm
    have haS : a ≠ S := (ne_of_none eS ha).symm
    by_cases hj : j < ks.length
    · rw [List.getElem?_append_left hj] at hv
      obtain ⟨p', a', e0, e1, e2, e3⟩ := hks j v z hv hz
      refine ⟨p', a', e0, e1, ?_, ?_⟩
      · rw [upd_ne (ne_of e2 eS (by intro z; cases z))]; exact s2 _ _ e2
      · rw [upd_ne e1]; exact s2 _ _ e3
    · have ej : j = ks.length := by
        have := (List.getElem?_eq_some_iff.mp hv).1
        rw [List.length_append, List.length_singleton] at this
        omega
      subst ej
      rw [hkl] at hz
      rw [hx] at hz
      cases hz
      have ev : v = .ref p := by simpa using hv.symm
      subst ev
      exact ⟨p, a, rfl, haS, by rw [upd_ne hpS]; exact ep, by rw [upd_ne haS]; exact ea⟩
  · rintro S ks H1 ⟨hS, s1, eS, hkl, hks⟩
    refine ⟨eS, hkl, fun i v q hv hq2 => ?_, fun p hp so D hD => ?_⟩
    · rw [List.getElem?_map] at hq2
      obtain ⟨x, hx, rfl⟩ := Option.map_eq_some_iff.mp hq2
      obtain ⟨p, a, e0, _, e2, e3⟩ := hks i v x hv hx
      exact ⟨p, a, e0, e2, e3⟩
    · rw [wds_len] at hp so
      have hb : ∀ i ∈ p.toList, i < ws.length := fun i hi => by
        have := (Array.perm_iff_toList_perm.mp hp).mem_iff.mp hi
        simpa using this
      rw [wds_perm ws p.toList hb]
      have sS : Same H (upd H1 S (.lst [])) := s1.upd hS
      exact k D _ _ (sS.free hD) (sS.upd' hD) upd_same (perm_words hp) (sorted_words rfl hp so)
end Lw
namespace L2
open PySem PySem.Spec PyProof.Rows
section
variable {prog : Program} {w : World} {A : Around} {E : Value → Shared → Prop} {s : Shared}
end
section
variable {X : Cx}
end
end L2
namespace Lw
open PySem PySem.Spec PyProof.Rows L2 Ma MaR
section
variable (c : Nat) (sd : List Nat)
end
section
variable {c : Nat} {sd : List Nat}
theorem low_of {c e : Nat} (hc : isL c) (he : isL e) (hl : isLow e = true) : e = lo c ↔ e = c ∨ e = con c := by
  rcases isL_cases hc with rfl | rfl | rfl | rfl | rfl | rfl | rfl | rfl <;> rcases isL_cases he with rfl | rfl | rfl | rfl | rfl | rfl | rfl | rfl <;> revert hl <;> decide
end
end Lw
namespace L2
open PySem PySem.Spec PyProof.Rows
end L2
namespace Lw
open PySem PySem.Spec PyProof.Rows L2 Ma MaR
end Lw
namespace Lw
open PySem PySem.Spec PyProof.Rows L2 Ma MaR
theorem letV_take {n : Nat} (h1 : 1 ≤ n) (h4 : n ≤ 4) : letV.take (2 * n) = lstC (letsN n) := by
  rcases n14 h1 h4 with rfl | rfl | rfl | rfl <;> rfl
def spLetT (K : PySem.W.Frag) : Sp := fun vs H Q _ => ∃ n : Nat, vs = [.int (n : Nat)] ∧ 1 ≤ n ∧ n ≤ 4 ∧ ∀ (p : Addr) (H' : Hp), Same H H' → SqT K H' p (lstC (letsN n)) → Q (.ref p) H'
end Lw
namespace L2
open PySem PySem.Spec PyProof.Rows
theorem eqV_refl {x : V} (h : flatV x = true) : eqV x x = true := by
  cases x <;> first | (simp [eqV]; done) | exact absurd (show false = true from h) Bool.false_ne_true
section
variable {X : Cx}
open Classical in
end
section
variable {prog : Program} {w : World} {A : Around} {E : Value → Shared → Prop} {K : PySem.W.Frag} {C f : Addr} {h : Heap} {g : Array GenState} {d : Drawn} {t : Nat} {os : OsState}
end
section
variable {prog : Program} {w : World} {A : Around} {E : Value → Shared → Prop} {K : PySem.W.Frag} {C f a : Addr} {s : Shared} {vs : Array Value} {sl : Array (Option Value)} {name : Str} {v : Value}
end
section
variable {X : Cx} {pins : List (Addr × Obj)} {σ : St} {H : Hp} {s : Shared} {C f a : Addr}
end
section
variable {X : Cx} {k : Nat} {f C : Addr} {fd : FuncData} {ps : List Str} {sp : Sp} {x m : Str} {p pos pos' apos : Pos} {e o value : Expr} {es : List Expr} {ta tv : TE} {t : TA}
end
section
variable {prog : Program} {w : World} {A : Around} {E : Value → Shared → Prop} {K : PySem.W.Frag} {C f a : Addr} {ox : Obj} {od : Option Obj} {s : Shared} {name : Str} {v : Value} {tk : Tok}
end
section
variable {X : Cx} {pins : List (Addr × Obj)} {σ : St} {H : Hp} {s : Shared} {a C f dx : Addr} {D : Option Addr}
end
section
variable {M : Model} {A : Around} {E : Value → Shared → Prop} {s : Shared} {base : Heap} {env : Env} {outer : List Env} {L a : Addr} {oe : Obj} {vs : Array Value}
end
section
variable {X : Cx} {pins : List (Addr × Obj)} {σ : St} {H : Hp} {s : Shared} {C f a : Addr} {D : Option Addr} {h' : Heap}
end
section
variable {X : Cx} {pins : List (Addr × Obj)} {σ : St} {H : Hp} {s : Shared}
end
section
variable {X : Cx} {CX : CXT} {k : Nat} {f C : Addr} {fd : FuncData} {ps : List Str} {sp : Sp} {dvs : List V} {ds : List Value} {EX : St → XK} {x m : Str} {p pos apos : Pos} {e o : Expr} {es : List Expr} {ta : TE} {t : TA}
end
section
variable {X : Cx}
end
section
variable {X : Cx} {K : PySem.W.Frag}
end
end L2
namespace Lw
open PySem PySem.Spec PyProof.Rows L2
end Lw
namespace L2
open PySem PySem.Spec PyProof.Rows
end L2
namespace Lw
open PySem PySem.Spec PyProof.Rows L2 Ma MaR
end Lw
namespace Lw
open PySem PySem.Spec PyProof.Rows L2 Ma MaR
end Lw
namespace Lw
open PySem PySem.Spec PyProof.Rows L2 Ma MaR
end Lw
namespace Lw
open PySem PySem.Spec PyProof.Rows L2 Ma MaR
end Lw
namespace Lw
open PySem PySem.Spec PyProof.Rows L2 Ma MaR
end Lw
namespace Lw
open PySem PySem.Spec PyProof.Rows L2 Ma MaR
end Lw
namespace Lw
open PySem PySem.Spec PyProof.Rows L2 Ma MaR
end Lw
namespace L2
open PySem PySem.Spec PyProof.Rows
end L2
namespace Lw
open PySem PySem.Spec PyProof.Rows L2
end Lw
namespace L2
open PySem PySem.Spec PyProof.Rows
end L2
namespace Lw
open PySem PySem.Spec PyProof.Rows L2 Ma MaR
end Lw
namespace Lw
open PySem PySem.Spec PyProof.Rows L2 Ma MaR
end Lw
namespace Lw
open PySem PySem.Spec PyProof.Rows L2 Ma MaR
theorem flat_ty (K : PySem.W.Frag) (H : Hp) {v : V} (h : flatV v = true) : ∃ t, BTy K H v t ∧ subT t "list" = false ∧ subT t "tuple" = false := by
  cases v with
  | non => exact ⟨_, .non, by decide, by decide⟩
  | bl b => exact ⟨_, .bl b, by decide, by decide⟩
  | int i => exact ⟨_, .int i, by decide, by decide⟩
  | str x => exact ⟨_, .str x, by decide, by decide⟩
  | _ => exact absurd (show false = true from h) Bool.false_ne_true
end Lw
namespace Lw
open PySem PySem.Spec PyProof.Rows L2 Ma MaR
end Lw
namespace Lw
open PySem PySem.Spec PyProof.Rows L2 Ma MaR
end Lw
namespace L2
open PySem PySem.Spec PyProof.Rows
section
variable {X : Cx} {es : List Expr} {te : TE} {t : TA}
end
end L2
namespace Lw
open PySem PySem.Spec PyProof.Rows L2 Ma MaR
end Lw
namespace L2
open PySem PySem.Spec PyProof.Rows
section
variable {X : Cx} {es : List Expr} {te : TE} {t : TA}
end
section
variable {X : Cx} {scope : Scope} {x : Str} {ix : List Nat} {qual : Str} {fa : Addr} {cdv : Value}
end
section
variable {X : Cx} {f : Addr} {sp : Sp} {rlt : R2}
end
section
variable {X : Cx} {scope : Scope} {x : Str} {ix : List Nat} {params : Arguments} {body : Expr} {pos : Pos} {c P : Addr} {pins : List (Addr × Obj)} {σ : St} {H : Hp} {s : Shared} {Q : Value → Shared → Prop} {E : Value → Shared → Prop}
end
end L2
namespace LtL
open PySem PyProof.Rows HT
open PySem.SeqAt
open PySem.AutoSeq1 (wpAny_loadPart')
open PySem.MeetsSeq PySem.MeetsSeq2 PySem.MeetsSeq3
end LtL
namespace L2
open PySem PySem.Spec PyProof.Rows
section
variable {X : Cx} {scope : Scope} {x : Str} {ix : List Nat} {params : Arguments} {body e : Expr} {lpos p kpos pos : Pos} {c P : Addr} {ta : TA} {te : TE} {rlt : R2} {k : Nat}
end
section
variable {ts : List Tb} {H H1 H2 H' : Hp} {t : Tb} {c' : Addr} {K : PySem.W.Frag}
end
section
variable {P : Program} {w : World} {K : PySem.W.Frag} {mg : Str → Option Value} {base : Heap}
end
end L2
namespace Lw
open PySem PySem.Spec PyProof.Rows L2 Ma MaR
end Lw
namespace L2
open PySem PySem.Spec PyProof.Rows
theorem pe_globS {X : Cx} {x : Str} {z : Str} {pos : Pos} (hg : Gl X x) (hm : ∃ t, X.mg x = some (.str z t)) (hd : (x == ("__debug__" : Str)) = false := by decide) : PE X (.Name x pos) (tC (.str z)) := by
  obtain ⟨t, hm⟩ := hm
  exact pe_glob hg hm ⟨t, rfl⟩ hd
end L2
namespace Lw
open PySem PySem.Spec PyProof.Rows L2 Ma MaR
def StepOk (n : Nat) (H : Hp) (v : V) (st : List (List Nat)) : Prop := ∃ p, v = .ref p ∧ ((∃ c sd q, H p = some (.tup [.str (Str.ofString "change"), .str (S [c]), .ref q]) ∧ H q = some (.tup (lstC sd)) ∧ GoodC n c sd ∧ st = chgR n c sd) ∨ (∃ q, H p = some (.tup [.str (Str.ofString "exchange"), .ref q]) ∧ H q = some (.tup (wds st)) ∧ RT st n 1 ∧ ∀ x ∈ st, OfN n x))
def Tups (H H' : Hp) : Prop := ∀ b xs, H b = some (.tup xs) → H' b = some (.tup xs)
theorem Tups.same {H H' : Hp} (s : Same H H') : Tups H H' := fun b xs h => s b _ h
theorem Tups.kp {H H' : Hp} {fl sc : Addr} (f : IsFl H fl sc) (k : Kp fl H H') : Tups H H' := fun b xs h => kp_tup f k h
theorem Tups.trans {H H1 H2 : Hp} (a : Tups H H1) (b : Tups H1 H2) : Tups H H2 := fun c xs h => b c xs (a c xs h)
theorem Tups.set {H : Hp} {l : Addr} {xs ys : List V} (h : H l = some (.lst xs)) : Tups H (upd H l (.lst ys)) := fun b zs e => by rw [upd_ne (ne_of e h (by intro z; cases z))]; exact e
theorem StepOk.tups {n : Nat} {H H' : Hp} {v : V} {st : List (List Nat)} (h : StepOk n H v st) (t : Tups H H') : StepOk n H' v st := by
  obtain ⟨p, rfl, h⟩ := h
  rcases h with ⟨c, sd, q, h1, h2, h3, h4⟩ | ⟨q, h1, h2, h3, h4⟩
  · exact ⟨p, rfl, .inl ⟨c, sd, q, t _ _ h1, t _ _ h2, h3, h4⟩⟩
  · exact ⟨p, rfl, .inr ⟨q, t _ _ h1, t _ _ h2, h3, h4⟩⟩
theorem StepOk.rt {n : Nat} {H : Hp} {v : V} {st : List (List Nat)} (h : StepOk n H v st) (h1 : 1 ≤ n) (h4 : n ≤ 4) : RT st n 3 ∧ ∀ x ∈ st, OfN n x := by
  obtain ⟨p, rfl, h⟩ := h
  rcases h with ⟨c, sd, q, _, _, g, rfl⟩ | ⟨q, _, _, g, g2⟩
  · exact ⟨chgR_rt h4 (letsN_isL g.let'), chgR_ofn h1 h4 g.let'⟩
  · exact ⟨g.mono (by decide), g2⟩
def Steps (n : Nat) (H : Hp) : List V → List (List (List Nat)) → Prop
  | [], [] => True
  | v :: vs, st :: sts => StepOk n H v st ∧ Steps n H vs sts
  | _, _ => False
theorem Steps.tups {n : Nat} {H H' : Hp} (t : Tups H H') : ∀ {vs : List V} {sts : List (List (List Nat))}, Steps n H vs sts → Steps n H' vs sts
  | [], [], _ => trivial
  | _ :: _, _ :: _, ⟨h1, h2⟩ => ⟨h1.tups t, Steps.tups t h2⟩
  | [], _ :: _, h => h.elim
  | _ :: _, [], h => h.elim
theorem Steps.len {n : Nat} {H : Hp} : ∀ {vs : List V} {sts : List (List (List Nat))}, Steps n H vs sts → vs.length = sts.length
  | [], [], _ => rfl
  | _ :: _, _ :: _, ⟨_, h2⟩ => by rw [List.length_cons, List.length_cons, Steps.len h2]
  | [], _ :: _, h => h.elim
  | _ :: _, [], h => h.elim
theorem Steps.get {n : Nat} {H : Hp} : ∀ {vs : List V} {sts : List (List (List Nat))}, Steps n H vs sts → ∀ {i : Nat} {v : V}, vs[i]? = some v → ∃ st, sts[i]? = some st ∧ StepOk n H v st
  | [], _, _, i, v, hv => by simp at hv
  | w :: vs, st :: sts, ⟨h1, h2⟩, 0, v, hv => by
    have : w = v := by simpa using hv
    subst this
    exact ⟨st, rfl, h1⟩
  | w :: vs, st :: sts, ⟨h1, h2⟩, i + 1, v, hv => by
    obtain ⟨s, hs, ok⟩ := Steps.get h2 (i := i) (v := v) (by simpa using hv)
    exact ⟨s, by simpa using hs, ok⟩
  | _ :: _, [], h, _, _, _ => h.elim
def IsRoad (n : Nat) (H : Hp) (p : Addr) (sts : List (List (List Nat))) : Prop := ∃ vs, H p = some (.tup vs) ∧ Steps n H vs sts
theorem IsRoad.tups {n : Nat} {H H' : Hp} {p : Addr} {sts : List (List (List Nat))} (h : IsRoad n H p sts) (t : Tups H H') : IsRoad n H' p sts := by
  obtain ⟨vs, h1, h2⟩ := h
  exact ⟨vs, t _ _ h1, h2.tups t⟩
def roadR (n : Nat) (sts : List (List (List Nat))) : List (List Nat) := sts.foldl thenR (lowW n)
theorem roadR_succ {n i : Nat} {sts : List (List (List Nat))} {st : List (List Nat)} (h : sts[i]? = some st) : roadR n (sts.take (i + 1)) = thenR (roadR n (sts.take i)) st := by
  unfold roadR
  rw [List.take_add_one, h, List.foldl_append]
  rfl
theorem roadR_rt {n : Nat} (h1 : 1 ≤ n) (h4 : n ≤ 4) : ∀ (sts : List (List (List Nat))) (f : List (List Nat)) (M : Nat), RT f n M → (∀ x ∈ f, OfN n x) → (∀ st ∈ sts, RT st n 3 ∧ ∀ x ∈ st, OfN n x) → RT (sts.foldl thenR f) n (M * 3 ^ sts.length) ∧ ∀ x ∈ sts.foldl thenR f, OfN n x
  | [], f, M, hf, ho, _ => ⟨by simpa using hf, ho⟩
  | st :: sts, f, M, hf, ho, h => by
    obtain ⟨g1, g2⟩ := h st List.mem_cons_self
    have := roadR_rt h1 h4 sts (thenR f st) (M * 3) (then_rt hf g1) (then_ofn h1 h4 g2) fun s hs => h s (List.mem_cons_of_mem _ hs)
    rw [List.foldl_cons, List.length_cons, Nat.pow_succ, Nat.mul_comm (3 ^ sts.length), ← Nat.mul_assoc]
    exact this
theorem Steps.good {n : Nat} {H : Hp} (h1 : 1 ≤ n) (h4 : n ≤ 4) : ∀ {vs : List V} {sts : List (List (List Nat))}, Steps n H vs sts → ∀ st ∈ sts, RT st n 3 ∧ ∀ x ∈ st, OfN n x
  | [], [], _, st, hst => nomatch hst
  | _ :: _, _ :: _, ⟨h, h2⟩, st, hst => by
    rcases List.mem_cons.mp hst with rfl | hst
    · exact h.rt h1 h4
    · exact Steps.good h1 h4 h2 st hst
  | [], _ :: _, h, _, _ => h.elim
  | _ :: _, [], h, _, _ => h.elim
theorem pow3' {i : Nat} (h : i ≤ 5) : 3 ^ i ≤ 243 := Nat.le_trans (Nat.pow_le_pow_right (by decide) h) (by decide)
theorem road_take {n : Nat} (h1 : 1 ≤ n) (h4 : n ≤ 4) {sts : List (List (List Nat))} (h : ∀ st ∈ sts, RT st n 3 ∧ ∀ x ∈ st, OfN n x) (i : Nat) (hi : i ≤ sts.length) : RT (roadR n (sts.take i)) n (3 ^ i) ∧ ∀ x ∈ roadR n (sts.take i), OfN n x := by
  have := roadR_rt h1 h4 (sts.take i) (lowW n) 1 (lowW_rt h1 h4) (low_ofn h1 h4) fun st hs => h st (List.mem_of_mem_take hs)
  rw [List.length_take, Nat.min_eq_left hi, Nat.one_mul] at this
  exact this
def spStep : Sp := fun vs H Q _ => ∃ (n : Nat) (v : V) (st : List (List Nat)), vs = [.int (n : Nat), v] ∧ 1 ≤ n ∧ n ≤ 4 ∧ StepOk n H v st ∧ ∀ (t : Addr) (H' : Hp), Same H H' → H' t = some (.tup (wds st)) → Q (.ref t) H'
def spAlong : Sp := fun vs H Q _ => ∃ (n : Nat) (t p : Addr) (sts : List (List (List Nat))), vs = [.int (n : Nat), .ref t, .ref p] ∧ 1 ≤ n ∧ n ≤ 4 ∧ H t = some (.tup (wds (roadR n []))) ∧ IsRoad n H p sts ∧ sts.length ≤ 6 ∧ ∀ (t : Addr) (H' : Hp), Same H H' → H' t = some (.tup (wds (roadR n sts))) → Q (.ref t) H'
def spRoadTold : Sp := fun vs H Q _ => ∃ (n : Nat) (p : Addr) (sts : List (List (List Nat))), vs = [.int (n : Nat), .ref p] ∧ 1 ≤ n ∧ n ≤ 4 ∧ IsRoad n H p sts ∧ sts.length ≤ 6 ∧ ∀ (t : Addr) (H' : Hp), Same H H' → H' t = some (.tup (wds (roadR n sts))) → Q (.ref t) H'
theorem lstC_erase : ∀ (w : List Nat) (i : Nat), (lstC w).eraseIdx i = lstC (w.eraseIdx i)
  | [], _ => rfl
  | _ :: _, 0 => rfl
  | c :: w, i + 1 => by
    show V.str (S [c]) :: (lstC w).eraseIdx i = V.str (S [c]) :: lstC (w.eraseIdx i)
    rw [lstC_erase w i]
end Lw
namespace PySem
open Sem (wp)
section
variable {prog : Program} {w : World} {A : Around} {E : Value → Shared → Prop} {s : Shared}
end
end PySem
namespace L2
open PySem PySem.Spec PyProof.Rows
section
variable {X : Cx}
end
end L2
namespace Lw
open PySem PySem.Spec PyProof.Rows L2 Ma MaR
end Lw
namespace Lw
open PySem PySem.Spec PyProof.Rows L2 Ma MaR
end Lw
namespace Lw
open PySem PySem.Spec PyProof.Rows L2 Ma MaR
end Lw
namespace Lw
open PySem PySem.Spec PyProof.Rows L2 Ma MaR
end Lw
namespace Lw
open PySem PySem.Spec PyProof.Rows L2 Ma MaR
structure Exch (n : Nat) (cs : List Nat) : Prop where
  len : cs.length = n
  mem : ∀ c ∈ cs, c ∈ letsN n
  perm : (cs.map lo).Perm (lowN n)
def ones' (cs : List Nat) : List (List Nat) := cs.map fun c => [c]
def spExchP : Sp := fun vs H Q _ => ∃ (fl sc : Addr) (n : Nat), vs = [.ref fl, .int (n : Nat)] ∧ IsFl H fl sc ∧ 1 ≤ n ∧ n ≤ 4 ∧ ∀ (p : Addr) (cs : List Nat) (H' : Hp), H p = none → Exch n cs → RT (ones' cs) n 1 → (∀ x ∈ ones' cs, OfN n x) → H' p = some (.tup (wds (ones' cs))) → IsFl H' fl sc → Kp fl H H' → Q (.ref p) H'
theorem lo_low {d : Nat} (hd : isL d) (h : isLow d = true) : lo d = d := ((low_of hd hd h).mpr (.inl rfl)).symm
theorem lo_con {d : Nat} (hd : isL d) (h : isLow d = true) : lo (con d) = d := ((low_of (isL_con hd) hd h).mpr (.inr (con_con hd).symm)).symm
theorem erase_perm {ls : List Nat} {i d : Nat} (h : ls[i]? = some d) : (d :: ls.eraseIdx i).Perm ls := by
  induction ls generalizing i with
  | nil => simp at h
  | cons a ls ih =>
    cases i with
    | zero => simp at h; subst h; exact List.Perm.refl _
    | succ i =>
      have := ih (i := i) (by simpa using h)
      show (d :: a :: ls.eraseIdx i).Perm (a :: ls)
      exact (List.Perm.swap a d _).trans (this.cons a)
end Lw
namespace L2
open PySem PySem.Spec PyProof.Rows
end L2
namespace Lw
open PySem PySem.Spec PyProof.Rows L2 Ma MaR
def ixL (c : Nat) : Nat := if isLow c = true then c - 97 else c - 65
def gX (cs : List Nat) (c : Nat) : Nat := if isLow c = true then cs.getD (ixL c) 0 else con (cs.getD (ixL c) 0)
theorem ixL_lt {n c : Nat} (h1 : 1 ≤ n) (h4 : n ≤ 4) (h : c ∈ letsN n) : ixL c < n := by
  have hL := isL_cases (letsN_isL h)
  rcases n14 h1 h4 with rfl | rfl | rfl | rfl <;> rcases hL with rfl | rfl | rfl | rfl | rfl | rfl | rfl | rfl <;> revert h <;> decide
theorem ixL_inj {c d : Nat} (hc : isL c) (hd : isL d) (h : ixL c = ixL d) : c = d ∨ c = con d := by
  rcases isL_cases hc with rfl | rfl | rfl | rfl | rfl | rfl | rfl | rfl <;> rcases isL_cases hd with rfl | rfl | rfl | rfl | rfl | rfl | rfl | rfl <;> revert h <;> decide
theorem lo_con' {d : Nat} (hd : isL d) : lo (con d) = lo d := by
  rcases isL_cases hd with rfl | rfl | rfl | rfl | rfl | rfl | rfl | rfl <;> decide
theorem low_nodup {n : Nat} (h1 : 1 ≤ n) (h4 : n ≤ 4) : (lowN n).Nodup := by
  rcases n14 h1 h4 with rfl | rfl | rfl | rfl <;> decide
section
variable {n : Nat} {cs : List Nat} (h1 : 1 ≤ n) (h4 : n ≤ 4) (e : Exch n cs)
include h1 h4 e
theorem Exch.at {c : Nat} (h : c ∈ letsN n) : ∃ d, cs[ixL c]? = some d ∧ d ∈ letsN n ∧ gX cs c = if isLow c = true then d else con d := by
  have hi := ixL_lt h1 h4 h
  have hl : ixL c < cs.length := by rw [e.len]; exact hi
  refine ⟨cs[ixL c], List.getElem?_eq_getElem hl, e.mem _ (List.getElem_mem hl), ?_⟩
  unfold gX
  rw [List.getD_eq_getElem?_getD, List.getElem?_eq_getElem hl]
  rfl
theorem Exch.tell {c : Nat} (h : c ∈ letsN n) : tell (ones' cs) c = [gX cs c] := by
  obtain ⟨d, hd, _, hg⟩ := e.at h1 h4 h
  have e0 : (ones' cs).getD (ixL c) [] = [d] := by
    unfold ones'
    rw [List.getD_eq_getElem?_getD, List.getElem?_map, hd]
    rfl
  unfold Lw.tell
  rw [hg]
  by_cases q : isLow c = true
  · rw [if_pos q, if_pos q]
    unfold ixL at e0
    rw [if_pos q] at e0
    exact e0
  · rw [if_neg q, if_neg q]
    unfold ixL at e0
    rw [if_neg q] at e0
    rw [e0]
    rfl
theorem Exch.gmem {c : Nat} (h : c ∈ letsN n) : gX cs c ∈ letsN n := by
  obtain ⟨d, _, hm, hg⟩ := e.at h1 h4 h
  rw [hg]
  split
  · exact hm
  · exact letsN_con (by omega) (by omega) hm
theorem Exch.gcon {c : Nat} (h : c ∈ letsN n) : gX cs (con c) = con (gX cs c) := by
  have hc := letsN_isL h
  have q : (isLow c = true ∧ isLow (con c) = false ∧ ixL (con c) = ixL c) ∨ (isLow c = false ∧ isLow (con c) = true ∧ ixL (con c) = ixL c) := by
    rcases isL_cases hc with rfl | rfl | rfl | rfl | rfl | rfl | rfl | rfl <;> decide
  obtain ⟨d, hd, hm, hg⟩ := e.at h1 h4 h
  have e1 : cs.getD (ixL c) 0 = d := by rw [List.getD_eq_getElem?_getD, hd]; rfl
  unfold gX
  rcases q with ⟨a, b, c'⟩ | ⟨a, b, c'⟩
  · rw [c', e1, if_neg (by rw [b]; decide), if_pos a]
  · rw [c', e1, if_pos b, if_neg (by rw [a]; decide), con_con (letsN_isL hm)]
theorem Exch.ginj {c d : Nat} (hc : c ∈ letsN n) (hd : d ∈ letsN n) (h : gX cs c = gX cs d) : c = d := by
  obtain ⟨x, hx, xm, gx⟩ := e.at h1 h4 hc
  obtain ⟨y, hy, ym, gy⟩ := e.at h1 h4 hd
  have lx : lo (gX cs c) = lo x := by rw [gx]; split <;> first | rfl | exact lo_con' (letsN_isL xm)
  have ly : lo (gX cs d) = lo y := by rw [gy]; split <;> first | rfl | exact lo_con' (letsN_isL ym)
  have nd : (cs.map lo).Nodup := (e.perm.nodup_iff).mpr (low_nodup h1 h4)
  have ei : ixL c = ixL d := by
    have q1 : (cs.map lo)[ixL c]? = some (lo x) := by rw [List.getElem?_map, hx]; rfl
    have q2 : (cs.map lo)[ixL d]? = some (lo x) := by rw [List.getElem?_map, hy, ← lx, h, ly]; rfl
    have l1 : ixL c < (cs.map lo).length := (List.getElem?_eq_some_iff.mp q1).1
    exact (List.getElem?_inj l1 nd).mp (q1.trans q2.symm)
  rcases ixL_inj (letsN_isL hc) (letsN_isL hd) ei with z | z
  · exact z
  · exfalso
    rw [z, e.gcon h1 h4 hd] at h
    exact con_ne (letsN_isL (e.gmem h1 h4 hd)) h
theorem Exch.told {x : List Nat} (hx : OfN n x) : told (ones' cs) x = x.map (gX cs) := by
  induction x with
  | nil => rfl
  | cons c x ih => rw [told_cons, e.tell h1 h4 (hx c List.mem_cons_self), ih fun d hd => hx d (List.mem_cons_of_mem _ hd)]; rfl
theorem Exch.plain {x : List Nat} (hx : OfN n x) (hp : Plain x) : Plain (x.map (gX cs)) := by
  unfold Plain at *
  rw [← List.map_reverse]
  have : ∀ y : List Nat, (∀ c ∈ y, c ∈ letsN n) → PlainR y → PlainR (y.map (gX cs)) := by
    intro y
    induction y with
    | nil => intro _ _; trivial
    | cons a y ih =>
      intro hm hq
      cases y with
      | nil => trivial
      | cons b y =>
        refine ⟨fun z => hq.1 ?_, ih (fun c hc => hm c (List.mem_cons_of_mem _ hc)) hq.2⟩
        have ham := hm a (by simp)
        rw [← e.gcon h1 h4 ham] at z
        exact e.ginj h1 h4 (hm b (by simp)) (letsN_con (by omega) (by omega) ham) z
  exact this _ (fun c hc => hx c (List.mem_reverse.mp hc)) hp
theorem Exch.retl {x : List Nat} (hx : OfN n x) (hp : Plain x) : retl (ones' cs) x = x.map (gX cs) := by
  unfold Lw.retl
  rw [e.told h1 h4 hx, lay_id (e.plain h1 h4 hx hp)]
end
end Lw
namespace Lw
open PySem PySem.Spec PyProof.Rows L2 Ma MaR
section
variable {n : Nat} {cs : List Nat} (h1 : 1 ≤ n) (h4 : n ≤ 4) (e : Exch n cs)
include h1 h4 e
end
end Lw
namespace Lw
open PySem PySem.Spec PyProof.Rows L2 Ma MaR
section
variable {n : Nat} {cs : List Nat} (h1 : 1 ≤ n) (h4 : n ≤ 4) (e : Exch n cs)
include h1 h4
include e
end
end Lw
namespace Lw
open PySem PySem.Spec PyProof.Rows L2 Ma MaR
end Lw
namespace Lw
open PySem PySem.Spec PyProof.Rows L2 Ma MaR
def sdB (c : Nat) (sd : List Nat) : List Nat := sd.map fun d => if d = c then con c else d
structure GoodB (n c : Nat) (sd : List Nat) : Prop where
  let' : c ∈ letsN n
  side : ∀ d ∈ sd, d ∈ letsN n
  ord : sd.Pairwise fun a b => rk a < rk b
  has : c ∈ sd
  hasn : ¬ con c ∈ sd
theorem mem_sdB {c d : Nat} {sd : List Nat} (h : c ∈ sd) : d ∈ sdB c sd ↔ d = con c ∨ (d ∈ sd ∧ d ≠ c) := by
  unfold sdB
  rw [List.mem_map]
  constructor
  · rintro ⟨a, ha, e⟩
    by_cases q : a = c
    · rw [if_pos q] at e; exact .inl e.symm
    · rw [if_neg q] at e; subst e; exact .inr ⟨ha, q⟩
  · rintro (rfl | ⟨a, b⟩)
    · exact ⟨c, h, if_pos rfl⟩
    · exact ⟨d, a, if_neg b⟩
theorem sdB_sdB {c : Nat} {sd : List Nat} (hc : isL c) (hn : ¬ con c ∈ sd) : sdB (con c) (sdB c sd) = sd := by
  unfold sdB
  rw [List.map_map]
  refine (List.map_congr_left fun d hd => ?_).trans (List.map_id sd)
  show (if (if d = c then con c else d) = con c then con (con c) else (if d = c then con c else d)) = d
  by_cases q : d = c
  · rw [if_pos q, if_pos rfl, con_con hc, q]
  · have q2 : ¬ d = con c := fun z => hn (z ▸ hd)
    rw [if_neg q, if_neg q2]
theorem rk_near {c d : Nat} (hc : isL c) (hd : isL d) (h1 : d ≠ c) (h2 : d ≠ con c) : (rk d < rk c ↔ rk d < rk (con c)) ∧ (rk c < rk d ↔ rk (con c) < rk d) := by
  rcases isL_cases hc with rfl | rfl | rfl | rfl | rfl | rfl | rfl | rfl <;> rcases isL_cases hd with rfl | rfl | rfl | rfl | rfl | rfl | rfl | rfl <;> revert h1 h2 <;> decide
theorem GoodB.back {n c : Nat} {sd : List Nat} (h1 : 1 ≤ n) (h4 : n ≤ 4) (g : GoodB n c sd) : GoodB n (con c) (sdB c sd) := by
  have hc := letsN_isL g.let'
  have hcn : con c ∈ letsN n := letsN_con (by omega) (by omega) g.let'
  refine ⟨hcn, fun d hd => ?_, ?_, (mem_sdB g.has).mpr (.inl rfl), fun z => ?_⟩
  · rcases (mem_sdB g.has).mp hd with rfl | ⟨h, _⟩
    · exact hcn
    · exact g.side d h
  · unfold sdB
    rw [List.pairwise_map]
    refine List.Pairwise.imp_of_mem (fun {a b} ha hb hab => ?_) g.ord
    have na : a ≠ con c := fun z => g.hasn (z ▸ ha)
    have nb : b ≠ con c := fun z => g.hasn (z ▸ hb)
    by_cases qa : a = c
    · by_cases qb : b = c
      · subst qa; subst qb; exact absurd hab (Nat.lt_irrefl _)
      · subst qa
        rw [if_pos rfl, if_neg qb]
        exact (rk_near hc (letsN_isL (g.side b hb)) qb nb).2.mp hab
    · by_cases qb : b = c
      · subst qb
        rw [if_neg qa, if_pos rfl]
        exact (rk_near hc (letsN_isL (g.side a ha)) qa na).1.mp hab
      · rw [if_neg qa, if_neg qb]; exact hab
  · rw [con_con hc] at z
    rcases (mem_sdB g.has).mp z with z | ⟨_, z⟩
    · exact con_ne hc z.symm
    · exact z rfl
theorem tell_chg {n c : Nat} {sd : List Nat} (h1 : 1 ≤ n) (h4 : n ≤ 4) {d : Nat} (hd : d ∈ letsN n) : tell (chgR n c sd) d = if isLow d = true then chg c sd d else back (chg c sd (con d)) := by
  unfold tell chgR
  rcases lets_low h1 h4 hd with ⟨a, b⟩ | ⟨a, b⟩
  · rw [if_pos a, if_pos a, List.getD_eq_getElem?_getD, List.getElem?_map, b]; rfl
  · rw [if_neg (by rw [a]; decide), if_neg (by rw [a]; decide), List.getD_eq_getElem?_getD, List.getElem?_map, b]; rfl
def chgb (c d : Nat) (p q : Bool) : List Nat := if d = lo c then [d] else (if p = true then [con c] else []) ++ [d] ++ (if q = true then [c] else [])
theorem chg_b (c : Nat) (sd : List Nat) (d : Nat) : chg c sd d = chgb c d (decide (con d ∈ sd)) (decide (d ∈ sd)) := by
  unfold chg chgb
  simp only [decide_eq_true_eq]
theorem chg_back_one : ∀ c ∈ lets, ∀ d ∈ [97, 98, 99, 100], ∀ p q : Bool, lay ((chgb c d p q).flatMap fun e => if e = c ∨ e = con c then [e] else if isLow e = true then chgb (con c) e p q else back (chgb (con c) (con e) p q)) = [d] := by decide +kernel
theorem chg_in {c d e : Nat} {p q : Bool} (h : e ∈ chgb c d p q) : e = d ∨ e = c ∨ e = con c := by
  unfold chgb at h
  split at h
  · exact .inl (List.mem_singleton.mp h)
  · rcases List.mem_append.mp h with h | h
    · rcases List.mem_append.mp h with h | h
      · split at h
        · exact .inr (.inr (List.mem_singleton.mp h))
        · cases h
      · exact .inl (List.mem_singleton.mp h)
    · split at h
      · exact .inr (.inl (List.mem_singleton.mp h))
      · cases h
theorem lo_both {c : Nat} (hc : isL c) : (lo c = c ∧ isLow c = true) ∨ (lo c = con c ∧ isLow c = false) := by
  rcases isL_cases hc with rfl | rfl | rfl | rfl | rfl | rfl | rfl | rfl <;> decide
theorem chg_lo (c : Nat) (sd : List Nat) : chg c sd (lo c) = [lo c] := by unfold chg; rw [if_pos rfl]
theorem then_back {n c : Nat} {sd : List Nat} (h1 : 1 ≤ n) (h4 : n ≤ 4) (g : GoodB n c sd) : thenR (chgR n c sd) (chgR n (con c) (sdB c sd)) = lowW n := by
  have hc := letsN_isL g.let'
  unfold thenR chgR lowW
  rw [List.map_map]
  refine List.map_congr_left fun d hd => ?_
  show retl (chgR n (con c) (sdB c sd)) (chg c sd d) = [d]
  have hdl : d ∈ letsN n := low_lets h1 h4 hd
  have hdL := letsN_isL hdl
  have hlow : isLow d = true := low_low hd
  by_cases q : d = lo c
  · -- the change's own letter
    subst q
    rw [chg_lo]
    unfold retl told
    rw [List.flatMap_cons, List.flatMap_nil, List.append_nil, tell_chg h1 h4 hdl, if_pos hlow, ← lo_con' hc, chg_lo, lo_con' hc]
    rcases isL_cases hc with rfl | rfl | rfl | rfl | rfl | rfl | rfl | rfl <;> decide
  · have n1 : d ≠ c := by
      intro z; subst z
      rcases lo_both hc with ⟨a, _⟩ | ⟨_, b⟩
      · exact q a.symm
      · rw [b] at hlow; cases hlow
    have n2 : d ≠ con c := by
      intro z; subst z
      exact q (by rw [← lo_con' hc, lo_low (isL_con hc) hlow])
    have n3 : con d ≠ c := fun z => n2 (by rw [← z, con_con hdL])
    have n4 : con d ≠ con c := fun z => n1 (by rw [← con_con hdL, z, con_con hc])
    have e1 : decide (d ∈ sdB c sd) = decide (d ∈ sd) := decide_eq_decide.mpr ⟨fun z => ((mem_sdB g.has).mp z).elim (fun z => absurd z n2) (·.1), fun z => (mem_sdB g.has).mpr (.inr ⟨z, n1⟩)⟩
    have e2 : decide (con d ∈ sdB c sd) = decide (con d ∈ sd) := decide_eq_decide.mpr ⟨fun z => ((mem_sdB g.has).mp z).elim (fun z => absurd z n4) (·.1), fun z => (mem_sdB g.has).mpr (.inr ⟨z, n3⟩)⟩
    have key := chg_back_one c (isL_lets hc) d (by unfold lowN at hd; exact List.mem_of_mem_take hd) (decide (con d ∈ sd)) (decide (d ∈ sd))
    unfold retl told
    rw [chg_b, ← key]
    congr 1
    refine flat_congr fun e he => ?_
    rcases chg_in he with rfl | z | z
    · rw [if_neg (fun z => z.elim n1 n2), if_pos hlow, tell_chg h1 h4 hdl, if_pos hlow, chg_b, e1, e2]
    · subst z
      rw [if_pos (.inl rfl), tell_chg h1 h4 g.let']
      rcases lo_both hc with ⟨a, b⟩ | ⟨a, b⟩
      · rw [if_pos b]
        have := chg_lo (con e) (sdB e sd)
        rw [lo_con' hc, a] at this
        exact this
      · rw [if_neg (by rw [b]; decide)]
        have := chg_lo (con e) (sdB e sd)
        rw [lo_con' hc, a] at this
        rw [this]
        show [con (con e)] = [e]
        rw [con_con hc]
    · subst z
      rw [if_pos (.inr rfl), tell_chg h1 h4 (letsN_con (by omega) (by omega) g.let')]
      rcases lo_both hc with ⟨a, b⟩ | ⟨a, b⟩
      · have b' : isLow (con c) = false := by rcases isL_cases hc with rfl | rfl | rfl | rfl | rfl | rfl | rfl | rfl <;> revert b <;> decide
        rw [if_neg (by rw [b']; decide), con_con hc]
        have := chg_lo (con c) (sdB c sd)
        rw [lo_con' hc, a] at this
        rw [this]
        rfl
      · have b' : isLow (con c) = true := by rcases isL_cases hc with rfl | rfl | rfl | rfl | rfl | rfl | rfl | rfl <;> revert b <;> decide
        rw [if_pos b']
        have := chg_lo (con c) (sdB c sd)
        rw [lo_con' hc, a] at this
        exact this
theorem sdB_perm {c : Nat} {sd : List Nat} (hs : sd.Nodup) (h : c ∈ sd) : (sdB c sd).Perm ((sd.filter fun d => decide (d ≠ c)) ++ [con c]) := by
  induction sd with
  | nil => cases h
  | cons a sd ih =>
    obtain ⟨hn, hs'⟩ := List.nodup_cons.mp hs
    by_cases q : a = c
    · subst q
      have e1 : sdB a (a :: sd) = con a :: sd := by
        show (if a = a then con a else a) :: (sd.map fun d => if d = a then con a else d) = _
        rw [if_pos rfl]
        congr 1
        refine (List.map_congr_left fun d hd => ?_).trans (List.map_id sd)
        have q2 : ¬ d = a := fun z => hn (z ▸ hd)
        rw [if_neg q2]; rfl
      have e2 : ((a :: sd).filter fun d => decide (d ≠ a)) = sd := by
        rw [List.filter_cons_of_neg (by simp)]
        exact List.filter_eq_self.mpr fun d hd => decide_eq_true fun z => hn (z ▸ hd)
      rw [e1, e2]
      exact List.perm_append_comm (l₁ := [con a])
    · have e1 : sdB c (a :: sd) = a :: sdB c sd := by
        show (if a = c then con c else a) :: _ = _
        rw [if_neg q]; rfl
      rw [e1, List.filter_cons_of_pos (by simpa using q)]
      exact (ih hs' ((List.mem_cons.mp h).resolve_left fun z => q z.symm)).cons a
end Lw
namespace Lw
open PySem PySem.Spec PyProof.Rows L2 Ma MaR
def xBf (cs : List Nat) (d : Nat) : Nat := if d ∈ cs then 97 + cs.idxOf d else 65 + cs.idxOf (con d)
def xB (n : Nat) (cs : List Nat) : List Nat := (lowN n).map (xBf cs)
theorem num_low {n i : Nat} (h1 : 1 ≤ n) (h4 : n ≤ 4) (h : i < n) : 97 + i ∈ letsN n ∧ 65 + i ∈ letsN n ∧ isLow (97 + i) = true ∧ isLow (65 + i) = false ∧ ixL (97 + i) = i ∧ ixL (65 + i) = i ∧ 97 + i ∈ lowN n ∧ lo (97 + i) = 97 + i ∧ lo (65 + i) = 97 + i := by
  rcases n14 h1 h4 with rfl | rfl | rfl | rfl <;> (have : i = 0 ∨ i = 1 ∨ i = 2 ∨ i = 3 := by omega) <;> rcases this with rfl | rfl | rfl | rfl <;> first | omega | decide
theorem low_ix {n d : Nat} (h1 : 1 ≤ n) (h4 : n ≤ 4) (h : d ∈ lowN n) : (lowN n)[ixL d]? = some d := by
  have hd := low_lets h1 h4 h
  have hl := low_low h
  rcases lets_low h1 h4 hd with ⟨a, b⟩ | ⟨a, b⟩
  · unfold ixL; rw [if_pos a]; exact b
  · rw [a] at hl; cases hl
theorem perm_sub : ∀ {l m : List Nat}, l.Nodup → l ⊆ m → m.length ≤ l.length → l.Perm m
  | [], m, _, _, h => by
    have : m = [] := List.length_eq_zero_iff.mp (Nat.le_zero.mp h)
    rw [this]
  | a :: l, m, nd, sub, h => by
    obtain ⟨hn, nd'⟩ := List.nodup_cons.mp nd
    have ha : a ∈ m := sub List.mem_cons_self
    have hp := List.perm_cons_erase ha
    refine ((perm_sub nd' (fun x hx => ?_) ?_).cons a).trans hp.symm
    · have q : x ≠ a := fun z => hn (z ▸ hx)
      exact (List.mem_erase_of_ne q).mpr (sub (List.mem_cons_of_mem _ hx))
    · rw [List.length_erase_of_mem ha]
      rw [List.length_cons] at h
      omega
section
variable {n : Nat} {cs : List Nat} (h1 : 1 ≤ n) (h4 : n ≤ 4) (e : Exch n cs)
include h1 h4 e
theorem Exch.has {d : Nat} (h : d ∈ lowN n) : d ∈ cs ∨ con d ∈ cs := by
  obtain ⟨c, hc, z⟩ := List.mem_map.mp (e.perm.mem_iff.mpr h)
  have hcL := letsN_isL (e.mem c hc)
  rcases lo_both hcL with ⟨a, _⟩ | ⟨a, _⟩
  · exact .inl (by rw [← z, a]; exact hc)
  · exact .inr (by rw [← z, a, con_con hcL]; exact hc)
theorem Exch.bk {d : Nat} (h : d ∈ lowN n) : xBf cs d ∈ letsN n ∧ gX cs (xBf cs d) = d := by
  have hd := letsN_isL (low_lets h1 h4 h)
  unfold xBf
  by_cases q : d ∈ cs
  · rw [if_pos q]
    have hi : cs.idxOf d < cs.length := List.idxOf_lt_length_of_mem q
    obtain ⟨a1, a2, a3, a4, a5, a6, a7, a8⟩ := num_low h1 h4 (i := cs.idxOf d) (by rw [← e.len]; exact hi)
    refine ⟨a1, ?_⟩
    unfold gX
    rw [if_pos a3, a5, List.getD_eq_getElem?_getD, List.getElem?_eq_getElem hi]
    exact List.getElem_idxOf hi
  · rw [if_neg q]
    have q2 : con d ∈ cs := (e.has h1 h4 h).resolve_left q
    have hi : cs.idxOf (con d) < cs.length := List.idxOf_lt_length_of_mem q2
    obtain ⟨a1, a2, a3, a4, a5, a6, a7, a8⟩ := num_low h1 h4 (i := cs.idxOf (con d)) (by rw [← e.len]; exact hi)
    refine ⟨a2, ?_⟩
    unfold gX
    rw [if_neg (by rw [a4]; decide), a6, List.getD_eq_getElem?_getD, List.getElem?_eq_getElem hi]
    show con (cs[cs.idxOf (con d)]) = d
    rw [List.getElem_idxOf hi, con_con hd]
theorem Exch.xB_len : (xB n cs).length = n := by unfold xB; rw [List.length_map, lowN_len h4]
theorem Exch.xB_at {d : Nat} (h : d ∈ lowN n) : gX (xB n cs) d = xBf cs d := by
  unfold gX xB
  rw [if_pos (low_low h), List.getD_eq_getElem?_getD, List.getElem?_map, low_ix h1 h4 h]
  rfl
theorem Exch.back : Exch n (xB n cs) := by
  have hm : ∀ c ∈ xB n cs, c ∈ letsN n := fun c hc => by
    obtain ⟨d, hd, rfl⟩ := List.mem_map.mp hc
    exact (e.bk h1 h4 hd).1
  refine ⟨e.xB_len h1 h4, hm, ?_⟩
  -- the lower letters of the way back are each but once
  have nd : ((xB n cs).map lo).Nodup := by
    unfold xB
    rw [List.map_map]
    refine List.Pairwise.map _ (fun a b (hab : a ∈ lowN n ∧ b ∈ lowN n ∧ a ≠ b) => ?_) (List.Pairwise.imp_of_mem (fun {a b} ha hb hab => ⟨ha, hb, hab⟩) (low_nodup h1 h4))
    obtain ⟨ha, hb, hab⟩ := hab
    intro z
    obtain ⟨ma, ga⟩ := e.bk h1 h4 ha
    obtain ⟨mb, gb⟩ := e.bk h1 h4 hb
    have : xBf cs a = xBf cs b ∨ xBf cs a = con (xBf cs b) := by
      have hz : lo (xBf cs a) = lo (xBf cs b) := z
      have La := letsN_isL ma
      have Lb := letsN_isL mb
      rcases lo_both La with ⟨x, _⟩ | ⟨x, _⟩ <;> rcases lo_both Lb with ⟨y, _⟩ | ⟨y, _⟩ <;> rw [x, y] at hz
      · exact .inl hz
      · exact .inr hz
      · exact .inr (by rw [← hz, con_con La])
      · exact .inl (by rw [← con_con La, hz, con_con Lb])
    rcases this with w | w
    · exact hab (by rw [← ga, ← gb, w])
    · have h0 : a = con b := by rw [← ga, w, e.gcon h1 h4 mb, gb]
      have la := low_low ha
      have lb := low_low hb
      have Lb := letsN_isL (low_lets h1 h4 hb)
      rw [h0] at la
      revert la lb
      rcases isL_cases Lb with rfl | rfl | rfl | rfl | rfl | rfl | rfl | rfl <;> decide
  have sub : ((xB n cs).map lo) ⊆ lowN n := fun x hx => by
    obtain ⟨c, hc, rfl⟩ := List.mem_map.mp hx
    have := hm c hc
    have hL := letsN_isL this
    revert this
    rcases n14 h1 h4 with rfl | rfl | rfl | rfl <;> rcases isL_cases hL with rfl | rfl | rfl | rfl | rfl | rfl | rfl | rfl <;> decide
  exact perm_sub nd sub (by rw [List.length_map, e.xB_len h1 h4, lowN_len h4]; exact Nat.le_refl _)
theorem Exch.gg {c : Nat} (h : c ∈ letsN n) : gX cs (gX (xB n cs) c) = c := by
  have b := e.back h1 h4
  have hL := letsN_isL h
  rcases lets_low h1 h4 h with ⟨a, q⟩ | ⟨a, q⟩
  · have hd : c ∈ lowN n := List.mem_of_getElem? q
    rw [e.xB_at h1 h4 hd, (e.bk h1 h4 hd).2]
  · have hd : con c ∈ lowN n := List.mem_of_getElem? q
    have hk := e.bk h1 h4 hd
    have e1 : gX (xB n cs) c = con (xBf cs (con c)) := by
      rw [← e.xB_at h1 h4 hd, b.gcon h1 h4 h, con_con (letsN_isL (b.gmem h1 h4 h))]
    rw [e1, e.gcon h1 h4 hk.1, hk.2, con_con hL]
theorem Exch.gg' {c : Nat} (h : c ∈ letsN n) : gX (xB n cs) (gX cs c) = c := by
  have b := e.back h1 h4
  have hm := e.gmem h1 h4 h
  exact e.ginj h1 h4 (b.gmem h1 h4 hm) h (e.gg h1 h4 hm)
end
theorem Exch.ext {n : Nat} {cs ds : List Nat} (h1 : 1 ≤ n) (h4 : n ≤ 4) (e : Exch n cs) (f : Exch n ds) (h : ∀ c ∈ lowN n, gX cs c = gX ds c) : cs = ds := by
  refine List.ext_getElem (by rw [e.len, f.len]) fun i hi hj => ?_
  obtain ⟨a1, a2, a3, a4, a5, a6, a7, a8⟩ := num_low h1 h4 (i := i) (by rw [← e.len]; exact hi)
  have := h _ a7
  unfold gX at this
  rw [if_pos a3, if_pos a3, a5, List.getD_eq_getElem?_getD, List.getD_eq_getElem?_getD, List.getElem?_eq_getElem hi, List.getElem?_eq_getElem hj] at this
  exact this
theorem Exch.xx {n : Nat} {cs : List Nat} (h1 : 1 ≤ n) (h4 : n ≤ 4) (e : Exch n cs) : xB n (xB n cs) = cs := by
  have b := e.back h1 h4
  refine (b.back h1 h4).ext h1 h4 e fun c hc => ?_
  have hcl := low_lets h1 h4 hc
  have hm := e.gmem h1 h4 hcl
  refine b.ginj h1 h4 ((b.back h1 h4).gmem h1 h4 hcl) hm ?_
  rw [b.gg h1 h4 hcl, e.gg' h1 h4 hcl]
theorem Exch.thenB {n : Nat} {cs : List Nat} (h1 : 1 ≤ n) (h4 : n ≤ 4) (e : Exch n cs) : thenR (ones' cs) (ones' (xB n cs)) = lowW n := by
  have b := e.back h1 h4
  unfold thenR ones' lowW
  rw [List.map_map]
  refine List.ext_getElem (by rw [List.length_map, List.length_map, e.len, lowN_len h4]) fun i hi hj => ?_
  rw [List.length_map] at hi
  obtain ⟨a1, a2, a3, a4, a5, a6, a7, a8⟩ := num_low h1 h4 (i := i) (by rw [← e.len]; exact hi)
  rw [List.getElem_map, List.getElem_map]
  show Lw.retl (ones' (xB n cs)) [cs[i]] = [(lowN n)[i]'(by rw [List.length_map] at hj; exact hj)]
  have hm := e.mem _ (List.getElem_mem hi)
  rw [b.retl h1 h4 (fun c hc => by rw [List.mem_singleton.mp hc]; exact hm) (by unfold Plain; exact trivial)]
  have g1 : gX cs (97 + i) = cs[i] := by
    unfold gX
    rw [if_pos a3, a5, List.getD_eq_getElem?_getD, List.getElem?_eq_getElem hi]
    rfl
  have g2 := e.gg' h1 h4 a1
  rw [g1] at g2
  have g3 := low_ix h1 h4 a7
  rw [a5] at g3
  show [gX (xB n cs) cs[i]] = _
  rw [g2, (List.getElem?_eq_some_iff.mp g3).2]
structure IvS (n : Nat) (st bk : List (List Nat)) : Prop where
  rt : RT st n 3 ∧ ∀ x ∈ st, OfN n x
  bt : RT bk n 3 ∧ ∀ x ∈ bk, OfN n x
  there : thenR st bk = lowW n
  back : thenR bk st = lowW n
theorem IvS.symm {n : Nat} {st bk : List (List Nat)} (h : IvS n st bk) : IvS n bk st := ⟨h.bt, h.rt, h.back, h.there⟩
theorem inv_chg {n c : Nat} {sd : List Nat} (h1 : 1 ≤ n) (h4 : n ≤ 4) (g : GoodB n c sd) : IvS n (chgR n c sd) (chgR n (con c) (sdB c sd)) := by
  have hc := letsN_isL g.let'
  have b := g.back h1 h4
  refine ⟨⟨chgR_rt h4 hc, chgR_ofn h1 h4 g.let'⟩, ⟨chgR_rt h4 (isL_con hc), chgR_ofn h1 h4 b.let'⟩, then_back h1 h4 g, ?_⟩
  have := then_back h1 h4 b
  rw [con_con hc, sdB_sdB hc g.hasn] at this
  exact this
theorem ones_rt {n : Nat} {cs : List Nat} (e : Exch n cs) : RT (ones' cs) n 1 ∧ ∀ x ∈ ones' cs, OfN n x := by
  have ho : ∀ x ∈ ones' cs, OfN n x := fun x hx => by
    obtain ⟨c, hc, rfl⟩ := List.mem_map.mp hx
    exact fun d hd => by rw [List.mem_singleton.mp hd]; exact e.mem c hc
  refine ⟨⟨by unfold ones'; rw [List.length_map, e.len], fun x hx => (ho x hx).all, fun x hx => ?_⟩, ho⟩
  obtain ⟨c, hc, rfl⟩ := List.mem_map.mp hx
  exact Nat.le_refl _
theorem inv_exch {n : Nat} {cs : List Nat} (h1 : 1 ≤ n) (h4 : n ≤ 4) (e : Exch n cs) : IvS n (ones' cs) (ones' (xB n cs)) := by
  have b := e.back h1 h4
  refine ⟨⟨(ones_rt e).1.mono (by decide), (ones_rt e).2⟩, ⟨(ones_rt b).1.mono (by decide), (ones_rt b).2⟩, e.thenB h1 h4, ?_⟩
  have := b.thenB h1 h4
  rw [e.xx h1 h4] at this
  exact this
def Invs (n : Nat) : List (List (List Nat)) → List (List (List Nat)) → Prop
  | [], [] => True
  | st :: sts, bk :: bks => IvS n st bk ∧ Invs n sts bks
  | _, _ => False
theorem then_low {n : Nat} {f : List (List Nat)} (h1 : 1 ≤ n) (h4 : n ≤ 4) (ho : ∀ x ∈ f, OfN n x) (hp : ∀ x ∈ f, Plain x) : thenR f (lowW n) = f := by
  unfold thenR
  exact (List.map_congr_left fun x hx => retl_same h1 h4 (ho x hx) (hp x hx)).trans (List.map_id f)
theorem then_plain (f s : List (List Nat)) : ∀ x ∈ thenR f s, Plain x := fun x hx => by
  obtain ⟨y, _, rfl⟩ := List.mem_map.mp hx
  exact lay_plain _
theorem lowW_plain (n : Nat) : ∀ x ∈ lowW n, Plain x := fun x hx => by
  obtain ⟨c, _, rfl⟩ := List.mem_map.mp hx
  exact trivial
theorem fold_then {n : Nat} (h1 : 1 ≤ n) (h4 : n ≤ 4) : ∀ (sts : List (List (List Nat))) (f : List (List Nat)) (M : Nat), RT f n M → (∀ x ∈ f, OfN n x) → (∀ x ∈ f, Plain x) → (∀ st ∈ sts, RT st n 3 ∧ ∀ x ∈ st, OfN n x) → sts.foldl thenR f = thenR f (roadR n sts)
  | [], f, M, r, ho, hp, _ => (then_low h1 h4 ho hp).symm
  | st :: sts, f, M, r, ho, hp, h => by
    obtain ⟨g1, g2⟩ := h st List.mem_cons_self
    have hr : ∀ s ∈ sts, RT s n 3 ∧ ∀ x ∈ s, OfN n x := fun s hs => h s (List.mem_cons_of_mem _ hs)
    have lr := lowW_rt h1 h4
    have a := fold_then h1 h4 sts (thenR f st) (M * 3) (then_rt r g1) (then_ofn h1 h4 g2) (then_plain _ _) hr
    have b := fold_then h1 h4 sts (thenR (lowW n) st) (1 * 3) (then_rt lr g1) (then_ofn h1 h4 g2) (then_plain _ _) hr
    have rr : RT (roadR n sts) n (1 * 3 ^ sts.length) := (roadR_rt h1 h4 sts (lowW n) 1 lr (low_ofn h1 h4) hr).1
    show sts.foldl thenR (thenR f st) = thenR f (sts.foldl thenR (thenR (lowW n) st))
    rw [a, b, ← then_then r (then_rt lr g1) rr]
    congr 1
    -- a word told by the same letters and then by st
    have : thenR f (thenR (lowW n) st) = thenR (thenR f (lowW n)) st := (then_then r lr g1).symm
    rw [this, then_low h1 h4 ho hp]
theorem Invs.good {n : Nat} : ∀ {sts bks : List (List (List Nat))}, Invs n sts bks → (∀ st ∈ sts, RT st n 3 ∧ ∀ x ∈ st, OfN n x) ∧ ∀ st ∈ bks, RT st n 3 ∧ ∀ x ∈ st, OfN n x
  | [], [], _ => ⟨fun _ h => (nomatch h), fun _ h => (nomatch h)⟩
  | st :: sts, bk :: bks, ⟨h, hs⟩ => by
    obtain ⟨a, b⟩ := Invs.good hs
    exact ⟨fun s z => (List.mem_cons.mp z).elim (fun e => e ▸ h.rt) (a s), fun s z => (List.mem_cons.mp z).elim (fun e => e ▸ h.bt) (b s)⟩
  | [], _ :: _, h => h.elim
  | _ :: _, [], h => h.elim
theorem roadR_snoc {n : Nat} (sts : List (List (List Nat))) (st : List (List Nat)) : roadR n (sts ++ [st]) = thenR (roadR n sts) st := by
  unfold roadR
  rw [List.foldl_append]
  rfl
theorem road_all {n : Nat} (h1 : 1 ≤ n) (h4 : n ≤ 4) {sts : List (List (List Nat))} (h : ∀ st ∈ sts, RT st n 3 ∧ ∀ x ∈ st, OfN n x) : RT (roadR n sts) n (1 * 3 ^ sts.length) ∧ ∀ x ∈ roadR n sts, OfN n x := roadR_rt h1 h4 sts (lowW n) 1 (lowW_rt h1 h4) (low_ofn h1 h4) h
theorem road_there {n : Nat} (h1 : 1 ≤ n) (h4 : n ≤ 4) : ∀ {sts bks : List (List (List Nat))}, Invs n sts bks → thenR (roadR n sts) (roadR n bks.reverse) = lowW n
  | [], [], _ => then_low h1 h4 (low_ofn h1 h4) (lowW_plain n)
  | st :: sts, bk :: bks, ⟨h, hs⟩ => by
    obtain ⟨ga, gb⟩ := Invs.good hs
    have ih := road_there h1 h4 hs
    have gbr : ∀ s ∈ bks.reverse, RT s n 3 ∧ ∀ x ∈ s, OfN n x := fun s hs => gb s (List.mem_reverse.mp hs)
    have ra := road_all h1 h4 ga
    have rb := road_all h1 h4 gbr
    have lr := lowW_rt h1 h4
    have e1 : roadR n (st :: sts) = thenR (thenR (lowW n) st) (roadR n sts) := fold_then h1 h4 sts (thenR (lowW n) st) (1 * 3) (then_rt lr h.rt.1) (then_ofn h1 h4 h.rt.2) (then_plain _ _) ga
    have l3 := then_rt lr h.rt.1
    rw [List.reverse_cons, roadR_snoc, e1, ← then_then (then_rt l3 ra.1) rb.1 h.bt.1, then_then l3 ra.1 rb.1, ih, then_low h1 h4 (then_ofn h1 h4 h.rt.2) (then_plain _ _), then_then lr h.rt.1 h.bt.1, h.there]
    exact then_low h1 h4 (low_ofn h1 h4) (lowW_plain n)
  | [], _ :: _, h => h.elim
  | _ :: _, [], h => h.elim
theorem Invs.snoc {n : Nat} : ∀ {sts bks : List (List (List Nat))}, Invs n sts bks → ∀ {st bk : List (List Nat)}, IvS n st bk → Invs n (sts ++ [st]) (bks ++ [bk])
  | [], [], _, _, _, h => ⟨h, trivial⟩
  | _ :: _, _ :: _, ⟨a, b⟩, _, _, h => ⟨a, Invs.snoc b h⟩
  | [], _ :: _, h, _, _, _ => h.elim
  | _ :: _, [], h, _, _, _ => h.elim
theorem Invs.rev {n : Nat} : ∀ {sts bks : List (List (List Nat))}, Invs n sts bks → Invs n bks.reverse sts.reverse
  | [], [], _ => trivial
  | st :: sts, bk :: bks, ⟨a, b⟩ => by
    rw [List.reverse_cons, List.reverse_cons]
    exact (Invs.rev b).snoc a.symm
  | [], _ :: _, h => h.elim
  | _ :: _, [], h => h.elim
theorem road_back' {n : Nat} (h1 : 1 ≤ n) (h4 : n ≤ 4) {sts bks : List (List (List Nat))} (h : Invs n sts bks) : thenR (roadR n bks.reverse) (roadR n sts) = lowW n := by
  have := road_there h1 h4 h.rev
  rw [List.reverse_reverse] at this
  exact this
end Lw
namespace PySem
open Sem (wp)
section
variable {prog : Program} {w : World} {K : Type} [DecidableEq K] {knd : KeyKind prog w K} {A : Around} {E : Value → Shared → Prop} {s : Shared}
theorem sdf_pairs {d : Addr} {kvs : List (K × Value)} {k : K} {key dflt : Value} {Q : Value → Shared → Prop} (hkey : knd.is k key = true) (hm : s.heap.DictOf knd d kvs) (hsz : kvs.length ≤ sizeLine)
    (h1 : ∀ v, valueAt kvs k = some v → Q v { s with toks := s.toks + 1 })
    (h2 : valueAt kvs k = none → ∀ h', h'.DictOf knd d (stored kvs k dflt) → Heap.SameBut d s.heap h' → Q dflt { s with heap := h', toks := s.toks + 1 }) :
    wpAny (model prog w) A (dictSetDefault d key dflt) Q E s := by
  have hz : s.heap.DictLe d sizeLine := by
    obtain ⟨o, es, ep, ho, hc, hd, hk, hp, hn⟩ := hm
    intro o' es' ep' ho' hd'
    rw [ho] at ho'
    cases ho'
    rw [hd] at hd'
    cases hd'
    have e1 := hp.length
    have e2 : es.toList.length = es.size := by simp
    omega
  cases hv : valueAt kvs k with
  | some v => exact wpAny_dictSetDefault_of (hz := hz) hkey hm.mapOf (fun v' e' => h1 v' e') fun hn => by rw [hv] at hn; cases hn
  | none =>
    obtain ⟨o, es, ep, ho, hc, hd, hk, hp, hn⟩ := id hm
    have hidx : (es.findIdx? fun e => knd.is k e.key) = kvs.findIdx? fun kv => decide (kv.1 = k) := by
      rw [← hp.findIdx k]; obtain ⟨l⟩ := es; simp
    have hnot : k ∉ kvs.map (·.1) := by
      intro hk'
      obtain ⟨kv, hkv, he⟩ := List.mem_map.mp hk'
      obtain ⟨i, hi⟩ := List.getElem?_of_mem hkv
      have : valueAt kvs k = some kv.2 := valueAt_of_get hn (i := i) (k := k) (v := kv.2) (by rw [hi, ← he])
      rw [hv] at this
      cases this
    have hany : ¬ (kvs.any fun kv => decide (kv.1 = k)) = true := by
      intro z
      obtain ⟨kv, hkv, he⟩ := List.any_eq_true.mp z
      exact hnot (List.mem_map.mpr ⟨kv, hkv, of_decide_eq_true he⟩)
    have hi : (es.findIdx? fun e => knd.is k e.key) = none := by
      rw [hidx, List.findIdx?_eq_none_iff]
      intro kv hkv
      exact decide_eq_false fun z => hnot (List.mem_map.mpr ⟨kv, hkv, z⟩)
    unfold dictSetDefault
    try with_reducible refine wpAny_holding ?_
    refine wpAny_bind (knd.pyHash hkey ?_)
    refine wpAny_bind (wpAny_dictFind_of (s := { s with toks := s.toks + 1 }) hkey ho hd hk ?_)
    rw [hi]
    refine wpAny_bind (wpAny_rule (wpAny_bind (wpAny_updateDictKeys (hz := hz _ _ _ ho hd) (s := { s with toks := s.toks + 1 }) ho hd (wpAny_pure (h2 hv _ ⟨_, _, ep + 1, Heap.get?_update_self _ ho (Obj.isFreed_of_dict (Obj.data_mapDictKeys hd _)),
      hc.mapDictKeys _, Obj.data_mapDictKeys hd _, hk.push hkey _, ?_, ?_⟩ (Heap.SameBut.update ..))))))
    · rw [stored, if_neg hany]
      have := hp.append hkey (knd.hash k) dflt
      obtain ⟨l⟩ := es
      simpa using this
    · rw [stored, if_neg hany, List.map_append]
      refine List.nodup_append.mpr ⟨hn, by simp, fun a ha b hb => ?_⟩
      have hb' : b = k := by simpa using hb
      subst hb'
      intro e
      exact hnot (e ▸ ha)
theorem meets_sdf {k : K} {key : Value} (d : Addr) (hkey : knd.is k key = true) (hd : (d == sysModules) = false) (dflt : Value) :
    MeetsIn prog w (Builtin.«dict.setdefault» ⟨[.ref d, key, dflt], []⟩) (fun _ R s => ∃ kvs, s.heap.DictOf knd d kvs ∧ kvs.length ≤ sizeLine ∧
      (∀ v, valueAt kvs k = some v → R (.ok (.ret v)) { s with toks := s.toks + 1 }) ∧
      (valueAt kvs k = none → ∀ h', h'.DictOf knd d (stored kvs k dflt) → Heap.SameBut d s.heap h' → R (.ok (.ret dflt)) { s with heap := h', toks := s.toks + 1 })) :=
  .of_wp fun A R s ⟨kvs, hm, hz, h1, h2⟩ => by
    unfold Builtin.«dict.setdefault»
    refine wpAny_bind ?_
    unfold Builtin.Dict.keyAndDefault
    refine wpAny_bind (wpAny_notOrdered_dict hm.typeIs ?_)
    show wpAny _ _ (pure (d, key, some dflt)) _ _ s
    refine wpAny_pure ?_
    show wpAny _ _ (if (d == sysModules) = true then _ else (dictSetDefault d key dflt >>= _)) _ _ s
    rw [if_neg (by rw [hd]; exact Bool.false_ne_true)]
    exact wpAny_bind (sdf_pairs hkey hm hz (fun v hv => wpAny_pure ⟨v, rfl, h1 v hv⟩) fun hn h' hm' hs' => wpAny_pure ⟨dflt, rfl, h2 hn h' hm' hs'⟩)
end
end PySem
namespace L2
open PySem PySem.Spec PyProof.Rows
section
variable {X : Cx} {pins : List (Addr × Obj)} {σ : St} {H : Hp} {s : Shared} {a : Addr} {kvs : List (Key × V)} {k : Key} {z : V} {u r : Value} {A : Around} {E : Value → Shared → Prop}
theorem d_setd {Q : Value → Shared → Prop} (I : Inv X pins σ H s) (e : H a = some (.dK kvs)) (hl : kvs.length < sizeLine) (ry : RelV (kV k) u) (rz : RelV z r)
    (h1 : ∀ v w' s', valV kvs k = some v → Inv X pins σ H s' → RelV v w' → Q w' s') (h2 : valV kvs k = none → ∀ s', Inv X pins σ (upd H a (.dK (putK kvs k z))) s' → Q r s') :
    wpAny (model X.prog X.w) A (call (.builtin "dict.setdefault") [.ref a, u, r]) Q E s := by
  obtain ⟨zl, hd, vs, rel, dd⟩ := dk_of I.hok e
  refine call_meetsIn PySem.F.slot_dict_setdefault dd.typeIs PySem.F.entry_dict_setdefault (PySem.F.args_dict_setdefault_3 _ _ _) (PySem.meets_sdf (knd := mixKind X.prog X.w) a (kV_is ry) hd r)
    ⟨vs, dd, by rw [← rel.length]; exact zl, fun v hv => ?_, fun hn h' dd' hs => ?_⟩
  · have rv := rel.val k
    rw [hv] at rv
    cases l : valV kvs k with
    | none => rw [l] at rv; exact absurd rv (fun z => z)
    | some v0 =>
      rw [l] at rv
      exact h1 v0 v _ l (I.tok _) rv
  · have l : valV kvs k = none := by
      have rv := rel.val k
      rw [hn] at rv
      cases l : valV kvs k with
      | none => rfl
      | some v0 => rw [l] at rv; exact absurd rv (fun z => z)
    have he : ∃ q, h'.get? a = some q := let ⟨q, _, _, hq, _⟩ := dd'; ⟨q, hq⟩
    refine h2 l _ (d_write I (by rw [e]; exact True.intro) hs he (dk_new ?_ hd (rel.put k rz) dd'))
    have := length_putK kvs k z
    omega
end
def tDSetd (td ty tx : TE) : TE := fun σ H Q => td σ H fun x H1 => ∃ a, x = .ref a ∧ IsD H1 a ∧ ty σ H1 fun y H2 => tx σ H2 fun z H3 => ∃ kvs k, H3 a = some (.dK kvs) ∧ kvs.length < sizeLine ∧ y = kV k ∧
  (∀ v, valV kvs k = some v → Q v H3) ∧ (valV kvs k = none → Q z (upd H3 a (.dK (putK kvs k z))))
section
variable {X : Cx} {o e f : Expr} {apos cpos : Pos} {td ty tx : TE}
theorem pe_dsetd (ho : PE X o td) (he : PE X e ty) (hf : PE X f tx) (m : M2 X o "setdefault" apos e f cpos) : PE X (.Call (.Attribute o "setdefault" apos) [e, f] [] cpos) (tDSetd td ty tx) := by
  intro pins s σ H Q I h
  refine wpAny_Call_method m.base m.few m.line PySem.F.plainAttrs_dict PySem.F.slot_dict_setdefault PySem.F.type_dict_setdefault (thn (ho pins s σ H _ I h) fun u s1 ⟨x, H1, I1, rx, a, ex, d, q1⟩ => ?_)
  subst ex
  obtain rfl : u = Value.ref a := rx
  obtain ⟨t1, t2, _⟩ := isD_at I1 d
  refine ⟨t1, t2, ?_⟩
  rw [m.trees]
  refine Calls.callWith_builtin rfl (Calls.evalArgs_plain (Calls.spliced_cons (thn (he pins s1 σ H1 _ I1 q1) fun iv s2 ⟨y, H2, I2, ry, q2⟩ =>
    Calls.spliced_cons (thn (hf pins s2 σ H2 _ I2 q2) fun fv s3 ⟨z, H3, I3, rz, kvs, k, ea, hl, ey, q3, q4⟩ => Calls.spliced_nil ?_))))
  subst ey
  exact d_setd I3 ea hl ry rz (fun v w' s4 l I4 rw' => ⟨v, H3, I4, rw', q3 v l⟩) fun l s4 I4 => ⟨z, _, I4, rz, q4 l⟩
end
def clsAt (s : Stmt) (j : Nat) : Stmt := match s with
  | .ClassDef _ _ _ b _ _ _ _ _ _ _ => b.getD j (.Pass ⟨0, 0, 0, 0⟩)
  | _ => .Pass ⟨0, 0, 0, 0⟩
section
variable {X : Cx} {K : PySem.W.Frag} {o e value : Expr} {f : Str} {pos pos' : Pos} {ta tv : TE}
theorem pe_fldK (hK : X.K = K) (he : PE X e ta) (hb : attributeBase e f X.env (eval e X.env) = eval e X.env) : PE X (.Attribute e f pos) (tFld K ta f) := by subst hK; exact pe_fld he hb
theorem ps_fldK (hK : X.K = K) (ha : PE X o ta) (hv : PE X value tv) (hs : swapsWith value (some (.Attribute o f pos')) pos.line X.env = pure false) : PS X (.Assign [.Attribute o f pos'] value pos) (sFld K ta tv f) := by subst hK; exact ps_fld ha hv hs
end
end L2
namespace Lw
open PySem PySem.Spec PyProof.Rows L2
def ClM (P : Program) (w : World) (K : PySem.W.Frag) (mg : Str → Option Value) (base : Heap) (C : Addr) (m : Str) (ps : List Str) (n : Nat) (sp : Sp) : Prop :=
  ∃ f fd, FnOk P w K mg base CX0 n f fd ps sp ∧ Meth K C m f ∧ Binds K fd ps []
structure DfM (K : PySem.W.Frag) (C : Addr) (m q : Str) (st : Stmt) (ps : List Str) (f : Addr) (fd : FuncData) : Prop where
  F : Fun K m q st f fd
  b : Binds K fd ps []
  m : Meth K C m f
theorem DfM.cl {P : Program} {w : World} {K : PySem.W.Frag} {mg : Str → Option Value} {base : Heap} {C : Addr} {m q : Str} {st : Stmt} {ps : List Str} {f : Addr} {fd : FuncData} {n : Nat} {sp : Sp} (D : DfM K C m q st ps f fd) (h : FnOk P w K mg base CX0 n f fd ps sp) : ClM P w K mg base C m ps n sp :=
  ⟨f, fd, h, D.m, D.b⟩
structure Own (K : PySem.W.Frag) (C : Addr) : Prop where
  cl : Cls K C
  makes : PySem.W.makesIn K C = true
  kp : PySem.W.keepIn K (.ref C) = true
theorem Own.make {K : PySem.W.Frag} {C f : Addr} (o : Own K C) (m : Meth K C "__init__" f) : Mk K C f := ⟨o.makes, m.at_, m.fn, o.kp⟩
theorem dmkM {K : PySem.W.Frag} {C : Addr} {x q : Str} {st : Stmt} {ps : List Str} {f : Addr} {oc : Value} {od an : Option Addr} {osl : Array (Option Value)} {kV doc pm cdv ct : Value} (hf : PySem.W.findIn K (.ref C) x = some (some (.ref f))) (hi : PySem.W.isFn K (.ref f) = true)
    (l : K.lookup f = some ⟨oc, od, .func (PySem.W.fnOf x q (defArgs st) (defBody st) (defScope st) .none kV doc pm an cdv ct), osl⟩)
    (c : PySem.W.codeIn K cdv q = true) (k : PySem.W.keepIn K (.ref f) = true) (h : ∀ (kV doc pm : Value) (an : Option Addr) (cdv ct : Value) (us : List Value), us.length = ps.length → bindArgs (PySem.W.fnOf x q (defArgs st) (defBody st) (defScope st) .none kV doc pm an cdv ct) ⟨us, []⟩ = pure (ps.zip us)) :
    DfM K C x q st ps f (PySem.W.fnOf x q (defArgs st) (defBody st) (defScope st) .none kV doc pm an cdv ct) :=
  ⟨fun_mk l c k, (fun_mk l c k).binds h, ⟨hf, hi, k⟩⟩
end Lw
namespace Lw
open PySem PySem.Spec PyProof.Rows L2 Ma MaR
inductive Lq (K : PySem.W.Frag) (H : Hp) : Nat → V → V → Prop where
  | flat {d : Nat} {v : V} (h : flatV v = true) : Lq K H d v v
  | tup {d : Nat} {a b : Addr} {xs ys : List V} (h1 : SqT K H a xs) (h2 : SqT K H b ys) (hl : xs.length = ys.length) (hm : xs.length ≤ 100) (h : ∀ (i : Nat) (x y : V), xs[i]? = some x → ys[i]? = some y → Lq K H d x y) : Lq K H (d + 1) (.ref a) (.ref b)
  | lst {d : Nat} {a b : Addr} {xs ys : List V} (h1 : H a = some (.lst xs)) (h2 : H b = some (.lst ys)) (hl : xs.length = ys.length) (hm : xs.length ≤ 100) (h : ∀ (i : Nat) (x y : V), xs[i]? = some x → ys[i]? = some y → Lq K H d x y) : Lq K H (d + 1) (.ref a) (.ref b)
theorem Lq.same {K : PySem.W.Frag} {H H' : Hp} (s : Same H H') : ∀ {d : Nat} {x y : V}, Lq K H d x y → Lq K H' d x y := fun h => by
  induction h with
  | flat h => exact .flat h
  | tup h1 h2 hl hm _ ih => exact .tup (L2.SqT.same s h1) (L2.SqT.same s h2) hl hm ih
  | lst h1 h2 hl hm _ ih => exact .lst (s _ _ h1) (s _ _ h2) hl hm ih
def spLq (K : PySem.W.Frag) (d : Nat) : Sp := fun vs H Q _ => ∃ x y : V, vs = [x, y] ∧ Lq K H d x y ∧ ∀ H', Same H H' → Q (.bl true) H'
section
variable {K : PySem.W.Frag} {ts : List Tb} {H H2 H3 : Hp} {l z : Addr} {n m : Nat} {rs qs : List (List Nat)} {ps : List (Addr × Nat × List Nat)}
end
end Lw
namespace Lw
open PySem PySem.Spec PyProof.Rows L2 Ma MaR
section
variable {X : Cx}
theorem pairs_q {A : Around} {s : Shared} {xs ys : List V} {us vs : List Value} (rx : Vals xs us) (ry : Vals ys vs) (h : ∀ (i : Nat) (x y : V), xs[i]? = some x → ys[i]? = some y → ∀ u v, RelV x u → RelV y v → SeqAt.EqAt A s u v true) :
    ∀ (j : Nat) (h1 : j < us.toArray.size) (h2 : j < vs.toArray.size), SeqAt.EqAt A s us.toArray[j] vs.toArray[j] ((fun _ => true) j) := fun j h1 h2 => by
  have hx : j < xs.length := by rw [rx.length]; simpa using h1
  have hy : j < ys.length := by rw [ry.length]; simpa using h2
  obtain ⟨u, hu, ru⟩ := rx.get (List.getElem?_eq_getElem hx)
  obtain ⟨v, hv, rv⟩ := ry.get (List.getElem?_eq_getElem hy)
  have eu : us.toArray[j] = u := by
    have : us[j]? = some us.toArray[j] := by rw [List.getElem?_eq_getElem (by simpa using h1)]; simp
    rw [hu] at this; exact (Option.some.inj this).symm
  have ev : vs.toArray[j] = v := by
    have : vs[j]? = some vs.toArray[j] := by rw [List.getElem?_eq_getElem (by simpa using h2)]; simp
    rw [hv] at this; exact (Option.some.inj this).symm
  rw [eu, ev]
  exact h j _ _ (List.getElem?_eq_getElem hx) (List.getElem?_eq_getElem hy) u v ru rv
theorem all_tt (n : Nat) : (List.range n).all (fun _ => true) = true := List.all_eq_true.mpr fun _ _ => rfl
theorem eqAt_q {pins : List (Addr × Obj)} {σ : L2.St} {H : Hp} {s : Shared} (I : Inv X pins σ H s) {d : Nat} {x y : V} (h : Lq X.K H d x y) : ∀ (A : Around), A.units + d < cLine → ∀ u v, RelV x u → RelV y v → SeqAt.EqAt A s u v true := by
  induction h with
  | @flat d v hf =>
    intro A _ u w ru rw'
    have := eqAt_V (A := A) (s := s) ru rw' hf hf
    rwa [eqV_refl hf] at this
  | @tup d a b xs ys h1 h2 hl hm _ ih =>
    intro A hu u w ru rw'
    cases ru
    cases rw'
    by_cases hab : a = b
    · subst hab; exact SeqAt.EqAt.same _
    · obtain ⟨us, r1, p1, _⟩ := I.tuple h1
      obtain ⟨vs, r2, p2, _⟩ := I.tuple h2
      have z := SeqAt.RcAt.tuples (A := A) (show s.heap.IsTuple a us.toArray from p1) (show s.heap.IsTuple b vs.toArray from p2) (by omega) (pairs_q (A := A.in1) (s := s) r1 r2 fun i x y hx hy u v => ih i x y hx hy A.in1 (by show A.units + 1 + d < cLine; omega) u v)
      have e : ((List.range (min us.toArray.size vs.toArray.size)).all (fun _ => true) && us.toArray.size == vs.toArray.size) = true := by
        rw [all_tt, List.size_toArray, List.size_toArray, ← r1.length, ← r2.length, hl]; simp
      rw [e] at z
      exact SeqAt.EqAt.of_refs hab z
  | @lst d a b xs ys h1 h2 hl hm _ ih =>
    intro A hu u w ru rw'
    cases ru
    cases rw'
    by_cases hab : a = b
    · subst hab; exact SeqAt.EqAt.same _
    · obtain ⟨us, r1, p1, _⟩ := I.list (SqL.of h1)
      obtain ⟨vs, r2, p2, _⟩ := I.list (SqL.of h2)
      have z := SeqAt.RcAt.lists (A := A) p1.isList p2.isList (by simp; rw [← r1.length, ← r2.length]; exact hl) (by omega) (pairs_q (A := A.in1) (s := s) r1 r2 fun i x y hx hy u v => ih i x y hx hy A.in1 (by show A.units + 1 + d < cLine; omega) u v)
      rw [all_tt] at z
      exact SeqAt.EqAt.of_refs hab z
def rEqQ (K : PySem.W.Frag) (neg : Bool) : R2 := fun x y H Q => ∃ (d : Nat) (a b : Addr) (xs ys : List V), d ≤ 30 ∧ x = .ref a ∧ y = .ref b ∧ ((H a = some (.lst xs) ∧ H b = some (.lst ys)) ∨ (SqT K H a xs ∧ SqT K H b ys)) ∧ xs.length = ys.length ∧ (∀ (i : Nat) (x y : V), xs[i]? = some x → ys[i]? = some y → Lq K H d x y) ∧ Q (.bl (!neg)) H
theorem op_eqQ {K : PySem.W.Frag} (hK : X.K = K) (hu : X.A.units + 64 < cLine) : OpR X (compareOp .Eq) (rEqQ K false) := by
  subst hK
  intro pins s σ H x y v u Q I rx ry h
  obtain ⟨d, a, b, xs, ys, hd, rfl, rfl, hq, hl, hall, q⟩ := h
  cases rx
  cases ry
  rcases hq with ⟨ha, hb⟩ | ⟨ha, hb⟩
  · obtain ⟨us, r1, p1, _⟩ := I.list (SqL.of ha)
    obtain ⟨vs, r2, p2, _⟩ := I.list (SqL.of hb)
    refine SeqAt.eq_listAt p1.isList p2.isList (by simp; rw [← r1.length, ← r2.length]; exact hl) (by omega) (pairs_q (A := X.A.in1) (s := s) r1 r2 fun i x y hx hy u v => eqAt_q I (hall i x y hx hy) X.A.in1 (by show X.A.units + 1 + d < cLine; omega) u v) ?_
    rw [all_tt]
    exact ⟨.bl _, H, I, rfl, q⟩
  · obtain ⟨us, r1, p1, _⟩ := I.tuple ha
    obtain ⟨vs, r2, p2, _⟩ := I.tuple hb
    refine SeqAt.eq_tupleAt (show s.heap.IsTuple a us.toArray from p1) (show s.heap.IsTuple b vs.toArray from p2) (by omega) (pairs_q (A := X.A.in1) (s := s) r1 r2 fun i x y hx hy u v => eqAt_q I (hall i x y hx hy) X.A.in1 (by show X.A.units + 1 + d < cLine; omega) u v) ?_
    have e : ((List.range (min us.toArray.size vs.toArray.size)).all (fun _ => true) && us.toArray.size == vs.toArray.size) = true := by
      rw [all_tt, List.size_toArray, List.size_toArray, ← r1.length, ← r2.length, hl]; simp
    rw [e]
    exact ⟨.bl _, H, I, rfl, q⟩
theorem op_neQ {K : PySem.W.Frag} (hK : X.K = K) (hu : X.A.units + 64 < cLine) : OpR X (compareOp .NotEq) (rEqQ K true) := by
  subst hK
  intro pins s σ H x y v u Q I rx ry h
  obtain ⟨d, a, b, xs, ys, hd, rfl, rfl, hq, hl, hall, q⟩ := h
  cases rx
  cases ry
  rcases hq with ⟨ha, hb⟩ | ⟨ha, hb⟩
  · obtain ⟨us, r1, p1, _⟩ := I.list (SqL.of ha)
    obtain ⟨vs, r2, p2, _⟩ := I.list (SqL.of hb)
    refine EqBoolInt.of_rcne (SeqAt.RcNeAt.lists p1.isList p2.isList (by simp; rw [← r1.length, ← r2.length]; exact hl) (by omega) (pairs_q (A := X.A.in1) (s := s) r1 r2 fun i x y hx hy u v => eqAt_q I (hall i x y hx hy) X.A.in1 (by show X.A.units + 1 + d < cLine; omega) u v)) ?_
    rw [all_tt]
    exact ⟨.bl _, H, I, rfl, q⟩
  · obtain ⟨us, r1, p1, _⟩ := I.tuple ha
    obtain ⟨vs, r2, p2, _⟩ := I.tuple hb
    refine EqBoolInt.of_rcne (SeqAt.RcNeAt.tuples (show s.heap.IsTuple a us.toArray from p1) (show s.heap.IsTuple b vs.toArray from p2) (by omega) (pairs_q (A := X.A.in1) (s := s) r1 r2 fun i x y hx hy u v => eqAt_q I (hall i x y hx hy) X.A.in1 (by show X.A.units + 1 + d < cLine; omega) u v)) ?_
    have e : ((List.range (min us.toArray.size vs.toArray.size)).all (fun _ => true) && us.toArray.size == vs.toArray.size) = true := by
      rw [all_tt, List.size_toArray, List.size_toArray, ← r1.length, ← r2.length, hl]; simp
    rw [e]
    exact ⟨.bl _, H, I, rfl, q⟩
end
end Lw
namespace L2
open PySem PySem.Spec PyProof.Rows
section
variable {X : Cx} {pins : List (Addr × Obj)} {σ : St} {H : Hp} {s : Shared}
theorem Inv.freezeK {d : Addr} {kvs : List (Key × V)} (I : Inv X pins σ H s) (e : H d = some (.dK kvs)) : ∃ o, s.heap.get? d = some o ∧ Inv X pins σ (upd H d (.frz o (.dK kvs))) s := by
  obtain ⟨z, y, vs, r, o, es, ep, h1, h2⟩ := (show ObjOk X.prog X.w H s.heap d (.dK kvs) from I.hok d _ e)
  exact ⟨o, h1, I.swap e (fun _ z => by cases z) (.inl fun _ _ z => by cases z) (fun _ z => by cases z) (fun _ z => by cases z) ⟨h1, z, y, vs, r, o, es, ep, h1, h2⟩⟩
theorem Inv.thawK {d : Addr} {o : Obj} {kvs : List (Key × V)} (I : Inv X pins σ H s) (e : H d = some (.frz o (.dK kvs))) (h0 : ∀ o v, X.H₀ d ≠ some (.frz o v)) : Inv X pins σ (upd H d (.dK kvs)) s := by
  obtain ⟨_, z, y, r⟩ := (show ObjOk X.prog X.w H s.heap d (.frz o (.dK kvs)) from I.hok d _ e)
  exact I.swap e (fun _ z => by cases z) (.inr h0) (fun _ z => by cases z) (fun _ z => by cases z) ⟨z, y, r⟩
def ThawsK (H0 H H' : Hp) : Prop := H' = H ∨ ∃ d o kvs, H d = some (.frz o (.dK kvs)) ∧ (∀ o v, H0 d ≠ some (.frz o v)) ∧ H' = upd H d (.dK kvs)
def tThawK (H0 : Hp) (t : TE) : TE := fun σ H Q => t σ H fun v H' => ∃ H'', ThawsK H0 H' H'' ∧ Q v H''
theorem pe_thawK {e : Expr} {t : TE} {H0 : Hp} (h0 : X.H₀ = H0) (h : PE X e t) : PE X e (tThawK H0 t) := by
  subst h0
  intro pins s σ H Q I q
  refine thn (h pins s σ H _ I q) fun u s1 ⟨v, H1, I1, rv, H2, th, q2⟩ => ?_
  rcases th with rfl | ⟨d, o, kvs, e1, n0, rfl⟩
  · exact ⟨v, _, I1, rv, q2⟩
  · exact ⟨v, _, I1.thawK e1 n0, rv, q2⟩
end
def Itdk (d : Addr) (o : Obj) (kvs : List (Key × V)) : It :=
  ⟨fun i H => H d = some (.frz o (.dK kvs)) ∧ i < kvs.length, fun i H x H' => H' = H ∧ ∃ k v, kvs[i]? = some (k, v) ∧ x = kV k, fun i H => H d = some (.frz o (.dK kvs)) ∧ kvs.length ≤ i⟩
theorem frzK_at {X : Cx} {pins : List (Addr × Obj)} {σ : St} {H : Hp} {s : Shared} {d : Addr} {o : Obj} {kvs : List (Key × V)} (I : Inv X pins σ H s) (e : H d = some (.frz o (.dK kvs))) :
    s.heap.get? d = some o ∧ (d == sysModules) = false ∧ ∃ (vs : List (Key × Value)) (es : Array DictEntry) (ep : Nat), KV kvs vs ∧ o.ExactDict ∧ o.data = .dict es ep ∧ Pairs (mixKind X.prog X.w) es.toList vs := by
  obtain ⟨h0, z, y, vs, r, o', es, ep, h1, h2, h3, h4, h5, h6⟩ := (show ObjOk X.prog X.w H s.heap d (.frz o (.dK kvs)) from I.hok d _ e)
  rw [h0] at h1
  cases h1
  exact ⟨h0, y, vs, es, ep, r, h2, h3, h5⟩
theorem kV_of {P : Program} {w : World} {k : Key} {u : Value} (h : (mixKind P w).is k u = true) : RelV (kV k) u := by
  rcases keyIs_shape h with ⟨i, t, rfl, rfl⟩ | ⟨x, t, rfl, rfl⟩
  · exact ⟨t, rfl⟩
  · exact ⟨t, rfl⟩
theorem pairs_at {P : Program} {w : World} : ∀ {es : List DictEntry} {vs : List (Key × Value)}, Pairs (mixKind P w) es vs → ∀ {kvs : List (Key × V)}, KV kvs vs → ∀ {i : Nat} {kv : Key × V}, kvs[i]? = some kv → ∃ e, es[i]? = some e ∧ RelV (kV kv.1) e.key := by
  intro es vs hp
  induction hp with
  | nil =>
    intro kvs r i kv h
    cases r
    simp at h
  | @cons e p es vs h1 h2 hp ih =>
    intro kvs r i kv h
    cases r with
    | cons ra rb =>
      cases i with
      | zero =>
        simp at h
        subst h
        exact ⟨e, rfl, by rw [ra.1]; exact kV_of h1⟩
      | succ i =>
        obtain ⟨e', he, hr⟩ := ih rb (i := i) (kv := kv) (by simpa using h)
        exact ⟨e', by simpa using he, hr⟩
theorem turn_keyK {P : Program} {w : World} {K : PySem.W.Frag} {tg : Expr} (d it : Addr) (o : Obj) (es : Array DictEntry) (ep : Nat) (kvs : List (Key × V)) (od : o.data = .dict es ep) (hl : es.size = kvs.length) :
    Turn P w K tg (Itdk d o kvs) [it] it (fun i h => h.IsKeyIter it d i es.size ep) where
  mem := by simp
  obj := fun i h st b hb => by
    have e : b = it := by simpa using hb
    subst e
    obtain ⟨o, e, c, d⟩ := st
    exact ⟨o, e, fun v z => by rw [d] at z; cases z⟩
  keep := fun i h h' st k => st.at fun o e => k it (by simp) o e
  item := by
    intro X hP hw hK hc i pins s σ H E I hf st hg
    subst hP hw hK
    obtain ⟨hd, hi⟩ := hg
    obtain ⟨g0, _, vs, es', ep', r, _, od', hp⟩ := frzK_at I hd
    rw [od] at od'
    cases od'
    obtain ⟨kv, hkv⟩ : ∃ kv, kvs[i]? = some kv := ⟨_, List.getElem?_eq_getElem hi⟩
    obtain ⟨en, hen, hr⟩ := pairs_at hp r hkv
    have hes : es[i]? = some en := by rw [← Array.getElem?_toList]; exact hen
    obtain ⟨f0, f1, f2, f3, f4, f5⟩ := hf it (by simp)
    refine nextK_item (n := 0) st g0 od hes fun h' st' sb => ?_
    have I1 : Inv X pins σ H { s with heap := h' } := I.turned (t' := s.toks) (fun b o hb e => (sb.2 b hb).trans e) f0 f1 f3 f4 f5
    obtain ⟨o2, e2, c2, d2⟩ := id st'
    exact ⟨_, rfl, go_of (s := { s with heap := h' }) e2 c2 d2 (by decide) ⟨kV kv.1, H, I1, hr, ⟨rfl, kv.1, kv.2, hkv, rfl⟩, st', fun b hb => (hf b hb).1⟩⟩
  done := by
    intro X hP hw hK hc i pins s σ H E I hf st hg
    subst hP hw hK
    obtain ⟨hd, hi⟩ := hg
    obtain ⟨g0, _, vs, es', ep', r, _, od', hp⟩ := frzK_at I hd
    rw [od] at od'
    cases od'
    obtain ⟨f0, f1, f2, f3, f4, f5⟩ := hf it (by simp)
    exact nextK_end (n := 0) (I.ok.hd hc) st g0 od (by rw [Array.getElem?_eq_none_iff]; omega) fun h' eb => ⟨rfl, I.turned (t' := s.toks) (fun b o hb e => eb b o hb e) f0 f1 f3 f4 f5⟩
  self := fun _ _ _ _ _ st h => wpAny_pyIter_keyiter st h
section
variable {X : Cx}
def iDictI (td : TE) : TI := fun σ H R => td σ H fun x H1 => ∃ d kvs, x = .ref d ∧ ((H1 d = some (.dK kvs) ∧ ∀ o, R (Itdk d o kvs) (upd H1 d (.frz o (.dK kvs)))) ∨ ∃ o, H1 d = some (.frz o (.dK kvs)) ∧ R (Itdk d o kvs) H1)
theorem pi_dictI {tg e : Expr} {td : TE} (he : PE X e td) : PI X tg e (iDictI td) := by
  intro pins s σ H R I h
  refine thn (he pins s σ H _ I h) fun u s1 ⟨x, H1, I1, rx, d, kvs, ex, hq⟩ => ?_
  subst ex
  cases (show u = Value.ref d from rx)
  obtain ⟨o, H2, e2, I2, q2⟩ : ∃ o H2, H2 d = some (.frz o (.dK kvs)) ∧ Inv X pins σ H2 s1 ∧ R (Itdk d o kvs) H2 := by
    rcases hq with ⟨e1, q⟩ | ⟨o, e1, q⟩
    · obtain ⟨o, _, I2⟩ := I1.freezeK e1
      exact ⟨o, _, upd_same, I2, q o⟩
    · exact ⟨o, H1, e1, I1, q⟩
  obtain ⟨g0, hn, vs, es, ep, r, xo, od, hp⟩ := frzK_at I2 e2
  have hl : es.size = kvs.length := by rw [← Array.length_toList, hp.length, ← KV.length r]
  refine iter_key hn g0 xo od ⟨s1.heap.objs.size, [s1.heap.objs.size], _, Itdk d o kvs, H2, rfl, I2.kept (t' := s1.toks) (fun b u e => Heap.get?_push_of_some _ e), turn_keyK d _ o es ep kvs od hl, ⟨_, Heap.get?_push_size _ rfl, rfl, rfl⟩, fun b hb => ?_, q2⟩
  have e : b = s1.heap.objs.size := by simpa using hb
  subst e
  exact I2.fpOk (Nat.le_refl _) (I2.hok.fresh (Nat.le_refl _))
end
theorem comp_keyI {d : Addr} {o : Obj} {kvs : List (Key × V)} {D : Addr} {Q : VK} {ti : TT} {te : TE} {c : St} {H0 : Hp} (Pv : Nat → Hp → Prop) (h0 : Pv 0 H0) (hl : ∀ i H, i ≤ kvs.length → Pv i H → H d = some (.frz o (.dK kvs)))
    (hs : ∀ i k v H, kvs[i]? = some (k, v) → Pv i H → ti (some (kV k) :: c) H fun b H1 => if b = true then te (some (kV k) :: c) H1 fun y H2 => ∃ ys, H2 D = some (.lst ys) ∧ ys.length < sizeLine ∧ Pv (i + 1) (upd H2 D (.lst (ys ++ [y]))) else Pv (i + 1) H1)
    (hd : ∀ H, Pv kvs.length H → Q (.ref D) H) : compGo (Itdk d o kvs) D Q ti te c H0 := by
  refine ⟨fun i m H' => m = kvs.length - i ∧ i ≤ kvs.length ∧ Pv i H', ⟨kvs.length, by simp, Nat.zero_le _, h0⟩, ?_⟩
  rintro i m H' ⟨rfl, hi, p⟩
  have q := hl i H' hi p
  by_cases hlt : i < kvs.length
  · refine .inr ⟨⟨q, hlt⟩, Pv (i + 1), fun H'' p => ⟨kvs.length - (i + 1), by omega, rfl, hlt, p⟩, fun v H2 y => ?_⟩
    obtain ⟨e, k, v', hk, rfl⟩ := y
    subst e
    exact hs i k v' H2 hk p
  · have e : i = kvs.length := by omega
    subst e
    exact .inl ⟨⟨q, Nat.le_refl _⟩, hd H' p⟩
theorem DGet.fk {H : Hp} {a : Addr} {o : Obj} {kvs : List (Key × V)} {k : Key} (e : H a = some (.frz o (.dK kvs))) : DGet H a (kV k) (valV kvs k) := .inl ⟨kvs, k, .inr ⟨o, e⟩, rfl, rfl⟩
end L2
namespace PySem
open Sem (wp)
open Builtin
theorem noFill_tuple_mul : fillsNumberSlot (.type "tuple") "mul" = pure false :=
  fillsNumberSlot_seq (id := "tuple.__mul__") (r := some (.builtin "tuple.__rmul__")) F.slot_tuple_mul.lookup (by decide +kernel) F.slot_tuple_rmul.lookup (by decide +kernel)
theorem repeat_tuple : seqRepeat? (.type "tuple") = pure (some (.builtin "tuple.__mul__")) := by
  unfold seqRepeat?
  rw [seqSlot_of (T := "tuple") (name := "__mul__") (id := "tuple.__mul__") F.slot_tuple_mul.lookup (by decide +kernel), seqSlot_of (T := "tuple") (name := "__rmul__") (id := "tuple.__rmul__") F.slot_tuple_rmul.lookup (by decide +kernel)]
  rfl
theorem rmul_tuple (a : Int) (t : Tok) (l : Addr) (items : Array Value) :
    Meets (Builtin.«int.__rmul__» ⟨[.int a t, .ref l], []⟩) (fun _ R s => PyProof.Rows.IsTup s.heap l items ∧ R (.ok (.ret Value.notImplemented)) s) :=
  .of_wp fun prog w A R s h => by
    obtain ⟨hp, g, d, tk, os⟩ := s
    obtain ⟨⟨⟨cls, dd, data, sl⟩, ho, hc, n, hd⟩, h⟩ := h
    simp only at hc hd ho
    subst hc hd
    wp_walk
    exact ⟨_, rfl, h⟩
theorem mul_tuple (k : Int) (t : Tok) (l : Addr) (items : Array Value) (h0 : items.isEmpty = false) (h1 : 1 ≤ k) (h2 : k < 2 ^ 63) (hz : items.size * k.toNat ≤ sizeLine) :
    Meets (Builtin.«tuple.__mul__» ⟨[.ref l, .int k t], []⟩) (fun _ R s => PyProof.Rows.IsTup s.heap l items ∧ (k = 1 → R (.ok (.ret (.ref l))) s) ∧
      (k ≠ 1 → R (.ok (.ret (.ref s.heap.objs.size))) { s with heap := s.heap.push { cls := .type "tuple", data := .seq ((List.replicate k.toNat items).foldl (· ++ ·) #[]) } })) :=
  .of_wp fun prog w A R s h => by
    obtain ⟨hp, g, d, tk, os⟩ := s
    obtain ⟨⟨⟨cls, dd, data, sl⟩, ho, hc, n, hd⟩, hA, hB⟩ := h
    simp only at hc hd ho
    subst hc hd
    wp_walk
    have o1 : ¬ (decide (k < -2 ^ 63) || decide (k ≥ 2 ^ 63)) = true := by
      rw [decide_eq_false (by omega), decide_eq_false (by omega)]
      decide
    rw [if_neg o1]
    refine wpAny_bind (wpAny_tupleItemsOf ho rfl ?_)
    by_cases hk : k = 1
    · have o2 : (items.isEmpty || k == 1) = true := by rw [hk]; simp
      rw [if_pos o2]
      wp_walk
      exact ⟨_, rfl, hA hk⟩
    · have o2 : ¬ (items.isEmpty || k == 1) = true := by rw [h0, beq_false_of_ne hk]; decide
      have o3 : ¬ (decide (k ≤ 0) || items.isEmpty) = true := by rw [h0, decide_eq_false (by omega)]; decide
      have e4 : ((items.size : Nat) : Int) * k = ((items.size * k.toNat : Nat) : Int) := by rw [Int.natCast_mul, Int.toNat_of_nonneg (by omega)]
      have o4 : ¬ ((items.size : Nat) : Int) * k > (2 ^ 63 - 1) / 8 := by
        rw [e4]
        have : (sizeLine : Nat) ≤ (2 ^ 63 - 1) / 8 := by decide
        omega
      have o5 : ¬ Tuple.tupleTooMany (((items.size : Nat) : Int) * k) = true := by
        unfold Tuple.tupleTooMany
        rw [e4]
        simp only [decide_eq_true_eq]
        omega
      rw [if_neg o2]
      show wpAny _ _ (if (decide (k ≤ 0) || items.isEmpty) = true then _ else _) _ _ _
      rw [if_neg o3]
      show wpAny _ _ (if ((items.size : Nat) : Int) * k > (2 ^ 63 - 1) / 8 then _ else _) _ _ _
      rw [if_neg o4]
      show wpAny _ _ (if Tuple.tupleTooMany (((items.size : Nat) : Int) * k) = true then _ else _) _ _ _
      rw [if_neg o5]
      unfold Tuple.tupleExact
      refine wpAny_bind (wpAny_newObj_type ?_ ?_)
      · exact wpAny_pure ⟨_, rfl, hB hk⟩
      · have e5 := L2.foldl_rep items.toList k.toNat []
        have e6 : List.foldl (fun x1 x2 => x1 ++ x2) #[] (List.replicate k.toNat items) = ((List.replicate k.toNat items.toList).flatten).toArray := by
          rw [List.nil_append] at e5
          simpa using e5
        rw [e6]
        show ((List.replicate k.toNat items.toList).flatten).toArray.size ≤ sizeLine
        rw [List.size_toArray, L2.len_rep, Array.length_toList, Nat.mul_comm]
        exact hz
end PySem
namespace L2
open PySem PySem.Spec PyProof.Rows
def rRepT (K : PySem.W.Frag) : R2 := fun x y H Q => ∃ a k xs, x = .ref a ∧ y = .int k ∧ SqT K H a xs ∧ xs ≠ [] ∧ 1 ≤ k ∧ k < 2 ^ 63 ∧ xs.length * k.toNat ≤ sizeLine ∧
  (k = 1 → Q (.ref a) H) ∧ (k ≠ 1 → ∀ p, H p = none → Q (.ref p) (upd H p (.tup (List.replicate k.toNat xs).flatten)))
theorem op_repTK {X : Cx} {K : PySem.W.Frag} (hK : X.K = K) : OpR X (binaryOp .Mult) (rRepT K) := by
  subst hK
  intro pins s σ H x y v u Q I rx ry h
  obtain ⟨a, k, xs, rfl, rfl, ha, h0, h1, h2, hz, q1, q2⟩ := h
  cases rx
  obtain ⟨t, rfl⟩ := ry
  obtain ⟨its, r, p, _⟩ := I.tuple ha
  have hT : s.TypeIs (.ref a) "tuple" := by
    obtain ⟨o, e, c, _⟩ := id p
    exact ⟨o, e, c⟩
  have hne : its.toArray.isEmpty = false := by
    cases its with
    | nil => exact absurd (r.nil_iff.mp rfl) h0
    | cons b c => rfl
  refine wpAny_binaryOp_repeat_ref (T := "tuple") (U := "int") (by decide) hT (fun s' => typeIs_int s' k t) noFill_tuple_mul F.fills_int_mul F.slot_int_rmul repeat_tuple F.slot_int_index.lookup
    (call_meets F.slot_int_rmul (typeIs_int s k t) F.entry_int_rmul (F.args_int_rmul_2 _ _) (rmul_tuple k t a its.toArray)
      ⟨p, rfl, hT, call_meets F.slot_tuple_mul hT F.entry_tuple_mul (F.args_tuple_mul_2 _ _) (mul_tuple k t a its.toArray hne h1 h2 (by rw [List.size_toArray, ← r.length]; exact hz)) ⟨p, fun e => ⟨.ref a, H, I, rfl, q1 e⟩, fun e => ?_⟩⟩)
  have e6 : List.foldl (fun x1 x2 => x1 ++ x2) #[] (List.replicate k.toNat its.toArray) = ((List.replicate k.toNat its).flatten).toArray := by
    have e5 := foldl_rep its k.toNat []
    rw [List.nil_append] at e5
    exact e5
  rw [e6]
  refine ⟨.ref s.heap.objs.size, _, I.laid (t' := s.toks) (o := .tup (List.replicate k.toNat xs).flatten) (fun b ob q => Heap.get?_push_of_some _ q) (Nat.le_refl _) ?_, rfl, q2 e _ (I.hok.fresh (Nat.le_refl _))⟩
  exact ⟨by rw [len_rep, Nat.mul_comm]; exact hz, _, r.rep k.toNat, IsTup.new _ _, NoD.new _ _⟩
end L2
namespace Lw
open PySem PySem.Spec PyProof.Rows L2 Ma MaR
def wf (hd tn wy al : Addr) : List (Str × V) := putF "alike" (.ref al) (putF "ways" (.ref wy) (putF "turns" (.ref tn) (putF "heads" (.ref hd) [])))
theorem wn1 : ¬ (("heads" : Str) = "alike") := by decide +kernel
theorem wn2 : ¬ (("heads" : Str) = "ways") := by decide +kernel
theorem wn3 : ¬ (("heads" : Str) = "turns") := by decide +kernel
theorem wn6 : ¬ (("ways" : Str) = "alike") := by decide +kernel
section
variable (hd tn wy al : Addr)
theorem wf_heads : (wf hd tn wy al).lookup ("heads" : Str) = some (.ref hd) := by unfold wf; rw [lookup_putF, if_neg wn1, lookup_putF, if_neg wn2, lookup_putF, if_neg wn3, lookup_putF, if_pos rfl]
theorem wf_ways : (wf hd tn wy al).lookup ("ways" : Str) = some (.ref wy) := by unfold wf; rw [lookup_putF, if_neg wn6, lookup_putF, if_pos rfl]
theorem wf_alike : (wf hd tn wy al).lookup ("alike" : Str) = some (.ref al) := by unfold wf; rw [lookup_putF, if_pos rfl]
theorem wf_no {m : Str} (h1 : ¬ m = "alike") (h2 : ¬ m = "ways") (h3 : ¬ m = "turns") (h4 : ¬ m = "heads") : (wf hd tn wy al).lookup m = none := by
  unfold wf
  rw [lookup_putF, if_neg h1, lookup_putF, if_neg h2, lookup_putF, if_neg h3, lookup_putF, if_neg h4]
  rfl
end
structure Wv (C : Addr) (H : Hp) (p d : Addr) (kvs : List (Key × V)) : Prop where
  ob : ∃ dx hd tn wy al, H p = some (.ins C dx (wf hd tn wy al)) ∧ H hd = some (.lst [.int 0]) ∧ H tn = some (.lst [.str (S [])]) ∧ H wy = some (.lst [.ref d]) ∧ H al = some (.lst [])
  dc : H d = some (.dK kvs)
theorem Wv.same {C : Addr} {H H' : Hp} {p d : Addr} {kvs : List (Key × V)} (h : Wv C H p d kvs) (s : Same H H') : Wv C H' p d kvs := by
  obtain ⟨⟨dx, hd, tn, wy, al, a, b, c, e, f⟩, g⟩ := h
  exact ⟨⟨dx, hd, tn, wy, al, s _ _ a, s _ _ b, s _ _ c, s _ _ e, s _ _ f⟩, s _ _ g⟩
def Ways (H : Hp) (kvs : List (Key × V)) (m : Nat → Option (List Nat)) : Prop := ∀ c, match m c with
  | some w => ∃ t, valV kvs (.inr (S [c])) = some (.ref t) ∧ H t = some (.tup [.int 0, .str (S w)])
  | none => valV kvs (.inr (S [c])) = none
def spNo : Sp := fun _ _ _ _ => False
def spWInit (C : Addr) : Sp := fun vs H Q _ => ∃ (p dx : Addr), vs = [.ref p] ∧ H p = some (.ins C dx []) ∧ ∀ (d : Addr) (H' : Hp), H d = none → Wv C H' p d [] → (∀ b o, H b = some o → b ≠ p → H' b = some o) → Q .non H'
def spEnd (C : Addr) : Sp := fun vs H Q _ => ∃ (p d : Addr) (kvs : List (Key × V)) (x : Str), vs = [.ref p, .int 0, .str x] ∧ Wv C H p d kvs ∧ ∀ (t : Addr) (H' : Hp), H t = none → Same H H' → H' t = some (.tup [.int 0, .str x]) → Q (.ref t) H'
def spHeadW (C : Addr) : Sp := fun vs H Q _ => ∃ (p d : Addr) (kvs : List (Key × V)), vs = [.ref p, .int 0] ∧ Wv C H p d kvs ∧ ∀ H', Same H H' → Q (.int 0) H'
def spGoal (C : Addr) : Sp := fun vs H Q _ => ∃ (p d : Addr) (kvs : List (Key × V)) (m : Nat → Option (List Nat)) (c : Nat), vs = [.ref p, .int 0, .str (S [c])] ∧ Wv C H p d kvs ∧ Ways H kvs m ∧ ∀ H', Same H H' → Q (if (m c).isSome = true then .int 0 else .non) H'
theorem put_obj {H : Hp} {p q : Addr} {o : HO} (u o' : HO) (hp : H p = some o) (hq : H q = none) : upd (upd H q u) p o' p = some o' ∧ upd (upd H q u) p o' q = some u ∧ ∀ b x, H b = some x → b ≠ p → upd (upd H q u) p o' b = some x := by
  have n : q ≠ p := (ne_of_none hp hq).symm
  refine ⟨upd_same, by rw [upd_ne n, upd_same], fun b x e hb => ?_⟩
  rw [upd_ne hb, upd_ne (ne_of_none e hq)]
  exact e
theorem put_at {H : Hp} {p q : Addr} {o : HO} (u : HO) (hp : H p = some o) (hq : H q = none) : upd H q u p = some o := by rw [upd_ne (ne_of_none hp hq)]; exact hp
theorem while_zero {c : TT} {tb : TS} {D : L2.Ends} {σ : L2.St} {H : Hp} (h : ∀ Q : Bool → Hp → Prop, (∀ H1, D.nx σ H1 → Q false H1) → c σ H Q) : tWhile c tb D σ H :=
  ⟨fun _ σ' H' => σ' = σ ∧ H' = H, ⟨0, rfl, rfl⟩, fun m σ' H' ⟨a, b⟩ => by subst a; subst b; exact h _ fun H1 q => q⟩
def KpD (d : Addr) (H H' : Hp) : Prop := ∀ b o, H b = some o → b ≠ d → H' b = some o
theorem KpD.trans {d : Addr} {H H1 H2 : Hp} (a : KpD d H H1) (b : KpD d H1 H2) : KpD d H H2 := fun c o h n => b c o (a c o h n) n
theorem KpD.same {d : Addr} {H H' : Hp} (s : Same H H') : KpD d H H' := fun b o h _ => s b o h
theorem Wv.put {C : Addr} {H H' : Hp} {p d : Addr} {kvs kvs' : List (Key × V)} (h : Wv C H p d kvs) (k : KpD d H H') (e : H' d = some (.dK kvs')) : Wv C H' p d kvs' := by
  obtain ⟨⟨dx, hd, tn, wy, al, a, b, c, f, g⟩, z⟩ := h
  have n : ∀ {x : Addr} {o : HO}, H x = some o → o ≠ .dK kvs → H' x = some o := fun {x o} hx ho => k x o hx (ne_of hx z ho)
  exact ⟨⟨dx, hd, tn, wy, al, n a (by intro q; cases q), n b (by intro q; cases q), n c (by intro q; cases q), n f (by intro q; cases q), n g (by intro q; cases q)⟩, e⟩
theorem Ways.put {H H' : Hp} {d t : Addr} {kvs : List (Key × V)} {m : Nat → Option (List Nat)} {c : Nat} {w : List Nat} (h : Ways H kvs m) (hd : H d = some (.dK kvs)) (k : KpD d H H') (ht : H' t = some (.tup [.int 0, .str (S w)])) : Ways H' (putK kvs (.inr (S [c])) (.ref t)) (fun x => if x = c then some w else m x) := by
  intro x
  show match (if x = c then some w else m x) with
    | some w => _
    | none => _
  by_cases q : x = c
  · subst q
    rw [if_pos rfl]
    exact ⟨t, by rw [valV_put, if_pos rfl], ht⟩
  · rw [if_neg q]
    have nk : ¬ (Sum.inr (S [x]) : Key) = Sum.inr (S [c]) := fun z => q (by
      have z2 := Sum.inr.inj z
      have := congrArg (fun y : Str => y.cps.toList) z2
      simpa [S] using this)
    have hx := h x
    cases e : m x with
    | none =>
      rw [e] at hx
      show valV _ _ = none
      rw [valV_put, if_neg nk]
      exact hx
    | some v =>
      rw [e] at hx
      obtain ⟨u, hu, hu2⟩ := (show ∃ u, valV kvs (.inr (S [x])) = some (.ref u) ∧ H u = some (.tup [.int 0, .str (S v)]) from hx)
      exact ⟨u, by rw [valV_put, if_neg nk]; exact hu, k u _ hu2 (ne_of hu2 hd (by intro z; cases z))⟩
def spLayW (C : Addr) : Sp := fun vs H Q _ => ∃ (p d : Addr) (kvs : List (Key × V)) (m : Nat → Option (List Nat)) (c : Nat) (w : List Nat), vs = [.ref p, .int 0, .str (S [c]), .int 0, .str (S w)] ∧ Wv C H p d kvs ∧ Ways H kvs m ∧ m c = none ∧ kvs.length ≤ 100 ∧
  ∀ (kvs' : List (Key × V)) (H' : Hp), Wv C H' p d kvs' → Ways H' kvs' (fun x => if x = c then some w else m x) → kvs'.length ≤ kvs.length + 1 → KpD d H H' → Q .non H'
def spWordW (C : Addr) : Sp := fun vs H Q _ => ∃ (p d : Addr) (kvs : List (Key × V)) (m : Nat → Option (List Nat)) (c : Nat) (w : List Nat), vs = [.ref p, .str (S [c]), .str (S w)] ∧ Wv C H p d kvs ∧ Ways H kvs m ∧ isL c ∧ AllL w ∧ w.length ≤ 1000 ∧ m c = none ∧ m (con c) = none ∧ kvs.length ≤ 90 ∧
  ∀ (kvs' : List (Key × V)) (H' : Hp), Wv C H' p d kvs' → Ways H' kvs' (fun x => if x = con c then some (back w) else if x = c then some w else m x) → kvs'.length ≤ kvs.length + 2 → KpD d H H' → Q .non H'
def spFold (C : Addr) : Sp := fun vs H Q _ => ∃ (p d : Addr) (kvs : List (Key × V)), vs = [.ref p] ∧ Wv C H p d kvs ∧ ∀ H', Same H H' → Q .non H'
def spRoundW (C : Addr) : Sp := fun vs H Q _ => ∃ (p d : Addr) (kvs : List (Key × V)) (m : Nat → Option (List Nat)) (c : Nat) (w : List Nat), vs = [.ref p, .str (S [c])] ∧ Wv C H p d kvs ∧ Ways H kvs m ∧ m c = some w ∧ AllL w ∧ w.length ≤ 1000 ∧ ∀ H', Same H H' → Q (.str (S (lay w))) H'
theorem Ways.same {H H' : Hp} {kvs : List (Key × V)} {m : Nat → Option (List Nat)} (h : Ways H kvs m) (s : Same H H') : Ways H' kvs m := by
  intro c
  have hc := h c
  cases e : m c with
  | none => rw [e] at hc; exact hc
  | some w =>
    rw [e] at hc
    obtain ⟨t, a, b⟩ := (show ∃ t, valV kvs (.inr (S [c])) = some (.ref t) ∧ H t = some (.tup [.int 0, .str (S w)]) from hc)
    exact ⟨t, a, s _ _ b⟩
def spNums (C : Addr) : Sp := fun vs H Q _ => ∃ (n : Nat) (p d : Addr) (kvs : List (Key × V)) (m : Nat → Option (List Nat)), vs = [.int (n : Nat), .ref p] ∧ 1 ≤ n ∧ n ≤ 4 ∧ Wv C H p d kvs ∧ Ways H kvs m ∧ ∀ (t : Addr) (H' : Hp), Same H H' → H t = none → H' t = some (.dK [(.inl 0, .int 0)]) → Q (.ref t) H'
end Lw
namespace L2
open PySem PySem.Spec PyProof.Rows
theorem isTx_at {z : Str} {ws : List Str} {us : List Value} (r : Vals (ws.map V.str) us) {i : Nat} (hi : i < us.length) : ∃ w t, ws[i]? = some w ∧ us[i] = .str w t := by
  have hl : us.length = ws.length := by rw [← r.length, List.length_map]
  have hw : ws[i]? = some ws[i] := List.getElem?_eq_getElem (by omega)
  obtain ⟨u, hu, ru⟩ := r.get (show (ws.map V.str)[i]? = some (.str ws[i]) by rw [List.getElem?_map, hw]; rfl)
  obtain ⟨t, rfl⟩ := ru
  rw [List.getElem?_eq_getElem hi] at hu
  exact ⟨_, t, hw, Option.some.inj hu⟩
end L2
namespace PySem
namespace SeqAt
theorem wpAny_forIn_range {prog : Program} {w : World} {A : Around} {E : Value → Shared → Prop} {s : Shared} {β : Type} {a b : Nat} {c : β} {f : Nat → β → Sem (ForInStep β)} {Q : β → Shared → Prop} (h : wpAny (model prog w) A (forIn (List.range' a (b - a)) c f) Q E s) : wpAny (model prog w) A (forIn [a:b] c f) Q E s := by
  rw [Std.Legacy.Range.forIn_eq_forIn_range']
  have hsz : ([a:b] : Std.Legacy.Range).size = b - a := by simp [Std.Legacy.Range.size]
  show wpAny _ _ (forIn (List.range' a ([a:b] : Std.Legacy.Range).size 1) c f) _ _ _
  rw [hsz]
  exact h
theorem wpAny_forIn_rangeL {prog : Program} {w : World} {A : Around} {E : Value → Shared → Prop} {s : Shared} {β : Type} {a b : Nat} {c : β} (f : Nat → β → Sem (ForInStep β)) (I : List Nat → β → Shared → Prop) (Q : β → Shared → Prop)
    (turn : ∀ x rest b s, I (x :: rest) b s → wpAny (model prog w) A (f x b) (fun r s' => match r with | .yield b' => I rest b' s' | .done b' => Q b' s') E s)
    (fin : ∀ b s, I [] b s → Q b s) (h : I (List.range' a (b - a)) c s) : wpAny (model prog w) A (forIn [a:b] c f) Q E s :=
  wpAny_forIn_range (wpAny_forIn_list f I Q turn fin _ _ h)
theorem tuple_indexAt (l : Addr) (items : Array Value) (n : Nat) (dd : Option Addr) (sl : Array (Option Value)) (x : Value) (e : Value → Bool) (j : Nat) (hj : j < items.size) (hit : e items[j] = true) (hno : ∀ m (hm : m < items.size), m < j → e items[m] = false) :
    Meets (Builtin.«tuple.index» ⟨[.ref l, x], []⟩)
      (fun A R s => s.heap.get? l = some { cls := .type "tuple", dict := dd, data := .seq items n, slots := sl } ∧ (∀ y, y ∈ items → EqAt A.in1 s y x (e y)) ∧ R (.ok (.ret (.int j s.toks))) { s with toks := s.toks + 1 }) :=
  .of_wp fun prog w A R s h => by
    obtain ⟨hp, g, d, tk, os⟩ := s; obtain ⟨hl, he, h⟩ := h
    wp_walk using wpAny_loadPart' hl, wpAny_forIn_rangeL _ (fun rest (b : Option PySem.Fin × Unit) s' => b.1 = none ∧ s' = ⟨hp, g, d, tk, os⟩ ∧ ∃ i, i ≤ j ∧ rest = List.range' i (items.size - i)) _
    case turn =>
      rintro y rest b s' ⟨hb, rfl, i, hi, hr⟩
      have hlt : i < items.size := by omega
      have e0 : items.size - i = (items.size - (i + 1)) + 1 := by omega
      rw [e0, List.range'_succ] at hr
      injection hr with hy hr
      subst hy
      subst hr
      rw [Array.getElem?_eq_getElem hlt]
      refine wpAny_bind (he _ (Array.getElem_mem hlt) prog w _ _ ?_)
      by_cases hij : y = j
      · subst hij
        rw [hit]
        wp_walk
        exact ⟨_, rfl, h⟩
      · rw [hno y hlt (by omega)]
        wp_walk
        exact ⟨rfl, rfl, y + 1, by omega, rfl⟩
    case fin =>
      rintro b s' ⟨hb, rfl, i, hi, hr⟩
      have : (List.range' i (items.size - i)).length = 0 := by rw [← hr]; rfl
      rw [List.length_range'] at this
      omega
    case h => exact ⟨rfl, rfl, 0, Nat.zero_le _, by rw [Nat.min_self]⟩
end SeqAt
end PySem
namespace L2
open PySem PySem.Spec PyProof.Rows
theorem mt_tindexK {X : Cx} {K : PySem.W.Frag} (hK : X.K = K) : MtR X "tuple.index" (fun x xs H Q => ∃ (a : Addr) (ws : List Str) (z : Str) (j : Nat), x = .ref a ∧ xs = [.str z] ∧ SqT K H a (ws.map V.str) ∧ ws[j]? = some z ∧ (∀ m, m < j → ws[m]? ≠ some z) ∧ Q (.int ((j : Nat) : Int)) H) := by
  subst hK
  intro pins s σ H x xs v us Q I rx rs h
  obtain ⟨a, ws, z, j, rfl, rfl, hq, hj, hno, q⟩ := h
  cases rx
  obtain ⟨u, rfl, ru⟩ := rs.one
  obtain ⟨t, rfl⟩ := ru
  obtain ⟨its, r, pl, _⟩ := I.tuple hq
  obtain ⟨_, hall⟩ := count_tx z r
  obtain ⟨⟨cls, dd, data, sl⟩, ho, hc, n, hd⟩ := id pl
  simp only at hc hd
  subst hc hd
  have hl : its.length = ws.length := by rw [← r.length, List.length_map]
  have hj' : j < its.length := by rw [hl]; exact (List.getElem?_eq_some_iff.mp hj).1
  refine call_meets PySem.F.slot_tuple_index ⟨_, ho, rfl⟩ PySem.F.entry_tuple_index (PySem.F.args_tuple_index_2 _ _) (SeqAt.tuple_indexAt a its.toArray n dd sl (.str z t) (isTx z) j (by simpa using hj') ?_ ?_) ⟨ho, fun y hy => ?_, ?_⟩
  · obtain ⟨w, tw, h1, h2⟩ := isTx_at (z := z) r hj'
    rw [hj] at h1
    cases h1
    show isTx z its[j] = true
    rw [h2]
    exact beq_self_eq_true z
  · intro m hm hmj
    have hm' : m < its.length := by simpa using hm
    obtain ⟨w, tw, h1, h2⟩ := isTx_at (z := z) r hm'
    show isTx z its[m] = false
    rw [h2]
    refine beq_eq_false_iff_ne.mpr fun e => hno m hmj ?_
    rw [h1, e]
  · obtain ⟨w, tw, rfl⟩ := hall y (by simpa using hy)
    exact SeqAt.EqAt.str_str w tw z t
  · exact ⟨.int _, H, I.tok _, ⟨_, rfl⟩, q⟩
section
variable {X : Cx} {K : PySem.W.Frag} {o e : Expr} {es : List Expr} {to : TE} {t : TA} {name : Str} {apos cpos : Pos} {id : String} {r : V → List V → Hp → VK → Prop}
def tBMT (r : V → List V → Hp → VK → Prop) (to : TE) (t : TA) : TE := fun σ H Q => to σ H fun x H1 => (∃ (a : Addr) (xs : List V), x = .ref a ∧ H1 a = some (.tup xs)) ∧ t σ H1 fun xs H2 => r x xs H2 Q
theorem pe_bmT (slot : Slot "tuple" name id) (hty : typeOf (.builtin id) = pure (.type "method_descriptor")) (hm : MtR X id r) (ho : PE X o to) (ha : PA X (e :: es) t)
    (hbase : attributeBase o name X.env (eval o X.env) = eval o X.env := by rfl)
    (hfew : ((backTo cpos (starEach (e :: es) X.env)).all (fun x => !x.1) && (backToKw cpos (keywordEach [] X.env)).all (fun x => x.1.isSome)
      && decide ((e :: es).length + ([] : List Keyword).length + (if ([] : List Keyword).isEmpty then 0 else 1) < 30)) = true := by rfl)
    (hline : (apos.endLine == cpos.line) = true := by rfl) (hs : starEach (e :: es) X.env = (false, eval e X.env) :: starEach es X.env := by rfl) (hplain : (backTo cpos (starEach es X.env)).any (·.1) = false := by rfl) :
    PE X (.Call (.Attribute o name apos) (e :: es) [] cpos) (tBMT r to t) := by
  intro pins s σ H Q I h
  refine wpAny_Call_method_late hbase hfew hline rfl (thn (ho pins s σ H _ I h) fun v s1 ⟨x, H1, I1, r1, ⟨a, xs, ex, hx⟩, q1⟩ => ?_)
  subst ex
  cases r1
  obtain ⟨_, its, _, ⟨ob, h1, h2, _⟩, ob2, h3, h4⟩ := (show ObjOk X.prog X.w H1 s1.heap a (.tup xs) from I1.hok a _ hx)
  refine ⟨"tuple", id, PySem.F.plainAttrs_tuple, slot, hty, ⟨ob, h1, h2⟩, fun b eb => (by cases eb; exact ⟨ob2, h3, h4⟩), ?_⟩
  have hA := ha cpos pins s1 σ H1 _ I1 q1
  rw [hs] at hA ⊢
  refine Calls.callWith_builtin (by show (false || (backTo cpos (starEach es X.env)).any (·.1)) = false; rw [hplain] <;> rfl) (Calls.evalArgs_plain ?_)
  exact thn hA fun us s2 ⟨vs, H2, I2, r2, q2⟩ => hm pins s2 σ H2 (.ref a) vs _ us Q I2 rfl r2 q2
end
end L2
namespace PySem
open Sem (wp)
open PyProof.Rows
namespace F
theorem tuple_norev : typeLookup (.type "tuple") "__reversed__" = pure none := by rw [typeLookup_type, builtinLookup_eq_fast]; kernel_rfl
end F
theorem meets_reversed_newT (a : Addr) (items : Array Value) (hx : (items.size : Int) < 2 ^ 63) :
    Meets (Builtin.«reversed.__new__» ⟨[.type "reversed", .ref a], []⟩) (fun _ R s => IsTup s.heap a items ∧ ∀ tk,
      R (.ok (.ret (.ref s.heap.objs.size))) { s with heap := s.heap.push { cls := .type "reversed", data := .fields #[.ref a, rawInt ((items.size : Int) - 1)] }, toks := tk }) :=
  .of_wp fun prog w A R s h => by
    obtain ⟨hp, g, d, tk, os⟩ := s
    obtain ⟨⟨⟨cls, dd, data, sl⟩, ho, hc, n, hd⟩, h⟩ := h
    simp only at hc hd ho
    subst hc hd
    have hsub := F.sub_reversed_self
    have hnr := F.tuple_norev
    have hsd : isSubtype (.type "tuple") (.type "dict") = pure false := by rw [isSubtype_type]; kernel_rfl
    have hgi := F.slot_tuple_getitem.lookup
    have hT : IsTup hp a items := ⟨_, ho, rfl, n, rfl⟩
    unfold Builtin.«reversed.__new__»
    refine wpAny_bind (wpAny_of_eq (newClass_reversed _) ?_)
    dsimp only
    refine wpAny_bind (wpAny_of_eq (a := ()) (by first | rfl | kernel_rfl) ?_)
    refine wpAny_bind (wpAny_of_eq (a := ()) (by first | rfl | kernel_rfl) ?_)
    try dsimp only
    wp_walk using PyProof.Rows.len_tuple (show IsTup hp a items from hT) hx
    exact ⟨_, rfl, h _⟩
def Heap.IsRvt (h : Heap) (it a : Addr) (i : Int) : Prop := ∃ o, h.get? it = some o ∧ o.cls = .type "reversed" ∧ o.data = .fields #[.ref a, rawInt i]
section
variable {prog : Program} {w : World} {A : Around} {E : Value → Shared → Prop} {s : Shared}
theorem Heap.IsRvt.typeIs {it a : Addr} {i : Int} (h : s.heap.IsRvt it a i) : s.TypeIs (.ref it) "reversed" := let ⟨o, ho, hc, _⟩ := h; ⟨o, ho, hc⟩
theorem call_reversed_tup {a : Addr} {items : Array Value} {Q : Value → Shared → Prop} (hx : (items.size : Int) < 2 ^ 63) (hT : IsTup s.heap a items)
    (h : ∀ tk, Q (.ref s.heap.objs.size) { s with heap := s.heap.push { cls := .type "reversed", data := .fields #[.ref a, rawInt ((items.size : Int) - 1)] }, toks := tk }) : wpAny (model prog w) A (call (.type "reversed") [.ref a]) Q E s :=
  callType_new F.called_reversed (by decide) (F.typeCall_reversed_1 _) (F.newCall_reversed_1 _) (fun obj => F.args_object_init_2 obj _) F.entry_reversed_new (meets_reversed_newT a items hx) ⟨hT, fun tk => ⟨⟨_, Heap.get?_push_size _ rfl, rfl⟩, h tk⟩⟩
theorem wpAny_pyIter_rvt {it a : Addr} {i : Int} {Q : Value → Shared → Prop} (hit : s.heap.IsRvt it a i) (h : Q (.ref it) s) : wpAny (model prog w) A (pyIter (.ref it)) Q E s := by
  refine wpAny_pyIter_slot hit.typeIs F.slot_rvd_iter (wpAny_call_entry F.slot_rvd_iter hit.typeIs F.entry_rvd_iter ?_ (F.args_rvd_iter_1 _))
  show wpAny _ _ (ret (.ref it)) _ _ s
  exact wpAny_pure ⟨_, rfl, "reversed", _, hit.typeIs, F.slot_rvd_next.lookup, h⟩
theorem wpAny_pyNext_rvt_item {it a : Addr} {items : Array Value} {i : Nat} {y : Value} {Q : Option Value → Shared → Prop} (hit : s.heap.IsRvt it a (i : Int)) (hT : IsTup s.heap a items) (hc : items[i]? = some y) (hx : (items.size : Int) < 2 ^ 63)
    (hQ : ∀ h' tk, h'.IsRvt it a ((i : Int) - 1) → Heap.SameBut it s.heap h' → Q (some y) { s with heap := h', toks := tk }) : wpAny (model prog w) A (pyNext (.ref it)) Q E s := by
  obtain ⟨o, ho, hcl, hd⟩ := id hit
  have hi : i < items.size := (Array.getElem?_eq_some_iff.mp hc).1
  have hTy : s.TypeIs (.ref a) "tuple" := by
    obtain ⟨o, e, c, _⟩ := id hT
    exact ⟨o, e, c⟩
  unfold pyNext
  refine wpAny_bind (wpAny_attempt (wpAny_callSpecial?_slot (name := Str.ofString "__next__") hit.typeIs F.slot_rvd_next
    (wpAny_call_entry F.slot_rvd_next hit.typeIs F.entry_rvd_next ?_ (F.args_rvd_next_1 _))))
  unfold Builtin.«reversed.__next__»
  refine wpAny_bind (wpAny_of_eq (a := (Value.ref it, [])) rfl ?_)
  try dsimp only
  refine wpAny_bind (wpAny_field ho hd (x := .ref a) rfl ?_)
  refine wpAny_bind (wpAny_field ho hd (x := rawInt (i : Int)) rfl ?_)
  show wpAny _ _ (if (i : Int) < 0 then _ else _) _ _ s
  rw [if_neg (by omega)]
  have hgi := F.slot_tuple_getitem.lookup
  refine wpAny_bind (wpAny_specialOf (T := "tuple") hTy hgi ?_)
  show wpAny _ _ (if (some (Value.builtin "tuple.__getitem__")).isNone = true then _ else _) _ _ _
  rw [if_neg (by simp)]
  refine wpAny_bind (m := mkInt _) (wpAny_mkInt ?_)
  refine wpAny_bind (wpAny_attempt (PyProof.Rows.getItem_tuple (items := items) (j := i) (x := y) hT (by omega) (by omega) (seqIndex_of (by omega) (by omega)) hc ?_))
  dsimp only
  refine wpAny_bind (wpAny_field ho hd (x := rawInt (i : Int)) rfl ?_)
  refine wpAny_bind (wpAny_setField ho hd (by simp) ?_)
  refine wpAny_pure ⟨_, rfl, wpAny_pure (hQ _ _ ?_ (Heap.SameBut.update ..))⟩
  exact ⟨_, Heap.get?_update_self _ ho (Obj.isFreed_of_fields (Obj.data_mapFields hd _)), (Obj.cls_mapFields ..).trans hcl, by
    rw [Obj.data_mapFields hd]; simp⟩
theorem wpAny_pyNext_rvt_end {it a : Addr} {Q : Option Value → Shared → Prop} (hh : A.handled = none) (hit : s.heap.IsRvt it a (-1))
    (hQ : ∀ h', Heap.ExtBut it s.heap h' → Q none { s with heap := h' }) : wpAny (model prog w) A (pyNext (.ref it)) Q E s := by
  obtain ⟨o, ho, hcl, hd⟩ := id hit
  unfold pyNext
  refine wpAny_bind (wpAny_attempt (wpAny_callSpecial?_slot (name := Str.ofString "__next__") hit.typeIs F.slot_rvd_next
    (wpAny_call_entry F.slot_rvd_next hit.typeIs F.entry_rvd_next ?_ (F.args_rvd_next_1 _))))
  unfold Builtin.«reversed.__next__»
  refine wpAny_bind (wpAny_of_eq (a := (Value.ref it, [])) rfl ?_)
  try dsimp only
  refine wpAny_bind (wpAny_field ho hd (x := .ref a) rfl ?_)
  refine wpAny_bind (wpAny_field ho hd (x := rawInt (-1)) rfl ?_)
  show wpAny _ _ (if (-1 : Int) < 0 then _ else _) _ _ s
  rw [if_pos (by decide)]
  refine wpAny_bind (wpAny_rule ?_)
  refine wpAny_bind ?_
  show wpAny _ _ (setField (.ref it) 1 (rawInt (-1)) >>= fun _ => setField (.ref it) 0 .none) _ _ _
  refine wpAny_bind (wpAny_setField ho hd (by simp) ?_)
  have ho' : (s.heap.update it (Obj.mapFields fun xs => xs.setIfInBounds 1 (rawInt (-1)))).get? it = some _ := Heap.get?_update_self _ ho (Obj.isFreed_of_fields (Obj.data_mapFields hd (fun xs => xs.setIfInBounds 1 (rawInt (-1)))))
  have hd' := Obj.data_mapFields hd (fun xs => xs.setIfInBounds 1 (rawInt (-1)))
  refine wpAny_setField (s := { s with heap := s.heap.update it (Obj.mapFields fun xs => xs.setIfInBounds 1 (rawInt (-1))) }) ho' hd' (by simp) ?_
  have eb : Heap.ExtBut it s.heap ((s.heap.update it (Obj.mapFields fun xs => xs.setIfInBounds 1 (rawInt (-1)))).update it (Obj.mapFields fun xs => xs.setIfInBounds 0 .none)) := fun b ob hb e =>
    (Heap.get?_update_other _ _ (Ne.symm hb)).trans ((Heap.get?_update_other _ _ (Ne.symm hb)).trans e)
  refine wpAny_bind ?_
  show wpAny _ _ (newExc (.type "StopIteration") [] >>= _) _ _ _
  refine wpAny_bind ?_
  simp only [newExc, newTuple]
  refine wpAny_bind (wpAny_newObj_type ?_ (by size_fits))
  refine wpAny_bind (m := firstArgMember _ _) (wpAny_of_eq (a := Value.none) (by first | rfl | (simp only [firstArgMember]; rfl)) ?_)
  refine wpAny_newObj_type ?_ (by size_fits)
  simp only [raiseNew]
  refine wpAny_bind (wpAny_handled ?_)
  first | rw [show A.in1.handled = none from hh] | rw [hh]
  refine wpAny_bind (wpAny_pure (wpAny_throw ?_))
  refine wpAny_bind (wpAny_isInstance (T := "StopIteration") (b := true) ⟨_, Heap.get?_push_size _ rfl, rfl⟩ isSubtype_stop ?_)
  exact wpAny_pure (hQ _ ((eb.push _).push _))
end
end PySem
namespace L2
open PySem PySem.Spec PyProof.Rows
def Itvt (K : PySem.W.Frag) (a : Addr) (xs : List V) : It := ⟨fun i H => SqT K H a xs ∧ i < xs.length, fun i H v H' => H' = H ∧ xs[xs.length - 1 - i]? = some v, fun i H => i = xs.length⟩
theorem turn_rvt {P : Program} {w : World} {K : PySem.W.Frag} {tg : Expr} (a it : Addr) (xs : List V) (hx : xs.length ≤ 1000) : Turn P w K tg (Itvt K a xs) [it] it (fun i h => i ≤ xs.length ∧ h.IsRvt it a ((xs.length : Int) - 1 - (i : Int))) where
  mem := by simp
  obj := fun i h st b hb => by
    have e : b = it := by simpa using hb
    subst e
    obtain ⟨_, o, e, c, d⟩ := st
    exact ⟨o, e, fun v z => by rw [d] at z; cases z⟩
  keep := fun i h h' st k => by
    obtain ⟨hi, o, e, r⟩ := st
    exact ⟨hi, o, k it (by simp) o e, r⟩
  item := by
    intro X hP hw hK hc i pins s σ H E I hf st hg
    subst hP hw hK
    obtain ⟨f0, f1, f2, f3, f4, f5⟩ := hf it (by simp)
    obtain ⟨hi, st⟩ := st
    obtain ⟨hq, hg'⟩ := hg
    obtain ⟨its, rv, p, hz⟩ := I.tuple hq
    have hl := rv.length
    have e1 : (xs.length : Int) - 1 - (i : Int) = ((xs.length - 1 - i : Nat) : Int) := by omega
    rw [e1] at st
    have hcx : xs[xs.length - 1 - i]? = some (xs[xs.length - 1 - i]'(by omega)) := List.getElem?_eq_getElem (by omega)
    obtain ⟨u, hu, ru⟩ := rv.get hcx
    refine wpAny_pyNext_rvt_item (items := its.toArray) st p (y := u) (by simpa using hu) (by simp; omega) fun h' tk st' sb => ?_
    have e2 : ((xs.length - 1 - i : Nat) : Int) - 1 = (xs.length : Int) - 1 - ((i + 1 : Nat) : Int) := by omega
    rw [e2] at st'
    have I1 : Inv X pins σ H { s with heap := h', toks := tk } := I.turned (fun b o hb e => (sb.2 b hb).trans e) f0 f1 f3 f4 f5
    obtain ⟨o, e, c, d⟩ := id st'
    exact ⟨_, rfl, go_of (s := { s with heap := h', toks := tk }) e c d (by decide) ⟨_, H, I1, ru, ⟨rfl, hcx⟩, ⟨hg', st'⟩, fun b hb => (hf b hb).1⟩⟩
  done := by
    intro X hP hw hK hc i pins s σ H E I hf st hg
    subst hP hw hK
    obtain ⟨f0, f1, f2, f3, f4, f5⟩ := hf it (by simp)
    have hi : i = xs.length := hg
    subst hi
    have e1 : (xs.length : Int) - 1 - ((xs.length : Nat) : Int) = -1 := by omega
    have st' := st.2
    rw [e1] at st'
    exact wpAny_pyNext_rvt_end (I.ok.hd hc) st' fun h' eb => ⟨rfl, I.turned (t' := s.toks) (fun b o hb e => eb b o hb e) f0 f1 f3 f4 f5⟩
  self := fun A i s Q E st h => wpAny_pyIter_rvt st.2 h
section
variable {X : Cx} {tg : Expr}
def iRevT (K : PySem.W.Frag) (ta : TA) : TI := fun σ H R => ta σ H fun vs H1 => ∃ (a : Addr) (xs : List V), vs = [.ref a] ∧ SqT K H1 a xs ∧ xs.length ≤ 1000 ∧ R (Itvt K a xs) H1
theorem pi_revT {K : PySem.W.Frag} {a : Expr} {ta : TA} {p pos : Pos} (hK : X.K = K) (hg : Gl X "reversed") (hm : X.mg "reversed" = none) (ha : PA X [a] ta) (hs : starEach [a] X.env = [(false, eval a X.env)] := by rfl) : PI X tg (.Call (.Name "reversed" p) [a] [] pos) (iRevT K ta) := by
  subst hK
  intro pins s σ H R I h
  refine Call_ (ld_blt I hg hm boot_reversed (PyProof.Rows.callWith_type1 (thn (ha pos pins s σ H _ I h) fun us s1 ⟨vs, H1, I1, r1, q1⟩ => ?_) hs rfl))
  obtain ⟨z, xs, e, hq, hz, q⟩ := q1
  subst e
  obtain ⟨u, rfl, ru⟩ := r1.one
  cases ru
  obtain ⟨its, rv, p, _⟩ := I1.tuple hq
  have hl := rv.length
  refine call_reversed_tup (items := its.toArray) (by simp; omega) p fun tk => ?_
  have el : (its.toArray.size : Int) = (xs.length : Int) := by simp [hl]
  rw [el]
  have I2 : Inv X pins σ H1 { s1 with heap := s1.heap.push { cls := .type "reversed", data := .fields #[.ref z, rawInt ((xs.length : Int) - 1)] }, toks := tk } := I1.kept fun b o e => Heap.get?_push_of_some _ e
  have st : (s1.heap.push { cls := .type "reversed", data := .fields #[.ref z, rawInt ((xs.length : Int) - 1)] }).IsRvt s1.heap.objs.size z ((xs.length : Int) - 1) := ⟨_, Heap.get?_push_size _ rfl, rfl, rfl⟩
  refine wpAny_pyIter_rvt st ?_
  refine ⟨s1.heap.objs.size, [s1.heap.objs.size], _, _, H1, rfl, I2, turn_rvt z _ xs hz, ⟨Nat.zero_le _, ?_⟩, fun b hb => ?_, q⟩
  · have e0 : (xs.length : Int) - 1 - ((0 : Nat) : Int) = (xs.length : Int) - 1 := by omega
    rw [e0]; exact st
  · have e : b = s1.heap.objs.size := by simpa using hb
    subst e
    exact I1.fpOk (Nat.le_refl _) (I1.hok.fresh (Nat.le_refl _))
end
theorem comp_revTIf {K : PySem.W.Frag} {a : Addr} {xs : List V} {D : Addr} {Q : VK} {ti : TT} {te : TE} {c : St} {H0 : Hp} (Pv : Nat → Hp → Prop) (h0 : Pv 0 H0) (hl : ∀ i H, i ≤ xs.length → Pv i H → SqT K H a xs)
    (hs : ∀ i k H, xs.reverse[i]? = some k → Pv i H → ti (some k :: c) H fun b H1 => if b = true then te (some k :: c) H1 fun y H2 => ∃ ys, H2 D = some (.lst ys) ∧ ys.length < sizeLine ∧ Pv (i + 1) (upd H2 D (.lst (ys ++ [y]))) else Pv (i + 1) H1) (hd : ∀ H, Pv xs.length H → Q (.ref D) H) :
    compGo (Itvt K a xs) D Q ti te c H0 := by
  refine ⟨fun i m H' => m = xs.length - i ∧ i ≤ xs.length ∧ Pv i H', ⟨xs.length, by simp, Nat.zero_le _, h0⟩, ?_⟩
  rintro i m H' ⟨rfl, hi, p⟩
  by_cases hlt : i < xs.length
  · refine .inr ⟨⟨hl i H' hi p, hlt⟩, Pv (i + 1), fun H'' p => ⟨xs.length - (i + 1), by omega, rfl, hlt, p⟩, fun v H2 y => ?_⟩
    obtain ⟨e, hk⟩ := y
    subst e
    refine hs i v H2 ?_ p
    rw [List.getElem?_reverse hlt]
    exact hk
  · have e : i = xs.length := by omega
    subst e
    exact .inl ⟨rfl, hd H' p⟩
end L2
namespace Lw
open PySem PySem.Spec PyProof.Rows L2 Ma MaR
theorem wds_ones' (cs : List Nat) : wds (ones' cs) = lstC cs := by unfold wds ones' lstC; rw [List.map_map]; rfl
def zs (n : Nat) : List V := List.replicate n (.int 0)
theorem flat_zs (n : Nat) : (List.replicate n [V.int 0]).flatten = zs n := by
  unfold zs
  induction n with
  | zero => rfl
  | succ n ih => rw [List.replicate_succ, List.flatten_cons, ih, List.replicate_succ]; rfl
def N0 (H : Hp) (t : Addr) : Prop := ∃ o, H t = some (.frz o (.dK [(.inl 0, .int 0)]))
theorem N0.same {H H' : Hp} {t : Addr} (h : N0 H t) (s : Same H H') : N0 H' t := by obtain ⟨o, e⟩ := h; exact ⟨o, s _ _ e⟩
def spPlace (C : Addr) : Sp := fun vs H Q _ => ∃ (n : Nat) (p d t : Addr) (kvs : List (Key × V)) (m : Nat → Option (List Nat)), vs = [.int (n : Nat), .ref p, .ref t, .int 0] ∧ 1 ≤ n ∧ n ≤ 4 ∧ Wv C H p d kvs ∧ Ways H kvs m ∧ (∀ c ∈ lowN n, (m c).isSome = true) ∧ N0 H t ∧
  ∀ (q : Addr) (H' : Hp), H q = none → Same H H' → H' q = some (.tup (zs n)) → Q (.ref q) H'
def wayM (us : List (List Nat)) (cs : List Nat) : Nat → Option (List Nat) := (cs.zip us).foldl (fun m p x => if x = con p.1 then some (back p.2) else if x = p.1 then some p.2 else m x) fun _ => none
theorem wayM_snoc {us : List (List Nat)} {cs : List Nat} {i c : Nat} {u : List Nat} (hc : cs[i]? = some c) (hu : us[i]? = some u) : wayM (us.take (i + 1)) (cs.take (i + 1)) = fun x => if x = con c then some (back u) else if x = c then some u else wayM (us.take i) (cs.take i) x := by
  unfold wayM
  have e : (cs.take (i + 1)).zip (us.take (i + 1)) = (cs.take i).zip (us.take i) ++ [(c, u)] := by
    rw [List.take_add_one, List.take_add_one, hc, hu]
    show (cs.take i ++ [c]).zip (us.take i ++ [u]) = _
    have hi := (List.getElem?_eq_some_iff.mp hc).1
    have hj := (List.getElem?_eq_some_iff.mp hu).1
    rw [List.zip_append (by rw [List.length_take, List.length_take]; omega)]
    rfl
  rw [e, List.foldl_append]
  rfl
section
variable {n : Nat} {cs : List Nat} (h1 : 1 ≤ n) (h4 : n ≤ 4) (e : Exch n cs)
include h1 h4 e
theorem Exch.apart {i j c d : Nat} (hij : i ≠ j) (hc : cs[i]? = some c) (hd : cs[j]? = some d) : c ≠ d ∧ c ≠ con d := by
  have nd : (cs.map lo).Nodup := (e.perm.nodup_iff).mpr (low_nodup h1 h4)
  have q1 : (cs.map lo)[i]? = some (lo c) := by rw [List.getElem?_map, hc]; rfl
  have q2 : (cs.map lo)[j]? = some (lo d) := by rw [List.getElem?_map, hd]; rfl
  have key : lo c ≠ lo d := fun z => hij ((List.getElem?_inj (List.getElem?_eq_some_iff.mp q1).1 nd).mp (by rw [q1, q2, z]))
  have dL := letsN_isL (e.mem d (List.mem_of_getElem? hd))
  exact ⟨fun z => key (by rw [z]), fun z => key (by rw [z, lo_con' dL])⟩
theorem Exch.wayN {us : List (List Nat)} (hu : us.length = n) : ∀ (i : Nat), i ≤ n → ∀ (j d : Nat), i ≤ j → cs[j]? = some d → wayM (us.take i) (cs.take i) d = none ∧ wayM (us.take i) (cs.take i) (con d) = none := by
  intro i
  induction i with
  | zero => intro _ j d _ _; exact ⟨rfl, rfl⟩
  | succ i ih =>
    intro hi j d hj hd
    have hc : cs[i]? = some (cs[i]'(by rw [e.len]; omega)) := List.getElem?_eq_getElem _
    generalize (cs[i]'(by rw [e.len]; omega)) = c at hc
    have hui : us[i]? = some (us[i]'(by omega)) := List.getElem?_eq_getElem _
    generalize (us[i]'(by omega)) = u at hui
    obtain ⟨a, b⟩ := e.apart h1 h4 (show j ≠ i by omega) hd hc
    have cL := letsN_isL (e.mem c (List.mem_of_getElem? hc))
    have dL := letsN_isL (e.mem d (List.mem_of_getElem? hd))
    obtain ⟨x, y⟩ := ih (by omega) j d (by omega) hd
    rw [wayM_snoc hc hui]
    constructor
    · show (if d = con c then _ else if d = c then _ else _) = none
      rw [if_neg b, if_neg a]; exact x
    · show (if con d = con c then _ else if con d = c then _ else _) = none
      rw [if_neg (fun z => a (by rw [← con_con dL, z, con_con cL])), if_neg (fun z => b (by rw [← con_con dL, z]))]; exact y
theorem Exch.wayS {us : List (List Nat)} (hu : us.length = n) : ∀ (i : Nat), i ≤ n → ∀ (j d : Nat) (v : List Nat), j < i → cs[j]? = some d → us[j]? = some v → wayM (us.take i) (cs.take i) d = some v ∧ wayM (us.take i) (cs.take i) (con d) = some (Ma.back v) := by
  intro i
  induction i with
  | zero => intro _ j d v h; omega
  | succ i ih =>
    intro hi j d v hj hd hv
    have hc : cs[i]? = some (cs[i]'(by rw [e.len]; omega)) := List.getElem?_eq_getElem _
    generalize (cs[i]'(by rw [e.len]; omega)) = c at hc
    have hui : us[i]? = some (us[i]'(by omega)) := List.getElem?_eq_getElem _
    generalize (us[i]'(by omega)) = u at hui
    have cL := letsN_isL (e.mem c (List.mem_of_getElem? hc))
    have dL := letsN_isL (e.mem d (List.mem_of_getElem? hd))
    rw [wayM_snoc hc hui]
    by_cases q : j = i
    · subst q
      rw [hc] at hd; cases hd
      rw [hui] at hv; cases hv
      constructor
      · show (if d = con d then _ else if d = d then _ else _) = some v
        rw [if_neg (con_ne dL).symm, if_pos rfl]
      · show (if con d = con d then _ else _) = some (Ma.back v)
        rw [if_pos rfl]
    · obtain ⟨a, b⟩ := e.apart h1 h4 q hd hc
      obtain ⟨x, y⟩ := ih (by omega) j d v (by omega) hd hv
      constructor
      · show (if d = con c then _ else if d = c then _ else _) = some v
        rw [if_neg b, if_neg a]; exact x
      · show (if con d = con c then _ else if con d = c then _ else _) = some (Ma.back v)
        rw [if_neg (fun z => a (by rw [← con_con dL, z, con_con cL])), if_neg (fun z => b (by rw [← con_con dL, z]))]; exact y
theorem Exch.wayAll {us : List (List Nat)} (hu : us.length = n) {d : Nat} (hd : d ∈ lowN n) : (wayM us cs d).isSome = true := by
  have key : ∀ c ∈ cs, (wayM us cs c).isSome = true ∧ (wayM us cs (con c)).isSome = true := fun c hc => by
    obtain ⟨j, hj, rfl⟩ := List.mem_iff_getElem.mp hc
    have hjn : j < n := by rw [← e.len]; exact hj
    have := e.wayS h1 h4 hu n (Nat.le_refl _) j _ _ hjn (List.getElem?_eq_getElem hj) (List.getElem?_eq_getElem (by omega))
    rw [List.take_of_length_le (by omega), List.take_of_length_le (by rw [e.len]; exact Nat.le_refl _)] at this
    rw [this.1, this.2]
    exact ⟨rfl, rfl⟩
  rcases e.has h1 h4 hd with h | h
  · exact (key d h).1
  · have := (key _ h).2
    rw [con_con (low_isL hd)] at this
    exact this
theorem Exch.wayB {d : Nat} (hd : d ∈ lowN n) : wayM (lowW n) cs d = some [xBf cs d] := by
  have ll : (lowW n).length = n := (lowW_rt h1 h4).len
  have key : ∀ c ∈ cs, wayM (lowW n) cs c = some [97 + cs.idxOf c] ∧ wayM (lowW n) cs (con c) = some [65 + cs.idxOf c] := fun c hc => by
    have hj : cs.idxOf c < cs.length := List.idxOf_lt_length_of_mem hc
    have hjn : cs.idxOf c < n := by rw [← e.len]; exact hj
    obtain ⟨a1, a2, a3, a4, a5, a6, a7, a8⟩ := num_low h1 h4 hjn
    have g3 := low_ix h1 h4 a7
    rw [a5] at g3
    have hv : (lowW n)[cs.idxOf c]? = some [97 + cs.idxOf c] := by
      unfold lowW
      rw [List.getElem?_map, g3]
      rfl
    have hd' : cs[cs.idxOf c]? = some c := by rw [List.getElem?_eq_getElem hj, List.getElem_idxOf hj]
    have := e.wayS h1 h4 ll n (Nat.le_refl _) _ _ _ hjn hd' hv
    rw [List.take_of_length_le (by omega), List.take_of_length_le (by rw [e.len]; exact Nat.le_refl _)] at this
    refine ⟨this.1, this.2.trans ?_⟩
    show some [con (97 + cs.idxOf c)] = _
    have : con (97 + cs.idxOf c) = 65 + cs.idxOf c := by
      have : cs.idxOf c = 0 ∨ cs.idxOf c = 1 ∨ cs.idxOf c = 2 ∨ cs.idxOf c = 3 := by omega
      rcases this with z | z | z | z <;> rw [z] <;> decide
    rw [this]
  unfold xBf
  by_cases q : d ∈ cs
  · rw [if_pos q]; exact (key d q).1
  · rw [if_neg q]
    have q2 : con d ∈ cs := (e.has h1 h4 hd).resolve_left q
    have := (key _ q2).2
    rw [con_con (low_isL hd)] at this
    exact this
end
def spWeb (C : Addr) : Sp := fun vs H Q _ => ∃ (n : Nat) (a : Addr) (cs : List Nat), vs = [.int (n : Nat), .ref a] ∧ 1 ≤ n ∧ n ≤ 4 ∧ Exch n cs ∧ H a = some (.tup (lstC cs)) ∧ ∀ (r q : Addr) (H' : Hp), Same H H' → H' r = some (.tup [.ref q]) → H' q = some (.tup (zs n)) → Q (.ref r) H'
def spLookA : Sp := fun vs H Q _ => ∃ (n : Nat) (a : Addr) (cs : List Nat), vs = [.ref a] ∧ 1 ≤ n ∧ n ≤ 4 ∧ Exch n cs ∧ H a = some (.tup (lstC cs)) ∧ ∀ H', Same H H' → Q (.bl true) H'
def spLeadB : Sp := fun vs H Q _ => ∃ (n : Nat) (a : Addr) (cs : List Nat), vs = [.ref a] ∧ 1 ≤ n ∧ n ≤ 4 ∧ Exch n cs ∧ H a = some (.tup (lstC cs)) ∧ ∀ (q : Addr) (H' : Hp), H q = none → Same H H' → H' q = some (.tup (lstC (xB n cs))) → Q (.ref q) H'
inductive Stp where
  | ch (c : Nat) (sd : List Nat)
  | ex (cs : List Nat)
def Stp.tl (n : Nat) : Stp → List (List Nat)
  | .ch c sd => chgR n c sd
  | .ex cs => ones' cs
def Stp.bk (n : Nat) : Stp → Stp
  | .ch c sd => .ch (con c) (sdB c sd)
  | .ex cs => .ex (xB n cs)
def Stp.Ok (n : Nat) : Stp → Prop
  | .ch c sd => GoodB n c sd ∧ sd.length ≤ 8
  | .ex cs => Exch n cs
section
variable {n : Nat} (h1 : 1 ≤ n) (h4 : n ≤ 4) {s : Stp} (h : s.Ok n)
include h1 h4 h
theorem Stp.okB : (s.bk n).Ok n := by
  cases s with
  | ch c sd => exact ⟨h.1.back h1 h4, by unfold sdB; rw [List.length_map]; exact h.2⟩
  | ex cs => exact Exch.back h1 h4 h
theorem Stp.bkbk : (s.bk n).bk n = s := by
  cases s with
  | ch c sd =>
    have hc := letsN_isL h.1.let'
    show Stp.ch (con (con c)) (sdB (con c) (sdB c sd)) = _
    rw [con_con hc, sdB_sdB hc h.1.hasn]
  | ex cs =>
    show Stp.ex (xB n (xB n cs)) = _
    rw [Exch.xx h1 h4 h]
theorem Stp.inv : IvS n (s.tl n) ((s.bk n).tl n) := by
  cases s with
  | ch c sd => exact inv_chg h1 h4 h.1
  | ex cs => exact inv_exch h1 h4 h
end
def StB (H : Hp) (v : V) (s : Stp) : Prop := ∃ p q, v = .ref p ∧ match s with
  | .ch c sd => H p = some (.tup [.str (Str.ofString "change"), .str (S [c]), .ref q]) ∧ H q = some (.tup (lstC sd))
  | .ex cs => H p = some (.tup [.str (Str.ofString "exchange"), .ref q]) ∧ H q = some (.tup (lstC cs))
theorem StB.tups {H H' : Hp} {v : V} {s : Stp} (h : StB H v s) (t : Tups H H') : StB H' v s := by
  obtain ⟨p, q, rfl, h⟩ := h
  cases s with
  | ch c sd => exact ⟨p, q, rfl, t _ _ h.1, t _ _ h.2⟩
  | ex cs => exact ⟨p, q, rfl, t _ _ h.1, t _ _ h.2⟩
theorem StB.ok {n : Nat} {H : Hp} {v : V} {s : Stp} (h : StB H v s) (g : s.Ok n) : StepOk n H v (s.tl n) := by
  obtain ⟨p, q, rfl, h⟩ := h
  cases s with
  | ch c sd => exact ⟨p, rfl, .inl ⟨c, sd, q, h.1, h.2, ⟨g.1.let', g.1.side, g.2⟩, rfl⟩⟩
  | ex cs => exact ⟨p, rfl, .inr ⟨q, h.1, by rw [show Stp.tl n (.ex cs) = ones' cs from rfl, wds_ones']; exact h.2, (ones_rt g).1, (ones_rt g).2⟩⟩
def Each {α β : Type} (F : α → β → Prop) (xs : List α) (ys : List β) : Prop := xs.length = ys.length ∧ ∀ (i : Nat) (x : α) (y : β), xs[i]? = some x → ys[i]? = some y → F x y
theorem Each.snoc {α β : Type} {F : α → β → Prop} {xs : List α} {ys : List β} (h : Each F xs ys) {x : α} {y : β} (f : F x y) : Each F (xs ++ [x]) (ys ++ [y]) := by
  refine ⟨by rw [List.length_append, List.length_append, h.1]; rfl, fun i a b ha hb => ?_⟩
  by_cases hi : i < xs.length
  · rw [List.getElem?_append_left hi] at ha
    rw [List.getElem?_append_left (by rw [← h.1]; exact hi)] at hb
    exact h.2 i a b ha hb
  · have e : i = xs.length := by
      have := (List.getElem?_eq_some_iff.mp ha).1
      rw [List.length_append, List.length_singleton] at this
      omega
    subst e
    have e1 : x = a := by simpa using ha
    have e2 : y = b := by rw [h.1] at hb; simpa using hb
    subst e1; subst e2
    exact f
theorem Each.imp {α β : Type} {F G : α → β → Prop} {xs : List α} {ys : List β} (h : Each F xs ys) (f : ∀ x y, F x y → G x y) : Each G xs ys := ⟨h.1, fun i x y hx hy => f x y (h.2 i x y hx hy)⟩
theorem Each.nil {α β : Type} {F : α → β → Prop} : Each F ([] : List α) ([] : List β) := ⟨rfl, fun i x y hx => by simp at hx⟩
theorem Each.tail {α β : Type} {F : α → β → Prop} {x : α} {y : β} {xs : List α} {ys : List β} (h : Each F (x :: xs) (y :: ys)) : F x y ∧ Each F xs ys :=
  ⟨h.2 0 x y rfl rfl, by have := h.1; simpa using this, fun i a b ha hb => h.2 (i + 1) a b (by simpa using ha) (by simpa using hb)⟩
theorem Each.get {α β : Type} {F : α → β → Prop} {xs : List α} {ys : List β} (h : Each F xs ys) {i : Nat} {x : α} (hx : xs[i]? = some x) : ∃ y, ys[i]? = some y ∧ F x y := by
  have hi := (List.getElem?_eq_some_iff.mp hx).1
  rw [h.1] at hi
  exact ⟨_, List.getElem?_eq_getElem hi, h.2 i _ _ hx (List.getElem?_eq_getElem hi)⟩
def RdB (n : Nat) (H : Hp) (p : Addr) (ss : List Stp) : Prop := (∃ vs, H p = some (.tup vs) ∧ Each (StB H) vs ss) ∧ ∀ s ∈ ss, s.Ok n
theorem RdB.tups {n : Nat} {H H' : Hp} {p : Addr} {ss : List Stp} (h : RdB n H p ss) (t : Tups H H') : RdB n H' p ss := by
  obtain ⟨⟨vs, h1, h2⟩, h3⟩ := h
  exact ⟨⟨vs, t _ _ h1, h2.imp fun v s x => x.tups t⟩, h3⟩
theorem steps_of {n : Nat} {H : Hp} : ∀ {vs : List V} {ss : List Stp}, Each (StB H) vs ss → (∀ s ∈ ss, s.Ok n) → Steps n H vs (ss.map (Stp.tl n))
  | [], [], _, _ => trivial
  | v :: vs, s :: ss, h, g => ⟨h.tail.1.ok (g s List.mem_cons_self), steps_of h.tail.2 fun z hz => g z (List.mem_cons_of_mem _ hz)⟩
  | [], _ :: _, h, _ => by have := h.1; simp at this
  | _ :: _, [], h, _ => by have := h.1; simp at this
theorem RdB.road {n : Nat} {H : Hp} {p : Addr} {ss : List Stp} (h : RdB n H p ss) : IsRoad n H p (ss.map (Stp.tl n)) := by
  obtain ⟨⟨vs, h1, h2⟩, h3⟩ := h
  exact ⟨vs, h1, steps_of h2 h3⟩
theorem invs_of {n : Nat} (h1 : 1 ≤ n) (h4 : n ≤ 4) : ∀ {ss : List Stp}, (∀ s ∈ ss, s.Ok n) → Invs n (ss.map (Stp.tl n)) (ss.map fun s => (s.bk n).tl n)
  | [], _ => trivial
  | s :: ss, g => ⟨Stp.inv h1 h4 (g s List.mem_cons_self), invs_of h1 h4 fun z hz => g z (List.mem_cons_of_mem _ hz)⟩
section
variable {K : PySem.W.Frag} {H : Hp}
theorem lq_lst {a b : Addr} {w : List Nat} {d : Nat} (ha : H a = some (.tup (lstC w))) (hb : H b = some (.tup (lstC w))) (hl : w.length ≤ 100) : Lq K H (d + 1) (.ref a) (.ref b) :=
  .tup (SqT.of ha) (SqT.of hb) rfl (by rw [lstC_len]; exact hl) fun i x y hx hy => by
    rw [hx] at hy
    cases hy
    have := List.mem_of_getElem? hx
    obtain ⟨c, _, rfl⟩ := List.mem_map.mp this
    exact .flat rfl
theorem lq_wds {a b : Addr} {ws : List (List Nat)} {d : Nat} (ha : H a = some (.tup (wds ws))) (hb : H b = some (.tup (wds ws))) (hl : ws.length ≤ 100) : Lq K H (d + 1) (.ref a) (.ref b) :=
  .tup (SqT.of ha) (SqT.of hb) rfl (by rw [wds_len]; exact hl) fun i x y hx hy => by
    rw [hx] at hy
    cases hy
    obtain ⟨c, _, rfl⟩ := wds_get hx
    exact .flat rfl
theorem lq_stp {n : Nat} {v u : V} {s : Stp} (g : s.Ok n) (h4 : n ≤ 4) (hv : StB H v s) (hu : StB H u s) : Lq K H 2 v u := by
  obtain ⟨p, q, rfl, h⟩ := hv
  obtain ⟨p', q', rfl, h'⟩ := hu
  cases s with
  | ch c sd =>
    refine .tup (SqT.of h.1) (SqT.of h'.1) rfl (by simp) fun i x y hx hy => ?_
    rcases i with _ | _ | _ | i
    · cases hx; cases hy; exact .flat rfl
    · cases hx; cases hy; exact .flat rfl
    · cases hx; cases hy; exact lq_lst h.2 h'.2 (by have := g.2; omega)
    · simp at hx
  | ex cs =>
    have e : Exch n cs := g
    refine .tup (SqT.of h.1) (SqT.of h'.1) rfl (by simp) fun i x y hx hy => ?_
    rcases i with _ | _ | i
    · cases hx; cases hy; exact .flat rfl
    · cases hx; cases hy; exact lq_lst h.2 h'.2 (by rw [e.len]; omega)
    · simp at hx
theorem lq_road {n : Nat} {p q : Addr} {ss : List Stp} (h4 : n ≤ 4) (hl : ss.length ≤ 100) (hp : RdB n H p ss) (hq : RdB n H q ss) : Lq K H 3 (.ref p) (.ref q) := by
  obtain ⟨⟨vs, h1, h2⟩, h3⟩ := hp
  obtain ⟨⟨us, g1, g2⟩, _⟩ := hq
  refine .tup (SqT.of h1) (SqT.of g1) (by rw [h2.1, g2.1]) (by rw [h2.1]; exact hl) fun i x y hx hy => ?_
  obtain ⟨s, hs, f⟩ := h2.get hx
  exact lq_stp (h3 s (List.mem_of_getElem? hs)) h4 f (g2.2 i y s hy hs)
end
def spStpB : Sp := fun vs H Q _ => ∃ (n : Nat) (v : V) (s : Stp), vs = [v] ∧ 1 ≤ n ∧ n ≤ 4 ∧ StB H v s ∧ s.Ok n ∧ ∀ (u : V) (H' : Hp), Same H H' → StB H' u (s.bk n) → Q u H'
def spRdBk : Sp := fun vs H Q _ => ∃ (n : Nat) (p : Addr) (ss : List Stp), vs = [.int (n : Nat), .ref p] ∧ 1 ≤ n ∧ n ≤ 4 ∧ RdB n H p ss ∧ ss.length ≤ 6 ∧ ∀ (q : Addr) (H' : Hp), Same H H' → RdB n H' q (ss.reverse.map (Stp.bk n)) → Q (.ref q) H'
def spDrawnB : Sp := fun vs H Q _ => ∃ (fl sc : Addr) (n : Nat), vs = [.ref fl, .int (n : Nat)] ∧ IsFl H fl sc ∧ 1 ≤ n ∧ n ≤ 4 ∧ ∀ (p : Addr) (c : Nat) (sd : List Nat) (H' : Hp), H p = none → GoodB n c sd → sd.length ≤ 8 → IsChg H' p c sd → IsFl H' fl sc → Kp fl H H' → Q (.ref p) H'
def spDrStB : Sp := fun vs H Q _ => ∃ (fl sc : Addr) (n : Nat), vs = [.ref fl, .int (n : Nat)] ∧ IsFl H fl sc ∧ 1 ≤ n ∧ n ≤ 4 ∧ ∀ (v : V) (s : Stp) (H' : Hp), StB H' v s → s.Ok n → IsFl H' fl sc → Kp fl H H' → Q v H'
def spChBk : Sp := fun vs H Q _ => ∃ (n : Nat) (p : Addr) (c : Nat) (sd : List Nat), vs = [.ref p] ∧ 1 ≤ n ∧ n ≤ 4 ∧ IsChg H p c sd ∧ GoodB n c sd ∧ sd.length ≤ 8 ∧ ∀ (q : Addr) (H' : Hp), Same H H' → IsChg H' q (con c) (sdB c sd) → Q (.ref q) H'
def spExBk : Sp := fun vs H Q _ => ∃ (n : Nat) (a : Addr) (cs : List Nat), vs = [.int (n : Nat), .ref a] ∧ 1 ≤ n ∧ n ≤ 4 ∧ Exch n cs ∧ H a = some (.tup (lstC cs)) ∧ ∀ (q : Addr) (H' : Hp), Same H H' → H' q = some (.tup (lstC (xB n cs))) → Q (.ref q) H'
def spStpBL : Sp := fun vs H Q _ => ∃ (n : Nat) (v : V) (s : Stp), vs = [.int (n : Nat), v] ∧ 1 ≤ n ∧ n ≤ 4 ∧ StB H v s ∧ s.Ok n ∧ ∀ (u : V) (H' : Hp), Same H H' → StB H' u (s.bk n) → Q u H'
def spRight32 : Sp := fun vs H Q _ => ∃ (n : Nat) (p : Addr) (ss : List Stp), vs = [.int (n : Nat), .ref p] ∧ 1 ≤ n ∧ n ≤ 4 ∧ RdB n H p ss ∧ ss.length ≤ 6 ∧ ∀ H', Same H H' → Q (.bl true) H'
theorem rep_zs {K : PySem.W.Frag} {H : Hp} {t : Addr} {n : Nat} {Q : VK} (h1 : 1 ≤ n) (h4 : n ≤ 4) (ht : H t = some (.tup [.int 0])) (k : ∀ (q : Addr) (H' : Hp), Same H H' → H' q = some (.tup (zs n)) → Q (.ref q) H') : rRepT K (.ref t) (.int (n : Nat)) H Q := by
  refine ⟨t, (n : Nat), [.int 0], rfl, rfl, SqT.of ht, by simp, by omega, by omega, ?_, fun e => ?_, fun e p hp => ?_⟩
  · show 1 * _ ≤ _
    rw [sizeLine_eq]
    omega
  · have en : n = 1 := by omega
    subst en
    exact k t H (Same.refl H) ht
  · have e2 : (List.replicate ((n : Nat) : Int).toNat [V.int 0]).flatten = zs n := by rw [Int.toNat_natCast]; exact flat_zs n
    rw [e2]
    exact k p _ (Same.new hp) upd_same
theorem lq_zs {K : PySem.W.Frag} {H : Hp} {a b : Addr} {n d : Nat} (ha : H a = some (.tup (zs n))) (hb : H b = some (.tup (zs n))) (hl : n ≤ 100) : Lq K H (d + 1) (.ref a) (.ref b) :=
  .tup (SqT.of ha) (SqT.of hb) rfl (by unfold zs; rw [List.length_replicate]; exact hl) fun i x y hx hy => by
    rw [hx] at hy
    cases hy
    have := List.mem_of_getElem? hx
    rw [(List.mem_replicate.mp this).2]
    exact .flat rfl
theorem Each.rev {α β : Type} {F : α → β → Prop} {xs : List α} {ys : List β} (h : Each F xs ys) : Each F xs.reverse ys.reverse := by
  refine ⟨by rw [List.length_reverse, List.length_reverse, h.1], fun i x y hx hy => ?_⟩
  have hi : i < xs.length := by have := (List.getElem?_eq_some_iff.mp hx).1; rw [List.length_reverse] at this; exact this
  rw [List.getElem?_reverse hi] at hx
  rw [List.getElem?_reverse (by rw [← h.1]; exact hi), ← h.1] at hy
  exact h.2 _ x y hx hy
theorem le1 {a b : Nat} (h : ¬ rk b < rk a) : leW [a] [b] := by
  show (if ((1 : Nat) : Int) = ((1 : Nat) : Int) then HT.lexLt [((rk b : Nat) : Int)] [((rk a : Nat) : Int)] else _) = false
  rw [if_pos rfl, HT.lexLt_cons]
  by_cases e : ((rk b : Nat) : Int) = ((rk a : Nat) : Int)
  · rw [if_pos e]; rfl
  · rw [if_neg e]; exact decide_eq_false (by omega)
theorem GoodB.nodup {n c : Nat} {sd : List Nat} (g : GoodB n c sd) : sd.Nodup := g.ord.imp fun {a b} h e => by rw [e] at h; exact Nat.lt_irrefl _ h
theorem side_sorted {n c : Nat} {sd : List Nat} (h1 : 1 ≤ n) (h4 : n ≤ 4) (g : GoodB n c sd) {ws : List (List Nat)} (hp : ws.Perm (ones' ((sd.filter fun d => decide (d ≠ c)) ++ [con c]))) (ho : ws.Pairwise leW) : ws = ones' (sdB c sd) := by
  have b := g.back h1 h4
  refine order_one (fun x hx => ?_) (hp.trans ((sdB_perm g.nodup g.has).map _).symm) ho ?_
  · obtain ⟨d, hd, rfl⟩ := List.mem_map.mp (hp.mem_iff.mp hx)
    have := (sdB_perm g.nodup g.has).mem_iff.mpr hd
    exact one_all (letsN_isL (b.side d this))
  · unfold ones'
    rw [List.pairwise_map]
    exact b.ord.imp fun h => le1 (by omega)
theorem lets_ord {n : Nat} (h1 : 1 ≤ n) (h4 : n ≤ 4) : (letsN (n : Nat)).Pairwise fun a b => rk a < rk b := by
  rcases n14 h1 h4 with rfl | rfl | rfl | rfl <;> decide
theorem lst_get {w : List Nat} {i : Nat} {v : V} (h : (lstC w)[i]? = some v) : ∃ c, w[i]? = some c ∧ v = .str (S [c]) := by
  unfold lstC at h
  rw [List.getElem?_map] at h
  cases hq : w[i]? with
  | none => rw [hq] at h; cases h
  | some o => rw [hq] at h; exact ⟨o, rfl, (Option.some.inj h).symm⟩
def GivB (n : Nat) (fl sc G : Addr) (m : Nat) (H : Hp) : Prop := IsFl H fl sc ∧ ∃ ps : List (Addr × List Stp), ps.length = m ∧ (∀ p ∈ ps, RdB n H p.1 p.2 ∧ p.2.length ≤ 6) ∧ H G = some (.lst (ps.map fun p => V.ref p.1))
theorem GivB.add {n : Nat} {fl sc G : Addr} {m : Nat} {H H' : Hp} (h : GivB n fl sc G m H) (hm : m ≤ 10) (k : Kp fl H H') (f : IsFl H' fl sc) (hGf : G ≠ fl) (hGs : G ≠ sc) {q : Addr} {ss : List Stp} (r : RdB n H' q ss) (l : ss.length ≤ 6) :
    ∃ xs, H' G = some (.lst xs) ∧ xs.length < sizeLine ∧ GivB n fl sc G (m + 1) (upd H' G (.lst (xs ++ [.ref q]))) := by
  obtain ⟨f0, ps, hl, hp, eG⟩ := h
  have eG' := k _ _ eG hGf
  have tG : Tups H' (upd H' G (.lst ((ps.map fun p => V.ref p.1) ++ [.ref q]))) := Tups.set eG'
  refine ⟨_, eG', by rw [List.length_map]; exact small1000 (by omega), f.set hGf hGs, ps ++ [(q, ss)], by rw [List.length_append, hl]; rfl, fun p hpm => ?_, by rw [upd_same, List.map_append]; rfl⟩
  rcases List.mem_append.mp hpm with z | z
  · obtain ⟨a, b⟩ := hp p z
    exact ⟨(a.tups (Tups.kp f0 k)).tups tG, b⟩
  · rw [List.mem_singleton.mp z]
    exact ⟨r.tups tG, l⟩
theorem rd_one {n : Nat} {H : Hp} {v : V} {s : Stp} {u : Addr} (h : StB H v s) (ok : s.Ok n) (hu : H u = none) : RdB n (upd H u (.tup [v])) u [s] :=
  ⟨⟨[v], upd_same, (Each.nil (F := StB (upd H u (.tup [v])))).snoc (h.tups (Tups.same (Same.new hu)))⟩, fun z hz => by rw [List.mem_singleton.mp hz]; exact ok⟩
end Lw
namespace Lw
open PySem PySem.Spec PyProof.Rows L2 Ma
def top (i : Nat) : Stmt := PySem.Challenge.pw_newletters_k32_roads_back.main.body.getD i (.Pass ⟨0, 0, 0, 0⟩)
abbrev fnX (x : Str) (st : Stmt) (kV dc pm : Value) (an : Option Addr) (cd ct : Value) : FuncData := PySem.W.fnOf x x (defArgs st) (defBody st) (defScope st) .none kV dc pm an cd ct
theorem dmk {K : PySem.W.Frag} {mg : Str → Option Value} {x : Str} {st : Stmt} {ps : List Str} {f : Addr} {oc : Value} {od an : Option Addr} {osl : Array (Option Value)} {kV doc pm cdv ct : Value} (l : K.lookup f = some ⟨oc, od, .func (fnX x st kV doc pm an cdv ct), osl⟩)
    (c : PySem.W.codeIn K cdv x = true) (k : PySem.W.keepIn K (.ref f) = true) (m : mg x = some (.ref f)) (h : ∀ (kV doc pm : Value) (an : Option Addr) (cdv ct : Value) (us : List Value), us.length = ps.length → bindArgs (fnX x st kV doc pm an cdv ct) ⟨us, []⟩ = pure (ps.zip us)) : Df K mg x st ps f (fnX x st kV doc pm an cdv ct) :=
  ⟨fun_mk l c k, (fun_mk l c k).binds h, m⟩
abbrev s_letters_of : Stmt := top 6
theorem sc_letters_of : FnScope ["n"] ["n"] (defScope s_letters_of) := ⟨rfl, rfl, rfl, by decide +kernel, rfl, by decide +kernel, by decide +kernel⟩
abbrev s_first_letters : Stmt := top 7
theorem sc_first_letters : FnScope ["n"] ["n"] (defScope s_first_letters) := ⟨rfl, rfl, rfl, by decide +kernel, rfl, by decide +kernel, by decide +kernel⟩
abbrev s_contrary : Stmt := top 8
theorem sc_contrary : FnScope ["letter"] ["letter"] (defScope s_contrary) := ⟨rfl, rfl, rfl, by decide +kernel, rfl, by decide +kernel, by decide +kernel⟩
abbrev s_laid_out : Stmt := top 10
theorem sc_laid_out : FnScope ["text", "kept", "letter"] ["text"] (defScope s_laid_out) := ⟨rfl, rfl, rfl, by decide +kernel, rfl, by decide +kernel, by decide +kernel⟩
abbrev s_turned_back : Stmt := top 11
theorem sc_turned_back : FnScope ["word"] ["word"] (defScope s_turned_back) := ⟨rfl, rfl, rfl, by decide +kernel, rfl, by decide +kernel, by decide +kernel⟩
abbrev s_joined : Stmt := top 12
theorem sc_joined : FnScope ["one", "other"] ["one", "other"] (defScope s_joined) := ⟨rfl, rfl, rfl, by decide +kernel, rfl, by decide +kernel, by decide +kernel⟩
abbrev s_Weave___init__ : Stmt := clsAt (top 14) 0
theorem sc_Weave___init__ : FnScope ["self"] ["self"] (defScope s_Weave___init__) := ⟨rfl, rfl, rfl, by decide +kernel, rfl, by decide +kernel, by decide +kernel⟩
abbrev s_Weave_end_of : Stmt := clsAt (top 14) 1
theorem sc_Weave_end_of : FnScope ["self", "place", "told", "above"] ["self", "place", "told"] (defScope s_Weave_end_of) := ⟨rfl, rfl, rfl, by decide +kernel, rfl, by decide +kernel, by decide +kernel⟩
abbrev s_Weave_head_of : Stmt := clsAt (top 14) 2
theorem sc_Weave_head_of : FnScope ["self", "place"] ["self", "place"] (defScope s_Weave_head_of) := ⟨rfl, rfl, rfl, by decide +kernel, rfl, by decide +kernel, by decide +kernel⟩
abbrev s_Weave_goal_of : Stmt := clsAt (top 14) 3
theorem sc_Weave_goal_of : FnScope ["self", "head", "letter", "way"] ["self", "head", "letter"] (defScope s_Weave_goal_of) := ⟨rfl, rfl, rfl, by decide +kernel, rfl, by decide +kernel, by decide +kernel⟩
abbrev s_Weave_new_place : Stmt := clsAt (top 14) 4
theorem sc_Weave_new_place : FnScope ["self", "place"] ["self"] (defScope s_Weave_new_place) := ⟨rfl, rfl, rfl, by decide +kernel, rfl, by decide +kernel, by decide +kernel⟩
abbrev s_Weave_lay_way : Stmt := clsAt (top 14) 5
theorem sc_Weave_lay_way : FnScope ["self", "place", "letter", "goal", "told", "known"] ["self", "place", "letter", "goal", "told"] (defScope s_Weave_lay_way) := ⟨rfl, rfl, rfl, by decide +kernel, rfl, by decide +kernel, by decide +kernel⟩
abbrev s_Weave_lay_word : Stmt := clsAt (top 14) 6
theorem sc_Weave_lay_word : FnScope ["self", "word", "told", "here", "number", "letter", "is_last", "goal", "part"] ["self", "word", "told"] (defScope s_Weave_lay_word) := ⟨rfl, rfl, rfl, by decide +kernel, rfl, by decide +kernel, by decide +kernel⟩
abbrev s_Weave_put_under : Stmt := clsAt (top 14) 7
theorem sc_Weave_put_under : FnScope ["self", "head", "above", "turn", "letter", "way"] ["self", "head", "above", "turn"] (defScope s_Weave_put_under) := ⟨rfl, rfl, rfl, by decide +kernel, rfl, by decide +kernel, by decide +kernel⟩
abbrev s_Weave_fold : Stmt := clsAt (top 14) 8
theorem sc_Weave_fold : FnScope ["self", "pair", "one", "other"] ["self"] (defScope s_Weave_fold) := ⟨rfl, rfl, rfl, by decide +kernel, rfl, by decide +kernel, by decide +kernel⟩
abbrev s_Weave_round_told : Stmt := clsAt (top 14) 9
theorem sc_Weave_round_told : FnScope ["self", "letter", "begin", "way", "end"] ["self", "letter"] (defScope s_Weave_round_told) := ⟨rfl, rfl, rfl, by decide +kernel, rfl, by decide +kernel, by decide +kernel⟩
abbrev s_numbers_of_heads : Stmt := top 15
theorem sc_numbers_of_heads : FnScope ["n", "weave", "heads", "numbers", "done", "letter", "goal"] ["n", "weave"] (defScope s_numbers_of_heads) := ⟨rfl, rfl, rfl, by decide +kernel, rfl, by decide +kernel, by decide +kernel⟩
abbrev s_place_told : Stmt := top 16
theorem sc_place_told : FnScope ["n", "weave", "numbers", "head", "goals"] ["n", "weave", "numbers", "head"] (defScope s_place_told) := ⟨rfl, rfl, rfl, by decide +kernel, rfl, by decide +kernel, by decide +kernel⟩
abbrev s_web_of : Stmt := top 17
theorem sc_web_of : FnScope ["n", "words", "weave", "word", "numbers"] ["n", "words"] (defScope s_web_of) := ⟨rfl, rfl, rfl, by decide +kernel, rfl, by decide +kernel, by decide +kernel⟩
abbrev s_look_alphabet : Stmt := top 19
theorem sc_look_alphabet : FnScope ["retelling", "n", "web"] ["retelling"] (defScope s_look_alphabet) := ⟨rfl, rfl, rfl, by decide +kernel, rfl, by decide +kernel, by decide +kernel⟩
abbrev s_leading_back : Stmt := top 20
theorem sc_leading_back : FnScope ["retelling", "letters", "weave", "letter", "word"] ["retelling"] (defScope s_leading_back) := ⟨rfl, rfl, rfl, by decide +kernel, rfl, by decide +kernel, by decide +kernel⟩
abbrev s_words_by_letter : Stmt := top 22
theorem sc_words_by_letter : FnScope ["retelling", "told", "letter", "word"] ["retelling"] (defScope s_words_by_letter) := ⟨rfl, rfl, rfl, by decide +kernel, rfl, by decide +kernel, by decide +kernel⟩
abbrev s_retold : Stmt := top 23
theorem sc_retold : FnScope ["retelling", "word", "told"] ["retelling", "word"] (defScope s_retold) := ⟨rfl, rfl, rfl, by decide +kernel, rfl, by decide +kernel, by decide +kernel⟩
abbrev s_told_then : Stmt := top 24
theorem sc_told_then : FnScope ["one", "other"] ["one", "other"] (defScope s_told_then) := ⟨rfl, rfl, rfl, by decide +kernel, rfl, by decide +kernel, by decide +kernel⟩
abbrev s_told_same : Stmt := top 25
theorem sc_told_same : FnScope ["n"] ["n"] (defScope s_told_same) := ⟨rfl, rfl, rfl, by decide +kernel, rfl, by decide +kernel, by decide +kernel⟩
abbrev s_letter_changed : Stmt := top 27
theorem sc_letter_changed : FnScope ["letter", "by", "side", "ahead", "behind"] ["letter", "by", "side"] (defScope s_letter_changed) := ⟨rfl, rfl, rfl, by decide +kernel, rfl, by decide +kernel, by decide +kernel⟩
abbrev s_change_told : Stmt := top 28
theorem sc_change_told : FnScope ["n", "change"] ["n", "change"] (defScope s_change_told) := ⟨rfl, rfl, rfl, by decide +kernel, rfl, by decide +kernel, by decide +kernel⟩
abbrev s_step_told : Stmt := top 31
theorem sc_step_told : FnScope ["n", "step"] ["n", "step"] (defScope s_step_told) := ⟨rfl, rfl, rfl, by decide +kernel, rfl, by decide +kernel, by decide +kernel⟩
abbrev s_words_along : Stmt := top 32
theorem sc_words_along : FnScope ["n", "words", "road", "told", "step"] ["n", "words", "road"] (defScope s_words_along) := ⟨rfl, rfl, rfl, by decide +kernel, rfl, by decide +kernel, by decide +kernel⟩
abbrev s_road_told : Stmt := top 33
theorem sc_road_told : FnScope ["n", "road"] ["n", "road"] (defScope s_road_told) := ⟨rfl, rfl, rfl, by decide +kernel, rfl, by decide +kernel, by decide +kernel⟩
abbrev s_step_back : Stmt := top 34
theorem sc_step_back : FnScope ["step", "by"] ["step"] (defScope s_step_back) := ⟨rfl, rfl, rfl, by decide +kernel, rfl, by decide +kernel, by decide +kernel⟩
abbrev s_road_back : Stmt := top 35
theorem sc_road_back : FnScope ["n", "road"] ["n", "road"] (defScope s_road_back) := ⟨rfl, rfl, rfl, by decide +kernel, rfl, by decide +kernel, by decide +kernel⟩
abbrev s_law_flow : Stmt := top 37
theorem sc_law_flow : FnScope ["_law_script"] ["_law_script"] (defScope s_law_flow) := ⟨rfl, rfl, rfl, by decide +kernel, rfl, by decide +kernel, by decide +kernel⟩
abbrev s_law_pick : Stmt := top 38
theorem sc_law_pick : FnScope ["_law_flow_here", "_law_many", "_law_cell", "_law_digit"] ["_law_flow_here", "_law_many"] (defScope s_law_pick) := ⟨rfl, rfl, rfl, by decide +kernel, rfl, by decide +kernel, by decide +kernel⟩
abbrev s_law_alike : Stmt := top 39
theorem sc_law_alike : FnScope ["_law_found", "_law_due"] ["_law_found", "_law_due"] (defScope s_law_alike) := ⟨rfl, rfl, rfl, by decide +kernel, rfl, by decide +kernel, by decide +kernel⟩
abbrev s_law_letters : Stmt := top 40
theorem sc_law_letters : FnScope ["_law_n"] ["_law_n"] (defScope s_law_letters) := ⟨rfl, rfl, rfl, by decide +kernel, rfl, by decide +kernel, by decide +kernel⟩
abbrev s_law_contrary : Stmt := top 41
theorem sc_law_contrary : FnScope ["_law_letter"] ["_law_letter"] (defScope s_law_contrary) := ⟨rfl, rfl, rfl, by decide +kernel, rfl, by decide +kernel, by decide +kernel⟩
abbrev s_law_key : Stmt := top 42
theorem sc_law_key : FnScope ["_law_word"] ["_law_word"] (defScope s_law_key) := ⟨rfl, rfl, rfl, by decide +kernel, rfl, by decide +kernel, by decide +kernel⟩
abbrev s_law_drawn_change : Stmt := top 43
theorem sc_law_drawn_change : FnScope ["_law_flow_here", "_law_n", "_law_letter", "_law_side", "_law_other"] ["_law_flow_here", "_law_n"] (defScope s_law_drawn_change) := ⟨rfl, rfl, rfl, by decide +kernel, rfl, by decide +kernel, by decide +kernel⟩
abbrev s_law_change_back : Stmt := top 45
theorem sc_law_change_back : FnScope ["_law_change", "_law_letter", "_law_side", "_law_other"] ["_law_change"] (defScope s_law_change_back) := ⟨rfl, rfl, rfl, by decide +kernel, rfl, by decide +kernel, by decide +kernel⟩
abbrev s_law_exchange : Stmt := top 46
theorem sc_law_exchange : FnScope ["_law_flow_here", "_law_n", "_law_left", "_law_found", "_law_k", "_law_letter"] ["_law_flow_here", "_law_n"] (defScope s_law_exchange) := ⟨rfl, rfl, rfl, by decide +kernel, rfl, by decide +kernel, by decide +kernel⟩
abbrev s_law_drawn_step : Stmt := top 47
theorem sc_law_drawn_step : FnScope ["_law_flow_here", "_law_n"] ["_law_flow_here", "_law_n"] (defScope s_law_drawn_step) := ⟨rfl, rfl, rfl, by decide +kernel, rfl, by decide +kernel, by decide +kernel⟩
abbrev s_law_step_told : Stmt := top 48
theorem sc_law_step_told : FnScope ["_law_n", "_law_step"] ["_law_n", "_law_step"] (defScope s_law_step_told) := ⟨rfl, rfl, rfl, by decide +kernel, rfl, by decide +kernel, by decide +kernel⟩
abbrev s_law_exchange_back : Stmt := top 49
theorem sc_law_exchange_back : FnScope ["_law_n", "_law_told", "_law_found", "_law_letter"] ["_law_n", "_law_told"] (defScope s_law_exchange_back) := ⟨rfl, rfl, rfl, by decide +kernel, rfl, by decide +kernel, by decide +kernel⟩
abbrev s_law_step_back : Stmt := top 50
theorem sc_law_step_back : FnScope ["_law_n", "_law_step"] ["_law_n", "_law_step"] (defScope s_law_step_back) := ⟨rfl, rfl, rfl, by decide +kernel, rfl, by decide +kernel, by decide +kernel⟩
abbrev s_law_right : Stmt := top 51
theorem sc_law_right : FnScope ["_law_n", "_law_road", "_law_due", "_law_found", "_law_there", "_law_back"] ["_law_n", "_law_road"] (defScope s_law_right) := ⟨rfl, rfl, rfl, by decide +kernel, rfl, by decide +kernel, by decide +kernel⟩
abbrev s_law : Stmt := top 52
theorem sc_law : FnScope ["_law_script", "_law_flow_here", "_law_n", "_law_given", "_law_k"] ["_law_script"] (defScope s_law) := ⟨rfl, rfl, rfl, by decide +kernel, rfl, by decide +kernel, by decide +kernel⟩
structure Txt (P : Program) (w : World) (K : PySem.W.Frag) (mg : Str → Option Value) (a_CONTRARIES : Addr) (a_EXCHANGE : Addr) (a_LETTERS : Addr) (a_Weave : Addr) : Prop where
  m_Weave : mg "Weave" = some (.ref a_Weave)
  o_Weave : Own K a_Weave
  n_Weave_heads : NoAttr K a_Weave "heads"
  n_Weave_turns : NoAttr K a_Weave "turns"
  n_Weave_ways : NoAttr K a_Weave "ways"
  n_Weave_alike : NoAttr K a_Weave "alike"
  b_all : mg "all" = none
  b_bool : mg "bool" = none
  b_enumerate : mg "enumerate" = none
  b_int : mg "int" = none
  b_isinstance : mg "isinstance" = none
  b_len : mg "len" = none
  b_list : mg "list" = none
  b_range : mg "range" = none
  b_reversed : mg "reversed" = none
  b_sorted : mg "sorted" = none
  b_tuple : mg "tuple" = none
  b_zip : mg "zip" = none
  m_CONTRARIES : mg "CONTRARIES" = some (.ref a_CONTRARIES)
  t_CONTRARIES : ∀ h, K.In h → StrTab P w h a_CONTRARIES conTab
  m_EXCHANGE : ∃ t, mg "EXCHANGE" = some (.str (Str.ofString "exchange") t)
  m_LETTERS : mg "LETTERS" = some (.ref a_LETTERS)
  t_LETTERS : ∀ H, SqT K H a_LETTERS letV
section
variable {P : Program} {w : World} {K : PySem.W.Frag} {mg : Str → Option Value} {base : Heap} {a_CONTRARIES : Addr} {a_EXCHANGE : Addr} {a_LETTERS : Addr} {a_Weave : Addr}
theorem ok_law_flow {f : Addr} {fd : FuncData} (D : Df K mg "_law_flow" s_law_flow ["_law_script"] f fd) (T : Txt P w K mg a_CONTRARIES a_EXCHANGE a_LETTERS a_Weave) : Cl P w K mg base "_law_flow" ["_law_script"] 1 (spFlow K) := by
  refine D.cl (D.F.ok sc_law_flow (fun vs H Q E h => ?_) (fun cdv A outer s H vs Q E hr h => ?_))
  · obtain ⟨a, ns, rfl, _⟩ := h
    rfl
  · obtain ⟨a, ns, rfl, hs, hl, k⟩ := h
    refine ⟨_, (pss_one (ps_ret (pe_lst (pa_cons (pe_callTy (call_listK (K := K) rfl) (by rfl) T.b_list boot_list (pa_cons (pv 0) pa_nil)) (pa_cons pe_int (pa_cons pe_int (pa_cons pe_int (pa_cons pe_int pa_nil)))))))), ?_⟩
    refine ⟨_, rfl, a, _, rfl, .inl hs, fun l hl0 => ⟨len_1000 (by simp), fun fl hf => ?_⟩⟩
    have ne : l ≠ fl := (ne_of_none (upd_same (H := H) (a := l) (o := HO.lst (ns.map V.int))) hf)
    have hH : H fl = none := by rw [upd_ne ne.symm] at hf; exact hf
    refine k fl l _ hH ((Same.new hl0).upd' hf) ⟨ns, 0, 0, 1, 0, upd_same, ?_, hl, by decide, by decide, by decide⟩
    rw [upd_ne ne, upd_same]
theorem ok_law_pick {f : Addr} {fd : FuncData} (D : Df K mg "_law_pick" s_law_pick ["_law_flow_here", "_law_many"] f fd) (T : Txt P w K mg a_CONTRARIES a_EXCHANGE a_LETTERS a_Weave) : Cl P w K mg base "_law_pick" ["_law_flow_here", "_law_many"] 1 spPick := by
  refine D.cl (D.F.ok sc_law_pick (fun vs H Q E h => ?_) (fun cdv A outer s H vs Q E hr h => ?_))
  · obtain ⟨fl, sc, m, rfl, _⟩ := h
    rfl
  · obtain ⟨fl, sc, m, rfl, hf, h0, hm, k⟩ := h
    obtain ⟨ns, i, a, b, c, h1, h2, hl, hi, ha, hb⟩ := id hf
    have hne : sc ≠ fl := ne_of h2 h1 (by intro z; cases ns with | nil => cases z | cons n ns => cases z)
    refine ⟨_, (pss_mid (ps_if (pw_and (pt_cmpR op_eq (pe_ix (ix_listK (K := K) rfl) (pv 0) pe_int (fun _ _ => rfl)) pe_int (nomark _)) (pw_and1 (pt_cmpR op_lt (pe_ix (ix_listK (K := K) rfl) (pv 0) pe_int (fun _ _ => rfl)) (pe_callB (call_lenK (K := K) rfl) (by rfl) T.b_len PySem.boot_len (pa_cons (pe_ix (ix_listK (K := K) rfl) (pv 0) pe_int (fun _ _ => rfl)) pa_nil)) (nomark _)))).pt (pss_cons (ps_set (i := 2) sc_law_pick.nd rfl (Or.inl rfl) (pe_ix (ix_listK (K := K) rfl) (pe_ix (ix_listK (K := K) rfl) (pv 0) pe_int (fun _ _ => rfl)) (pe_ix (ix_listK (K := K) rfl) (pv 0) pe_int (fun _ _ => rfl)) (fun _ _ => rfl)))
      (pss_cons (ps_asg (pe_op op_add (pe_ix (ix_listK (K := K) rfl) (pv 0) pe_int (fun _ _ => rfl)) pe_int) (pg_sub (pv 0) pe_int set_list))
      (pss_one (ps_if (pt_cmpR op_ge (pv 2) (pe_op op_pow pe_int pe_int) (nomark _)) (pss_one (ps_asg (pv 2) (pg_sub (pv 0) pe_int set_list))) (pss_one (ps_asg (pe_op op_mod (pe_op op_add (pe_op op_add (pe_op op_mul (pe_ix (ix_listK (K := K) rfl) (pv 0) pe_int (fun _ _ => rfl)) pe_int) (pe_op op_mod (pv 2) pe_int)) pe_int) pe_int) (pg_sub (pv 0) pe_int set_list))))))) pss_nil)
      (pss_cons (ps_if (pt_cmpR op_gt (pe_ix (ix_listK (K := K) rfl) (pv 0) pe_int (fun _ _ => rfl)) pe_int (nomark _)) (pss_cons (ps_set (i := 3) sc_law_pick.nd rfl (Or.inl rfl) (pe_op op_mod (pe_ix (ix_listK (K := K) rfl) (pv 0) pe_int (fun _ _ => rfl)) (pv 1)))
      (pss_cons (ps_asg (pe_op op_fdiv (pe_ix (ix_listK (K := K) rfl) (pv 0) pe_int (fun _ _ => rfl)) (pv 1)) (pg_sub (pv 0) pe_int set_list))
      (pss_one (ps_ret (pv 3))))) pss_nil)
      (pss_cons (ps_asg (pe_op op_add (pe_ix (ix_listK (K := K) rfl) (pv 0) pe_int (fun _ _ => rfl)) pe_int) (pg_sub (pv 0) pe_int set_list))
      (pss_cons (ps_asg (pe_op op_mod (pe_op op_add (pe_op op_add (pe_op op_mul (pe_ix (ix_listK (K := K) rfl) (pv 0) pe_int (fun _ _ => rfl)) pe_int) pe_int) (pe_ix (ix_listK (K := K) rfl) (pv 0) pe_int (fun _ _ => rfl))) pe_int) (pg_sub (pv 0) pe_int set_list))
      (pss_one (ps_ret (pe_op op_mod (pe_op op_fdiv (pe_op op_mod (pe_op op_mul (pe_op op_add (pe_op op_mod (pe_ix (ix_listK (K := K) rfl) (pv 0) pe_int (fun _ _ => rfl)) pe_int) pe_int) (pe_op op_add (pe_op op_fdiv (pe_ix (ix_listK (K := K) rfl) (pv 0) pe_int (fun _ _ => rfl)) pe_int) pe_int)) pe_int) pe_int) (pv 1)))))))), ?_⟩
    refine ⟨fun σ H1 => (∃ v, σ = [some (.ref fl), some (.int m), v, none]) ∧ IsFl H1 fl sc ∧ Kp fl H H1, ?_, ?_⟩
    · refine ⟨_, rfl, fl, _, 2, _, rfl, rfl, SqL.of h1, rfl, rfl, _, rfl, ite2 (fun e => ?_) (fun _ => iteF ⟨⟨none, rfl⟩, hf, Kp.refl _ _⟩)⟩
      refine ⟨_, rfl, fl, _, 1, _, rfl, rfl, SqL.of h1, rfl, _, rfl, fl, _, 0, _, rfl, rfl, SqL.of h1, rfl, sc, _, rfl, .inl (SqL.of h2), _, _, rfl, rfl, _, rfl, ite2 (fun e2 => ?_) (fun _ => ⟨⟨none, rfl⟩, hf, Kp.refl _ _⟩)⟩
      have hlt : i < ((ns.map V.int).length : Int) := of_decide_eq_true e2
      rw [List.length_map] at hlt
      have hil : i.toNat < ns.length := by omega
      have hat : atI (ns.map V.int) i = some (.int ns[i.toNat]) := by
        have q : (ns.map V.int)[i.toNat]? = some (.int ns[i.toNat]) := by rw [List.getElem?_map, List.getElem?_eq_getElem hil]; rfl
        have q2 := atI_nat q
        rwa [Int.toNat_of_nonneg hi] at q2
      refine ⟨_, rfl, fl, _, 0, _, rfl, rfl, SqL.of h1, rfl, _, rfl, fl, _, 1, _, rfl, rfl, SqL.of h1, rfl, sc, _, i, _, rfl, rfl, SqL.of h2, hat, ?_⟩
      refine ⟨_, rfl, fl, _, 1, _, rfl, rfl, SqL.of h1, rfl, _, _, rfl, rfl, _, rfl, fl, _, 1, 1, rfl, rfl, h1, rfl, ?_⟩
      refine ⟨_, rfl, _, _, rfl, rfl, ⟨by decide, by decide, by decide⟩, _, _, rfl, rfl, _, rfl, ite2 (fun e3 => ?_) (fun _ => ?_)⟩
      · have hc : (10 : Int) ^ (18 : Int).toNat ≤ ns[i.toNat] := of_decide_eq_true e3
        have hp : (0 : Int) ≤ 10 ^ (18 : Int).toNat := by decide
        refine ⟨_, rfl, _, rfl, fl, _, 2, 2, rfl, rfl, upd_same, rfl, ⟨_, rfl⟩, ⟨ns, i + 1, ns[i.toNat], b, c, upd_same, ?_, hl, by omega, by omega, hb⟩, ((Kp.refl fl H).self).self⟩
        rw [upd_ne hne, upd_ne hne]; exact h2
      · refine ⟨_, rfl, fl, _, 3, _, rfl, rfl, SqL.of upd_same, rfl, _, _, rfl, rfl, .inr ⟨by decide, by decide⟩, _, rfl, _, _, rfl, rfl, (by show (0 : Int) < 1000003; decide), _, _, rfl, rfl, _, _, rfl, rfl, _, _, rfl, rfl, (by show (0 : Int) < 2147483647; decide), _, rfl, fl, _, 3, 3, rfl, rfl, upd_same, rfl, ⟨_, rfl⟩, ⟨ns, i + 1, a, _, c, upd_same, ?_, hl, by omega, ha, Int.emod_nonneg _ (by decide)⟩, ((Kp.refl fl H).self).self⟩
        rw [upd_ne hne, upd_ne hne]; exact h2
    · rintro _ H1 ⟨⟨v, rfl⟩, ⟨ns, i, a, b, c, h1, h2, hl, hi, ha, hb⟩, kp⟩
      have hne : sc ≠ fl := ne_of h2 h1 (by intro z; cases ns with | nil => cases z | cons n ns => cases z)
      refine ⟨_, rfl, fl, _, 2, _, rfl, rfl, SqL.of h1, rfl, _, _, rfl, rfl, _, rfl, ite2 (fun e => ?_) (fun _ => ?_)⟩
      · refine ⟨_, rfl, fl, _, 2, _, rfl, rfl, SqL.of h1, rfl, _, rfl, _, _, rfl, rfl, h0, ?_⟩
        refine ⟨_, rfl, fl, _, 2, _, rfl, rfl, SqL.of h1, rfl, _, rfl, _, _, rfl, rfl, ⟨h0, hm⟩, _, rfl, fl, _, 2, 2, rfl, rfl, h1, rfl, ?_⟩
        refine ⟨_, rfl, k _ _ (Int.emod_nonneg _ (by omega)) (Int.emod_lt_of_pos _ h0) ⟨ns, i, a / m, b, c, upd_same, ?_, hl, hi, Int.ediv_nonneg ha (by omega), hb⟩ kp.self⟩
        rw [upd_ne hne]; exact h2
      · refine ⟨_, rfl, fl, _, 4, _, rfl, rfl, SqL.of h1, rfl, _, _, rfl, rfl, _, rfl, fl, _, 4, 4, rfl, rfl, h1, rfl, ?_⟩
        refine ⟨_, rfl, fl, _, 3, _, rfl, rfl, SqL.of upd_same, rfl, _, _, rfl, rfl, .inr ⟨by decide, by decide⟩, _, _, rfl, rfl, _, rfl, fl, _, 4, _, rfl, rfl, SqL.of upd_same, rfl, _, _, rfl, rfl, _, _, rfl, rfl, (by show (0 : Int) < 2147483647; decide), _, rfl, fl, _, 3, 3, rfl, rfl, upd_same, rfl, ?_⟩
        have hb3 : ∀ x : Int, 0 ≤ x % 2147483647 ∧ x % 2147483647 < 2147483647 := fun x => ⟨Int.emod_nonneg _ (by decide), Int.emod_lt_of_pos _ (by decide)⟩
        refine ⟨_, rfl, fl, _, 3, _, rfl, rfl, SqL.of upd_same, rfl, _, _, rfl, rfl, (by show (0 : Int) < 65521; decide), _, _, rfl, rfl, _, rfl, fl, _, 3, _, rfl, rfl, SqL.of upd_same, rfl, _, _, rfl, rfl, ⟨by decide, by decide⟩, _, _, rfl, rfl, _, _, rfl, rfl, .inl ⟨?_, ?_⟩, _, _, rfl, rfl, (by show (0 : Int) < 1000003; decide), _, _, rfl, rfl, ⟨by decide, by decide⟩, _, rfl, _, _, rfl, rfl, h0, ?_⟩
        · have := Int.emod_nonneg ((b * 48271 + 12820163 + (c + 1)) % 2147483647) (show (65521 : Int) ≠ 0 by decide); omega
        · have := Int.emod_lt_of_pos ((b * 48271 + 12820163 + (c + 1)) % 2147483647) (show (0 : Int) < 65521 by decide); omega
        · refine k _ _ (Int.emod_nonneg _ (by omega)) (Int.emod_lt_of_pos _ h0) ⟨ns, i, a, _, c + 1, upd_same, ?_, hl, hi, ha, (hb3 _).1⟩ kp.self.self
          rw [upd_ne hne, upd_ne hne]; exact h2
theorem ok_law_contrary {f : Addr} {fd : FuncData} (D : Df K mg "_law_contrary" s_law_contrary ["_law_letter"] f fd) (T : Txt P w K mg a_CONTRARIES a_EXCHANGE a_LETTERS a_Weave) : Cl P w K mg base "_law_contrary" ["_law_letter"] 1 spCon := by
  refine D.cl (D.F.ok sc_law_contrary (fun vs H Q E h => ?_) (fun cdv A outer s H vs Q E hr h => ?_))
  · obtain ⟨c, rfl, _⟩ := h
    rfl
  · obtain ⟨c, rfl, hc, k⟩ := h
    refine ⟨_, (pss_cons (ps_if (pt_val (pe_bm0K (K := K) rfl PySem.F.plainAttrs_str PySem.F.slot_str_islower PySem.F.type_str_islower mt_islower (pv 0))) (pss_one (ps_ret (pe_bm0K (K := K) rfl PySem.F.plainAttrs_str PySem.F.slot_str_upper PySem.F.type_str_upper mt_upper (pv 0)))) pss_nil)
      (pss_one (ps_ret (pe_bm0K (K := K) rfl PySem.F.plainAttrs_str PySem.F.slot_str_lower PySem.F.type_str_lower mt_lower (pv 0))))), ?_⟩
    refine ⟨_, rfl, rfl, _, rfl, rfl, _, rfl, ?_⟩
    dsimp only
    rw [islower_S hc]
    refine ite2 (fun e => ?_) (fun e => ?_)
    · refine ⟨_, rfl, rfl, _, rfl, rfl, ?_, ?_⟩
      · rw [upper_S hc e]; exact short1 _
      · rw [upper_S hc e]; exact k H (Same.refl H)
    · have e' : isLow c = false := by simpa using e
      refine ⟨_, rfl, rfl, _, rfl, rfl, ?_, ?_⟩
      · rw [lower_S hc e']; exact short1 _
      · rw [lower_S hc e']; exact k H (Same.refl H)
theorem ok_law_letters {f : Addr} {fd : FuncData} (D : Df K mg "_law_letters" s_law_letters ["_law_n"] f fd) (T : Txt P w K mg a_CONTRARIES a_EXCHANGE a_LETTERS a_Weave) : Cl P w K mg base "_law_letters" ["_law_n"] 1 spLetters := by
  refine D.cl (D.F.ok sc_law_letters (fun vs H Q E h => ?_) (fun cdv A outer s H vs Q E hr h => ?_))
  · obtain ⟨n, rfl, _⟩ := h
    rfl
  · obtain ⟨n, rfl, h1, h4, k⟩ := h
    refine ⟨_, (pss_one (ps_ret (pe_callTy (call_listStr rfl) (by rfl) T.b_list boot_list (pa_cons (pe_slice sl_str pe_str po_none (po_some (pe_op op_mul pe_int (pv 0)))) pa_nil)))), ?_⟩
    have e : Txt.slice (Str.ofString "aAbBcCdD") none (some (2 * n)) = S (letsN n) := by
      rw [show Str.ofString "aAbBcCdD" = S lets by decide +kernel, slice_to lets (by omega) (by show (2 * n) ≤ (8 : Int); omega)]
      rfl
    refine ⟨_, rfl, _, _, rfl, rfl, .inl ⟨by decide, by decide⟩, _, rfl, _, rfl, by decide +kernel, letsN n, by rw [e], ?_, fun l hl => k l _ hl (Same.new hl) upd_same⟩
    rw [letsN_len h1 h4]; omega
theorem ok_contrary {f : Addr} {fd : FuncData} (D : Df K mg "contrary" s_contrary ["letter"] f fd) (T : Txt P w K mg a_CONTRARIES a_EXCHANGE a_LETTERS a_Weave) : Cl P w K mg base "contrary" ["letter"] 1 spCon := by
  refine D.cl (D.F.ok sc_contrary (fun vs H Q E h => ?_) (fun cdv A outer s H vs Q E hr h => ?_))
  · obtain ⟨c, rfl, _⟩ := h
    rfl
  · obtain ⟨c, rfl, hc, k⟩ := h
    refine ⟨_, (pss_one (ps_ret (pe_ix (ix_tab T.t_CONTRARIES) (pe_glob (v := .ref a_CONTRARIES) (by rfl) T.m_CONTRARIES rfl) (pv 0) (fun _ _ => rfl)))), ?_⟩
    exact ⟨_, rfl, rfl, _, rfl, .inl ⟨_, conTab_look hc, k H (Same.refl H)⟩⟩
theorem ok_laid_out {f : Addr} {fd : FuncData} (D : Df K mg "laid_out" s_laid_out ["text"] f fd) (T : Txt P w K mg a_CONTRARIES a_EXCHANGE a_LETTERS a_Weave) (c_contrary : Cl P w K mg base "contrary" ["letter"] 1 spCon) : Cl P w K mg base "laid_out" ["text"] 2 spLay := by
  obtain ⟨f_contrary, fd_contrary, G_contrary, m_contrary, k_contrary, b_contrary⟩ := c_contrary
  refine D.cl (D.F.ok sc_laid_out (fun vs H Q E h => ?_) (fun cdv A outer s H vs Q E hr h => ?_))
  · obtain ⟨x, rfl, _⟩ := h
    rfl
  · obtain ⟨x, rfl, hx, hlen, k⟩ := h
    refine ⟨_, (pss_cons (ps_set (i := 1) sc_laid_out.nd rfl (Or.inl rfl) (pe_lst pa_nil))
      (pss_cons (ps_for PassesOwn.never rfl (pi_str (pv 0)) (pg_name (i := 2) sc_laid_out.nd rfl (Or.inl rfl)) (pss_one (ps_if (pw_and (pt_cmpR op_gt (pe_callB (call_lenK (K := K) rfl) (by rfl) T.b_len PySem.boot_len (pa_cons (pv 1) pa_nil)) pe_int (nomark _)) (pw_and1 (pt_cmpR op_eq (pe_ix (ix_listK (K := K) rfl) (pv 1) (pe_un un_neg pe_int) (fun _ _ => rfl)) (pe_call G_contrary (hr.mono (by decide)) (by rfl) m_contrary k_contrary b_contrary .nil pass0 (pa_cons (pv 2) pa_nil)) (nomark _)))).pt (pss_one (ps_expr (pe_bm0K (K := K) rfl PySem.F.plainAttrs_list PySem.F.slot_list_pop PySem.F.type_list_pop mt_pop (pv 1)))) (pss_one (ps_expr (pe_bmK (K := K) rfl PySem.F.plainAttrs_list PySem.F.slot_list_append PySem.F.type_list_append mt_append (pv 1) (pa_cons (pv 2) pa_nil)))))))
      (pss_one (ps_ret (pe_bmK (K := K) rfl PySem.F.plainAttrs_str PySem.F.slot_str_join PySem.F.type_str_join (mt_joinK (K := K) rfl) pe_str (pa_cons (pv 1) pa_nil)))))), ?_⟩
    refine ⟨len_1000 (by simp), fun l hl => ?_⟩
    refine ⟨_, rfl, S x, rfl, for_str (w := x) (fun i σ H1 => (∃ v, σ = [some (.str (S x)), some (.ref l), v]) ∧ Same H H1 ∧ H1 l = some (.lst (lstC (act [] (x.take i)).reverse))) ⟨⟨none, rfl⟩, Same.new hl, upd_same⟩ ?_ ?_⟩
    · rintro i c σ H1 hc ⟨⟨v, rfl⟩, s1, e1⟩
      have hi : i < x.length := (List.getElem?_eq_some_iff.mp hc).1
      have hcL : isL c := hx c (List.mem_of_getElem? hc)
      have hn : act [] (x.take (i + 1)) = push (act [] (x.take i)) c := by rw [take_snoc hc, act_snoc]
      have hsz : (act [] (x.take i)).length ≤ 60000 := by
        have := act_len (x.take i) []
        rw [List.length_take] at this
        simp at this
        omega
      refine ⟨_, rfl, l, _, rfl, .inl (SqL.of e1), _, _, rfl, rfl, _, rfl, ite2 (fun e => ?_) (fun e => ?_)⟩
      · have hne : 0 < (act [] (x.take i)).length := by
          have e' := of_decide_eq_true e
          rw [lstC_len, List.length_reverse] at e'
          omega
        obtain ⟨y, r, hk⟩ : ∃ y r, act [] (x.take i) = y :: r := by
          cases hq : act [] (x.take i) with
          | nil => rw [hq] at hne; simp at hne
          | cons y r => exact ⟨y, r, rfl⟩
        rw [hk] at e1 hn hsz
        have e2 : H1 l = some (.lst (lstC r.reverse ++ [.str (S [y])])) := by rw [e1, List.reverse_cons, lstC_snoc]
        refine ⟨_, rfl, _, rfl, l, _, _, _, rfl, rfl, SqL.of e2, atI_last _ _, _, rfl, c, rfl, hcL, fun H2 s2 => ⟨rfl, _, rfl, ite2 (fun q => ?_) (fun q => ?_)⟩⟩
        · rw [VS_dec] at q
          have q' : y = con c := by simpa using q
          have hp : push (y :: r) c = r := by unfold push; dsimp only; rw [if_pos q']
          rw [hp] at hn
          refine ⟨_, rfl, .inl ⟨rfl, _, SqL.of (s2 _ _ e2)⟩, l, _, _, rfl, rfl, s2 _ _ e2, by simp; rfl, ⟨_, rfl⟩, (s1.trans s2).upd hl, ?_⟩
          rw [upd_same, hn]
          simp
        · rw [VS_dec] at q
          have q' : ¬ y = con c := by simpa using q
          have hp : push (y :: r) c = c :: y :: r := by unfold push; dsimp only; rw [if_neg q']
          rw [hp] at hn
          refine ⟨_, rfl, .inl ⟨rfl, _, SqL.of (s2 _ _ e2)⟩, _, rfl, l, _, _, rfl, rfl, s2 _ _ e2, ?_, ⟨_, rfl⟩, (s1.trans s2).upd hl, ?_⟩
          · rw [List.length_append, lstC_len, List.length_reverse]
            rw [List.length_cons] at hsz
            have h9 : r.length + 1 ≤ 100000 := by omega
            exact Nat.lt_of_le_of_lt h9 (by decide)
          · rw [upd_same, hn, List.reverse_cons, List.reverse_cons, lstC_snoc, lstC_snoc]
      · have hk : act [] (x.take i) = [] := by
          cases hq : act [] (x.take i) with
          | nil => rfl
          | cons y r =>
            exfalso
            apply e
            apply decide_eq_true
            rw [lstC_len, List.length_reverse, hq]
            simp
        rw [hk] at e1 hn
        refine iteF ⟨_, rfl, .inl ⟨rfl, _, SqL.of e1⟩, _, rfl, l, _, _, rfl, rfl, e1, ?_, ⟨_, rfl⟩, s1.upd hl, ?_⟩
        · show (0 : Nat) < sizeLine; decide
        · rw [upd_same, hn]
          rfl
    · rintro σ H1 ⟨⟨v, rfl⟩, s1, e1⟩
      rw [List.take_length] at e1
      have e2 : SqL K H1 l ((lay x).map (fun c => S [c]) |>.map V.str) := by
        rw [← lstC_eq]; exact SqL.of e1
      refine ⟨rfl, _, rfl, _, l, _, rfl, rfl, e2, join_letsB _ (Nat.le_trans (lay_len x) (by omega)), ?_⟩
      rw [join_lets]
      exact k H1 s1
theorem ok_turned_back {f : Addr} {fd : FuncData} (D : Df K mg "turned_back" s_turned_back ["word"] f fd) (T : Txt P w K mg a_CONTRARIES a_EXCHANGE a_LETTERS a_Weave) (c_contrary : Cl P w K mg base "contrary" ["letter"] 1 spCon) : Cl P w K mg base "turned_back" ["word"] 2 spBack := by
  obtain ⟨f_contrary, fd_contrary, G_contrary, m_contrary, k_contrary, b_contrary⟩ := c_contrary
  refine D.cl (D.F.ok sc_turned_back (fun vs H Q E h => ?_) (fun cdv A outer s H vs Q E hr h => ?_))
  · obtain ⟨x, rfl, _⟩ := h
    rfl
  · obtain ⟨x, rfl, hx, hlen, k⟩ := h
    refine ⟨_, (pss_one (ps_ret (pe_bmK (K := K) rfl PySem.F.plainAttrs_str PySem.F.slot_str_join PySem.F.type_str_join (mt_joinK (K := K) rfl) pe_str (pa_cons (pe_compc (sc0 := defScope s_turned_back) (N := ["word"]) (ix := []) (by decide +kernel) rfl rfl rfl (pi_rev (by rfl) T.b_reversed (pa_cons (pv 0) pa_nil)) (fun _ _ _ => pifs_nil) (fun _ _ _ => (pe_call G_contrary (hr.mono (by decide)) (by rfl) m_contrary k_contrary b_contrary .nil pass0 (pa_cons (pv 0) pa_nil)))) pa_nil)))), ?_⟩
    refine ⟨rfl, _, rfl, S x, rfl, by rw [S_len]; exact hlen, fun Dd hD => ?_⟩
    refine comp_revIf (w := x) (fun i H1 => Same H H1 ∧ H1 Dd = some (.lst (lstC ((x.reverse.take i).map con)))) ⟨Same.new hD, upd_same⟩ ?_ ?_
    · rintro i c H1 hc ⟨s1, e1⟩
      have hcL : isL c := hx c (List.mem_reverse.mp (List.mem_of_getElem? hc))
      have hi : i < x.length := by have := (List.getElem?_eq_some_iff.mp hc).1; simpa using this
      refine ⟨_, rfl, c, rfl, hcL, fun H2 s2 => ⟨_, s2 _ _ e1, ?_, (s1.trans s2).upd hD, ?_⟩⟩
      · rw [lstC_len, List.length_map, List.length_take]; exact small1000 (by omega)
      · rw [upd_same, take_snoc hc, List.map_append, ← lstC_snoc]; rfl
    · rintro H1 ⟨s1, e1⟩
      have eb : (x.reverse.take x.length).map con = back x := by
        rw [List.take_of_length_le (by simp)]
        unfold back
        rw [List.map_reverse]
      rw [eb] at e1
      have e2 : SqL K H1 Dd (((back x).map fun c => S [c]).map V.str) := by rw [← lstC_eq]; exact SqL.of e1
      refine ⟨_, Dd, _, rfl, rfl, e2, join_letsB _ (by rw [back_len]; omega), ?_⟩
      rw [join_lets]
      exact k H1 s1
theorem ok_joined {f : Addr} {fd : FuncData} (D : Df K mg "joined" s_joined ["one", "other"] f fd) (T : Txt P w K mg a_CONTRARIES a_EXCHANGE a_LETTERS a_Weave) (c_laid_out : Cl P w K mg base "laid_out" ["text"] 2 spLay) : Cl P w K mg base "joined" ["one", "other"] 3 spJoin := by
  obtain ⟨f_laid_out, fd_laid_out, G_laid_out, m_laid_out, k_laid_out, b_laid_out⟩ := c_laid_out
  refine D.cl (D.F.ok sc_joined (fun vs H Q E h => ?_) (fun cdv A outer s H vs Q E hr h => ?_))
  · obtain ⟨u, x, rfl, _⟩ := h
    rfl
  · obtain ⟨u, x, rfl, hu, hx, hlen, k⟩ := h
    refine ⟨_, (pss_one (ps_ret (pe_call G_laid_out (hr.mono (by decide)) (by rfl) m_laid_out k_laid_out b_laid_out .nil pass0 (pa_cons (pe_op op_add_str (pv 0) (pv 1)) pa_nil)))), ?_⟩
    refine ⟨_, rfl, _, rfl, _, _, rfl, rfl, by rw [S_len, S_len]; exact len_1000 (by omega), u ++ x, by rw [S_app]; rfl, AllL.app.mpr ⟨hu, hx⟩, by rw [List.length_append]; omega, k⟩
theorem ok_letters_of {f : Addr} {fd : FuncData} (D : Df K mg "letters_of" s_letters_of ["n"] f fd) (T : Txt P w K mg a_CONTRARIES a_EXCHANGE a_LETTERS a_Weave) : Cl P w K mg base "letters_of" ["n"] 1 (spLetT K) := by
  refine D.cl (D.F.ok sc_letters_of (fun vs H Q E h => ?_) (fun cdv A outer s H vs Q E hr h => ?_))
  · obtain ⟨n, rfl, _⟩ := h
    rfl
  · obtain ⟨n, rfl, h1, h4, k⟩ := h
    refine ⟨_, (pss_one (ps_ret (pe_slice (sl_tupB (K := K) rfl) (pe_glob (v := .ref a_LETTERS) (by rfl) T.m_LETTERS rfl) po_none (po_some (pe_op op_mul pe_int (pv 0)))))), ?_⟩
    refine ⟨_, rfl, _, _, rfl, rfl, .inl ⟨by decide, by decide⟩, _, rfl, a_LETTERS, letV, 2 * n, rfl, T.t_LETTERS _, rfl, ?_, ?_, fun _ p hp => ?_, fun e => ?_⟩
    · show some (2 * ((n : Nat) : Int)) = _; congr 1
    · rw [letV_len]; omega
    · exact k p _ (Same.new hp) (by rw [← letV_take h1 h4]; exact SqT.of upd_same)
    · refine k _ _ (Same.refl H) ?_
      rw [← letV_take h1 h4, List.take_of_length_le (by omega)]
      exact T.t_LETTERS _
theorem ok_first_letters {f : Addr} {fd : FuncData} (D : Df K mg "first_letters" s_first_letters ["n"] f fd) (T : Txt P w K mg a_CONTRARIES a_EXCHANGE a_LETTERS a_Weave) : Cl P w K mg base "first_letters" ["n"] 1 spFirst := by
  refine D.cl (D.F.ok sc_first_letters (fun vs H Q E h => ?_) (fun cdv A outer s H vs Q E hr h => ?_))
  · obtain ⟨n, rfl, _⟩ := h
    rfl
  · obtain ⟨n, rfl, h1, h4, k⟩ := h
    refine ⟨_, (pss_one (ps_ret (pe_slice3 (sl3_tupK (K := K) rfl) (pe_glob (v := .ref a_LETTERS) (by rfl) T.m_LETTERS rfl) po_none (po_some (pe_op op_mul pe_int (pv 0))) (po_some pe_int)))), ?_⟩
    refine ⟨_, rfl, _, _, rfl, rfl, .inl ⟨by decide, by decide⟩, _, rfl, _, rfl, a_LETTERS, letV, 2 * n, rfl, T.t_LETTERS _, rfl, ?_, rfl, ?_, fun p hp => ?_⟩
    · show some (2 * ((n : Nat) : Int)) = _; congr 1
    · rw [letV_len]; omega
    · rw [picks_low h1 h4]
      exact k p _ hp (Same.new hp) upd_same
theorem ok_told_same {f : Addr} {fd : FuncData} (D : Df K mg "told_same" s_told_same ["n"] f fd) (T : Txt P w K mg a_CONTRARIES a_EXCHANGE a_LETTERS a_Weave) (c_first_letters : Cl P w K mg base "first_letters" ["n"] 1 spFirst) : Cl P w K mg base "told_same" ["n"] 2 spFirst := by
  obtain ⟨f_first_letters, fd_first_letters, G_first_letters, m_first_letters, k_first_letters, b_first_letters⟩ := c_first_letters
  refine D.cl (D.F.ok sc_told_same (fun vs H Q E h => ?_) (fun cdv A outer s H vs Q E hr h => ?_))
  · obtain ⟨n, rfl, _⟩ := h
    rfl
  · obtain ⟨n, rfl, h1, h4, k⟩ := h
    refine ⟨_, (pss_one (ps_ret (pe_call G_first_letters (hr.mono (by decide)) (by rfl) m_first_letters k_first_letters b_first_letters .nil pass0 (pa_cons (pv 0) pa_nil)))), ?_⟩
    exact ⟨_, rfl, n, rfl, h1, h4, k⟩
theorem ok_words_by_letter {f : Addr} {fd : FuncData} (D : Df K mg "words_by_letter" s_words_by_letter ["retelling"] f fd) (T : Txt P w K mg a_CONTRARIES a_EXCHANGE a_LETTERS a_Weave) (c_first_letters : Cl P w K mg base "first_letters" ["n"] 1 spFirst) (c_contrary : Cl P w K mg base "contrary" ["letter"] 1 spCon) (c_turned_back : Cl P w K mg base "turned_back" ["word"] 2 spBack) : Cl P w K mg base "words_by_letter" ["retelling"] 3 (spTab K) := by
  obtain ⟨f_first_letters, fd_first_letters, G_first_letters, m_first_letters, k_first_letters, b_first_letters⟩ := c_first_letters
  obtain ⟨f_contrary, fd_contrary, G_contrary, m_contrary, k_contrary, b_contrary⟩ := c_contrary
  obtain ⟨f_turned_back, fd_turned_back, G_turned_back, m_turned_back, k_turned_back, b_turned_back⟩ := c_turned_back
  refine D.cl (D.F.ok sc_words_by_letter (fun vs H Q E h => ?_) (fun cdv A outer s H vs Q E hr h => ?_))
  · obtain ⟨a, rs, n, M, rfl, _⟩ := h
    rfl
  · obtain ⟨a, rs, n, M, rfl, hq, hr0, h1, h4, hM, k⟩ := h
    refine ⟨_, (pss_cons (ps_set (i := 1) sc_words_by_letter.nd rfl (Or.inl rfl) pe_dnewK)
      (pss_cons (ps_for PassesOwn.never rfl (pi_zip (K := K) rfl (by rfl) T.b_zip (pa_cons (pe_call G_first_letters (hr.mono (by decide)) (by rfl) m_first_letters k_first_letters b_first_letters .nil pass0 (pa_cons (pe_callB (call_lenK (K := K) rfl) (by rfl) T.b_len PySem.boot_len (pa_cons (pv 0) pa_nil)) pa_nil)) (pa_cons (pv 0) pa_nil))) (pg_seq (K := K) rfl rfl (pgs_cons (pg_name (i := 2) sc_words_by_letter.nd rfl (Or.inl rfl)) (pgs_cons (pg_name (i := 3) sc_words_by_letter.nd rfl (Or.inl rfl)) pgs_nil))) (pss_cons (ps_dput (Nat.lt_of_le_of_lt (Nat.add_le_add_left (by decide : 1 ≤ 64) _) hr.units) (pv 1) (pv 2) (pv 3) (by rfl))
      (pss_one (ps_dput (Nat.lt_of_le_of_lt (Nat.add_le_add_left (by decide : 1 ≤ 64) _) hr.units) (pv 1) (pe_call G_contrary (hr.mono (by decide)) (by rfl) m_contrary k_contrary b_contrary .nil pass0 (pa_cons (pv 2) pa_nil)) (pe_call G_turned_back (hr.mono (by decide)) (by rfl) m_turned_back k_turned_back b_turned_back .nil pass0 (pa_cons (pv 3) pa_nil)) (by rfl)))))
      (pss_one (ps_ret (pv 1))))), ?_⟩
    refine fun p hp => ?_
    have hq1 : SqT K (upd H p (.dK [])) a (wds rs) := Lw.SqT.new hq hp
    refine ⟨_, rfl, a, _, rfl, .inr hq1, n, by rw [wds_len, hr0.len]; rfl, h1, h4, fun t H1 ht s1 et => ⟨_, rfl, t, a, rfl, ⟨_, SqT.of et⟩, ⟨_, L2.SqT.same s1 hq1⟩, ?_⟩⟩
    have ll : (lowW n).length = n := (lowW_rt h1 h4).len
    have hpt : p ≠ t := ne_of_none (upd_same (H := H) (a := p) (o := HO.dK [])) ht
    refine for_zip (K := K) (t := t) (u := a) (xs := wds (lowW n)) (ys := wds rs) (fun i σ H2 => ∃ (v2 v3 : Option V) (kvs : List (Key × V)), σ = [some (.ref a), some (.ref p), v2, v3] ∧ Same H H2 ∧ H2 p = some (.dK kvs) ∧ H2 t = some (.tup (wds (lowW n))) ∧ kvs.length ≤ 2 * i ∧ TabI kvs rs i) ?_ ?_ ?_ ?_
    · exact ⟨none, none, [], rfl, (Same.new hp).trans s1, s1 _ _ upd_same, et, Nat.le_refl _, fun j hj => absurd hj (Nat.not_lt_zero _)⟩
    · rintro i _ H2 _ ⟨v2, v3, kvs, rfl, s2, e2, t2, _⟩
      exact ⟨SqT.of t2, L2.SqT.same s2 hq⟩
    · rintro i x y q _ H2 hx hy hq2 ⟨v2, v3, kvs, rfl, s2, e2, t2, hl, htab⟩
      obtain ⟨rfl, hi⟩ := low_get h4 hx
      obtain ⟨r, hri, rfl⟩ := wds_get hy
      have hra := hr0.all r (List.mem_of_getElem? hri)
      have hrl := hr0.le r (List.mem_of_getElem? hri)
      have hcL : isL (97 + i) := by unfold isL; omega
      have e3 : upd H2 q (.tup [.str (S [97 + i]), .str (S r)]) p = some (.dK kvs) := by rw [upd_ne (ne_of_none e2 hq2)]; exact e2
      have s3 : Same H (upd H2 q (.tup [.str (S [97 + i]), .str (S r)])) := s2.upd' hq2
      have t3 : upd H2 q (.tup [.str (S [97 + i]), .str (S r)]) t = some (.tup (wds (lowW n))) := by rw [upd_ne (ne_of_none t2 hq2)]; exact t2
      refine ⟨q, _, rfl, .inr (SqT.of upd_same), rfl, _, _, rfl, _, _, rfl, rfl, ?_⟩
      generalize upd H2 q (.tup [.str (S [97 + i]), .str (S r)]) = H3 at e3 s3 t3
      refine ⟨_, rfl, _, rfl, _, rfl, p, _, rfl, DPut.k (k := .inr (S [97 + i])) e3 (small1000 (by omega)), ?_⟩
      have s4 : Same H (upd H3 p (.dK (putK kvs (.inr (S [97 + i])) (.str (S r))))) := s3.upd hp
      have t4 : upd H3 p (.dK (putK kvs (.inr (S [97 + i])) (.str (S r)))) t = some (.tup (wds (lowW n))) := by rw [upd_ne hpt.symm]; exact t3
      have e4 : upd H3 p (.dK (putK kvs (.inr (S [97 + i])) (.str (S r)))) p = some (.dK (putK kvs (.inr (S [97 + i])) (.str (S r)))) := upd_same
      generalize upd H3 p (.dK (putK kvs (.inr (S [97 + i])) (.str (S r)))) = H4 at s4 t4 e4
      have l1 := length_putK kvs (.inr (S [97 + i])) (.str (S r))
      have l2 := length_putK (putK kvs (.inr (S [97 + i])) (.str (S r))) (.inr (S [con (97 + i)])) (.str (S (back r)))
      refine ⟨_, rfl, r, rfl, hra, by omega, fun H5 s5 => ⟨_, rfl, _, rfl, 97 + i, rfl, hcL, fun H6 s6 => ⟨p, _, rfl, DPut.k (k := .inr (S [con (97 + i)])) (s6 _ _ (s5 _ _ e4)) (small1000 (by omega)), ?_⟩⟩⟩
      exact ⟨_, _, _, rfl, ((s4.trans s5).trans s6).upd hp, upd_same, by rw [upd_ne hpt.symm]; exact s6 _ _ (s5 _ _ t4), by omega, tab_put hri (by omega) htab⟩
    · rintro _ H2 ⟨v2, v3, kvs, rfl, s2, e2, t2, hl, htab⟩
      have em : min (wds (lowW n)).length (wds rs).length = n := by rw [wds_len, wds_len, ll, hr0.len, Nat.min_self]
      rw [em] at htab
      exact ⟨_, rfl, k p kvs H2 hp s2 e2 (tab_end hr0.len h1 h4 htab)⟩
theorem ok_retold {f : Addr} {fd : FuncData} (D : Df K mg "retold" s_retold ["retelling", "word"] f fd) (T : Txt P w K mg a_CONTRARIES a_EXCHANGE a_LETTERS a_Weave) (c_laid_out : Cl P w K mg base "laid_out" ["text"] 2 spLay) (c_words_by_letter : Cl P w K mg base "words_by_letter" ["retelling"] 3 (spTab K)) : Cl P w K mg base "retold" ["retelling", "word"] 4 (spRetold K) := by
  obtain ⟨f_laid_out, fd_laid_out, G_laid_out, m_laid_out, k_laid_out, b_laid_out⟩ := c_laid_out
  obtain ⟨f_words_by_letter, fd_words_by_letter, G_words_by_letter, m_words_by_letter, k_words_by_letter, b_words_by_letter⟩ := c_words_by_letter
  refine D.cl (D.F.ok sc_retold (fun vs H Q E h => ?_) (fun cdv A outer s H vs Q E hr h => ?_))
  · obtain ⟨a, rs, n, M, x, rfl, _⟩ := h
    rfl
  · obtain ⟨a, rs, n, M, x, rfl, hq, hr0, h1, h4, hM, hox, hxl, hxm, k⟩ := h
    refine ⟨_, (pss_cons (ps_set (i := 2) sc_retold.nd rfl (Or.inr rfl) (pe_call G_words_by_letter (hr.mono (by decide)) (by rfl) m_words_by_letter k_words_by_letter b_words_by_letter .nil pass0 (pa_cons (pv 0) pa_nil)))
      (pss_one (ps_ret (pe_call G_laid_out (hr.mono (by decide)) (by rfl) m_laid_out k_laid_out b_laid_out .nil pass0 (pa_cons (pe_bmK (K := K) rfl PySem.F.plainAttrs_str PySem.F.slot_str_join PySem.F.type_str_join (mt_joinK (K := K) rfl) pe_str (pa_cons (pe_compc (sc0 := defScope s_retold) (N := ["retelling", "word", "told"]) (ix := [2]) (by decide +kernel) rfl rfl rfl (pi_str (pv 1)) (fun _ _ _ => pifs_nil) (fun _ _ _ => (pe_dget (Nat.lt_of_le_of_lt (Nat.add_le_add_left (by decide : 1 ≤ 64) _) hr.units) (pv 1) (pv 0) (fun _ _ => rfl)))) pa_nil)) pa_nil))))), ?_⟩
    refine ⟨_, rfl, a, rs, n, M, rfl, hq, hr0, h1, h4, hM, fun p kvs H1 hp s1 e1 htab => ?_⟩
    have tl := told_len hr0 x
    have ta := told_all hr0 x
    refine ⟨rfl, _, rfl, S x, rfl, fun Dd hD => comp_strIf (w := x) (fun i H2 => Same H1 H2 ∧ H2 Dd = some (.lst (wds ((x.take i).map (tell rs))))) ⟨Same.new hD, upd_same⟩ ?_ ?_⟩
    · rintro i c H2 hc ⟨s2, e2⟩
      have hi : i < x.length := (List.getElem?_eq_some_iff.mp hc).1
      have hcn : c ∈ letsN rs.length := by rw [hr0.len]; exact hox c (List.mem_of_getElem? hc)
      refine ⟨_, rfl, _, rfl, p, .str (S (tell rs c)), rfl, ?_, _, e2, ?_, s2.upd hD, ?_⟩
      · have := DGet.k (k := .inr (S [c])) (s2 _ _ e1)
        rw [htab c hcn] at this
        exact this
      · rw [wds_len, List.length_map, List.length_take]; exact Nat.lt_of_lt_of_le (show _ < 100000 by omega) (len_1000 (Nat.le_refl _))
      · rw [upd_same, take_snoc hc, List.map_append]
        unfold wds
        rw [List.map_append]
        rfl
    · rintro H2 ⟨s2, e2⟩
      rw [List.take_length] at e2
      have e3 : SqL K H2 Dd (((x.map (tell rs)).map S).map V.str) := by
        have : ((x.map (tell rs)).map S).map V.str = wds (x.map (tell rs)) := by unfold wds; rw [List.map_map]; rfl
        rw [this]; exact SqL.of e2
      have ef : (x.map (tell rs)).flatten = told rs x := by unfold told; rw [List.flatMap_def]
      refine ⟨_, Dd, _, rfl, rfl, e3, ?_, told rs x, ?_, ta, by omega, fun H3 s3 => k H3 ((s1.trans s2).trans s3)⟩
      · rw [sum_len, ef, S_nil, S_len]
        simp
        omega
      · rw [S_nil, join_S, ef]; rfl
theorem ok_told_then {f : Addr} {fd : FuncData} (D : Df K mg "told_then" s_told_then ["one", "other"] f fd) (T : Txt P w K mg a_CONTRARIES a_EXCHANGE a_LETTERS a_Weave) (c_retold : Cl P w K mg base "retold" ["retelling", "word"] 4 (spRetold K)) : Cl P w K mg base "told_then" ["one", "other"] 5 (spThen K) := by
  obtain ⟨f_retold, fd_retold, G_retold, m_retold, k_retold, b_retold⟩ := c_retold
  refine D.cl (D.F.ok sc_told_then (fun vs H Q E h => ?_) (fun cdv A outer s H vs Q E hr h => ?_))
  · obtain ⟨a, b, f, s, n, M, L, rfl, _⟩ := h
    rfl
  · obtain ⟨a, b, f0, s0, n, M, L, rfl, ha, hb, hf0, hs0, hfo, h1, h4, hM, hL, hML, k⟩ := h
    refine ⟨_, (pss_one (ps_ret (pe_callTy (call_tupleK (K := K) rfl) (by rfl) T.b_tuple boot_tuple (pa_cons (pe_compc (sc0 := defScope s_told_then) (N := ["one", "other"]) (ix := [1]) (by decide +kernel) rfl rfl rfl (pi_tupK (K := K) rfl (pv 0)) (fun _ _ _ => pifs_nil) (fun _ _ _ => (pe_call G_retold (hr.mono (by decide)) (by rfl) m_retold k_retold b_retold .nil pass0 (pa_cons (pv 1) (pa_cons (pv 0) pa_nil))))) pa_nil)))), ?_⟩
    refine ⟨_, rfl, a, rfl, ⟨_, ha⟩, fun Dd hD => comp_tupIf (xs := wds f0) (fun i H1 => Same H H1 ∧ H1 Dd = some (.lst (wds ((f0.take i).map (retl s0))))) ⟨Same.new hD, upd_same⟩ (fun i H1 _ h => L2.SqT.same h.1 ha) ?_ ?_⟩
    · rintro i v H1 hv ⟨s1, e1⟩
      obtain ⟨x, hx, rfl⟩ := wds_get hv
      have hxm := List.mem_of_getElem? hx
      have hi : i < f0.length := (List.getElem?_eq_some_iff.mp hx).1
      have hxl := hf0.le x hxm
      refine ⟨_, rfl, _, rfl, b, s0, n, L, x, rfl, L2.SqT.same s1 hb, hs0, h1, h4, hL, hfo x hxm, by omega, Nat.le_trans (Nat.mul_le_mul_right _ hxl) (Nat.le_trans hML (by decide)), fun H2 s2 => ⟨_, s2 _ _ e1, ?_, (s1.trans s2).upd hD, ?_⟩⟩
      · have := hf0.len
        rw [wds_len, List.length_map, List.length_take]; exact small1000 (by omega)
      · rw [upd_same, List.take_add_one, hx, List.map_append]
        unfold wds
        rw [List.map_append]
        rfl
    · rintro H1 ⟨s1, e1⟩
      rw [wds_len, List.take_length] at e1
      refine ⟨Dd, _, rfl, .inl ⟨SqL.of e1, fun q hq => k q _ (s1.free hq) (s1.upd' hq) upd_same⟩⟩
theorem ok_Weave___init__ {f : Addr} {fd : FuncData} (D : DfM K a_Weave "__init__" "Weave.__init__" s_Weave___init__ ["self"] f fd) (T : Txt P w K mg a_CONTRARIES a_EXCHANGE a_LETTERS a_Weave) : ClM P w K mg base a_Weave "__init__" ["self"] 1 (spWInit a_Weave) := by
  refine D.cl (D.F.ok sc_Weave___init__ (fun vs H Q E h => ?_) (fun cdv A outer s H vs Q E hr h => ?_))
  · obtain ⟨p, dx, rfl, _⟩ := h
    rfl
  · obtain ⟨p, dx, rfl, hp, k⟩ := h
    refine ⟨_, (pss_cons (ps_fldK (K := K) rfl (pv 0) (pe_lst (pa_cons pe_int pa_nil)) rfl)
      (pss_cons (ps_fldK (K := K) rfl (pv 0) (pe_lst (pa_cons pe_str pa_nil)) rfl)
      (pss_cons (ps_fldK (K := K) rfl (pv 0) (pe_lst (pa_cons pe_dnewK pa_nil)) rfl)
      (pss_one (ps_fldK (K := K) rfl (pv 0) (pe_lst pa_nil) rfl))))), ?_⟩
    refine ⟨by decide, fun q1 h1 => ?_⟩
    have F1 := put_obj (HO.lst [.int 0]) (.ins a_Weave dx (putF "heads" (.ref q1) [])) hp h1
    refine ⟨_, rfl, p, a_Weave, dx, [], rfl, put_at _ hp h1, T.o_Weave.cl, T.n_Weave_heads, (by show 0 < 1000; decide), ?_⟩
    refine ⟨by decide, fun q2 h2 => ?_⟩
    have F2 := put_obj (HO.lst [.str (S [])]) (.ins a_Weave dx (putF "turns" (.ref q2) (putF "heads" (.ref q1) []))) F1.1 h2
    refine ⟨_, rfl, p, a_Weave, dx, _, rfl, put_at _ F1.1 h2, T.o_Weave.cl, T.n_Weave_turns, (by show 1 < 1000; decide), ?_⟩
    intro d hd
    have hpd := put_at (.dK []) F2.1 hd
    refine ⟨(by show 1 ≤ sizeLine; decide), fun q3 h3 => ?_⟩
    have F3 := put_obj (HO.lst [.ref d]) (.ins a_Weave dx (putF "ways" (.ref q3) (putF "turns" (.ref q2) (putF "heads" (.ref q1) [])))) hpd h3
    refine ⟨_, rfl, p, a_Weave, dx, _, rfl, put_at _ hpd h3, T.o_Weave.cl, T.n_Weave_ways, (by show 2 < 1000; decide), ?_⟩
    refine ⟨by decide, fun q4 h4 => ?_⟩
    have F4 := put_obj (HO.lst []) (.ins a_Weave dx (wf q1 q2 q3 q4)) F3.1 h4
    refine ⟨_, rfl, p, a_Weave, dx, _, rfl, put_at _ F3.1 h4, T.o_Weave.cl, T.n_Weave_alike, (by show 3 < 1000; decide), ?_⟩
    have n1 : q1 ≠ p := (ne_of_none hp h1).symm
    have n2 : q2 ≠ p := (ne_of_none F1.1 h2).symm
    have n3 : d ≠ p := (ne_of_none F2.1 hd).symm
    have n4 : q3 ≠ p := (ne_of_none hpd h3).symm
    have kp : ∀ b o, H b = some o → b ≠ p → _ := fun b o e hb => F4.2.2 b o (F3.2.2 b o (put_at _ (F2.2.2 b o (F1.2.2 b o e hb) hb) hd) hb) hb
    refine k d _ ?_ ⟨⟨dx, q1, q2, q3, q4, F4.1, ?_, ?_, ?_, F4.2.1⟩, ?_⟩ kp
    · cases e : H d with
      | none => rfl
      | some o =>
        have z := hd.symm.trans (F2.2.2 d o (F1.2.2 d o e n3) n3)
        cases z
    · exact F4.2.2 _ _ (F3.2.2 _ _ (put_at _ (F2.2.2 _ _ F1.2.1 n1) hd) n1) n1
    · exact F4.2.2 _ _ (F3.2.2 _ _ (put_at _ F2.2.1 hd) n2) n2
    · exact F4.2.2 _ _ F3.2.1 n4
    · exact F4.2.2 _ _ (F3.2.2 _ _ upd_same n3) n3
theorem ok_Weave_end_of {f : Addr} {fd : FuncData} (D : DfM K a_Weave "end_of" "Weave.end_of" s_Weave_end_of ["self", "place", "told"] f fd) (T : Txt P w K mg a_CONTRARIES a_EXCHANGE a_LETTERS a_Weave) (c_joined : Cl P w K mg base "joined" ["one", "other"] 3 spJoin) : ClM P w K mg base a_Weave "end_of" ["self", "place", "told"] 4 (spEnd a_Weave) := by
  obtain ⟨f_joined, fd_joined, G_joined, m_joined, k_joined, b_joined⟩ := c_joined
  refine D.cl (D.F.ok sc_Weave_end_of (fun vs H Q E h => ?_) (fun cdv A outer s H vs Q E hr h => ?_))
  · obtain ⟨p, d, kvs, x, rfl, _⟩ := h
    rfl
  · obtain ⟨p, d, kvs, x, rfl, hW, k⟩ := h
    refine ⟨_, (pss_cons (ps_while PassesOwn.never (pt_cmpR op_ne (pe_ix (ix_listK (K := K) rfl) (pe_fldK (K := K) rfl (pv 0) rfl) (pv 1) (fun _ _ => rfl)) (pv 1) (nomark _)) (pss_cons (ps_set (i := 3) sc_Weave_end_of.nd rfl (Or.inl rfl) (pe_ix (ix_listK (K := K) rfl) (pe_fldK (K := K) rfl (pv 0) rfl) (pv 1) (fun _ _ => rfl)))
      (pss_cons (ps_asg (pe_call G_joined (hr.mono (by decide)) (by rfl) m_joined k_joined b_joined .nil pass0 (pa_cons (pe_ix (ix_listK (K := K) rfl) (pe_fldK (K := K) rfl (pv 0) rfl) (pv 1) (fun _ _ => rfl)) (pa_cons (pe_ix (ix_listK (K := K) rfl) (pe_fldK (K := K) rfl (pv 0) rfl) (pv 3) (fun _ _ => rfl)) pa_nil))) (pg_sub (pe_fldK (K := K) rfl (pv 0) rfl) (pv 1) set_list))
      (pss_cons (ps_asg (pe_ix (ix_listK (K := K) rfl) (pe_fldK (K := K) rfl (pv 0) rfl) (pv 3) (fun _ _ => rfl)) (pg_sub (pe_fldK (K := K) rfl (pv 0) rfl) (pv 1) set_list))
      (pss_cons (ps_set (i := 2) sc_Weave_end_of.nd rfl (Or.inl rfl) (pe_call G_joined (hr.mono (by decide)) (by rfl) m_joined k_joined b_joined .nil pass0 (pa_cons (pv 2) (pa_cons (pe_ix (ix_listK (K := K) rfl) (pe_fldK (K := K) rfl (pv 0) rfl) (pv 1) (fun _ _ => rfl)) pa_nil))))
      (pss_one (ps_set (i := 1) sc_Weave_end_of.nd rfl (Or.inl rfl) (pe_ix (ix_listK (K := K) rfl) (pe_fldK (K := K) rfl (pv 0) rfl) (pv 1) (fun _ _ => rfl)))))))))
      (pss_one (ps_ret (pe_tup (pa_cons (pv 1) (pa_cons (pv 2) pa_nil)))))), ?_⟩
    obtain ⟨⟨dx, hd, tn, wy, al, a1, a2, a3, a4, a5⟩, a6⟩ := id hW
    refine while_zero fun Q' q => ?_
    refine ⟨_, rfl, p, a_Weave, dx, _, _, rfl, a1, T.o_Weave.cl, T.n_Weave_heads, wf_heads _ _ _ _, _, rfl, hd, _, 0, .int 0, rfl, rfl, SqL.of a2, rfl, _, rfl, rfl, ?_⟩
    refine ⟨_, rfl, (show Q' false H from q _ ?_)⟩
    exact ⟨_, rfl, _, rfl, (by show 2 ≤ sizeLine; decide), fun t ht => k t _ ht (Same.new ht) upd_same⟩
theorem ok_Weave_head_of {f : Addr} {fd : FuncData} (D : DfM K a_Weave "head_of" "Weave.head_of" s_Weave_head_of ["self", "place"] f fd) (T : Txt P w K mg a_CONTRARIES a_EXCHANGE a_LETTERS a_Weave) (c_Weave_end_of : ClM P w K mg base a_Weave "end_of" ["self", "place", "told"] 4 (spEnd a_Weave)) : ClM P w K mg base a_Weave "head_of" ["self", "place"] 5 (spHeadW a_Weave) := by
  obtain ⟨f_Weave_end_of, fd_Weave_end_of, G_Weave_end_of, m_Weave_end_of, b_Weave_end_of⟩ := c_Weave_end_of
  refine D.cl (D.F.ok sc_Weave_head_of (fun vs H Q E h => ?_) (fun cdv A outer s H vs Q E hr h => ?_))
  · obtain ⟨p, d, kvs, rfl, _⟩ := h
    rfl
  · obtain ⟨p, d, kvs, rfl, hW, k⟩ := h
    refine ⟨_, (pss_one (ps_ret (pe_ix (ix_tupK (K := K) rfl) (pe_meth (pv 0) T.o_Weave.cl m_Weave_end_of G_Weave_end_of (hr.mono (by decide)) b_Weave_end_of .nil pass0 (pa_cons (pv 1) (pa_cons pe_str pa_nil))) pe_int (fun _ _ => rfl)))), ?_⟩
    obtain ⟨⟨dx, hd, tn, wy, al, a1, a2, a3, a4, a5⟩, a6⟩ := id hW
    refine ⟨_, rfl, p, dx, _, rfl, a1, wf_no _ _ _ _ (by decide +kernel) (by decide +kernel) (by decide +kernel) (by decide +kernel), _, rfl, p, d, kvs, _, rfl, hW, fun t H1 ht s1 et => ?_⟩
    exact ⟨t, _, 0, .int 0, rfl, rfl, SqT.of et, rfl, k _ s1⟩
theorem ok_Weave_goal_of {f : Addr} {fd : FuncData} (D : DfM K a_Weave "goal_of" "Weave.goal_of" s_Weave_goal_of ["self", "head", "letter"] f fd) (T : Txt P w K mg a_CONTRARIES a_EXCHANGE a_LETTERS a_Weave) (c_Weave_head_of : ClM P w K mg base a_Weave "head_of" ["self", "place"] 5 (spHeadW a_Weave)) : ClM P w K mg base a_Weave "goal_of" ["self", "head", "letter"] 6 (spGoal a_Weave) := by
  obtain ⟨f_Weave_head_of, fd_Weave_head_of, G_Weave_head_of, m_Weave_head_of, b_Weave_head_of⟩ := c_Weave_head_of
  refine D.cl (D.F.ok sc_Weave_goal_of (fun vs H Q E h => ?_) (fun cdv A outer s H vs Q E hr h => ?_))
  · obtain ⟨p, d, kvs, m, c, rfl, _⟩ := h
    rfl
  · obtain ⟨p, d, kvs, m, c, rfl, hW, hm, k⟩ := h
    refine ⟨_, (pss_cons (ps_set (i := 3) sc_Weave_goal_of.nd rfl (Or.inl rfl) (pe_dget1 (Nat.lt_of_le_of_lt (Nat.add_le_add_left (by decide : 1 ≤ 64) _) hr.units) (pe_ix (ix_listK (K := K) rfl) (pe_fldK (K := K) rfl (pv 0) rfl) (pv 1) (fun _ _ => rfl)) (pv 2) ⟨rfl, rfl, rfl, rfl⟩))
      (pss_one (ps_ret (pe_ifExp (pt_cmpR op_isN (pv 3) pe_non (nomark _)) pe_non (pe_meth (pv 0) T.o_Weave.cl m_Weave_head_of G_Weave_head_of (hr.mono (by decide)) b_Weave_head_of .nil pass0 (pa_cons (pe_ix (ix_tupK (K := K) rfl) (pv 3) pe_int (fun _ _ => rfl)) pa_nil)))))), ?_⟩
    obtain ⟨⟨dx, hd, tn, wy, al, a1, a2, a3, a4, a5⟩, a6⟩ := id hW
    refine ⟨_, rfl, p, a_Weave, dx, _, _, rfl, a1, T.o_Weave.cl, T.n_Weave_ways, wf_ways _ _ _ _, _, rfl, wy, _, 0, .ref d, rfl, rfl, SqL.of a4, rfl, d, rfl, .inl ⟨kvs, .inl a6⟩, _, rfl, _, DGet.k (k := .inr (S [c])) a6, ?_⟩
    have hc := hm c
    refine ⟨_, rfl, rfl, _, rfl, ?_⟩
    cases e : m c with
    | none =>
      rw [e] at hc
      have hv : valV kvs (Sum.inr (S [c])) = none := hc
      rw [hv]
      show Q .non H
      have := k H (fun _ _ z => z)
      rw [e] at this
      exact this
    | some w =>
      rw [e] at hc
      obtain ⟨t, hv, ht⟩ := (show ∃ t, valV kvs (Sum.inr (S [c])) = some (V.ref t) ∧ H t = some (HO.tup [V.int 0, V.str (S w)]) from hc)
      rw [hv]
      have k' := k
      rw [e] at k'
      refine ⟨_, rfl, p, dx, _, rfl, a1, wf_no _ _ _ _ (by decide +kernel) (by decide +kernel) (by decide +kernel) (by decide +kernel), _, rfl, t, _, 0, .int 0, rfl, rfl, SqT.of ht, rfl, p, d, kvs, rfl, hW, fun H1 s1 => k' H1 s1⟩
theorem ok_Weave_lay_way {f : Addr} {fd : FuncData} (D : DfM K a_Weave "lay_way" "Weave.lay_way" s_Weave_lay_way ["self", "place", "letter", "goal", "told"] f fd) (T : Txt P w K mg a_CONTRARIES a_EXCHANGE a_LETTERS a_Weave) (c_turned_back : Cl P w K mg base "turned_back" ["word"] 2 spBack) (c_joined : Cl P w K mg base "joined" ["one", "other"] 3 spJoin) : ClM P w K mg base a_Weave "lay_way" ["self", "place", "letter", "goal", "told"] 4 (spLayW a_Weave) := by
  obtain ⟨f_turned_back, fd_turned_back, G_turned_back, m_turned_back, k_turned_back, b_turned_back⟩ := c_turned_back
  obtain ⟨f_joined, fd_joined, G_joined, m_joined, k_joined, b_joined⟩ := c_joined
  refine D.cl (D.F.ok sc_Weave_lay_way (fun vs H Q E h => ?_) (fun cdv A outer s H vs Q E hr h => ?_))
  · obtain ⟨p, d, kvs, m, c, w, rfl, _⟩ := h
    rfl
  · obtain ⟨p, d, kvs, m, c, w, rfl, hW, hm, hn, hl, k⟩ := h
    refine ⟨_, (pss_cons (ps_set (i := 5) sc_Weave_lay_way.nd rfl (Or.inl rfl) (pe_dsetd (pe_ix (ix_listK (K := K) rfl) (pe_fldK (K := K) rfl (pv 0) rfl) (pv 1) (fun _ _ => rfl)) (pv 2) (pe_tup (pa_cons (pv 3) (pa_cons (pv 4) pa_nil))) ⟨rfl, rfl, rfl, rfl⟩))
      (pss_one (ps_if (pt_cmpR (op_neQ (K := K) rfl hr.units) (pv 5) (pe_tup (pa_cons (pv 3) (pa_cons (pv 4) pa_nil))) (nomark _)) (pss_one (ps_expr (pe_bmK (K := K) rfl PySem.F.plainAttrs_list PySem.F.slot_list_append PySem.F.type_list_append mt_append (pe_fldK (K := K) rfl (pv 0) rfl) (pa_cons (pe_tup (pa_cons (pv 3) (pa_cons (pe_call G_joined (hr.mono (by decide)) (by rfl) m_joined k_joined b_joined .nil pass0 (pa_cons (pe_call G_turned_back (hr.mono (by decide)) (by rfl) m_turned_back k_turned_back b_turned_back .nil pass0 (pa_cons (pv 4) pa_nil)) (pa_cons (pe_ix (ix_tupK (K := K) rfl) (pv 5) pe_int (fun _ _ => rfl)) pa_nil))) (pa_cons (pe_ix (ix_tupK (K := K) rfl) (pv 5) pe_int (fun _ _ => rfl)) pa_nil)))) pa_nil)))) pss_nil))), ?_⟩
    obtain ⟨⟨dx, hd, tn, wy, al, a1, a2, a3, a4, a5⟩, a6⟩ := id hW
    have hv : valV kvs (.inr (S [c])) = none := by
      have := hm c
      rw [hn] at this
      exact this
    refine ⟨_, rfl, p, a_Weave, dx, _, _, rfl, a1, T.o_Weave.cl, T.n_Weave_ways, wf_ways _ _ _ _, _, rfl, wy, _, 0, .ref d, rfl, rfl, SqL.of a4, rfl, d, rfl, .inl ⟨kvs, .inl a6⟩, _, rfl, _, rfl, _, rfl, (by show 2 ≤ sizeLine; decide), fun t ht => ?_⟩
    have s1 := Same.new (o := HO.tup [.int 0, .str (S w)]) ht
    refine ⟨kvs, .inr (S [c]), s1 _ _ a6, (by rw [sizeLine_eq]; omega), rfl, fun v e => (by rw [hv] at e; cases e), fun _ => ?_⟩
    have k1 : KpD d H (upd (upd H t (.tup [.int 0, .str (S w)])) d (.dK (putK kvs (.inr (S [c])) (.ref t)))) := fun b o e n => by rw [upd_ne n]; exact s1 b o e
    have nt : t ≠ d := (ne_of_none a6 ht).symm
    have et : upd (upd H t (.tup [.int 0, .str (S w)])) d (.dK (putK kvs (.inr (S [c])) (.ref t))) t = some (.tup [.int 0, .str (S w)]) := by rw [upd_ne nt, upd_same]
    refine ⟨_, rfl, _, rfl, _, rfl, (by show 2 ≤ sizeLine; decide), fun t2 ht2 => ?_⟩
    have s2 := Same.new (o := HO.tup [.int 0, .str (S w)]) ht2
    refine ⟨0, t, t2, [.int 0, .str (S w)], [.int 0, .str (S w)], by decide, rfl, rfl, .inr ⟨SqT.of (s2 _ _ et), SqT.of upd_same⟩, rfl, fun i x y hx hy => ?_, _, rfl, ?_⟩
    · rw [hx] at hy
      cases hy
      have : flatV x = true := by
        have hm := List.mem_of_getElem? hx
        simp only [List.mem_cons, List.not_mem_nil, or_false] at hm
        rcases hm with rfl | rfl <;> rfl
      exact .flat this
    · have k2 := k1.trans (KpD.same s2)
      exact k _ _ (hW.put k2 (s2 _ _ upd_same)) (hm.put a6 k2 (s2 _ _ et)) (length_putK _ _ _) k2
theorem ok_Weave_new_place {f : Addr} {fd : FuncData} (D : DfM K a_Weave "new_place" "Weave.new_place" s_Weave_new_place ["self"] f fd) (T : Txt P w K mg a_CONTRARIES a_EXCHANGE a_LETTERS a_Weave) : ClM P w K mg base a_Weave "new_place" ["self"] 1 spNo := by
  refine D.cl (D.F.ok sc_Weave_new_place (fun vs H Q E h => ?_) (fun cdv A outer s H vs Q E hr h => ?_))
  · exact h.elim
  · exact h.elim
theorem ok_Weave_put_under {f : Addr} {fd : FuncData} (D : DfM K a_Weave "put_under" "Weave.put_under" s_Weave_put_under ["self", "head", "above", "turn"] f fd) (T : Txt P w K mg a_CONTRARIES a_EXCHANGE a_LETTERS a_Weave) : ClM P w K mg base a_Weave "put_under" ["self", "head", "above", "turn"] 1 spNo := by
  refine D.cl (D.F.ok sc_Weave_put_under (fun vs H Q E h => ?_) (fun cdv A outer s H vs Q E hr h => ?_))
  · exact h.elim
  · exact h.elim
theorem ok_Weave_fold {f : Addr} {fd : FuncData} (D : DfM K a_Weave "fold" "Weave.fold" s_Weave_fold ["self"] f fd) (T : Txt P w K mg a_CONTRARIES a_EXCHANGE a_LETTERS a_Weave) (c_turned_back : Cl P w K mg base "turned_back" ["word"] 2 spBack) (c_joined : Cl P w K mg base "joined" ["one", "other"] 3 spJoin) (c_Weave_end_of : ClM P w K mg base a_Weave "end_of" ["self", "place", "told"] 4 (spEnd a_Weave)) (c_Weave_put_under : ClM P w K mg base a_Weave "put_under" ["self", "head", "above", "turn"] 1 spNo) : ClM P w K mg base a_Weave "fold" ["self"] 5 (spFold a_Weave) := by
  obtain ⟨f_turned_back, fd_turned_back, G_turned_back, m_turned_back, k_turned_back, b_turned_back⟩ := c_turned_back
  obtain ⟨f_joined, fd_joined, G_joined, m_joined, k_joined, b_joined⟩ := c_joined
  obtain ⟨f_Weave_end_of, fd_Weave_end_of, G_Weave_end_of, m_Weave_end_of, b_Weave_end_of⟩ := c_Weave_end_of
  obtain ⟨f_Weave_put_under, fd_Weave_put_under, G_Weave_put_under, m_Weave_put_under, b_Weave_put_under⟩ := c_Weave_put_under
  refine D.cl (D.F.ok sc_Weave_fold (fun vs H Q E h => ?_) (fun cdv A outer s H vs Q E hr h => ?_))
  · obtain ⟨p, d, kvs, rfl, _⟩ := h
    rfl
  · obtain ⟨p, d, kvs, rfl, hW, k⟩ := h
    refine ⟨_, (pss_one (ps_while PassesOwn.never (pt_cmpR op_gt (pe_callB (call_lenK (K := K) rfl) (by rfl) T.b_len PySem.boot_len (pa_cons (pe_fldK (K := K) rfl (pv 0) rfl) pa_nil)) pe_int (nomark _)) (pss_cons (ps_set (i := 1) sc_Weave_fold.nd rfl (Or.inl rfl) (pe_bmK (K := K) rfl PySem.F.plainAttrs_list PySem.F.slot_list_pop PySem.F.type_list_pop mt_popAt (pe_fldK (K := K) rfl (pv 0) rfl) (pa_cons pe_int pa_nil)))
      (pss_cons (ps_set (i := 2) sc_Weave_fold.nd rfl (Or.inl rfl) (pe_meth (pv 0) T.o_Weave.cl m_Weave_end_of G_Weave_end_of (hr.mono (by decide)) b_Weave_end_of .nil pass0 (pa_cons (pe_ix (ix_tupK (K := K) rfl) (pv 1) pe_int (fun _ _ => rfl)) (pa_cons pe_str pa_nil))))
      (pss_cons (ps_set (i := 3) sc_Weave_fold.nd rfl (Or.inl rfl) (pe_meth (pv 0) T.o_Weave.cl m_Weave_end_of G_Weave_end_of (hr.mono (by decide)) b_Weave_end_of .nil pass0 (pa_cons (pe_ix (ix_tupK (K := K) rfl) (pv 1) pe_int (fun _ _ => rfl)) (pa_cons (pe_ix (ix_tupK (K := K) rfl) (pv 1) pe_int (fun _ _ => rfl)) pa_nil))))
      (pss_one (ps_if (pt_cmpR op_ne (pe_ix (ix_tupK (K := K) rfl) (pv 2) pe_int (fun _ _ => rfl)) (pe_ix (ix_tupK (K := K) rfl) (pv 3) pe_int (fun _ _ => rfl)) (nomark _)) (pss_one (ps_expr (pe_meth (pv 0) T.o_Weave.cl m_Weave_put_under G_Weave_put_under (hr.mono (by decide)) b_Weave_put_under .nil pass0 (pa_cons (pe_ix (ix_tupK (K := K) rfl) (pv 2) pe_int (fun _ _ => rfl)) (pa_cons (pe_ix (ix_tupK (K := K) rfl) (pv 3) pe_int (fun _ _ => rfl)) (pa_cons (pe_call G_joined (hr.mono (by decide)) (by rfl) m_joined k_joined b_joined .nil pass0 (pa_cons (pe_call G_turned_back (hr.mono (by decide)) (by rfl) m_turned_back k_turned_back b_turned_back .nil pass0 (pa_cons (pe_ix (ix_tupK (K := K) rfl) (pv 2) pe_int (fun _ _ => rfl)) pa_nil)) (pa_cons (pe_ix (ix_tupK (K := K) rfl) (pv 3) pe_int (fun _ _ => rfl)) pa_nil))) pa_nil)))))) pss_nil))))))), ?_⟩
    obtain ⟨⟨dx, hd, tn, wy, al, a1, a2, a3, a4, a5⟩, a6⟩ := id hW
    refine while_zero fun Q' q => ?_
    refine ⟨_, rfl, p, a_Weave, dx, _, _, rfl, a1, T.o_Weave.cl, T.n_Weave_alike, wf_alike _ _ _ _, al, [], rfl, .inl (SqL.of a5), _, _, rfl, rfl, _, rfl, (show Q' false H from q _ (k _ (fun _ _ z => z)))⟩
theorem ok_Weave_round_told {f : Addr} {fd : FuncData} (D : DfM K a_Weave "round_told" "Weave.round_told" s_Weave_round_told ["self", "letter"] f fd) (T : Txt P w K mg a_CONTRARIES a_EXCHANGE a_LETTERS a_Weave) (c_laid_out : Cl P w K mg base "laid_out" ["text"] 2 spLay) (c_turned_back : Cl P w K mg base "turned_back" ["word"] 2 spBack) (c_Weave_end_of : ClM P w K mg base a_Weave "end_of" ["self", "place", "told"] 4 (spEnd a_Weave)) : ClM P w K mg base a_Weave "round_told" ["self", "letter"] 5 (spRoundW a_Weave) := by
  obtain ⟨f_laid_out, fd_laid_out, G_laid_out, m_laid_out, k_laid_out, b_laid_out⟩ := c_laid_out
  obtain ⟨f_turned_back, fd_turned_back, G_turned_back, m_turned_back, k_turned_back, b_turned_back⟩ := c_turned_back
  obtain ⟨f_Weave_end_of, fd_Weave_end_of, G_Weave_end_of, m_Weave_end_of, b_Weave_end_of⟩ := c_Weave_end_of
  refine D.cl (D.F.ok sc_Weave_round_told (fun vs H Q E h => ?_) (fun cdv A outer s H vs Q E hr h => ?_))
  · obtain ⟨p, d, kvs, m, c, w, rfl, _⟩ := h
    rfl
  · obtain ⟨p, d, kvs, m, c, w, rfl, hW, hm, hc, hA, hl, k⟩ := h
    refine ⟨_, (pss_cons (ps_set (i := 2) sc_Weave_round_told.nd rfl (Or.inl rfl) (pe_meth (pv 0) T.o_Weave.cl m_Weave_end_of G_Weave_end_of (hr.mono (by decide)) b_Weave_end_of .nil pass0 (pa_cons pe_int (pa_cons pe_str pa_nil))))
      (pss_cons (ps_set (i := 3) sc_Weave_round_told.nd rfl (Or.inl rfl) (pe_dget (Nat.lt_of_le_of_lt (Nat.add_le_add_left (by decide : 1 ≤ 64) _) hr.units) (pe_ix (ix_listK (K := K) rfl) (pe_fldK (K := K) rfl (pv 0) rfl) (pe_ix (ix_tupK (K := K) rfl) (pv 2) pe_int (fun _ _ => rfl)) (fun _ _ => rfl)) (pv 1) (fun _ _ => rfl)))
      (pss_cons (ps_set (i := 4) sc_Weave_round_told.nd rfl (Or.inl rfl) (pe_meth (pv 0) T.o_Weave.cl m_Weave_end_of G_Weave_end_of (hr.mono (by decide)) b_Weave_end_of .nil pass0 (pa_cons (pe_ix (ix_tupK (K := K) rfl) (pv 3) pe_int (fun _ _ => rfl)) (pa_cons (pe_ix (ix_tupK (K := K) rfl) (pv 3) pe_int (fun _ _ => rfl)) pa_nil))))
      (pss_one (ps_ret (pe_call G_laid_out (hr.mono (by decide)) (by rfl) m_laid_out k_laid_out b_laid_out .nil pass0 (pa_cons (pe_op op_add_str (pe_op op_add_str (pe_ix (ix_tupK (K := K) rfl) (pv 2) pe_int (fun _ _ => rfl)) (pe_ix (ix_tupK (K := K) rfl) (pv 4) pe_int (fun _ _ => rfl))) (pe_call G_turned_back (hr.mono (by decide)) (by rfl) m_turned_back k_turned_back b_turned_back .nil pass0 (pa_cons (pe_ix (ix_tupK (K := K) rfl) (pv 2) pe_int (fun _ _ => rfl)) pa_nil))) pa_nil))))))), ?_⟩
    obtain ⟨⟨dx, hd, tn, wy, al, a1, a2, a3, a4, a5⟩, a6⟩ := id hW
    have hv := hm c
    rw [hc] at hv
    obtain ⟨t0, v0, v1⟩ := (show ∃ t, valV kvs (Sum.inr (S [c])) = some (V.ref t) ∧ H t = some (HO.tup [V.int 0, V.str (S w)]) from hv)
    refine ⟨_, rfl, p, dx, _, rfl, a1, wf_no _ _ _ _ (by decide +kernel) (by decide +kernel) (by decide +kernel) (by decide +kernel), p, d, kvs, _, rfl, hW, fun t1 H1 h1 s1 e1 => ?_⟩
    have e1' : H1 t1 = some (.tup [.int 0, .str (S [])]) := e1
    have hg : DGet H1 d (.str (S [c])) (some (.ref t0)) := by
      have := DGet.k (k := .inr (S [c])) (s1 _ _ a6)
      rw [v0] at this
      exact this
    refine ⟨_, rfl, p, a_Weave, dx, _, _, rfl, s1 _ _ a1, T.o_Weave.cl, T.n_Weave_ways, wf_ways _ _ _ _, _, rfl, t1, _, 0, .int 0, rfl, rfl, SqT.of e1', rfl, wy, _, 0, .ref d, rfl, rfl, SqL.of (s1 _ _ a4), rfl, _, rfl, d, .ref t0, rfl, hg, ?_⟩
    refine ⟨_, rfl, p, dx, _, rfl, s1 _ _ a1, wf_no _ _ _ _ (by decide +kernel) (by decide +kernel) (by decide +kernel) (by decide +kernel), _, rfl, t0, _, 0, .int 0, rfl, rfl, SqT.of (s1 _ _ v1), rfl, _, rfl, t0, _, 1, .str (S w), rfl, rfl, SqT.of (s1 _ _ v1), rfl, p, d, kvs, _, rfl, hW.same s1, fun t2 H2 h2 s2 e2 => ?_⟩
    have e1'' := s2 _ _ e1'
    refine ⟨_, rfl, t1, _, 1, .str (S []), rfl, rfl, SqT.of e1'', rfl, _, rfl, t2, _, 1, .str (S w), rfl, rfl, SqT.of e2, rfl, _, _, rfl, rfl, ?_, _, rfl, t1, _, 1, .str (S []), rfl, rfl, SqT.of e1'', rfl, [], rfl, AllL.nil, by decide, fun H3 s3 => ⟨_, _, rfl, rfl, ?_, w, ?_, hA, by omega, fun H4 s4 => ?_⟩⟩
    · rw [S_len, S_len, sizeLine_eq]; show 0 + w.length ≤ _; omega
    · rw [S_app, S_len, S_len, sizeLine_eq]; show ([] ++ w).length + 0 ≤ _; rw [List.nil_append]; omega
    · rw [S_app, S_app]; show [V.str (S ([] ++ w ++ []))] = _; rw [List.nil_append, List.append_nil]
    · exact k _ (s1.trans (s2.trans (s3.trans s4)))
theorem ok_Weave_lay_word {f : Addr} {fd : FuncData} (D : DfM K a_Weave "lay_word" "Weave.lay_word" s_Weave_lay_word ["self", "word", "told"] f fd) (T : Txt P w K mg a_CONTRARIES a_EXCHANGE a_LETTERS a_Weave) (c_contrary : Cl P w K mg base "contrary" ["letter"] 1 spCon) (c_turned_back : Cl P w K mg base "turned_back" ["word"] 2 spBack) (c_Weave_new_place : ClM P w K mg base a_Weave "new_place" ["self"] 1 spNo) (c_Weave_lay_way : ClM P w K mg base a_Weave "lay_way" ["self", "place", "letter", "goal", "told"] 4 (spLayW a_Weave)) : ClM P w K mg base a_Weave "lay_word" ["self", "word", "told"] 5 (spWordW a_Weave) := by
  obtain ⟨f_contrary, fd_contrary, G_contrary, m_contrary, k_contrary, b_contrary⟩ := c_contrary
  obtain ⟨f_turned_back, fd_turned_back, G_turned_back, m_turned_back, k_turned_back, b_turned_back⟩ := c_turned_back
  obtain ⟨f_Weave_new_place, fd_Weave_new_place, G_Weave_new_place, m_Weave_new_place, b_Weave_new_place⟩ := c_Weave_new_place
  obtain ⟨f_Weave_lay_way, fd_Weave_lay_way, G_Weave_lay_way, m_Weave_lay_way, b_Weave_lay_way⟩ := c_Weave_lay_way
  refine D.cl (D.F.ok sc_Weave_lay_word (fun vs H Q E h => ?_) (fun cdv A outer s H vs Q E hr h => ?_))
  · obtain ⟨p, d, kvs, m, c, w, rfl, _⟩ := h
    rfl
  · obtain ⟨p, d, kvs, m, c, w, rfl, hW, hm, hcL, hA, hl, hn1, hn2, hk, k⟩ := h
    refine ⟨_, (pss_cons (ps_set (i := 3) sc_Weave_lay_word.nd rfl (Or.inl rfl) pe_int)
      (pss_one (ps_for PassesOwn.never rfl (pi_enum (by rfl) T.b_enumerate (pa_cons (pv 1) pa_nil)) (pg_seq (K := K) rfl rfl (pgs_cons (pg_name (i := 4) sc_Weave_lay_word.nd rfl (Or.inl rfl)) (pgs_cons (pg_name (i := 5) sc_Weave_lay_word.nd rfl (Or.inl rfl)) pgs_nil))) (pss_cons (ps_set (i := 6) sc_Weave_lay_word.nd rfl (Or.inl rfl) (pe_cmpR op_eq (pv 4) (pe_op op_sub (pe_callB call_len_str (by rfl) T.b_len PySem.boot_len (pa_cons (pv 1) pa_nil)) pe_int) (nomark _)))
      (pss_cons (ps_set (i := 7) sc_Weave_lay_word.nd rfl (Or.inl rfl) (pe_ifExp (pt_val (pv 6)) pe_int (pe_meth0 (pv 0) T.o_Weave.cl m_Weave_new_place G_Weave_new_place (hr.mono (by decide)) b_Weave_new_place .nil pass0)))
      (pss_cons (ps_set (i := 8) sc_Weave_lay_word.nd rfl (Or.inl rfl) (pe_ifExp (pt_val (pv 6)) (pv 2) pe_str))
      (pss_cons (ps_expr (pe_meth (pv 0) T.o_Weave.cl m_Weave_lay_way G_Weave_lay_way (hr.mono (by decide)) b_Weave_lay_way .nil pass0 (pa_cons (pv 3) (pa_cons (pv 5) (pa_cons (pv 7) (pa_cons (pv 8) pa_nil))))))
      (pss_cons (ps_expr (pe_meth (pv 0) T.o_Weave.cl m_Weave_lay_way G_Weave_lay_way (hr.mono (by decide)) b_Weave_lay_way .nil pass0 (pa_cons (pv 7) (pa_cons (pe_call G_contrary (hr.mono (by decide)) (by rfl) m_contrary k_contrary b_contrary .nil pass0 (pa_cons (pv 5) pa_nil)) (pa_cons (pv 3) (pa_cons (pe_call G_turned_back (hr.mono (by decide)) (by rfl) m_turned_back k_turned_back b_turned_back .nil pass0 (pa_cons (pv 8) pa_nil)) pa_nil))))))
      (pss_one (ps_set (i := 3) sc_Weave_lay_word.nd rfl (Or.inl rfl) (pv 7))))))))))), ?_⟩
    refine ⟨_, rfl, S [c], rfl, for_enum (w := [c]) (fun i σ H2 => ∃ v3 v4 v5 v6 v7 v8 : Option V, ∃ kvs' m', σ = [some (.ref p), some (.str (S [c])), some (.str (S w)), v3, v4, v5, v6, v7, v8] ∧ Wv a_Weave H2 p d kvs' ∧ Ways H2 kvs' m' ∧ KpD d H H2 ∧ ((i = 0 ∧ v3 = some (.int 0) ∧ kvs' = kvs ∧ m' = m) ∨ (i = 1 ∧ kvs'.length ≤ kvs.length + 2 ∧ m' = fun x => if x = con c then some (back w) else if x = c then some w else m x))) ?_ ?_ ?_⟩
    · exact ⟨_, _, _, _, _, _, kvs, m, rfl, hW, hm, fun _ _ z _ => z, .inl ⟨rfl, rfl, rfl, rfl⟩⟩
    · rintro i c1 q _ H2 hc1 hq2 ⟨v3, v4, v5, v6, v7, v8, kvs', m', rfl, W2, M2, K2, hcase⟩
      have hi : i = 0 ∧ c1 = c := by
        cases i with
        | zero => exact ⟨rfl, by simpa using hc1.symm⟩
        | succ i => simp at hc1
      obtain ⟨rfl, rfl⟩ := hi
      rcases hcase with ⟨_, rfl, rfl, rfl⟩ | ⟨z, _⟩
      rotate_left
      · exact absurd z (by decide)
      have s3 := Same.new (o := HO.tup [.int ((0 : Nat) : Int), .str (S [c1])]) hq2
      refine ⟨q, _, rfl, .inr (SqT.of upd_same), rfl, _, _, rfl, _, _, rfl, rfl, ?_⟩
      generalize upd H2 q (.tup [.int ((0 : Nat) : Int), .str (S [c1])]) = H3 at s3
      refine ⟨_, rfl, _, rfl, S [c1], rfl, ?_, _, _, rfl, rfl, rfl, ?_⟩
      · rw [S_len, sizeLine_eq]; show 1 ≤ _; decide
      have hb : decide (V.int ((0 : Nat) : Int) = V.int ((((S [c1]).length : Nat) : Int) - 1)) = true := by rw [S_len]; rfl
      refine ⟨_, rfl, _, rfl, ite2 (fun _ => ?_) (fun z => absurd hb z)⟩
      refine ⟨_, rfl, _, rfl, ite2 (fun _ => ?_) (fun z => absurd hb z)⟩
      refine ⟨_, rfl, ?_⟩
      have W3 := W2.same s3
      have M3 := M2.same s3
      obtain ⟨⟨dx, hd, tn, wy, al, a1, a2, a3, a4, a5⟩, a6⟩ := id W3
      refine ⟨_, rfl, p, dx, _, rfl, a1, wf_no _ _ _ _ (by decide +kernel) (by decide +kernel) (by decide +kernel) (by decide +kernel), _, rfl, _, rfl, _, rfl, _, rfl, p, d, kvs', m', c1, w, rfl, W3, M3, hn1, by omega, fun kvs4 H4 W4 M4 hl4 K4 => ?_⟩
      obtain ⟨⟨dy, hd', tn', wy', al', b1, b2, b3, b4, b5⟩, b6⟩ := id W4
      refine ⟨_, rfl, p, dy, _, rfl, b1, wf_no _ _ _ _ (by decide +kernel) (by decide +kernel) (by decide +kernel) (by decide +kernel), _, rfl, _, rfl, c1, rfl, hcL, fun H5 s5 => ?_⟩
      refine ⟨_, rfl, _, rfl, w, rfl, hA, hl, fun H6 s6 => ?_⟩
      refine ⟨p, d, kvs4, _, con c1, back w, rfl, (W4.same s5).same s6, (M4.same s5).same s6, ?_, by omega, fun kvs7 H7 W7 M7 hl7 K7 => ?_⟩
      · show (if con c1 = c1 then some w else m' (con c1)) = none
        rw [if_neg (con_ne hcL)]
        exact hn2
      · exact ⟨_, rfl, _, _, _, _, _, _, kvs7, _, rfl, W7, M7, (((K2.trans (KpD.same s3)).trans K4).trans (KpD.same (s5.trans s6))).trans K7, .inr ⟨rfl, by omega, rfl⟩⟩
    · rintro σ H2 ⟨v3, v4, v5, v6, v7, v8, kvs', m', rfl, W2, M2, K2, hcase⟩
      rcases hcase with ⟨z, _⟩ | ⟨_, hl', rfl⟩
      · exact absurd z (by simp)
      · exact k kvs' H2 W2 M2 hl' K2
theorem ok_numbers_of_heads {f : Addr} {fd : FuncData} (D : Df K mg "numbers_of_heads" s_numbers_of_heads ["n", "weave"] f fd) (T : Txt P w K mg a_CONTRARIES a_EXCHANGE a_LETTERS a_Weave) (c_letters_of : Cl P w K mg base "letters_of" ["n"] 1 (spLetT K)) (c_Weave_head_of : ClM P w K mg base a_Weave "head_of" ["self", "place"] 5 (spHeadW a_Weave)) (c_Weave_goal_of : ClM P w K mg base a_Weave "goal_of" ["self", "head", "letter"] 6 (spGoal a_Weave)) : Cl P w K mg base "numbers_of_heads" ["n", "weave"] 7 (spNums a_Weave) := by
  obtain ⟨f_letters_of, fd_letters_of, G_letters_of, m_letters_of, k_letters_of, b_letters_of⟩ := c_letters_of
  obtain ⟨f_Weave_head_of, fd_Weave_head_of, G_Weave_head_of, m_Weave_head_of, b_Weave_head_of⟩ := c_Weave_head_of
  obtain ⟨f_Weave_goal_of, fd_Weave_goal_of, G_Weave_goal_of, m_Weave_goal_of, b_Weave_goal_of⟩ := c_Weave_goal_of
  refine D.cl (D.F.ok sc_numbers_of_heads (fun vs H Q E h => ?_) (fun cdv A outer s H vs Q E hr h => ?_))
  · obtain ⟨n, p, d, kvs, m, rfl, _⟩ := h
    rfl
  · obtain ⟨n, p, d, kvs, m, rfl, h1, h4, hW, hm, k⟩ := h
    refine ⟨_, (pss_cons (ps_set (i := 2) sc_numbers_of_heads.nd rfl (Or.inl rfl) (pe_lst (pa_cons (pe_meth (pv 1) T.o_Weave.cl m_Weave_head_of G_Weave_head_of (hr.mono (by decide)) b_Weave_head_of .nil pass0 (pa_cons pe_int pa_nil)) pa_nil)))
      (pss_cons (ps_set (i := 3) sc_numbers_of_heads.nd rfl (Or.inl rfl) (pe_disp (pps_cons (pe_ix (ix_listK (K := K) rfl) (pv 2) pe_int (fun _ _ => rfl)) pe_int pps_nil) rfl rfl (by simp) (by decide)))
      (pss_cons (ps_set (i := 4) sc_numbers_of_heads.nd rfl (Or.inl rfl) pe_int)
      (pss_cons (ps_while PassesOwn.never (pt_cmpR op_lt (pv 4) (pe_callB (call_lenK (K := K) rfl) (by rfl) T.b_len PySem.boot_len (pa_cons (pv 2) pa_nil)) (nomark _)) (pss_cons (ps_for PassesOwn.never rfl (pi_tupK (K := K) rfl (pe_call G_letters_of (hr.mono (by decide)) (by rfl) m_letters_of k_letters_of b_letters_of .nil pass0 (pa_cons (pv 0) pa_nil))) (pg_name (i := 5) sc_numbers_of_heads.nd rfl (Or.inl rfl)) (pss_cons (ps_set (i := 6) sc_numbers_of_heads.nd rfl (Or.inl rfl) (pe_meth (pv 1) T.o_Weave.cl m_Weave_goal_of G_Weave_goal_of (hr.mono (by decide)) b_Weave_goal_of .nil pass0 (pa_cons (pe_ix (ix_listK (K := K) rfl) (pv 2) (pv 4) (fun _ _ => rfl)) (pa_cons (pv 5) pa_nil))))
      (pss_one (ps_if (pw_and (pt_cmpR op_notN (pv 6) pe_non (nomark _)) (pw_and1 (pt_cmp (pc_dnotin (Nat.lt_of_le_of_lt (Nat.add_le_add_left (by decide : 1 ≤ 64) _) hr.units) (pv 6) (pv 3)) (by rfl)))).pt (pss_cons (ps_dput (Nat.lt_of_le_of_lt (Nat.add_le_add_left (by decide : 1 ≤ 64) _) hr.units) (pv 3) (pv 6) (pe_callB (call_lenK (K := K) rfl) (by rfl) T.b_len PySem.boot_len (pa_cons (pv 2) pa_nil)) (by rfl))
      (pss_one (ps_expr (pe_bmK (K := K) rfl PySem.F.plainAttrs_list PySem.F.slot_list_append PySem.F.type_list_append mt_append (pv 2) (pa_cons (pv 6) pa_nil))))) pss_nil))))
      (pss_one (ps_aug (i := 4) sc_numbers_of_heads.nd rfl (Or.inl rfl) pe_int ip_add))))
      (pss_one (ps_ret (pv 3))))))), ?_⟩
    obtain ⟨⟨dx, hd, tn, wy, al, a1, a2, a3, a4, a5⟩, a6⟩ := id hW
    refine ⟨_, rfl, p, dx, _, rfl, a1, wf_no _ _ _ _ (by decide +kernel) (by decide +kernel) (by decide +kernel) (by decide +kernel), p, d, kvs, rfl, hW, fun H1 s1 => ?_⟩
    refine ⟨by decide, fun hs hh => ?_⟩
    have s2 : Same H (upd H1 hs (.lst [.int 0])) := s1.trans (Same.new hh)
    have e2 : upd H1 hs (.lst [.int 0]) hs = some (.lst [.int 0]) := upd_same
    generalize upd H1 hs (.lst [.int 0]) = H2 at s2 e2
    intro q hq
    have s3 := Same.new (o := HO.dK []) hq
    refine ⟨_, rfl, hs, _, 0, .int 0, rfl, rfl, SqL.of (s3 _ _ e2), rfl, ?_⟩
    refine ⟨upd_same, [(.inl 0, .int 0)], rfl, by decide, ?_⟩
    have s4 : Same H2 (upd (upd H2 q (.dK [])) q (.dK [(.inl 0, .int 0)])) := fun b o e => by
      have n : b ≠ q := ne_of_none e hq
      rw [upd_ne n, upd_ne n]; exact e
    have e4 : upd (upd H2 q (.dK [])) q (.dK [(.inl 0, .int 0)]) q = some (.dK [(.inl 0, .int 0)]) := upd_same
    show tSeq _ _ _ _ (upd (upd H2 q (.dK [])) q (.dK [(.inl 0, .int 0)]))
    generalize upd (upd H2 q (.dK [])) q (.dK [(.inl 0, .int 0)]) = H3 at s4 e4
    have hqH : H q = none := by
      cases e : H q with
      | none => rfl
      | some o => rw [s2 _ _ e] at hq; cases hq
    have e3 := s4 _ _ e2
    have s5 := s2.trans s4
    refine ⟨fun m0 σ H' => ∃ (v5 v6 : Option V) (dn : Nat), m0 + dn = 1 ∧ σ = [some (.int (n : Nat)), some (.ref p), some (.ref hs), some (.ref q), some (.int (dn : Nat)), v5, v6] ∧ Same H3 H', ⟨1, none, none, 0, rfl, rfl, fun _ _ z => z⟩, ?_⟩
    rintro m0 _ H4 ⟨v5, v6, dn, hmd, rfl, s6⟩
    refine ⟨_, rfl, _, rfl, hs, [.int 0], rfl, .inl (SqL.of (s6 _ _ e3)), _, _, rfl, rfl, _, rfl, ?_⟩
    refine ite2 (fun z => ?_) (fun z => ?_)
    rotate_left
    · exact ⟨_, rfl, k q H4 (s5.trans s6) hqH (s6 _ _ e4)⟩
    · have hdn : dn = 0 := by
        rcases Nat.eq_zero_or_pos dn with h | h
        · exact h
        · have : dn = 1 := by omega
          subst this
          exact absurd z (by decide)
      subst hdn
      have hm0 : m0 = 1 := by omega
      subst hm0
      refine ⟨fun σ' H' => ∃ v5 v6 : Option V, σ' = [some (.int (n : Nat)), some (.ref p), some (.ref hs), some (.ref q), some (.int ((1 : Nat) : Int)), v5, v6] ∧ Same H3 H', fun σ' H' ⟨v5, v6, e, s⟩ => ⟨0, by decide, v5, v6, 1, rfl, e, s⟩, ?_⟩
      refine ⟨_, rfl, n, rfl, h1, h4, fun t H5 s7 ht => ⟨t, rfl, ⟨_, ht⟩, ?_⟩⟩
      refine for_tup (K := K) (a := t) (xs := lstC (letsN (n : Nat))) (fun i σ H' => ∃ v5 v6 : Option V, σ = [some (.int (n : Nat)), some (.ref p), some (.ref hs), some (.ref q), some (.int ((0 : Nat) : Int)), v5, v6] ∧ Same H5 H') ⟨_, _, rfl, fun _ _ z => z⟩ ?_ ?_ ?_
      · rintro i σ H' _ ⟨_, _, _, s8⟩
        exact L2.SqT.same s8 ht
      · rintro i x _ H6 hx ⟨v5, v6, rfl, s8⟩
        obtain ⟨c, hc, rfl⟩ : ∃ c, (letsN (n : Nat))[i]? = some c ∧ x = .str (S [c]) := by
          unfold lstC at hx
          rw [List.getElem?_map] at hx
          cases e : (letsN (n : Nat))[i]? with
          | none => rw [e] at hx; cases hx
          | some c => rw [e] at hx; cases hx; exact ⟨c, rfl, rfl⟩
        have s9 : Same H3 H6 := s6.trans (s7.trans s8)
        have s10 := s5.trans s9
        refine ⟨_, rfl, p, dx, _, rfl, s10 _ _ a1, wf_no _ _ _ _ (by decide +kernel) (by decide +kernel) (by decide +kernel) (by decide +kernel), _, rfl, _, rfl, hs, _, 0, .int 0, rfl, rfl, SqL.of (s9 _ _ e3), rfl, _, rfl, p, d, kvs, m, c, rfl, hW.same s10, hm.same s10, fun H7 s11 => ?_⟩
        cases e : m c with
        | none =>
          refine ⟨_, rfl, rfl, _, rfl, ?_⟩
          show ∃ v5 v6 : Option V, _ ∧ Same H5 H7
          exact ⟨_, _, rfl, s8.trans s11⟩
        | some w =>
          refine ⟨_, rfl, rfl, _, rfl, ?_⟩
          refine (show tB (tDNotIn (tVar 6) (tVar 3)) _ H7 _ from ?_)
          refine ⟨_, rfl, _, rfl, q, _, rfl, DGet.k (k := .inl 0) ((s9.trans s11) _ _ e4), _, rfl, ?_⟩
          show ∃ v5 v6 : Option V, _ ∧ Same H5 H7
          exact ⟨_, _, rfl, s8.trans s11⟩
      · rintro σ H6 ⟨v5, v6, rfl, s8⟩
        exact ⟨_, rfl, _, _, rfl, rfl, v5, v6, rfl, s6.trans (s7.trans s8)⟩
theorem ok_place_told {f : Addr} {fd : FuncData} (D : Df K mg "place_told" s_place_told ["n", "weave", "numbers", "head"] f fd) (T : Txt P w K mg a_CONTRARIES a_EXCHANGE a_LETTERS a_Weave) (c_first_letters : Cl P w K mg base "first_letters" ["n"] 1 spFirst) (c_Weave_goal_of : ClM P w K mg base a_Weave "goal_of" ["self", "head", "letter"] 6 (spGoal a_Weave)) : Cl P w K mg base "place_told" ["n", "weave", "numbers", "head"] 7 (spPlace a_Weave) := by
  obtain ⟨f_first_letters, fd_first_letters, G_first_letters, m_first_letters, k_first_letters, b_first_letters⟩ := c_first_letters
  obtain ⟨f_Weave_goal_of, fd_Weave_goal_of, G_Weave_goal_of, m_Weave_goal_of, b_Weave_goal_of⟩ := c_Weave_goal_of
  refine D.cl (D.F.ok sc_place_told (fun vs H Q E h => ?_) (fun cdv A outer s H vs Q E hr h => ?_))
  · obtain ⟨n, p, d, t, kvs, m, rfl, _⟩ := h
    rfl
  · obtain ⟨n, p, d, t, kvs, m, rfl, h1, h4, hW, hm, hall, hN, k⟩ := h
    refine ⟨_, (pss_cons (ps_setcc (i := 4) (sc0 := defScope s_place_told) (N := ["n", "weave", "numbers", "head", "goals"]) (ix := [1, 3]) sc_place_told.nd rfl rfl (by decide +kernel) rfl rfl rfl (pi_tupK (K := K) rfl (pe_call G_first_letters (hr.mono (by decide)) (by rfl) m_first_letters k_first_letters b_first_letters .nil pass0 (pa_cons (pv 0) pa_nil))) (fun _ _ _ => pifs_nil) (fun _ _ _ => (pe_meth (pv 1) T.o_Weave.cl m_Weave_goal_of G_Weave_goal_of (hr.mono (by decide)) b_Weave_goal_of .nil pass0 (pa_cons (pv 2) (pa_cons (pv 0) pa_nil)))))
      (pss_one (ps_ret (pe_callTy (call_tupleK (K := K) rfl) (by rfl) T.b_tuple boot_tuple (pa_cons (pe_compc (sc0 := defScope s_place_told) (N := ["n", "weave", "numbers", "head", "goals"]) (ix := [2]) (by decide +kernel) rfl rfl rfl (pi_listK (K := K) rfl (pv 4)) (fun _ _ _ => pifs_nil) (fun _ _ _ => (pe_ifExp (pt_cmpR op_isN (pv 0) pe_non (nomark _)) pe_non (pe_dget (Nat.lt_of_le_of_lt (Nat.add_le_add_left (by decide : 1 ≤ 64) _) hr.units) (pv 1) (pv 0) (fun _ _ => rfl))))) pa_nil))))), ?_⟩
    obtain ⟨⟨dx, hd, tn, wy, al, a1, a2, a3, a4, a5⟩, a6⟩ := id hW
    have ll : (lowW n).length = n := (lowW_rt h1 h4).len
    refine ⟨_, rfl, n, rfl, h1, h4, fun tl H1 htl s1 etl => ⟨tl, rfl, ⟨_, SqT.of etl⟩, fun Dd hD => ?_⟩⟩
    refine comp_tupIf (xs := wds (lowW n)) (fun i H2 => Same H1 H2 ∧ H2 Dd = some (.lst (zs i))) ⟨Same.new hD, upd_same⟩ (fun i H2 _ h => SqT.of (h.1 _ _ etl)) ?_ ?_
    · rintro i v H2 hv ⟨s2, e2⟩
      obtain ⟨rfl, hi⟩ := low_get h4 hv
      have hci := lowN_get hv
      have hcm := List.mem_of_getElem? hci
      have s12 := s1.trans s2
      refine ⟨_, rfl, p, dx, _, rfl, s12 _ _ a1, wf_no _ _ _ _ (by decide +kernel) (by decide +kernel) (by decide +kernel) (by decide +kernel), _, rfl, _, rfl, p, d, kvs, m, 97 + i, rfl, hW.same s12, hm.same s12, fun H3 s3 => ?_⟩
      rw [hall _ hcm]
      refine ⟨_, s3 _ _ e2, ?_, (s2.trans s3).upd hD, ?_⟩
      · unfold zs; rw [List.length_replicate]; exact small1000 (by omega)
      · rw [upd_same]; unfold zs; rw [List.replicate_succ']; rfl
    · rintro H2 ⟨s2, e2⟩
      rw [wds_len, ll] at e2
      have s12 := s1.trans s2
      refine ⟨_, rfl, Dd, rfl, ⟨_, SqL.of e2⟩, fun Ee hE => ?_⟩
      have hDE : Dd ≠ Ee := ne_of_none e2 hE
      refine comp_listIf (xs := zs n) (fun i H3 => Same H2 H3 ∧ H3 Ee = some (.lst (zs i))) ⟨Same.new hE, upd_same⟩ (fun i H3 _ h => SqL.of (h.1 _ _ e2)) ?_ ?_
      · rintro i v H3 hv ⟨s3, e3⟩
        have hv' : v = .int 0 := by
          have := List.mem_of_getElem? hv
          exact (List.mem_replicate.mp this).2
        subst hv'
        have hi : i < n := by have := (List.getElem?_eq_some_iff.mp hv).1; unfold zs at this; rw [List.length_replicate] at this; exact this
        obtain ⟨o, et⟩ := (hN.same s12).same s3
        refine ⟨_, rfl, rfl, _, rfl, ?_⟩
        refine ⟨_, rfl, _, rfl, t, .int 0, rfl, DGet.fk (k := .inl 0) et, ?_⟩
        refine ⟨_, e3, ?_, s3.upd hE, ?_⟩
        · unfold zs; rw [List.length_replicate]; exact small1000 (by omega)
        · rw [upd_same]; unfold zs; rw [List.replicate_succ']
      · rintro H3 ⟨s3, e3⟩
        have hzl : (zs n).length = n := by unfold zs; rw [List.length_replicate]
        rw [hzl] at e3
        have s13 := s12.trans s3
        exact ⟨Ee, _, rfl, .inl ⟨SqL.of e3, fun q hq => k q _ (s13.free hq) (s13.upd' hq) upd_same⟩⟩
theorem ok_web_of {f : Addr} {fd : FuncData} (D : Df K mg "web_of" s_web_of ["n", "words"] f fd) (T : Txt P w K mg a_CONTRARIES a_EXCHANGE a_LETTERS a_Weave) (c_Weave___init__ : ClM P w K mg base a_Weave "__init__" ["self"] 1 (spWInit a_Weave)) (c_Weave_lay_word : ClM P w K mg base a_Weave "lay_word" ["self", "word", "told"] 5 (spWordW a_Weave)) (c_Weave_fold : ClM P w K mg base a_Weave "fold" ["self"] 5 (spFold a_Weave)) (c_numbers_of_heads : Cl P w K mg base "numbers_of_heads" ["n", "weave"] 7 (spNums a_Weave)) (c_place_told : Cl P w K mg base "place_told" ["n", "weave", "numbers", "head"] 7 (spPlace a_Weave)) : Cl P w K mg base "web_of" ["n", "words"] 8 (spWeb a_Weave) := by
  obtain ⟨f_Weave___init__, fd_Weave___init__, G_Weave___init__, m_Weave___init__, b_Weave___init__⟩ := c_Weave___init__
  obtain ⟨f_Weave_lay_word, fd_Weave_lay_word, G_Weave_lay_word, m_Weave_lay_word, b_Weave_lay_word⟩ := c_Weave_lay_word
  obtain ⟨f_Weave_fold, fd_Weave_fold, G_Weave_fold, m_Weave_fold, b_Weave_fold⟩ := c_Weave_fold
  obtain ⟨f_numbers_of_heads, fd_numbers_of_heads, G_numbers_of_heads, m_numbers_of_heads, k_numbers_of_heads, b_numbers_of_heads⟩ := c_numbers_of_heads
  obtain ⟨f_place_told, fd_place_told, G_place_told, m_place_told, k_place_told, b_place_told⟩ := c_place_told
  refine D.cl (D.F.ok sc_web_of (fun vs H Q E h => ?_) (fun cdv A outer s H vs Q E hr h => ?_))
  · obtain ⟨n, a, cs, rfl, _⟩ := h
    rfl
  · obtain ⟨n, a, cs, rfl, h1, h4, ex, ea, k⟩ := h
    refine ⟨_, (pss_cons (ps_set (i := 2) sc_web_of.nd rfl (Or.inr rfl) (pe_make0 (T.o_Weave.make m_Weave___init__) G_Weave___init__ (hr.mono (by decide)) (by rfl) T.m_Weave b_Weave___init__ .nil pass0))
      (pss_cons (ps_for PassesOwn.never rfl (pi_tupK (K := K) rfl (pv 1)) (pg_name (i := 3) sc_web_of.nd rfl (Or.inl rfl)) (pss_one (ps_expr (pe_meth (pv 2) T.o_Weave.cl m_Weave_lay_word G_Weave_lay_word (hr.mono (by decide)) b_Weave_lay_word .nil pass0 (pa_cons (pv 3) (pa_cons pe_str pa_nil))))))
      (pss_cons (ps_expr (pe_meth0 (pv 2) T.o_Weave.cl m_Weave_fold G_Weave_fold (hr.mono (by decide)) b_Weave_fold .nil pass0))
      (pss_cons (ps_set (i := 4) sc_web_of.nd rfl (Or.inr rfl) (pe_call G_numbers_of_heads (hr.mono (by decide)) (by rfl) m_numbers_of_heads k_numbers_of_heads b_numbers_of_heads .nil pass0 (pa_cons (pv 0) (pa_cons (pv 2) pa_nil))))
      (pss_one (ps_ret (pe_callTy (call_tupleK (K := K) rfl) (by rfl) T.b_tuple boot_tuple (pa_cons (pe_thawK (H0 := H) rfl (pe_compc (sc0 := defScope s_web_of) (N := ["n", "words", "weave", "word", "numbers"]) (ix := [0, 2, 4]) (by decide +kernel) rfl rfl rfl (pi_dictI (pv 4)) (fun _ _ _ => pifs_nil) (fun _ _ _ => (pe_call G_place_told (hr.mono (by decide)) (by rfl) m_place_told k_place_told b_place_told .nil pass0 (pa_cons (pv 1) (pa_cons (pv 2) (pa_cons (pv 3) (pa_cons (pv 0) pa_nil)))))))) pa_nil)))))))), ?_⟩
    have hcl := ex.len
    intro p dx hp hdx hne
    have hp0 : upd (upd H dx (.own p)) p (.ins a_Weave dx []) p = some (.ins a_Weave dx []) := upd_same
    have sN : ∀ b o, H b = some o → upd (upd H dx (.own p)) p (.ins a_Weave dx []) b = some o := fun b o e => by rw [upd_ne (ne_of_none e hp), upd_ne (ne_of_none e hdx)]; exact e
    refine ⟨p, dx, rfl, hp0, fun d H1 hd1 hW1 kp1 => ⟨rfl, ?_⟩⟩
    have s1 : Same H H1 := fun b o e => kp1 b o (sN b o e) (ne_of_none e hp)
    have hd0 : H d = none := by
      cases e : H d with
      | none => rfl
      | some o => rw [sN _ _ e] at hd1; cases hd1
    have hul : (List.replicate n ([] : List Nat)).length = n := List.length_replicate
    refine ⟨_, rfl, a, rfl, ⟨_, SqT.of (s1 _ _ ea)⟩, for_tup (K := K) (a := a) (xs := lstC cs) (fun i σ H2 => ∃ (v3 : Option V) (kvs : List (Key × V)), σ = [some (.int (n : Nat)), some (.ref a), some (.ref p), v3, none] ∧ Wv a_Weave H2 p d kvs ∧ Ways H2 kvs (wayM ((List.replicate n []).take i) (cs.take i)) ∧ kvs.length ≤ 2 * i ∧ Same H H2) ⟨none, [], rfl, hW1, fun c => rfl, Nat.le_refl _, s1⟩ (fun i σ H2 _ ⟨_, _, _, _, _, _, s⟩ => SqT.of (s _ _ ea)) ?_ ?_⟩
    · rintro i v _ H2 hv ⟨v3, kvs, rfl, W2, M2, hl2, s2⟩
      obtain ⟨c, hc, rfl⟩ : ∃ c, cs[i]? = some c ∧ v = .str (S [c]) := by
        unfold lstC at hv
        rw [List.getElem?_map] at hv
        cases hq : cs[i]? with
        | none => rw [hq] at hv; cases hv
        | some o => rw [hq] at hv; exact ⟨o, rfl, (Option.some.inj hv).symm⟩
      have hi : i < n := by have := (List.getElem?_eq_some_iff.mp hc).1; omega
      have hu : (List.replicate n ([] : List Nat))[i]? = some [] := by rw [List.getElem?_replicate, if_pos hi]
      obtain ⟨g1, g2⟩ := ex.wayN h1 h4 hul i (by omega) i c (Nat.le_refl _) hc
      obtain ⟨⟨dy, hd', tn', wy', al', b1, b2, b3, b4, b5⟩, b6⟩ := id W2
      refine ⟨_, rfl, p, dy, _, rfl, b1, wf_no _ _ _ _ (by decide +kernel) (by decide +kernel) (by decide +kernel) (by decide +kernel), _, rfl, p, d, kvs, _, c, [], rfl, W2, M2, letsN_isL (ex.mem c (List.mem_of_getElem? hc)), AllL.nil, by decide, g1, g2, by omega, fun kvs' H3 W3 M3 l3 k3 => ⟨_, kvs', rfl, W3, ?_, by omega, fun b o e => k3 b o (s2 b o e) (ne_of_none e hd0)⟩⟩
      rw [wayM_snoc hc hu]
      exact M3
    · rintro _ H2 ⟨v3, kvs, rfl, W2, M2, hl2, s2⟩
      rw [lstC_len, List.take_length, List.take_of_length_le (by rw [hul]; omega)] at M2
      obtain ⟨⟨dy, hd', tn', wy', al', b1, b2, b3, b4, b5⟩, b6⟩ := id W2
      refine ⟨_, rfl, p, dy, _, rfl, b1, wf_no _ _ _ _ (by decide +kernel) (by decide +kernel) (by decide +kernel) (by decide +kernel), p, d, kvs, rfl, W2, fun H3 s3 => ?_⟩
      refine ⟨_, rfl, _, rfl, n, p, d, kvs, _, rfl, h1, h4, W2.same s3, M2.same s3, fun t H4 s4 ht et => ?_⟩
      have s23 := s2.trans s3
      have ht0 : H t = none := s23.free ht
      refine ⟨_, rfl, t, _, rfl, .inl ⟨et, fun o Dd hD => ?_⟩⟩
      have sf : Same H3 (upd H4 t (.frz o (.dK [(.inl 0, .int 0)]))) := s4.upd ht
      have htD : t ≠ Dd := ne_of_none (upd_same (H := H4) (a := t) (o := HO.frz o (.dK [(.inl 0, .int 0)]))) hD
      have hD3 : H3 Dd = none := sf.free hD
      refine comp_keyI (d := t) (o := o) (kvs := [(.inl 0, .int 0)]) (fun i H5 => Same H3 H5 ∧ H5 t = some (.frz o (.dK [(.inl 0, .int 0)])) ∧ ((i = 0 ∧ H5 Dd = some (.lst [])) ∨ (i = 1 ∧ ∃ q, H5 Dd = some (.lst [.ref q]) ∧ H5 q = some (.tup (zs n))))) ⟨sf.upd' hD, by rw [upd_ne htD, upd_same], .inl ⟨rfl, upd_same⟩⟩ (fun i H5 _ h => h.2.1) ?_ ?_
      · rintro i ky v H5 hk ⟨s5, e5, hcase⟩
        have hi : i = 0 ∧ ky = .inl 0 := by
          cases i with
          | zero => cases hk; exact ⟨rfl, rfl⟩
          | succ i => simp at hk
        obtain ⟨rfl, rfl⟩ := hi
        rcases hcase with ⟨_, eD⟩ | ⟨z, _⟩
        rotate_left
        · exact absurd z (by decide)
        refine ⟨_, rfl, _, rfl, _, rfl, _, rfl, n, p, d, t, kvs, _, rfl, h1, h4, (W2.same s3).same s5, (M2.same s3).same s5, fun c hc => ex.wayAll h1 h4 hul hc, ⟨o, e5⟩, fun q H6 hq s6 eq => ⟨[], s6 _ _ eD, by decide, (s5.trans s6).upd hD3, by rw [upd_ne htD]; exact s6 _ _ e5, .inr ⟨rfl, q, upd_same, ?_⟩⟩⟩
        rw [upd_ne (ne_of_none eD hq).symm]
        exact eq
      · rintro H5 ⟨s5, e5, hcase⟩
        rcases hcase with ⟨z, _⟩ | ⟨_, q, eD, eq⟩
        · exact absurd z (by decide)
        refine ⟨_, .inr ⟨t, o, _, e5, fun o v z => (by rw [ht0] at z; cases z), rfl⟩, ?_⟩
        have s6 : Same H (upd H5 t (.dK [(.inl 0, .int 0)])) := (s23.trans s5).upd ht0
        have eD6 : upd H5 t (.dK [(.inl 0, .int 0)]) Dd = some (.lst [.ref q]) := by rw [upd_ne htD.symm]; exact eD
        have eq6 : upd H5 t (.dK [(.inl 0, .int 0)]) q = some (.tup (zs n)) := by rw [upd_ne (ne_of eq e5 (by intro z; cases z))]; exact eq
        refine ⟨Dd, _, rfl, .inl ⟨SqL.of eD6, fun r hr => k r q _ (s6.upd' hr) upd_same ?_⟩⟩
        rw [upd_ne (ne_of_none eq6 hr)]
        exact eq6
theorem ok_look_alphabet {f : Addr} {fd : FuncData} (D : Df K mg "look_alphabet" s_look_alphabet ["retelling"] f fd) (T : Txt P w K mg a_CONTRARIES a_EXCHANGE a_LETTERS a_Weave) (c_web_of : Cl P w K mg base "web_of" ["n", "words"] 8 (spWeb a_Weave)) : Cl P w K mg base "look_alphabet" ["retelling"] 9 spLookA := by
  obtain ⟨f_web_of, fd_web_of, G_web_of, m_web_of, k_web_of, b_web_of⟩ := c_web_of
  refine D.cl (D.F.ok sc_look_alphabet (fun vs H Q E h => ?_) (fun cdv A outer s H vs Q E hr h => ?_))
  · obtain ⟨n, a, cs, rfl, _⟩ := h
    rfl
  · obtain ⟨n, a, cs, rfl, h1, h4, ex, ea, k⟩ := h
    refine ⟨_, (pss_cons (ps_set (i := 1) sc_look_alphabet.nd rfl (Or.inl rfl) (pe_callB (call_lenK (K := K) rfl) (by rfl) T.b_len PySem.boot_len (pa_cons (pv 0) pa_nil)))
      (pss_cons (ps_set (i := 2) sc_look_alphabet.nd rfl (Or.inl rfl) (pe_call G_web_of (hr.mono (by decide)) (by rfl) m_web_of k_web_of b_web_of .nil pass0 (pa_cons (pv 1) (pa_cons (pv 0) pa_nil))))
      (pss_cons (ps_if (pt_cmpR (op_neQ (K := K) rfl hr.units) (pv 2) (pe_tup (pa_cons (pe_op (op_repTK (K := K) rfl) (pe_tup (pa_cons pe_int pa_nil)) (pv 1)) pa_nil)) (nomark _)) pss_never pss_nil)
      (pss_one (ps_ret pe_bl))))), ?_⟩
    have hcl := ex.len
    refine ⟨_, rfl, a, _, rfl, .inr (SqT.of ea), ?_⟩
    rw [lstC_len, hcl]
    refine ⟨_, rfl, _, rfl, n, a, cs, rfl, h1, h4, ex, ea, fun r q H1 s1 er eq => ?_⟩
    refine ⟨_, rfl, len_1000 (by simp), fun t1 ht1 => ⟨_, rfl, rep_zs h1 h4 upd_same fun q2 H2 s2 e2 => ⟨len_1000 (by simp), fun t2 ht2 => ?_⟩⟩⟩
    have s3 : Same H1 (upd H2 t2 (.tup [.ref q2])) := ((Same.new ht1).trans s2).upd' ht2
    refine ⟨1, r, t2, [.ref q], [.ref q2], by decide, rfl, rfl, .inr ⟨SqT.of (s3 _ _ er), SqT.of upd_same⟩, rfl, fun i x y hx hy => ?_, _, rfl, ?_⟩
    · cases i with
      | zero =>
        cases hx; cases hy
        exact lq_zs (s3 _ _ eq) (by rw [upd_ne (ne_of_none e2 ht2)]; exact e2) (by omega)
      | succ i => simp at hx
    · exact k _ (s1.trans s3)
theorem ok_leading_back {f : Addr} {fd : FuncData} (D : Df K mg "leading_back" s_leading_back ["retelling"] f fd) (T : Txt P w K mg a_CONTRARIES a_EXCHANGE a_LETTERS a_Weave) (c_first_letters : Cl P w K mg base "first_letters" ["n"] 1 spFirst) (c_Weave___init__ : ClM P w K mg base a_Weave "__init__" ["self"] 1 (spWInit a_Weave)) (c_Weave_lay_word : ClM P w K mg base a_Weave "lay_word" ["self", "word", "told"] 5 (spWordW a_Weave)) (c_Weave_fold : ClM P w K mg base a_Weave "fold" ["self"] 5 (spFold a_Weave)) (c_Weave_round_told : ClM P w K mg base a_Weave "round_told" ["self", "letter"] 5 (spRoundW a_Weave)) (c_look_alphabet : Cl P w K mg base "look_alphabet" ["retelling"] 9 spLookA) : Cl P w K mg base "leading_back" ["retelling"] 10 spLeadB := by
  obtain ⟨f_first_letters, fd_first_letters, G_first_letters, m_first_letters, k_first_letters, b_first_letters⟩ := c_first_letters
  obtain ⟨f_Weave___init__, fd_Weave___init__, G_Weave___init__, m_Weave___init__, b_Weave___init__⟩ := c_Weave___init__
  obtain ⟨f_Weave_lay_word, fd_Weave_lay_word, G_Weave_lay_word, m_Weave_lay_word, b_Weave_lay_word⟩ := c_Weave_lay_word
  obtain ⟨f_Weave_fold, fd_Weave_fold, G_Weave_fold, m_Weave_fold, b_Weave_fold⟩ := c_Weave_fold
  obtain ⟨f_Weave_round_told, fd_Weave_round_told, G_Weave_round_told, m_Weave_round_told, b_Weave_round_told⟩ := c_Weave_round_told
  obtain ⟨f_look_alphabet, fd_look_alphabet, G_look_alphabet, m_look_alphabet, k_look_alphabet, b_look_alphabet⟩ := c_look_alphabet
  refine D.cl (D.F.ok sc_leading_back (fun vs H Q E h => ?_) (fun cdv A outer s H vs Q E hr h => ?_))
  · obtain ⟨n, a, cs, rfl, _⟩ := h
    rfl
  · obtain ⟨n, a, cs, rfl, h1, h4, ex, ea, k⟩ := h
    refine ⟨_, (pss_cons (ps_expr (pe_call G_look_alphabet (hr.mono (by decide)) (by rfl) m_look_alphabet k_look_alphabet b_look_alphabet .nil pass0 (pa_cons (pv 0) pa_nil)))
      (pss_cons (ps_set (i := 1) sc_leading_back.nd rfl (Or.inl rfl) (pe_call G_first_letters (hr.mono (by decide)) (by rfl) m_first_letters k_first_letters b_first_letters .nil pass0 (pa_cons (pe_callB (call_lenK (K := K) rfl) (by rfl) T.b_len PySem.boot_len (pa_cons (pv 0) pa_nil)) pa_nil)))
      (pss_cons (ps_set (i := 2) sc_leading_back.nd rfl (Or.inr rfl) (pe_make0 (T.o_Weave.make m_Weave___init__) G_Weave___init__ (hr.mono (by decide)) (by rfl) T.m_Weave b_Weave___init__ .nil pass0))
      (pss_cons (ps_for PassesOwn.never rfl (pi_zip (K := K) rfl (by rfl) T.b_zip (pa_cons (pv 1) (pa_cons (pv 0) pa_nil))) (pg_seq (K := K) rfl rfl (pgs_cons (pg_name (i := 3) sc_leading_back.nd rfl (Or.inl rfl)) (pgs_cons (pg_name (i := 4) sc_leading_back.nd rfl (Or.inl rfl)) pgs_nil))) (pss_one (ps_expr (pe_meth (pv 2) T.o_Weave.cl m_Weave_lay_word G_Weave_lay_word (hr.mono (by decide)) b_Weave_lay_word .nil pass0 (pa_cons (pv 4) (pa_cons (pv 3) pa_nil))))))
      (pss_cons (ps_expr (pe_meth0 (pv 2) T.o_Weave.cl m_Weave_fold G_Weave_fold (hr.mono (by decide)) b_Weave_fold .nil pass0))
      (pss_one (ps_ret (pe_callTy (call_tupleK (K := K) rfl) (by rfl) T.b_tuple boot_tuple (pa_cons (pe_compc (sc0 := defScope s_leading_back) (N := ["retelling", "letters", "weave", "letter", "word"]) (ix := [2]) (by decide +kernel) rfl rfl rfl (pi_tupK (K := K) rfl (pv 1)) (fun _ _ _ => pifs_nil) (fun _ _ _ => (pe_meth (pv 1) T.o_Weave.cl m_Weave_round_told G_Weave_round_told (hr.mono (by decide)) b_Weave_round_told .nil pass0 (pa_cons (pv 0) pa_nil)))) pa_nil))))))))), ?_⟩
    have hcl := ex.len
    have ll : (lowW n).length = n := (lowW_rt h1 h4).len
    refine ⟨_, rfl, n, a, cs, rfl, h1, h4, ex, ea, fun H0 s0 => ?_⟩
    have ea0 := s0 _ _ ea
    refine ⟨_, rfl, a, _, rfl, .inr (SqT.of ea0), n, by rw [lstC_len, hcl]; rfl, h1, h4, fun t Ht ht st et => ?_⟩
    have eat := st _ _ ea0
    intro p dx hp hdx hne
    have hp0 : upd (upd Ht dx (.own p)) p (.ins a_Weave dx []) p = some (.ins a_Weave dx []) := upd_same
    have sN : ∀ b o, Ht b = some o → upd (upd Ht dx (.own p)) p (.ins a_Weave dx []) b = some o := fun b o e => by rw [upd_ne (ne_of_none e hp), upd_ne (ne_of_none e hdx)]; exact e
    refine ⟨p, dx, rfl, hp0, fun d H1 hd1 hW1 kp1 => ⟨rfl, ?_⟩⟩
    have s1 : Same Ht H1 := fun b o e => kp1 b o (sN b o e) (ne_of_none e hp)
    have hd0 : Ht d = none := by
      cases e : Ht d with
      | none => rfl
      | some o => rw [sN _ _ e] at hd1; cases hd1
    refine ⟨_, rfl, _, rfl, t, a, rfl, ⟨_, SqT.of (s1 _ _ et)⟩, ⟨_, SqT.of (s1 _ _ eat)⟩, ?_⟩
    refine for_zip (K := K) (t := t) (u := a) (xs := wds (lowW n)) (ys := lstC cs) (fun i σ H2 => ∃ (v3 v4 : Option V) (kvs : List (Key × V)), σ = [some (.ref a), some (.ref t), some (.ref p), v3, v4] ∧ Wv a_Weave H2 p d kvs ∧ Ways H2 kvs (wayM ((lowW n).take i) (cs.take i)) ∧ kvs.length ≤ 2 * i ∧ Same Ht H2) ⟨none, none, [], rfl, hW1, fun c => rfl, Nat.le_refl _, s1⟩ ?_ ?_ ?_
    · rintro i _ H2 _ ⟨v3, v4, kvs, rfl, W2, M2, hl2, s2⟩
      exact ⟨SqT.of (s2 _ _ et), SqT.of (s2 _ _ eat)⟩
    · rintro i x y q _ H2 hx hy hq2 ⟨v3, v4, kvs, rfl, W2, M2, hl2, s2⟩
      obtain ⟨rfl, hi⟩ := low_get h4 hx
      obtain ⟨c, hc, rfl⟩ := lst_get hy
      have hwi : (lowW n)[i]? = some [97 + i] := by
        unfold lowW
        rw [List.getElem?_map, lowN_get hx]
        rfl
      have s3 : Same H2 (upd H2 q (.tup [.str (S [97 + i]), .str (S [c])])) := Same.new hq2
      refine ⟨q, _, rfl, .inr (SqT.of upd_same), rfl, _, _, rfl, _, _, rfl, rfl, ?_⟩
      generalize upd H2 q (.tup [.str (S [97 + i]), .str (S [c])]) = H3 at s3
      obtain ⟨g1, g2⟩ := ex.wayN h1 h4 ll i (by omega) i c (Nat.le_refl _) hc
      have W3 := W2.same s3
      obtain ⟨⟨dy, hd', tn', wy', al', b1, b2, b3, b4, b5⟩, b6⟩ := id W3
      refine ⟨_, rfl, p, dy, _, rfl, b1, wf_no _ _ _ _ (by decide +kernel) (by decide +kernel) (by decide +kernel) (by decide +kernel), _, rfl, _, rfl, p, d, kvs, _, c, [97 + i], rfl, W3, M2.same s3, letsN_isL (ex.mem c (List.mem_of_getElem? hc)), one_all (low_isL (List.mem_of_getElem? (lowN_get hx))), by simp, g1, g2, by omega, fun kvs' H4 W4 M4 l4 k4 => ⟨_, _, kvs', rfl, W4, ?_, by omega, fun b o e => k4 b o (s3 b o (s2 b o e)) (ne_of_none e hd0)⟩⟩
      rw [wayM_snoc hc hwi]
      exact M4
    · rintro _ H2 ⟨v3, v4, kvs, rfl, W2, M2, hl2, s2⟩
      have em : min (wds (lowW n)).length (lstC cs).length = n := by rw [wds_len, lstC_len, ll, hcl, Nat.min_self]
      rw [em, List.take_of_length_le (by omega), List.take_of_length_le (by omega)] at M2
      obtain ⟨⟨dy, hd', tn', wy', al', b1, b2, b3, b4, b5⟩, b6⟩ := id W2
      refine ⟨_, rfl, p, dy, _, rfl, b1, wf_no _ _ _ _ (by decide +kernel) (by decide +kernel) (by decide +kernel) (by decide +kernel), p, d, kvs, rfl, W2, fun H3 s3 => ?_⟩
      have s23 := s2.trans s3
      refine ⟨_, rfl, t, rfl, ⟨_, SqT.of (s23 _ _ et)⟩, fun Dd hD => comp_tupIf (xs := wds (lowW n)) (fun i H4 => Same H3 H4 ∧ H4 Dd = some (.lst (lstC ((xB n cs).take i)))) ⟨Same.new hD, upd_same⟩ (fun i H4 _ h => SqT.of (h.1 _ _ (s23 _ _ et))) ?_ ?_⟩
      · rintro i v H4 hv ⟨s4, e4⟩
        obtain ⟨rfl, hi⟩ := low_get h4 hv
        have hci := lowN_get hv
        have hcm := List.mem_of_getElem? hci
        have s34 := s3.trans s4
        refine ⟨_, rfl, p, dy, _, rfl, s34 _ _ b1, wf_no _ _ _ _ (by decide +kernel) (by decide +kernel) (by decide +kernel) (by decide +kernel), _, rfl, p, d, kvs, _, 97 + i, [xBf cs (97 + i)], rfl, W2.same s34, M2.same s34, ex.wayB h1 h4 hcm, one_all (letsN_isL (ex.bk h1 h4 hcm).1), by simp, fun H5 s5 => ?_⟩
        have hx : (xB n cs)[i]? = some (xBf cs (97 + i)) := by unfold xB; rw [List.getElem?_map, hci]; rfl
        rw [lay_id (show Plain [xBf cs (97 + i)] from trivial)]
        refine ⟨_, s5 _ _ e4, ?_, (s4.trans s5).upd hD, ?_⟩
        · rw [lstC_len, List.length_take]; exact small1000 (by omega)
        · rw [upd_same, take_snoc hx, lstC_snoc]
      · rintro H4 ⟨s4, e4⟩
        rw [wds_len, ll, List.take_of_length_le (by rw [ex.xB_len h1 h4]; exact Nat.le_refl _)] at e4
        have s14 := (s0.trans st).trans (s23.trans s4)
        exact ⟨Dd, _, rfl, .inl ⟨SqL.of e4, fun q hq => k q _ (s14.free hq) (s14.upd' hq) upd_same⟩⟩
theorem ok_step_back {f : Addr} {fd : FuncData} (D : Df K mg "step_back" s_step_back ["step"] f fd) (T : Txt P w K mg a_CONTRARIES a_EXCHANGE a_LETTERS a_Weave) (c_contrary : Cl P w K mg base "contrary" ["letter"] 1 spCon) (c_leading_back : Cl P w K mg base "leading_back" ["retelling"] 10 spLeadB) : Cl P w K mg base "step_back" ["step"] 11 spStpB := by
  obtain ⟨f_contrary, fd_contrary, G_contrary, m_contrary, k_contrary, b_contrary⟩ := c_contrary
  obtain ⟨f_leading_back, fd_leading_back, G_leading_back, m_leading_back, k_leading_back, b_leading_back⟩ := c_leading_back
  refine D.cl (D.F.ok sc_step_back (fun vs H Q E h => ?_) (fun cdv A outer s H vs Q E hr h => ?_))
  · obtain ⟨n, v, s, rfl, _⟩ := h
    rfl
  · obtain ⟨n, v, s, rfl, h1, h4, ⟨p, q, rfl, hst⟩, ok, k⟩ := h
    refine ⟨_, (pss_cons (ps_if (pt_cmpR op_eq (pe_ix (ix_tupK (K := K) rfl) (pv 0) pe_int (fun _ _ => rfl)) (pe_globS (z := Str.ofString "exchange") (by rfl) T.m_EXCHANGE) (nomark _)) (pss_one (ps_ret (pe_tup (pa_cons (pe_globS (z := Str.ofString "exchange") (by rfl) T.m_EXCHANGE) (pa_cons (pe_call G_leading_back (hr.mono (by decide)) (by rfl) m_leading_back k_leading_back b_leading_back .nil pass0 (pa_cons (pe_ix (ix_tupK (K := K) rfl) (pv 0) pe_int (fun _ _ => rfl)) pa_nil)) pa_nil))))) pss_nil)
      (pss_cons (ps_set (i := 1) sc_step_back.nd rfl (Or.inr rfl) (pe_call G_contrary (hr.mono (by decide)) (by rfl) m_contrary k_contrary b_contrary .nil pass0 (pa_cons (pe_ix (ix_tupK (K := K) rfl) (pv 0) pe_int (fun _ _ => rfl)) pa_nil)))
      (pss_one (ps_ret (pe_tup (pa_cons (pe_ix (ix_tupK (K := K) rfl) (pv 0) pe_int (fun _ _ => rfl)) (pa_cons (pv 1) (pa_cons (pe_callTy (call_tupleK (K := K) rfl) (by rfl) T.b_tuple boot_tuple (pa_cons (pe_compc (sc0 := defScope s_step_back) (N := ["step", "by"]) (ix := [0, 1]) (by decide +kernel) rfl rfl rfl (pi_tupK (K := K) rfl (pe_ix (ix_tupK (K := K) rfl) (pv 0) pe_int (fun _ _ => rfl))) (fun _ _ _ => pifs_nil) (fun _ _ _ => (pe_ifExp (pt_cmpR op_eq (pv 0) (pe_ix (ix_tupK (K := K) rfl) (pv 1) pe_int (fun _ _ => rfl)) (nomark _)) (pv 2) (pv 0)))) pa_nil)) pa_nil)))))))), ?_⟩
    cases s with
    | ex cs =>
      obtain ⟨e1, e2⟩ := hst
      refine ⟨_, rfl, p, _, 0, _, rfl, rfl, SqT.of e1, rfl, rfl, _, rfl, ?_⟩
      rw [decide_eq_true rfl]
      refine iteT ⟨_, rfl, p, _, 1, _, rfl, rfl, SqT.of e1, rfl, n, q, cs, rfl, h1, h4, ok, e2, fun t H1 ht s1 et => ⟨len_1000 (by simp), fun r hr => k (.ref r) _ (s1.upd' hr) ⟨r, t, rfl, upd_same, by rw [upd_ne (ne_of_none et hr)]; exact et⟩⟩⟩
    | ch c sd =>
      obtain ⟨e1, e2⟩ := hst
      refine ⟨_, rfl, p, _, 0, _, rfl, rfl, SqT.of e1, rfl, rfl, _, rfl, ?_⟩
      rw [decide_eq_false (fun z => absurd (V.str.inj z) (by decide))]
      refine iteF ⟨_, rfl, p, _, 1, _, rfl, rfl, SqT.of e1, rfl, c, rfl, letsN_isL ok.1.let', fun H1 s1 => ?_⟩
      have e1' := s1 _ _ e1
      have e2' := s1 _ _ e2
      have hl8 := ok.2
      refine ⟨_, rfl, p, _, 0, _, rfl, rfl, SqT.of e1', rfl, _, rfl, _, rfl, p, _, 2, _, rfl, rfl, SqT.of e1', rfl, q, rfl, ⟨_, SqT.of e2'⟩, fun Dd hD => comp_tupIf (xs := lstC sd) (fun i H2 => Same H1 H2 ∧ H2 Dd = some (.lst (lstC (sdB c (sd.take i))))) ⟨Same.new hD, upd_same⟩ (fun i H2 _ h => SqT.of (h.1 _ _ e2')) ?_ ?_⟩
      · rintro i v H2 hv ⟨s2, eD⟩
        obtain ⟨d, hd, rfl⟩ := lst_get hv
        have hi : i < sd.length := (List.getElem?_eq_some_iff.mp hd).1
        have fin : ∀ x, x = (if d = c then con c else d) → ∃ ys, H2 Dd = some (.lst ys) ∧ ys.length < sizeLine ∧ Same H1 (upd H2 Dd (.lst (ys ++ [.str (S [x])]))) ∧ upd H2 Dd (.lst (ys ++ [.str (S [x])])) Dd = some (.lst (lstC (sdB c (sd.take (i + 1))))) := fun x ex => by
          refine ⟨_, eD, ?_, s2.upd hD, ?_⟩
          · rw [lstC_len]; unfold sdB; rw [List.length_map, List.length_take]; exact small1000 (by omega)
          · rw [upd_same, take_snoc hd]
            unfold sdB
            rw [List.map_append, ← lstC_snoc, ex]
            rfl
        refine ⟨_, rfl, _, rfl, p, _, 1, _, rfl, rfl, SqT.of (s2 _ _ e1'), rfl, rfl, _, rfl, ?_⟩
        rw [VS_dec]
        refine ite2 (fun z => ?_) (fun z => ?_)
        · have z' : d = c := by simpa using z
          exact ⟨_, rfl, fin _ (by rw [if_pos z'])⟩
        · have z' : ¬ d = c := by simpa using z
          exact ⟨_, rfl, fin _ (by rw [if_neg z'])⟩
      · rintro H2 ⟨s2, eD⟩
        rw [lstC_len, List.take_length] at eD
        refine ⟨Dd, _, rfl, .inl ⟨SqL.of eD, fun t ht => ⟨len_1000 (by simp), fun r hr => k (.ref r) _ ((s1.trans s2).upd' ht |>.upd' hr) ⟨r, t, rfl, upd_same, ?_⟩⟩⟩⟩
        rw [upd_ne (ne_of_none (upd_same (H := H2) (a := t) (o := HO.tup (lstC (sdB c sd)))) hr)]
        exact upd_same
theorem ok_road_back {f : Addr} {fd : FuncData} (D : Df K mg "road_back" s_road_back ["n", "road"] f fd) (T : Txt P w K mg a_CONTRARIES a_EXCHANGE a_LETTERS a_Weave) (c_step_back : Cl P w K mg base "step_back" ["step"] 11 spStpB) : Cl P w K mg base "road_back" ["n", "road"] 12 spRdBk := by
  obtain ⟨f_step_back, fd_step_back, G_step_back, m_step_back, k_step_back, b_step_back⟩ := c_step_back
  refine D.cl (D.F.ok sc_road_back (fun vs H Q E h => ?_) (fun cdv A outer s H vs Q E hr h => ?_))
  · obtain ⟨n, p, ss, rfl, _⟩ := h
    rfl
  · obtain ⟨n, p, ss, rfl, h1, h4, ⟨⟨vs, ep, hE⟩, hok⟩, hl6, k⟩ := h
    refine ⟨_, (pss_one (ps_ret (pe_callTy (call_tupleK (K := K) rfl) (by rfl) T.b_tuple boot_tuple (pa_cons (pe_compc (sc0 := defScope s_road_back) (N := ["n", "road"]) (ix := []) (by decide +kernel) rfl rfl rfl (pi_revT (K := K) rfl (by rfl) T.b_reversed (pa_cons (pv 1) pa_nil)) (fun _ _ _ => pifs_nil) (fun _ _ _ => (pe_call G_step_back (hr.mono (by decide)) (by rfl) m_step_back k_step_back b_step_back .nil pass0 (pa_cons (pv 0) pa_nil)))) pa_nil)))), ?_⟩
    have hvl := hE.1
    refine ⟨_, rfl, p, vs, rfl, SqT.of ep, by omega, fun Dd hD => comp_revTIf (K := K) (a := p) (xs := vs) (fun i H2 => Same H H2 ∧ ∃ us, H2 Dd = some (.lst us) ∧ us.length = i ∧ Each (StB H2) us ((ss.reverse.take i).map (Stp.bk n))) ⟨Same.new hD, [], upd_same, rfl, Each.nil⟩ (fun i H2 _ h => SqT.of (h.1 _ _ ep)) ?_ ?_⟩
    · rintro i v H2 hv ⟨s2, us, eD, hul, hEu⟩
      obtain ⟨s, hs, hst⟩ := hE.rev.get hv
      have hsm : s ∈ ss := List.mem_reverse.mp (List.mem_of_getElem? hs)
      have hi : i < vs.length := by have := (List.getElem?_eq_some_iff.mp hv).1; rw [List.length_reverse] at this; exact this
      refine ⟨_, rfl, n, v, s, rfl, h1, h4, hst.tups (Tups.same s2), hok s hsm, fun u H3 s3 hu => ⟨us, s3 _ _ eD, small1000 (by omega), (s2.trans s3).upd hD, us ++ [u], upd_same, by rw [List.length_append, hul]; rfl, ?_⟩⟩
      have tD : Tups H3 (upd H3 Dd (.lst (us ++ [u]))) := Tups.set (s3 _ _ eD)
      have et : ss.reverse.take (i + 1) = ss.reverse.take i ++ [s] := by rw [List.take_add_one, hs]; rfl
      rw [et, List.map_append]
      exact (hEu.imp fun a b x => x.tups ((Tups.same s3).trans tD)).snoc (hu.tups tD)
    · rintro H2 ⟨s2, us, eD, hul, hEu⟩
      rw [List.take_of_length_le (by rw [List.length_reverse]; omega)] at hEu
      refine ⟨Dd, _, rfl, .inl ⟨SqL.of eD, fun q hq => k q _ (s2.upd' hq) ⟨⟨us, upd_same, hEu.imp fun a b x => x.tups (Tups.same (Same.new hq))⟩, fun s hs => ?_⟩⟩⟩
      obtain ⟨s0, h0, rfl⟩ := List.mem_map.mp hs
      exact Stp.okB h1 h4 (hok s0 (List.mem_reverse.mp h0))
theorem ok_letter_changed {f : Addr} {fd : FuncData} (D : Df K mg "letter_changed" s_letter_changed ["letter", "by", "side"] f fd) (T : Txt P w K mg a_CONTRARIES a_EXCHANGE a_LETTERS a_Weave) (c_contrary : Cl P w K mg base "contrary" ["letter"] 1 spCon) : Cl P w K mg base "letter_changed" ["letter", "by", "side"] 2 (spLC K) := by
  obtain ⟨f_contrary, fd_contrary, G_contrary, m_contrary, k_contrary, b_contrary⟩ := c_contrary
  refine D.cl (D.F.ok sc_letter_changed (fun vs H Q E h => ?_) (fun cdv A outer s H vs Q E hr h => ?_))
  · obtain ⟨d, c, q, sd, rfl, _⟩ := h
    rfl
  · obtain ⟨d, c, q, sd, rfl, eq, hd, hdl, hc, k⟩ := h
    refine ⟨_, (pss_cons (ps_if (pt_cmpR (op_inK (K := K) rfl) (pv 0) (pe_tup (pa_cons (pv 1) (pa_cons (pe_call G_contrary (hr.mono (by decide)) (by rfl) m_contrary k_contrary b_contrary .nil pass0 (pa_cons (pv 1) pa_nil)) pa_nil))) (by rfl)) (pss_one (ps_ret (pv 0))) pss_nil)
      (pss_cons (ps_set (i := 3) sc_letter_changed.nd rfl (Or.inl rfl) (pe_ifExp (pt_cmpR (op_inK (K := K) rfl) (pe_call G_contrary (hr.mono (by decide)) (by rfl) m_contrary k_contrary b_contrary .nil pass0 (pa_cons (pv 0) pa_nil)) (pv 2) (by rfl)) (pe_call G_contrary (hr.mono (by decide)) (by rfl) m_contrary k_contrary b_contrary .nil pass0 (pa_cons (pv 1) pa_nil)) pe_str))
      (pss_cons (ps_set (i := 4) sc_letter_changed.nd rfl (Or.inl rfl) (pe_ifExp (pt_cmpR (op_inK (K := K) rfl) (pv 0) (pv 2) (by rfl)) (pv 1) pe_str))
      (pss_one (ps_ret (pe_op op_add_str (pe_op op_add_str (pv 3) (pv 0)) (pv 4))))))), ?_⟩
    refine ⟨_, rfl, _, rfl, _, rfl, c, rfl, hc, fun H1 s1 => ⟨len_1000 (by simp), fun t ht => ⟨t, [.str (S [c]), .str (S [con c])], rfl, .inr (SqT.of upd_same), rfl, rfl, _, rfl, ?_⟩⟩⟩
    have s2 : Same H (upd H1 t (.tup [.str (S [c]), .str (S [con c])])) := s1.upd' ht
    generalize upd H1 t (.tup [.str (S [c]), .str (S [con c])]) = H2 at s2
    have ein : inV (.str (S [d])) [.str (S [c]), .str (S [con c])] = decide (d = lo c) := (in_lst d [c, con c]).trans (low_pair hc hd hdl)
    show if inV (.str (S [d])) [.str (S [c]), .str (S [con c])] = true then _ else _
    rw [ein]
    refine ite2 (fun z => ?_) (fun z => ?_)
    · have z' := of_decide_eq_true z
      have e : chg c sd d = [d] := by unfold chg; rw [if_pos z']
      have := k H2 s2
      rw [e] at this
      exact ⟨_, rfl, this⟩
    have z' : ¬ d = lo c := fun c0 => z (decide_eq_true c0)
    refine ⟨_, rfl, d, rfl, hd, fun H3 s3 => ⟨_, rfl, q, lstC sd, rfl, .inr (SqT.of (s3 _ _ (s2 _ _ eq))), rfl, lstC_flat sd, _, rfl, ?_⟩⟩
    show if inV (.str (S [con d])) (lstC sd) = true then _ else _
    rw [in_lst]
    have s23 := s2.trans s3
    by_cases h1 : con d ∈ sd
    · rw [decide_eq_true h1]
      refine iteT ⟨_, rfl, c, rfl, hc, fun H4 s4 => ?_⟩
      refine ⟨_, rfl, _, rfl, q, lstC sd, rfl, .inr (SqT.of ((s23.trans s4) _ _ eq)), rfl, lstC_flat sd, _, rfl, ?_⟩
      show if inV (.str (S [d])) (lstC sd) = true then _ else _
      rw [in_lst]
      by_cases h2 : d ∈ sd
      · rw [decide_eq_true h2]
        refine iteT ⟨_, rfl, ?_⟩
        refine ⟨_, rfl, _, rfl, _, _, rfl, rfl, by rw [S_len, S_len]; exact len_1000 (by simp), _, rfl, _, _, rfl, rfl, by rw [S_app, S_len, S_len]; exact len_1000 (by simp), ?_⟩
        have e : chg c sd d = [con c] ++ [d] ++ [c] := by unfold chg; rw [if_neg z', if_pos h1, if_pos h2]
        have kk := k H4 (s23.trans s4)
        rw [e] at kk
        rw [S_app, S_app]
        exact kk
      · rw [decide_eq_false h2]
        refine iteF ?_
        refine ⟨_, rfl, _, rfl, _, _, rfl, rfl, by rw [S_len, S_len]; exact len_1000 (by simp), _, rfl, _, _, rfl, rfl, by rw [S_app, S_len, S_nil, S_len]; exact len_1000 (by simp), ?_⟩
        have e : chg c sd d = [con c] ++ [d] ++ [] := by unfold chg; rw [if_neg z', if_pos h1, if_neg h2]
        have kk := k H4 (s23.trans s4)
        rw [e] at kk
        rw [S_nil, S_app, S_app]
        exact kk
    · rw [decide_eq_false h1]
      refine iteF ?_
      refine ⟨_, rfl, _, rfl, q, lstC sd, rfl, .inr (SqT.of (s23 _ _ eq)), rfl, lstC_flat sd, _, rfl, ?_⟩
      show if inV (.str (S [d])) (lstC sd) = true then _ else _
      rw [in_lst]
      by_cases h2 : d ∈ sd
      · rw [decide_eq_true h2]
        refine iteT ⟨_, rfl, ?_⟩
        refine ⟨_, rfl, _, rfl, _, _, rfl, rfl, by rw [S_nil, S_len, S_len]; exact len_1000 (by simp), _, rfl, _, _, rfl, rfl, by rw [S_nil, S_app, S_len, S_len]; exact len_1000 (by simp), ?_⟩
        have e : chg c sd d = [] ++ [d] ++ [c] := by unfold chg; rw [if_neg z', if_neg h1, if_pos h2]
        have kk := k H3 s23
        rw [e] at kk
        rw [S_nil, S_app, S_app]
        exact kk
      · rw [decide_eq_false h2]
        refine iteF ?_
        refine ⟨_, rfl, _, rfl, _, _, rfl, rfl, by rw [S_nil, S_len, S_len]; exact len_1000 (by simp), _, rfl, _, _, rfl, rfl, by rw [S_nil, S_app, S_len, S_len]; exact len_1000 (by simp), ?_⟩
        have e : chg c sd d = [] ++ [d] ++ [] := by unfold chg; rw [if_neg z', if_neg h1, if_neg h2]
        have kk := k H3 s23
        rw [e] at kk
        rw [S_nil, S_app, S_app]
        exact kk
theorem ok_change_told {f : Addr} {fd : FuncData} (D : Df K mg "change_told" s_change_told ["n", "change"] f fd) (T : Txt P w K mg a_CONTRARIES a_EXCHANGE a_LETTERS a_Weave) (c_first_letters : Cl P w K mg base "first_letters" ["n"] 1 spFirst) (c_letter_changed : Cl P w K mg base "letter_changed" ["letter", "by", "side"] 2 (spLC K)) : Cl P w K mg base "change_told" ["n", "change"] 3 spChTold := by
  obtain ⟨f_first_letters, fd_first_letters, G_first_letters, m_first_letters, k_first_letters, b_first_letters⟩ := c_first_letters
  obtain ⟨f_letter_changed, fd_letter_changed, G_letter_changed, m_letter_changed, k_letter_changed, b_letter_changed⟩ := c_letter_changed
  refine D.cl (D.F.ok sc_change_told (fun vs H Q E h => ?_) (fun cdv A outer s H vs Q E hr h => ?_))
  · obtain ⟨n, p, c, sd, rfl, _⟩ := h
    rfl
  · obtain ⟨n, p, c, sd, rfl, h1, h4, ⟨q, ep, eq⟩, hc, hsd, k⟩ := h
    refine ⟨_, (pss_one (ps_ret (pe_callTy (call_tupleK (K := K) rfl) (by rfl) T.b_tuple boot_tuple (pa_cons (pe_compc (sc0 := defScope s_change_told) (N := ["n", "change"]) (ix := [1]) (by decide +kernel) rfl rfl rfl (pi_tupK (K := K) rfl (pe_call G_first_letters (hr.mono (by decide)) (by rfl) m_first_letters k_first_letters b_first_letters .nil pass0 (pa_cons (pv 0) pa_nil))) (fun _ _ _ => pifs_nil) (fun _ _ _ => (pe_call G_letter_changed (hr.mono (by decide)) (by rfl) m_letter_changed k_letter_changed b_letter_changed .nil pass0 (pa_cons (pv 0) (pa_cons (pe_ix (ix_tupK (K := K) rfl) (pv 1) pe_int (fun _ _ => rfl)) (pa_cons (pe_ix (ix_tupK (K := K) rfl) (pv 1) pe_int (fun _ _ => rfl)) pa_nil)))))) pa_nil)))), ?_⟩
    have ll : (lowW n).length = n := (lowW_rt h1 h4).len
    refine ⟨_, rfl, n, rfl, h1, h4, fun t H2 ht s2 et => ⟨t, rfl, ⟨_, SqT.of et⟩, fun Dd hD => comp_tupIf (xs := wds (lowW n)) (fun i H3 => Same H2 H3 ∧ H3 Dd = some (.lst (wds (((lowN n).take i).map (chg c sd))))) ⟨Same.new hD, upd_same⟩ (fun i H3 _ h => SqT.of (h.1 _ _ et)) ?_ ?_⟩⟩
    · rintro i v H3 hv ⟨s3, e3⟩
      obtain ⟨rfl, hi⟩ := low_get h4 hv
      have hci := lowN_get hv
      have hm := List.mem_of_getElem? hci
      have s23 := s2.trans s3
      refine ⟨_, rfl, _, rfl, p, _, 0, _, rfl, rfl, SqT.of (s23 _ _ ep), rfl, _, rfl, p, _, 1, _, rfl, rfl, SqT.of (s23 _ _ ep), rfl, 97 + i, c, q, sd, rfl, s23 _ _ eq, low_isL hm, low_low hm, hc, fun H4 s4 => ⟨_, s4 _ _ e3, ?_, (s3.trans s4).upd hD, ?_⟩⟩
      · rw [wds_len, List.length_map, List.length_take]; exact small1000 (by omega)
      · rw [upd_same, List.take_add_one, hci, List.map_append]
        unfold wds
        rw [List.map_append]
        rfl
    · rintro H3 ⟨s3, e3⟩
      rw [wds_len, ll, List.take_of_length_le (by rw [lowN_len h4]; omega)] at e3
      have s13 := s2.trans s3
      exact ⟨Dd, _, rfl, .inl ⟨SqL.of e3, fun q hq => k q _ (s13.free hq) (s13.upd' hq) upd_same⟩⟩
theorem ok_step_told {f : Addr} {fd : FuncData} (D : Df K mg "step_told" s_step_told ["n", "step"] f fd) (T : Txt P w K mg a_CONTRARIES a_EXCHANGE a_LETTERS a_Weave) (c_change_told : Cl P w K mg base "change_told" ["n", "change"] 3 spChTold) : Cl P w K mg base "step_told" ["n", "step"] 4 spStep := by
  obtain ⟨f_change_told, fd_change_told, G_change_told, m_change_told, k_change_told, b_change_told⟩ := c_change_told
  refine D.cl (D.F.ok sc_step_told (fun vs H Q E h => ?_) (fun cdv A outer s H vs Q E hr h => ?_))
  · obtain ⟨n, v, st, rfl, _⟩ := h
    rfl
  · obtain ⟨n, v, st, rfl, n1, n4, ⟨p, rfl, h⟩, k⟩ := h
    refine ⟨_, (pss_cons (ps_if (pt_cmpR op_eq (pe_ix (ix_tupK (K := K) rfl) (pv 1) pe_int (fun _ _ => rfl)) (pe_globS (z := Str.ofString "exchange") (by rfl) T.m_EXCHANGE) (nomark _)) (pss_one (ps_ret (pe_ix (ix_tupK (K := K) rfl) (pv 1) pe_int (fun _ _ => rfl)))) pss_nil)
      (pss_one (ps_ret (pe_call G_change_told (hr.mono (by decide)) (by rfl) m_change_told k_change_told b_change_told .nil pass0 (pa_cons (pv 0) (pa_cons (pe_slice (sl_tupK (K := K) rfl) (pv 1) (po_some pe_int) po_none) pa_nil)))))), ?_⟩
    rcases h with ⟨c, sd, q, e1, e2, g, rfl⟩ | ⟨q, e1, e2, g, g2⟩
    · refine ⟨_, rfl, p, _, 0, _, rfl, rfl, SqT.of e1, rfl, rfl, _, rfl, ?_⟩
      rw [decide_eq_false (fun z => absurd (V.str.inj z) (by decide))]
      refine iteF ⟨_, rfl, _, rfl, _, rfl, p, _, rfl, SqT.of e1, (by show ¬ ((1 : Nat) = 0 ∧ (3 : Nat) = 3); decide), fun r hr => ⟨n, r, c, sd, rfl, n1, n4, ⟨q, upd_same, by rw [upd_ne (ne_of_none e2 hr)]; exact e2⟩, letsN_isL g.let', fun d hd => letsN_isL (g.side d hd), fun t H2 ht s2 et => k t H2 ((Same.new hr).trans s2) et⟩⟩
    · refine ⟨_, rfl, p, _, 0, _, rfl, rfl, SqT.of e1, rfl, rfl, _, rfl, ?_⟩
      rw [decide_eq_true rfl]
      exact iteT ⟨_, rfl, p, _, 1, _, rfl, rfl, SqT.of e1, rfl, k q H (Same.refl H) e2⟩
theorem ok_words_along {f : Addr} {fd : FuncData} (D : Df K mg "words_along" s_words_along ["n", "words", "road"] f fd) (T : Txt P w K mg a_CONTRARIES a_EXCHANGE a_LETTERS a_Weave) (c_told_then : Cl P w K mg base "told_then" ["one", "other"] 5 (spThen K)) (c_step_told : Cl P w K mg base "step_told" ["n", "step"] 4 spStep) : Cl P w K mg base "words_along" ["n", "words", "road"] 6 spAlong := by
  obtain ⟨f_told_then, fd_told_then, G_told_then, m_told_then, k_told_then, b_told_then⟩ := c_told_then
  obtain ⟨f_step_told, fd_step_told, G_step_told, m_step_told, k_step_told, b_step_told⟩ := c_step_told
  refine D.cl (D.F.ok sc_words_along (fun vs H Q E h => ?_) (fun cdv A outer s H vs Q E hr h => ?_))
  · obtain ⟨n, t, p, sts, rfl, _⟩ := h
    rfl
  · obtain ⟨n, t, p, sts, rfl, n1, n4, et, ⟨vs, ep, hst⟩, hl6, k⟩ := h
    refine ⟨_, (pss_cons (ps_set (i := 3) sc_words_along.nd rfl (Or.inl rfl) (pv 1))
      (pss_cons (ps_for PassesOwn.never rfl (pi_tupK (K := K) rfl (pv 2)) (pg_name (i := 4) sc_words_along.nd rfl (Or.inl rfl)) (pss_one (ps_set (i := 3) sc_words_along.nd rfl (Or.inl rfl) (pe_call G_told_then (hr.mono (by decide)) (by rfl) m_told_then k_told_then b_told_then .nil pass0 (pa_cons (pv 3) (pa_cons (pe_call G_step_told (hr.mono (by decide)) (by rfl) m_step_told k_step_told b_step_told .nil pass0 (pa_cons (pv 0) (pa_cons (pv 4) pa_nil))) pa_nil))))))
      (pss_one (ps_ret (pv 3))))), ?_⟩
    have hlen := hst.len
    have hgood := hst.good n1 n4
    refine ⟨_, rfl, _, rfl, p, rfl, ⟨_, SqT.of ep⟩, for_tup (K := K) (a := p) (xs := vs) (fun i σ H2 => ∃ (t1 : Addr) (v3 : Option V), σ = [some (.int (n : Nat)), some (.ref t), some (.ref p), some (.ref t1), v3] ∧ Same H H2 ∧ H2 t1 = some (.tup (wds (roadR n (sts.take i))))) ⟨t, none, rfl, Same.refl H, et⟩ (fun i σ H2 _ ⟨_, _, _, s, _⟩ => SqT.of (s _ _ ep)) ?_ ?_⟩
    · rintro i v _ H2 hv ⟨t, v3, rfl, s2, et⟩
      obtain ⟨st, hsi, ok⟩ := hst.get hv
      have hi : i < sts.length := (List.getElem?_eq_some_iff.mp hsi).1
      obtain ⟨r1, o1⟩ := road_take n1 n4 hgood i (by omega)
      obtain ⟨r2, o2⟩ := hgood st (List.mem_of_getElem? hsi)
      have p3 := pow3' (show i ≤ 5 by omega)
      refine ⟨_, rfl, _, rfl, _, rfl, n, v, st, rfl, n1, n4, ok.tups (Tups.same s2), fun u H3 s3 eu => ⟨t, u, roadR n (sts.take i), st, n, 3 ^ i, 3, rfl, SqT.of (s3 _ _ et), SqT.of eu, r1, r2, o1, n1, n4, by omega, by decide, by omega, fun w H4 hw s4 ew => ⟨w, _, rfl, (s2.trans s3).trans s4, by rw [roadR_succ hsi]; exact ew⟩⟩⟩
    · rintro _ H2 ⟨t, v3, rfl, s2, et⟩
      rw [hlen, List.take_length] at et
      exact ⟨_, rfl, k t H2 s2 et⟩
theorem ok_road_told {f : Addr} {fd : FuncData} (D : Df K mg "road_told" s_road_told ["n", "road"] f fd) (T : Txt P w K mg a_CONTRARIES a_EXCHANGE a_LETTERS a_Weave) (c_told_same : Cl P w K mg base "told_same" ["n"] 2 spFirst) (c_words_along : Cl P w K mg base "words_along" ["n", "words", "road"] 6 spAlong) : Cl P w K mg base "road_told" ["n", "road"] 7 spRoadTold := by
  obtain ⟨f_told_same, fd_told_same, G_told_same, m_told_same, k_told_same, b_told_same⟩ := c_told_same
  obtain ⟨f_words_along, fd_words_along, G_words_along, m_words_along, k_words_along, b_words_along⟩ := c_words_along
  refine D.cl (D.F.ok sc_road_told (fun vs H Q E h => ?_) (fun cdv A outer s H vs Q E hr h => ?_))
  · obtain ⟨n, p, sts, rfl, _⟩ := h
    rfl
  · obtain ⟨n, p, sts, rfl, n1, n4, hrd, hl6, k⟩ := h
    refine ⟨_, (pss_one (ps_ret (pe_call G_words_along (hr.mono (by decide)) (by rfl) m_words_along k_words_along b_words_along .nil pass0 (pa_cons (pv 0) (pa_cons (pe_call G_told_same (hr.mono (by decide)) (by rfl) m_told_same k_told_same b_told_same .nil pass0 (pa_cons (pv 0) pa_nil)) (pa_cons (pv 1) pa_nil)))))), ?_⟩
    exact ⟨_, rfl, _, rfl, n, rfl, n1, n4, fun t H1 ht s1 et => ⟨_, rfl, n, t, p, sts, rfl, n1, n4, et, hrd.tups (Tups.same s1), hl6, fun w H2 s2 ew => k w H2 (s1.trans s2) ew⟩⟩
theorem ok_law_alike {f : Addr} {fd : FuncData} (D : Df K mg "_law_alike" s_law_alike ["_law_found", "_law_due"] f fd) (T : Txt P w K mg a_CONTRARIES a_EXCHANGE a_LETTERS a_Weave) : Cl P w K mg base "_law_alike" ["_law_found", "_law_due"] 1 (spLq K 0) := by
  refine D.cl (D.F.ok sc_law_alike (fun vs H Q E h => ?_) (fun cdv A outer s H vs Q E hr h => ?_))
  · obtain ⟨x, y, rfl, _⟩ := h
    rfl
  · obtain ⟨x, y, rfl, hk, k⟩ := h
    cases hk with
    | flat hfl =>
      refine ⟨_, (pss_cons (ps_if (pt_val (pe_callB (call_isiK (K := K) rfl) (by rfl) T.b_isinstance boot_isinstance (pa_cons (pv 1) (pa_cons (pe_tup (pa_cons (pe_ty (by rfl) T.b_list boot_list) (pa_cons (pe_ty (by rfl) T.b_tuple boot_tuple) pa_nil))) pa_nil)))) pss_never pss_nil)
      (pss_one (ps_ret (pe_and (pe_cmpR op_eq (pe_callB (call_isiK (K := K) rfl) (by rfl) T.b_isinstance boot_isinstance (pa_cons (pv 0) (pa_cons (pe_ty (by rfl) T.b_bool boot_bool) pa_nil))) (pe_callB (call_isiK (K := K) rfl) (by rfl) T.b_isinstance boot_isinstance (pa_cons (pv 1) (pa_cons (pe_ty (by rfl) T.b_bool boot_bool) pa_nil))) (nomark _)) (pe_one (pe_cmpR op_eq (pv 0) (pv 1) (nomark _))))))), ?_⟩
      obtain ⟨t, ty, t1, t2⟩ := flat_ty K H hfl
      refine ⟨_, rfl, len_1000 (by simp), fun p hp => ?_⟩
      have s1 : Same H (upd H p (.tup [.ty "list", .ty "tuple"])) := Same.new hp
      have e1 : upd H p (.tup [.ty "list", .ty "tuple"]) p = some (.tup [.ty "list", .ty "tuple"]) := upd_same
      generalize upd H p (.tup [.ty "list", .ty "tuple"]) = H1 at s1 e1
      obtain ⟨t', ty', t1', t2'⟩ := flat_ty K H1 hfl
      refine ⟨x, t', ty', .inr ⟨"list", "tuple", p, rfl, e1, by decide, by decide, _, rfl, ?_⟩⟩
      rw [t1', t2']
      refine iteF ?_
      refine ⟨_, rfl, x, t', ty', .inl ⟨"bool", rfl, by decide, _, rfl, x, t', ty', .inl ⟨"bool", rfl, by decide, rfl, _, rfl, ?_⟩⟩⟩
      rw [decide_eq_true rfl]
      refine iteT ⟨_, rfl, _, rfl, ?_, ?_⟩
      · cases x <;> first | rfl | exact absurd (show false = true from hfl) Bool.false_ne_true
      · rw [decide_eq_true rfl]; exact k H1 s1
theorem ok_law_alike_X {f : Addr} {fd : FuncData} (D : Df K mg "_law_alike" s_law_alike ["_law_found", "_law_due"] f fd) {j d : Nat} (T : Txt P w K mg a_CONTRARIES a_EXCHANGE a_LETTERS a_Weave) (c_law_alike : Cl P w K mg base "_law_alike" ["_law_found", "_law_due"] j (spLq K d)) : Cl P w K mg base "_law_alike" ["_law_found", "_law_due"] (j + 1) (spLq K (d + 1)) := by
  obtain ⟨f_law_alike, fd_law_alike, G_law_alike, m_law_alike, k_law_alike, b_law_alike⟩ := c_law_alike
  refine D.cl (D.F.ok sc_law_alike (fun vs H Q E h => ?_) (fun cdv A outer s H vs Q E hr h => ?_))
  · obtain ⟨x, y, rfl, _⟩ := h
    rfl
  · obtain ⟨x, y, rfl, hk, k⟩ := h
    cases hk with
    | flat hfl =>
      refine ⟨_, (pss_cons (ps_if (pt_val (pe_callB (call_isiK (K := K) rfl) (by rfl) T.b_isinstance boot_isinstance (pa_cons (pv 1) (pa_cons (pe_tup (pa_cons (pe_ty (by rfl) T.b_list boot_list) (pa_cons (pe_ty (by rfl) T.b_tuple boot_tuple) pa_nil))) pa_nil)))) pss_never pss_nil)
      (pss_one (ps_ret (pe_and (pe_cmpR op_eq (pe_callB (call_isiK (K := K) rfl) (by rfl) T.b_isinstance boot_isinstance (pa_cons (pv 0) (pa_cons (pe_ty (by rfl) T.b_bool boot_bool) pa_nil))) (pe_callB (call_isiK (K := K) rfl) (by rfl) T.b_isinstance boot_isinstance (pa_cons (pv 1) (pa_cons (pe_ty (by rfl) T.b_bool boot_bool) pa_nil))) (nomark _)) (pe_one (pe_cmpR op_eq (pv 0) (pv 1) (nomark _))))))), ?_⟩
      obtain ⟨t, ty, t1, t2⟩ := flat_ty K H hfl
      refine ⟨_, rfl, len_1000 (by simp), fun p hp => ?_⟩
      have s1 : Same H (upd H p (.tup [.ty "list", .ty "tuple"])) := Same.new hp
      have e1 : upd H p (.tup [.ty "list", .ty "tuple"]) p = some (.tup [.ty "list", .ty "tuple"]) := upd_same
      generalize upd H p (.tup [.ty "list", .ty "tuple"]) = H1 at s1 e1
      obtain ⟨t', ty', t1', t2'⟩ := flat_ty K H1 hfl
      refine ⟨x, t', ty', .inr ⟨"list", "tuple", p, rfl, e1, by decide, by decide, _, rfl, ?_⟩⟩
      rw [t1', t2']
      refine iteF ?_
      refine ⟨_, rfl, x, t', ty', .inl ⟨"bool", rfl, by decide, _, rfl, x, t', ty', .inl ⟨"bool", rfl, by decide, rfl, _, rfl, ?_⟩⟩⟩
      rw [decide_eq_true rfl]
      refine iteT ⟨_, rfl, _, rfl, ?_, ?_⟩
      · cases x <;> first | rfl | exact absurd (show false = true from hfl) Bool.false_ne_true
      · rw [decide_eq_true rfl]; exact k H1 s1
    | @tup _ a b xs ys h1 h2 hl hm hall =>
      refine ⟨_, (pss_cons (ps_if (pt_val (pe_callB (call_isiK (K := K) rfl) (by rfl) T.b_isinstance boot_isinstance (pa_cons (pv 1) (pa_cons (pe_tup (pa_cons (pe_ty (by rfl) T.b_list boot_list) (pa_cons (pe_ty (by rfl) T.b_tuple boot_tuple) pa_nil))) pa_nil)))) (pss_cons (ps_if (pt_cmpR op_ne (pe_callB (call_isiK (K := K) rfl) (by rfl) T.b_isinstance boot_isinstance (pa_cons (pv 0) (pa_cons (pe_ty (by rfl) T.b_list boot_list) pa_nil))) (pe_callB (call_isiK (K := K) rfl) (by rfl) T.b_isinstance boot_isinstance (pa_cons (pv 1) (pa_cons (pe_ty (by rfl) T.b_list boot_list) pa_nil))) (nomark _)) (pss_one (ps_ret pe_bl)) pss_nil)
      (pss_cons (ps_if (pt_cmpR op_ne (pe_callB (call_isiK (K := K) rfl) (by rfl) T.b_isinstance boot_isinstance (pa_cons (pv 0) (pa_cons (pe_ty (by rfl) T.b_tuple boot_tuple) pa_nil))) (pe_callB (call_isiK (K := K) rfl) (by rfl) T.b_isinstance boot_isinstance (pa_cons (pv 1) (pa_cons (pe_ty (by rfl) T.b_tuple boot_tuple) pa_nil))) (nomark _)) (pss_one (ps_ret pe_bl)) pss_nil)
      (pss_cons (ps_if (pt_cmpR op_ne (pe_callB (call_lenK (K := K) rfl) (by rfl) T.b_len PySem.boot_len (pa_cons (pv 0) pa_nil)) (pe_callB (call_lenK (K := K) rfl) (by rfl) T.b_len PySem.boot_len (pa_cons (pv 1) pa_nil)) (nomark _)) (pss_one (ps_ret pe_bl)) pss_nil)
      (pss_one (ps_ret (pe_callB (call_allK (K := K) rfl rfl) (by rfl) T.b_all boot_all (pa_cons (pe_compc (sc0 := defScope s_law_alike) (N := ["_law_found", "_law_due"]) (ix := [0, 1]) (by decide +kernel) rfl rfl rfl (pi_range1 (by rfl) T.b_range (pa_cons (pe_callB (call_lenK (K := K) rfl) (by rfl) T.b_len PySem.boot_len (pa_cons (pv 1) pa_nil)) pa_nil)) (fun _ _ _ => pifs_nil) (fun _ _ _ => (pe_call G_law_alike hr (by rfl) m_law_alike k_law_alike b_law_alike .nil pass0 (pa_cons (pe_ix (ix_tupK (K := K) rfl) (pv 1) (pv 0) (fun _ _ => rfl)) (pa_cons (pe_ix (ix_tupK (K := K) rfl) (pv 2) (pv 0) (fun _ _ => rfl)) pa_nil))))) pa_nil))))))) pss_nil)
      (pss_one (ps_ret (pe_and (pe_cmpR op_eq (pe_callB (call_isiK (K := K) rfl) (by rfl) T.b_isinstance boot_isinstance (pa_cons (pv 0) (pa_cons (pe_ty (by rfl) T.b_bool boot_bool) pa_nil))) (pe_callB (call_isiK (K := K) rfl) (by rfl) T.b_isinstance boot_isinstance (pa_cons (pv 1) (pa_cons (pe_ty (by rfl) T.b_bool boot_bool) pa_nil))) (nomark _)) (pe_one (pe_cmpR (op_eqLK (K := K) rfl hr.units0) (pv 0) (pv 1) (nomark _))))))), ?_⟩
      refine ⟨_, rfl, len_1000 (by simp), fun p hp => ?_⟩
      have s1 : Same H (upd H p (.tup [.ty "list", .ty "tuple"])) := Same.new hp
      have e1 : upd H p (.tup [.ty "list", .ty "tuple"]) p = some (.tup [.ty "list", .ty "tuple"]) := upd_same
      have ha1 := L2.SqT.same s1 h1
      have hb1 := L2.SqT.same s1 h2
      generalize upd H p (.tup [.ty "list", .ty "tuple"]) = H1 at s1 e1 ha1 hb1
      refine ⟨.ref b, "tuple", .tup hb1, .inr ⟨"list", "tuple", p, rfl, e1, by decide, by decide, _, rfl, ite2 (fun _ => ?_) (fun e => absurd (by decide) e)⟩⟩
      refine ⟨_, rfl, .ref a, "tuple", .tup ha1, .inl ⟨"list", rfl, by decide, _, rfl, .ref b, "tuple", .tup hb1, .inl ⟨"list", rfl, by decide, rfl, _, rfl, ite2 (fun e => absurd e (by decide)) (fun _ => ?_)⟩⟩⟩
      refine ⟨_, rfl, .ref a, "tuple", .tup ha1, .inl ⟨"tuple", rfl, by decide, _, rfl, .ref b, "tuple", .tup hb1, .inl ⟨"tuple", rfl, by decide, rfl, _, rfl, ite2 (fun e => absurd e (by decide)) (fun _ => ?_)⟩⟩⟩
      refine ⟨_, rfl, a, _, rfl, .inr ha1, _, rfl, b, _, rfl, .inr hb1, rfl, _, rfl, ?_⟩
      rw [hl, decide_eq_true rfl]
      refine iteF ?_
      refine ⟨_, rfl, b, _, rfl, .inr hb1, (ys.length : Nat), rfl, by omega, by omega, fun Dd hD => ?_⟩
      refine comp_range (lo := 0) (n := ((ys.length : Nat) : Int).toNat) (fun i H2 => Same H1 H2 ∧ H2 Dd = some (.lst ((List.replicate i true).map V.bl))) ⟨Same.new hD, upd_same⟩ ?_ ?_
      · rintro i H2 hi ⟨s2, e2⟩
        have hi' : i < ys.length := by omega
        obtain ⟨x, hx⟩ : ∃ x, xs[i]? = some x := ⟨_, List.getElem?_eq_getElem (by omega)⟩
        obtain ⟨y, hy⟩ : ∃ y, ys[i]? = some y := ⟨_, List.getElem?_eq_getElem hi'⟩
        refine ⟨_, rfl, _, rfl, a, xs, _, x, rfl, rfl, L2.SqT.same s2 ha1, atI_of (by omega) (by rw [show ((0 : Int) + (i : Nat)).toNat = i by omega]; exact hx), _, rfl, _, rfl, b, ys, _, y, rfl, rfl, L2.SqT.same s2 hb1, atI_of (by omega) (by rw [show ((0 : Int) + (i : Nat)).toNat = i by omega]; exact hy), x, y, rfl, (hall i x y hx hy).same (s1.trans s2), fun H3 s3 => ⟨_, s3 _ _ e2, ?_, (s2.trans s3).upd hD, ?_⟩⟩
        · rw [List.length_map, List.length_replicate]; exact small1000 (by omega)
        · rw [upd_same, List.replicate_succ', List.map_append]; rfl
      · rintro H2 ⟨s2, e2⟩
        refine ⟨Dd, _, rfl, SqL.of e2, ?_⟩
        rw [show (List.replicate ((ys.length : Nat) : Int).toNat true).all id = true by rw [List.all_eq_true]; intro b hb; exact (List.mem_replicate.mp hb).2]
        exact k H2 (s1.trans s2)
    | @lst _ a b xs ys h1 h2 hl hm hall =>
      refine ⟨_, (pss_cons (ps_if (pt_val (pe_callB (call_isiK (K := K) rfl) (by rfl) T.b_isinstance boot_isinstance (pa_cons (pv 1) (pa_cons (pe_tup (pa_cons (pe_ty (by rfl) T.b_list boot_list) (pa_cons (pe_ty (by rfl) T.b_tuple boot_tuple) pa_nil))) pa_nil)))) (pss_cons (ps_if (pt_cmpR op_ne (pe_callB (call_isiK (K := K) rfl) (by rfl) T.b_isinstance boot_isinstance (pa_cons (pv 0) (pa_cons (pe_ty (by rfl) T.b_list boot_list) pa_nil))) (pe_callB (call_isiK (K := K) rfl) (by rfl) T.b_isinstance boot_isinstance (pa_cons (pv 1) (pa_cons (pe_ty (by rfl) T.b_list boot_list) pa_nil))) (nomark _)) (pss_one (ps_ret pe_bl)) pss_nil)
      (pss_cons (ps_if (pt_cmpR op_ne (pe_callB (call_isiK (K := K) rfl) (by rfl) T.b_isinstance boot_isinstance (pa_cons (pv 0) (pa_cons (pe_ty (by rfl) T.b_tuple boot_tuple) pa_nil))) (pe_callB (call_isiK (K := K) rfl) (by rfl) T.b_isinstance boot_isinstance (pa_cons (pv 1) (pa_cons (pe_ty (by rfl) T.b_tuple boot_tuple) pa_nil))) (nomark _)) (pss_one (ps_ret pe_bl)) pss_nil)
      (pss_cons (ps_if (pt_cmpR op_ne (pe_callB (call_lenK (K := K) rfl) (by rfl) T.b_len PySem.boot_len (pa_cons (pv 0) pa_nil)) (pe_callB (call_lenK (K := K) rfl) (by rfl) T.b_len PySem.boot_len (pa_cons (pv 1) pa_nil)) (nomark _)) (pss_one (ps_ret pe_bl)) pss_nil)
      (pss_one (ps_ret (pe_callB (call_allK (K := K) rfl rfl) (by rfl) T.b_all boot_all (pa_cons (pe_compc (sc0 := defScope s_law_alike) (N := ["_law_found", "_law_due"]) (ix := [0, 1]) (by decide +kernel) rfl rfl rfl (pi_range1 (by rfl) T.b_range (pa_cons (pe_callB (call_lenK (K := K) rfl) (by rfl) T.b_len PySem.boot_len (pa_cons (pv 1) pa_nil)) pa_nil)) (fun _ _ _ => pifs_nil) (fun _ _ _ => (pe_call G_law_alike hr (by rfl) m_law_alike k_law_alike b_law_alike .nil pass0 (pa_cons (pe_ix (ix_listK (K := K) rfl) (pv 1) (pv 0) (fun _ _ => rfl)) (pa_cons (pe_ix (ix_listK (K := K) rfl) (pv 2) (pv 0) (fun _ _ => rfl)) pa_nil))))) pa_nil))))))) pss_nil)
      (pss_one (ps_ret (pe_and (pe_cmpR op_eq (pe_callB (call_isiK (K := K) rfl) (by rfl) T.b_isinstance boot_isinstance (pa_cons (pv 0) (pa_cons (pe_ty (by rfl) T.b_bool boot_bool) pa_nil))) (pe_callB (call_isiK (K := K) rfl) (by rfl) T.b_isinstance boot_isinstance (pa_cons (pv 1) (pa_cons (pe_ty (by rfl) T.b_bool boot_bool) pa_nil))) (nomark _)) (pe_one (pe_cmpR (op_eqLK (K := K) rfl hr.units0) (pv 0) (pv 1) (nomark _))))))), ?_⟩
      refine ⟨_, rfl, len_1000 (by simp), fun p hp => ?_⟩
      have s1 : Same H (upd H p (.tup [.ty "list", .ty "tuple"])) := Same.new hp
      have e1 : upd H p (.tup [.ty "list", .ty "tuple"]) p = some (.tup [.ty "list", .ty "tuple"]) := upd_same
      have ha1 := s1 _ _ h1
      have hb1 := s1 _ _ h2
      generalize upd H p (.tup [.ty "list", .ty "tuple"]) = H1 at s1 e1 ha1 hb1
      refine ⟨.ref b, "list", .lst (SqL.of hb1), .inr ⟨"list", "tuple", p, rfl, e1, by decide, by decide, _, rfl, ite2 (fun _ => ?_) (fun e => absurd (by decide) e)⟩⟩
      refine ⟨_, rfl, .ref a, "list", .lst (SqL.of ha1), .inl ⟨"list", rfl, by decide, _, rfl, .ref b, "list", .lst (SqL.of hb1), .inl ⟨"list", rfl, by decide, rfl, _, rfl, ite2 (fun e => absurd e (by decide)) (fun _ => ?_)⟩⟩⟩
      refine ⟨_, rfl, .ref a, "list", .lst (SqL.of ha1), .inl ⟨"tuple", rfl, by decide, _, rfl, .ref b, "list", .lst (SqL.of hb1), .inl ⟨"tuple", rfl, by decide, rfl, _, rfl, ite2 (fun e => absurd e (by decide)) (fun _ => ?_)⟩⟩⟩
      refine ⟨_, rfl, a, _, rfl, .inl (SqL.of ha1), _, rfl, b, _, rfl, .inl (SqL.of hb1), rfl, _, rfl, ?_⟩
      rw [hl, decide_eq_true rfl]
      refine iteF ?_
      refine ⟨_, rfl, b, _, rfl, .inl (SqL.of hb1), (ys.length : Nat), rfl, by omega, by omega, fun Dd hD => ?_⟩
      refine comp_range (lo := 0) (n := ((ys.length : Nat) : Int).toNat) (fun i H2 => Same H1 H2 ∧ H2 Dd = some (.lst ((List.replicate i true).map V.bl))) ⟨Same.new hD, upd_same⟩ ?_ ?_
      · rintro i H2 hi ⟨s2, e2⟩
        have hi' : i < ys.length := by omega
        obtain ⟨x, hx⟩ : ∃ x, xs[i]? = some x := ⟨_, List.getElem?_eq_getElem (by omega)⟩
        obtain ⟨y, hy⟩ : ∃ y, ys[i]? = some y := ⟨_, List.getElem?_eq_getElem hi'⟩
        refine ⟨_, rfl, _, rfl, a, xs, _, x, rfl, rfl, SqL.of (s2 _ _ ha1), atI_of (by omega) (by rw [show ((0 : Int) + (i : Nat)).toNat = i by omega]; exact hx), _, rfl, _, rfl, b, ys, _, y, rfl, rfl, SqL.of (s2 _ _ hb1), atI_of (by omega) (by rw [show ((0 : Int) + (i : Nat)).toNat = i by omega]; exact hy), x, y, rfl, (hall i x y hx hy).same (s1.trans s2), fun H3 s3 => ⟨_, s3 _ _ e2, ?_, (s2.trans s3).upd hD, ?_⟩⟩
        · rw [List.length_map, List.length_replicate]; exact small1000 (by omega)
        · rw [upd_same, List.replicate_succ', List.map_append]; rfl
      · rintro H2 ⟨s2, e2⟩
        refine ⟨Dd, _, rfl, SqL.of e2, ?_⟩
        rw [show (List.replicate ((ys.length : Nat) : Int).toNat true).all id = true by rw [List.all_eq_true]; intro b hb; exact (List.mem_replicate.mp hb).2]
        exact k H2 (s1.trans s2)
theorem ok_law_key {f : Addr} {fd : FuncData} (D : Df K mg "_law_key" s_law_key ["_law_word"] f fd) (T : Txt P w K mg a_CONTRARIES a_EXCHANGE a_LETTERS a_Weave) : Cl P w K mg base "_law_key" ["_law_word"] 1 spKey := by
  refine D.cl (D.F.ok sc_law_key (fun vs H Q E h => ?_) (fun cdv A outer s H vs Q E hr h => ?_))
  · obtain ⟨x, rfl, _⟩ := h
    rfl
  · obtain ⟨x, rfl, hx, hlen, k⟩ := h
    refine ⟨_, (pss_one (ps_ret (pe_tup (pa_cons (pe_callB call_len_str (by rfl) T.b_len PySem.boot_len (pa_cons (pv 0) pa_nil)) (pa_cons (pe_compc (sc0 := defScope s_law_key) (N := ["_law_word"]) (ix := []) (by decide +kernel) rfl rfl rfl (pi_str (pv 0)) (fun _ _ _ => pifs_nil) (fun _ _ _ => (pe_bmK (K := K) rfl PySem.F.plainAttrs_str PySem.F.slot_str_index PySem.F.type_str_index (mt_index rfl) pe_str (pa_cons (pv 0) pa_nil)))) pa_nil))))), ?_⟩
    refine ⟨_, rfl, _, rfl, by rw [S_len]; exact len_1000 (by omega), _, rfl, S x, rfl, fun Dd hD => comp_strIf (w := x) (fun i H1 => Same H H1 ∧ H1 Dd = some (.lst ((rks (x.take i)).map V.int))) ⟨Same.new hD, upd_same⟩ ?_ ?_⟩
    · rintro i c H1 hc ⟨s1, e1⟩
      have hi : i < x.length := (List.getElem?_eq_some_iff.mp hc).1
      have hcL := hx c (List.mem_of_getElem? hc)
      refine ⟨rfl, _, rfl, _, _, rfl, rfl, (idx_S hcL).1, ?_⟩
      rw [(idx_S hcL).2]
      refine ⟨_, e1, ?_, s1.upd hD, ?_⟩
      · rw [List.length_map, rks_len, List.length_take]; exact small1000 (by omega)
      · rw [upd_same, take_snoc hc]; unfold rks; rw [List.map_append, List.map_append]; rfl
    · rintro H1 ⟨s1, e1⟩
      rw [List.take_length] at e1
      refine ⟨len_1000 (by simp), fun p hp => ?_⟩
      rw [S_len]
      exact k p Dd _ (s1.free hp) hD (s1.upd' hp) upd_same (by rw [upd_ne (ne_of_none e1 hp)]; exact e1)
theorem ok_law_drawn_change {f : Addr} {fd : FuncData} (D : Df K mg "_law_drawn_change" s_law_drawn_change ["_law_flow_here", "_law_n"] f fd) (T : Txt P w K mg a_CONTRARIES a_EXCHANGE a_LETTERS a_Weave) (c_law_pick : Cl P w K mg base "_law_pick" ["_law_flow_here", "_law_many"] 1 spPick) (c_law_letters : Cl P w K mg base "_law_letters" ["_law_n"] 1 spLetters) (c_law_contrary : Cl P w K mg base "_law_contrary" ["_law_letter"] 1 spCon) : Cl P w K mg base "_law_drawn_change" ["_law_flow_here", "_law_n"] 2 spDrawnB := by
  obtain ⟨f_law_pick, fd_law_pick, G_law_pick, m_law_pick, k_law_pick, b_law_pick⟩ := c_law_pick
  obtain ⟨f_law_letters, fd_law_letters, G_law_letters, m_law_letters, k_law_letters, b_law_letters⟩ := c_law_letters
  obtain ⟨f_law_contrary, fd_law_contrary, G_law_contrary, m_law_contrary, k_law_contrary, b_law_contrary⟩ := c_law_contrary
  refine D.cl (D.F.ok sc_law_drawn_change (fun vs H Q E h => ?_) (fun cdv A outer s H vs Q E hr h => ?_))
  · obtain ⟨fl, sc, n, rfl, _⟩ := h
    rfl
  · obtain ⟨fl, sc, n, rfl, hf, h1, h4, k⟩ := h
    refine ⟨_, (pss_cons (ps_set (i := 2) sc_law_drawn_change.nd rfl (Or.inl rfl) (pe_ix (ix_listK (K := K) rfl) (pe_call G_law_letters (hr.mono (by decide)) (by rfl) m_law_letters k_law_letters b_law_letters .nil pass0 (pa_cons (pv 1) pa_nil)) (pe_call G_law_pick (hr.mono (by decide)) (by rfl) m_law_pick k_law_pick b_law_pick .nil pass0 (pa_cons (pv 0) (pa_cons (pe_op op_mul pe_int (pv 1)) pa_nil))) (fun _ _ => rfl)))
      (pss_cons (ps_set (i := 3) sc_law_drawn_change.nd rfl (Or.inl rfl) (pe_lst pa_nil))
      (pss_cons (ps_for PassesOwn.never rfl (pi_listK (K := K) rfl (pe_call G_law_letters (hr.mono (by decide)) (by rfl) m_law_letters k_law_letters b_law_letters .nil pass0 (pa_cons (pv 1) pa_nil))) (pg_name (i := 4) sc_law_drawn_change.nd rfl (Or.inl rfl)) (pss_one (ps_if (pw_or (pt_cmpR op_eq (pv 4) (pv 2) (nomark _)) (pw_or1 (pw_and (pt_cmpR op_ne (pv 4) (pe_call G_law_contrary (hr.mono (by decide)) (by rfl) m_law_contrary k_law_contrary b_law_contrary .nil pass0 (pa_cons (pv 2) pa_nil)) (nomark _)) (pw_and1 (pt_cmpR op_eq (pe_call G_law_pick (hr.mono (by decide)) (by rfl) m_law_pick k_law_pick b_law_pick .nil pass0 (pa_cons (pv 0) (pa_cons pe_int pa_nil))) pe_int (nomark _)))).pt)).pt (pss_one (ps_expr (pe_bmK (K := K) rfl PySem.F.plainAttrs_list PySem.F.slot_list_append PySem.F.type_list_append mt_append (pv 3) (pa_cons (pv 4) pa_nil)))) pss_nil)))
      (pss_one (ps_ret (pe_tup (pa_cons (pv 2) (pa_cons (pe_callTy (call_tupleK (K := K) rfl) (by rfl) T.b_tuple boot_tuple (pa_cons (pv 3) pa_nil)) pa_nil)))))))), ?_⟩
    have i1 : (1 : Int) ≤ (n : Nat) := by omega
    have i4 : ((n : Nat) : Int) ≤ 4 := by omega
    refine ⟨_, rfl, (n : Nat), rfl, i1, i4, fun l H1 hl s1 e1 => ?_⟩
    refine ⟨_, rfl, _, rfl, _, _, rfl, rfl, .inl ⟨by decide, by decide⟩, fl, sc, _, rfl, hf.same s1, by omega, by omega, fun d H2 d0 d1 f2 k2 => ?_⟩
    have hln := letsN_len i1 i4
    obtain ⟨c, hc⟩ : ∃ c, (letsN (n : Nat))[d.toNat]? = some c := ⟨_, List.getElem?_eq_getElem (show d.toNat < (letsN (n : Nat)).length by omega)⟩
    have hcm : c ∈ letsN (n : Nat) := List.mem_of_getElem? hc
    have hcL := letsN_isL hcm
    refine ⟨l, _, _, .str (S [c]), rfl, rfl, SqL.of (k2 _ _ e1 (hf.ne hl)), atI_of d0 (lstC_get hc), len_1000 (by simp), fun sd hsd => ?_⟩
    have hsf : sd ≠ fl := f2.ne hsd
    have hss : sd ≠ sc := f2.ne2 hsd
    have k02 : Kp fl H H2 := s1.kp.trans k2
    have hsd0 : H sd = none := k02.free hsd hsf
    refine ⟨_, rfl, (n : Nat), rfl, i1, i4, fun l2 H3 hl2 s3 e3 => ⟨l2, rfl, ⟨_, SqL.of e3⟩, ?_⟩⟩
    have hl2s : sd ≠ l2 := ne_of_none (upd_same (H := H2) (a := sd) (o := HO.lst [])) hl2
    have hl2f : l2 ≠ fl := (f2.upd hsd).ne hl2
    refine for_list (K := K) (a := l2) (xs := lstC (letsN (n : Nat))) (fun i σ H4 => ∃ (v4 : Option V) (w : List Nat), σ = [some (.ref fl), some (.int (n : Nat)), some (.str (S [c])), some (.ref sd), v4] ∧ IsFl H4 fl sc ∧ Kp fl H H4 ∧ H4 l2 = some (.lst (lstC (letsN (n : Nat)))) ∧ H4 sd = some (.lst (lstC w)) ∧ (∀ d ∈ w, d ∈ letsN (n : Nat) ∧ d ≠ con c) ∧ w.length ≤ i ∧ (c ∈ (letsN (n : Nat)).take i → c ∈ w) ∧ w.Sublist ((letsN (n : Nat)).take i)) ?_ ?_ ?_ ?_
    · exact ⟨none, [], rfl, (f2.upd hsd).same s3, (k02.upd hsd0).trans s3.kp, e3, s3 _ _ upd_same, fun d hd => (nomatch hd), Nat.le_refl _, (fun h => by simp at h), List.Sublist.refl []⟩
    · rintro i _ H4 _ ⟨v4, w, rfl, f4, k4, e4, _⟩
      exact SqL.of e4
    · rintro i v _ H4 hv ⟨v4, w, rfl, f4, k4, e4, es, hw, hwl, hin, hsub⟩
      obtain ⟨o, ho, rfl⟩ : ∃ o, (letsN (n : Nat))[i]? = some o ∧ v = .str (S [o]) := by
        unfold lstC at hv
        rw [List.getElem?_map] at hv
        cases hq : (letsN (n : Nat))[i]? with
        | none => rw [hq] at hv; cases hv
        | some o => rw [hq] at hv; exact ⟨o, rfl, (Option.some.inj hv).symm⟩
      have hom := List.mem_of_getElem? ho
      have hi : i < 8 := by have := (List.getElem?_eq_some_iff.mp ho).1; omega
      have tk : c ∈ (letsN (n : Nat)).take (i + 1) → c ∈ (letsN (n : Nat)).take i ∨ c = o := fun h => by
        rw [take_snoc ho] at h
        rcases List.mem_append.mp h with q | q
        · exact .inl q
        · exact .inr (List.mem_singleton.mp q)
      have app : o ≠ con c → ∀ H5, IsFl H5 fl sc → Kp fl H H5 → H5 l2 = some (.lst (lstC (letsN (n : Nat)))) → H5 sd = some (.lst (lstC w)) → ∃ (v4 : Option V) (w' : List Nat), [some (V.ref fl), some (.int (n : Nat)), some (.str (S [c])), some (.ref sd), some (.str (S [o]))] = [some (.ref fl), some (.int (n : Nat)), some (.str (S [c])), some (.ref sd), v4] ∧ IsFl (upd H5 sd (.lst (lstC w ++ [.str (S [o])]))) fl sc ∧ Kp fl H (upd H5 sd (.lst (lstC w ++ [.str (S [o])]))) ∧ upd H5 sd (.lst (lstC w ++ [.str (S [o])])) l2 = some (.lst (lstC (letsN (n : Nat)))) ∧ upd H5 sd (.lst (lstC w ++ [.str (S [o])])) sd = some (.lst (lstC w')) ∧ (∀ d ∈ w', d ∈ letsN (n : Nat) ∧ d ≠ con c) ∧ w'.length ≤ i + 1 ∧ (c ∈ (letsN (n : Nat)).take (i + 1) → c ∈ w') ∧ w'.Sublist ((letsN (n : Nat)).take (i + 1)) := fun hoc H5 f5 k5 e5 es5 => by
        refine ⟨_, w ++ [o], rfl, f5.set hsf hss, k5.upd hsd0, by rw [upd_ne hl2s.symm]; exact e5, by rw [upd_same, lstC_snoc], fun d hd => ?_, by rw [List.length_append, List.length_singleton]; omega, fun h => ?_, (by rw [take_snoc ho]; exact hsub.append (List.Sublist.refl _))⟩
        · rcases List.mem_append.mp hd with q | q
          · exact hw d q
          · rw [List.mem_singleton.mp q]; exact ⟨hom, hoc⟩
        · rcases tk h with q | q
          · exact List.mem_append_left _ (hin q)
          · rw [q]; simp
      refine ⟨_, rfl, _, rfl, rfl, _, rfl, ite2 (fun z => iteT ⟨_, rfl, .inl ⟨rfl, _, SqL.of es⟩, _, rfl, sd, _, _, rfl, rfl, es, by rw [lstC_len]; exact small1000 (by omega), app (by rw [VS_dec] at z; have z' : o = c := (by simpa using z); rw [z']; exact (con_ne hcL).symm) H4 f4 k4 e4 es⟩) (fun z => ?_)⟩
      have hsub2 : w.Sublist ((letsN (n : Nat)).take (i + 1)) := by rw [take_snoc ho]; exact hsub.trans (List.sublist_append_left _ _)
      have zc : ¬ c = o := fun e => z (by rw [VS_dec, e]; simp)
      have nin : c ∈ (letsN (n : Nat)).take (i + 1) → c ∈ w := fun h => by
        rcases tk h with q | q
        · exact hin q
        · exact absurd q zc
      refine ⟨_, rfl, _, rfl, c, rfl, hcL, fun H5 s5 => ⟨rfl, _, rfl, ite2 (fun y => ?_) (fun y => iteF ?_)⟩⟩
      · refine ⟨_, rfl, fl, sc, 2, rfl, f4.same s5, by decide, by decide, fun e H6 e0 e1 f6 k6 => ⟨rfl, _, rfl, ite2 (fun x => ?_) (fun x => ?_)⟩⟩
        · have es6 := k6 _ _ (s5 _ _ es) hsf
          exact ⟨_, rfl, .inl ⟨rfl, _, SqL.of es6⟩, _, rfl, sd, _, _, rfl, rfl, es6, by rw [lstC_len]; exact small1000 (by omega), app (fun e => by rw [VS_dec, e] at y; simp at y) H6 f6 ((k4.trans s5.kp).trans k6) (k6 _ _ (s5 _ _ e4) hl2f) es6⟩
        · exact ⟨_, w, rfl, f6, (k4.trans s5.kp).trans k6, k6 _ _ (s5 _ _ e4) hl2f, k6 _ _ (s5 _ _ es) hsf, hw, by omega, nin, hsub2⟩
      · exact ⟨_, w, rfl, f4.same s5, k4.trans s5.kp, s5 _ _ e4, s5 _ _ es, hw, by omega, nin, hsub2⟩
    · rintro _ H4 ⟨v4, w, rfl, f4, k4, e4, es, hw, hwl, hin, hsub⟩
      rw [lstC_len, List.take_length] at hin hsub
      rw [lstC_len, hln] at hwl
      refine ⟨_, rfl, _, rfl, sd, _, rfl, .inl ⟨SqL.of es, fun q hq => ⟨len_1000 (by simp), fun p hp => ?_⟩⟩⟩
      have hqf : q ≠ fl := f4.ne hq
      have hpf : p ≠ fl := (f4.upd hq).ne hp
      have hq0 : H q = none := k4.free hq hqf
      have hp0 : H p = none := (k4.upd hq0).free hp hpf
      have hpq : q ≠ p := ne_of_none (upd_same (H := H4) (a := q) (o := HO.tup (lstC w))) hp
      exact k p c w _ hp0 ⟨hcm, fun d hd => (hw d hd).1, (lets_ord h1 h4).sublist hsub, hin hcm, fun z => (hw _ z).2 rfl⟩ (by omega) ⟨q, upd_same, by rw [upd_ne hpq]; exact upd_same⟩ ((f4.upd hq).upd hp) ((k4.upd hq0).upd hp0)
theorem ok_law_exchange {f : Addr} {fd : FuncData} (D : Df K mg "_law_exchange" s_law_exchange ["_law_flow_here", "_law_n"] f fd) (T : Txt P w K mg a_CONTRARIES a_EXCHANGE a_LETTERS a_Weave) (c_law_pick : Cl P w K mg base "_law_pick" ["_law_flow_here", "_law_many"] 1 spPick) : Cl P w K mg base "_law_exchange" ["_law_flow_here", "_law_n"] 2 spExchP := by
  obtain ⟨f_law_pick, fd_law_pick, G_law_pick, m_law_pick, k_law_pick, b_law_pick⟩ := c_law_pick
  refine D.cl (D.F.ok sc_law_exchange (fun vs H Q E h => ?_) (fun cdv A outer s H vs Q E hr h => ?_))
  · obtain ⟨fl, sc, n, rfl, _⟩ := h
    rfl
  · obtain ⟨fl, sc, n, rfl, hf, h1, h4, k⟩ := h
    refine ⟨_, (pss_cons (ps_set (i := 2) sc_law_exchange.nd rfl (Or.inl rfl) (pe_callTy (call_listStr rfl) (by rfl) T.b_list boot_list (pa_cons (pe_slice sl_str pe_str po_none (po_some (pv 1))) pa_nil)))
      (pss_cons (ps_set (i := 3) sc_law_exchange.nd rfl (Or.inl rfl) (pe_lst pa_nil))
      (pss_cons (ps_for PassesOwn.never rfl (pi_range1 (by rfl) T.b_range (pa_cons (pv 1) pa_nil)) (pg_name (i := 4) sc_law_exchange.nd rfl (Or.inl rfl)) (pss_cons (ps_set (i := 5) sc_law_exchange.nd rfl (Or.inl rfl) (pe_bmK (K := K) rfl PySem.F.plainAttrs_list PySem.F.slot_list_pop PySem.F.type_list_pop mt_popAt (pv 2) (pa_cons (pe_call G_law_pick (hr.mono (by decide)) (by rfl) m_law_pick k_law_pick b_law_pick .nil pass0 (pa_cons (pv 0) (pa_cons (pe_callB (call_lenK (K := K) rfl) (by rfl) T.b_len PySem.boot_len (pa_cons (pv 2) pa_nil)) pa_nil))) pa_nil)))
      (pss_one (ps_expr (pe_bmK (K := K) rfl PySem.F.plainAttrs_list PySem.F.slot_list_append PySem.F.type_list_append mt_append (pv 3) (pa_cons (pe_ix (ix_listK (K := K) rfl) (pe_lst (pa_cons (pv 5) (pa_cons (pe_bm0K (K := K) rfl PySem.F.plainAttrs_str PySem.F.slot_str_upper PySem.F.type_str_upper mt_upper (pv 5)) pa_nil))) (pe_call G_law_pick (hr.mono (by decide)) (by rfl) m_law_pick k_law_pick b_law_pick .nil pass0 (pa_cons (pv 0) (pa_cons pe_int pa_nil))) (fun _ _ => rfl)) pa_nil))))))
      (pss_one (ps_ret (pe_callTy (call_tupleK (K := K) rfl) (by rfl) T.b_tuple boot_tuple (pa_cons (pv 3) pa_nil))))))), ?_⟩
    refine ⟨_, rfl, _, rfl, _, rfl, by decide +kernel, lowN n, ?_, ?_, fun l hl => ?_⟩
    · show [V.str (Txt.slice (Str.ofString "abcd") none (some ((n : Nat) : Int)))] = _
      rw [abcd_S, slice_to _ (by omega) (by simp; omega)]
      rfl
    · rw [lowN_len h4]; omega
    refine ⟨len_1000 (by simp), fun fd hfd => ?_⟩
    have hlf : l ≠ fl := hf.ne hl
    have hls : l ≠ sc := hf.ne2 hl
    have hff : fd ≠ fl := (hf.upd hl).ne hfd
    have hfs : fd ≠ sc := (hf.upd hl).ne2 hfd
    have hld : l ≠ fd := ne_of_none (upd_same (H := H) (a := l) (o := HO.lst ((lowN n).map fun c => V.str (S [c])))) hfd
    have hfd0 : H fd = none := by rw [upd_ne hld.symm] at hfd; exact hfd
    refine ⟨_, rfl, (n : Nat), rfl, by omega, by omega, for_range (lo := 0) (n := ((n : Nat) : Int).toNat) (fun i σ H1 => ∃ (v4 v5 : Option V) (ls cs : List Nat), σ = [some (.ref fl), some (.int (n : Nat)), some (.ref l), some (.ref fd), v4, v5] ∧ IsFl H1 fl sc ∧ Kp fl H H1 ∧ H1 l = some (.lst (lstC ls)) ∧ H1 fd = some (.lst (wds (ones' cs))) ∧ (∀ d ∈ ls, d ∈ lowN n) ∧ ls.length + i = n ∧ cs.length = i ∧ (∀ c ∈ cs, c ∈ letsN (n : Nat)) ∧ (cs.map lo ++ ls).Perm (lowN n)) ?_ ?_ ?_⟩
    · refine ⟨none, none, lowN n, [], rfl, (hf.upd hl).upd hfd, ((Kp.refl fl H).upd hl).upd hfd0, ?_, upd_same, fun d hd => hd, by rw [lowN_len h4]; rfl, rfl, (fun x hx => nomatch hx), List.Perm.refl _⟩
      rw [upd_ne hld, upd_same]
      rfl
    · rintro i _ H1 hi ⟨v4, v5, ls, cs, rfl, f1, k1, el, ef, hls', hll, hsl, hst, hpm⟩
      have hpos : 0 < ls.length := by omega
      refine ⟨_, rfl, .inl ⟨rfl, _, SqL.of el⟩, _, rfl, _, rfl, l, _, rfl, .inl (SqL.of el), fl, sc, _, rfl, f1, by rw [lstC_len]; omega, by rw [lstC_len]; omega, fun g H2 g0 g1 f2 k2 => ?_⟩
      rw [lstC_len] at g1
      obtain ⟨d, hd⟩ : ∃ d, ls[g.toNat]? = some d := ⟨_, List.getElem?_eq_getElem (by omega)⟩
      have hdm := hls' d (List.mem_of_getElem? hd)
      have hdL := low_isL hdm
      have hdl := low_low hdm
      have hdn := low_lets h1 h4 hdm
      have el2 := k2 _ _ el hlf
      refine ⟨l, _, g, g.toNat, .str (S [d]), rfl, rfl, el2, by omega, by omega, ?_, lstC_get hd, ?_⟩
      · rw [lstC_len]
        exact PySem.StrLaws.seqIndex_nonneg g0 (by omega)
      rw [lstC_erase]
      have hel : (ls.eraseIdx g.toNat).length = ls.length - 1 := by rw [List.length_eraseIdx, if_pos (by omega)]
      have hes : ∀ d ∈ ls.eraseIdx g.toNat, d ∈ lowN n := fun d hd => hls' d (List.mem_of_mem_eraseIdx hd)
      have hpe := erase_perm hd
      generalize ls.eraseIdx g.toNat = ls2 at hel hes hpe
      have f3 : IsFl (upd H2 l (.lst (lstC ls2))) fl sc := f2.set hlf hls
      have hl0 : H l = none := hl
      have k3 : Kp fl H (upd H2 l (.lst (lstC ls2))) := (k1.trans k2).upd hl0
      have el3 : upd H2 l (.lst (lstC ls2)) l = some (.lst (lstC ls2)) := upd_same
      have ef3 : upd H2 l (.lst (lstC ls2)) fd = some (.lst (wds (ones' cs))) := by rw [upd_ne hld.symm]; exact k2 _ _ ef hff
      generalize upd H2 l (.lst (lstC ls2)) = H3 at f3 k3 el3 ef3
      refine ⟨_, rfl, .inl ⟨rfl, _, SqL.of ef3⟩, _, rfl, _, rfl, rfl, S [d], rfl, rfl, by rw [upper_S hdL hdl]; exact short1 _, len_1000 (by simp), fun q hq => ?_⟩
      rw [upper_S hdL hdl]
      refine ⟨_, rfl, fl, sc, 2, rfl, f3.upd hq, by decide, by decide, fun e H4 e0 e1 f4 k4 => ?_⟩
      obtain ⟨x, hx, hxn, hxl⟩ : ∃ x, atI [V.str (S [d]), V.str (S [con d])] e = some (.str (S [x])) ∧ x ∈ letsN (n : Nat) ∧ lo x = d := by
        have : e = 0 ∨ e = 1 := by omega
        rcases this with rfl | rfl
        · exact ⟨d, rfl, hdn, lo_low hdL hdl⟩
        · exact ⟨con d, rfl, letsN_con (by omega) (by omega) hdn, lo_con hdL hdl⟩
      have hqf : q ≠ fl := f3.ne hq
      have ef4 := k4 _ _ (show upd H3 q (.lst [.str (S [d]), .str (S [con d])]) fd = some (.lst (wds (ones' cs))) by rw [upd_ne (ne_of_none ef3 hq)]; exact ef3) hff
      have el4 := k4 _ _ (show upd H3 q (.lst [.str (S [d]), .str (S [con d])]) l = some (.lst (lstC ls2)) by rw [upd_ne (ne_of_none el3 hq)]; exact el3) hlf
      have eq4 := k4 _ _ (upd_same (H := H3) (a := q) (o := HO.lst [.str (S [d]), .str (S [con d])])) hqf
      refine ⟨q, _, _, _, rfl, rfl, SqL.of eq4, hx, fd, _, _, rfl, rfl, ef4, by rw [wds_len]; unfold ones'; rw [List.length_map]; exact small1000 (by omega), _, _, ls2, cs ++ [x], rfl, f4.set hff hfs, ((k3.upd (k3.free hq hqf)).trans k4).upd hfd0, by rw [upd_ne hld]; exact el4, ?_, hes, by omega, by rw [List.length_append, hsl]; rfl, fun y hy => ?_, ?_⟩
      · rw [upd_same]; unfold wds ones'; rw [List.map_append, List.map_append]; rfl
      · rcases List.mem_append.mp hy with z | z
        · exact hst y z
        · rw [List.mem_singleton.mp z]; exact hxn
      · rw [List.map_append, List.append_assoc]
        show (cs.map lo ++ (lo x :: ls2)).Perm _
        rw [hxl]
        exact (hpe.append_left _).trans hpm
    · rintro _ H1 ⟨v4, v5, ls, cs, rfl, f1, k1, el, ef, hls', hll, hsl, hst, hpm⟩
      rw [Int.toNat_natCast] at hsl
      have hls0 : ls = [] := List.length_eq_zero_iff.mp (by have : ls.length + ((n : Nat) : Int).toNat = n := hll; rw [Int.toNat_natCast] at this; omega)
      subst hls0
      rw [List.append_nil] at hpm
      refine ⟨_, rfl, fd, _, rfl, .inl ⟨SqL.of ef, fun p hp => k p cs _ (k1.free hp (f1.ne hp)) ⟨hsl, hst, hpm⟩ ⟨by unfold ones'; rw [List.length_map]; exact hsl, fun x hx => ?_, fun x hx => ?_⟩ (fun x hx => ?_) upd_same (f1.upd hp) (k1.upd (k1.free hp (f1.ne hp)))⟩⟩
      · obtain ⟨e, he, rfl⟩ := List.mem_map.mp hx
        exact one_all (letsN_isL (hst e he))
      · obtain ⟨e, he, rfl⟩ := List.mem_map.mp hx
        exact Nat.le_refl _
      · obtain ⟨e, he, rfl⟩ := List.mem_map.mp hx
        intro z hz
        rw [List.mem_singleton.mp hz]; exact hst e he
theorem ok_law_change_back {f : Addr} {fd : FuncData} (D : Df K mg "_law_change_back" s_law_change_back ["_law_change"] f fd) (T : Txt P w K mg a_CONTRARIES a_EXCHANGE a_LETTERS a_Weave) (c_law_contrary : Cl P w K mg base "_law_contrary" ["_law_letter"] 1 spCon) (c_law_key : Cl P w K mg base "_law_key" ["_law_word"] 1 spKey) : Cl P w K mg base "_law_change_back" ["_law_change"] 4 spChBk := by
  obtain ⟨f_law_contrary, fd_law_contrary, G_law_contrary, m_law_contrary, k_law_contrary, b_law_contrary⟩ := c_law_contrary
  obtain ⟨f_law_key, fd_law_key, G_law_key, m_law_key, k_law_key, b_law_key⟩ := c_law_key
  refine D.cl (D.F.ok sc_law_change_back (fun vs H Q E h => ?_) (fun cdv A outer s H vs Q E hr h => ?_))
  · obtain ⟨n, p, c, sd, rfl, _⟩ := h
    rfl
  · obtain ⟨n, p, c, sd, rfl, h1, h4, ⟨q, ep, eq⟩, g, hl8, k⟩ := h
    refine ⟨_, (pss_cons (ps_asg (pv 0) (pg_seq (K := K) rfl rfl (pgs_cons (pg_name (i := 1) sc_law_change_back.nd rfl (Or.inr rfl)) (pgs_cons (pg_name (i := 2) sc_law_change_back.nd rfl (Or.inl rfl)) pgs_nil))))
      (pss_cons (ps_set (i := 3) sc_law_change_back.nd rfl (Or.inl rfl) (pe_op op_cat (pe_compc (sc0 := defScope s_law_change_back) (N := ["_law_change", "_law_letter", "_law_side", "_law_other"]) (ix := [1]) (by decide +kernel) rfl rfl rfl (pi_tupK (K := K) rfl (pv 2)) (fun _ _ _ => pifs_one (pt_cmpR op_ne (pv 0) (pv 1) (nomark _))) (fun _ _ _ => (pv 0))) (pe_lst (pa_cons (pe_call G_law_contrary (hr.mono (by decide)) (by rfl) m_law_contrary k_law_contrary b_law_contrary .nil pass0 (pa_cons (pv 1) pa_nil)) pa_nil))))
      (pss_one (ps_ret (pe_tup (pa_cons (pe_call G_law_contrary (hr.mono (by decide)) (by rfl) m_law_contrary k_law_contrary b_law_contrary .nil pass0 (pa_cons (pv 1) pa_nil)) (pa_cons (pe_callTy (call_tupleK (K := K) rfl) (by rfl) T.b_tuple boot_tuple (pa_cons (pe_sortK (K := K) rfl G_law_key (hr.mono (by decide)) b_law_key (by rfl) T.b_sorted (by rfl) m_law_key (pa_cons (pv 3) pa_nil)) pa_nil)) pa_nil))))))), ?_⟩
    have hcL := letsN_isL g.let'
    refine ⟨_, rfl, p, _, rfl, .inr (SqT.of ep), rfl, _, _, rfl, _, _, rfl, rfl, ?_⟩
    refine ⟨_, rfl, q, rfl, ⟨_, SqT.of eq⟩, fun Dd hD => comp_tupIf (xs := lstC sd) (fun i H2 => Same H H2 ∧ H2 Dd = some (.lst (lstC ((sd.take i).filter fun d => decide (d ≠ c))))) ⟨Same.new hD, upd_same⟩ (fun i H2 _ h => SqT.of (h.1 _ _ eq)) ?_ ?_⟩
    · rintro i v H2 hv ⟨s2, eD⟩
      obtain ⟨d, hd, rfl⟩ := lst_get hv
      have hi : i < sd.length := (List.getElem?_eq_some_iff.mp hd).1
      refine ⟨_, rfl, _, rfl, rfl, _, rfl, ?_⟩
      rw [VS_dec]
      refine ite2 (fun z => ?_) (fun z => ?_)
      · have z' : d ≠ c := by simpa using z
        refine ⟨_, rfl, _, eD, ?_, s2.upd hD, ?_⟩
        · rw [lstC_len]
          have := List.length_filter_le (fun d => decide (d ≠ c)) (sd.take i)
          rw [List.length_take] at this
          exact small1000 (by omega)
        · rw [upd_same, take_snoc hd, List.filter_append, List.filter_cons_of_pos (by simpa using z'), List.filter_nil, lstC_snoc]
      · have z' : d = c := by simpa using z
        refine ⟨s2, ?_⟩
        rw [take_snoc hd, List.filter_append, List.filter_cons_of_neg (by simpa using z'), List.filter_nil, List.append_nil]
        exact eD
    · rintro H2 ⟨s2, eD⟩
      rw [lstC_len, List.take_length] at eD
      have hfl : (sd.filter fun d => decide (d ≠ c)).length ≤ 8 := Nat.le_trans (List.length_filter_le _ _) hl8
      have hfm : ∀ d ∈ (sd.filter fun d => decide (d ≠ c)) ++ [con c], isL d := fun d hd => by
        rcases List.mem_append.mp hd with z | z
        · exact letsN_isL (g.side d (List.mem_filter.mp z).1)
        · rw [List.mem_singleton.mp z]; exact isL_con hcL
      have hss := fun (ws : List (List Nat)) hp ho => side_sorted (ws := ws) h1 h4 g hp ho
      generalize (sd.filter fun d => decide (d ≠ c)) = F at eD hfl hfm hss
      refine ⟨_, rfl, c, rfl, hcL, fun H3 s3 => ⟨len_1000 (by simp), fun l hl => ?_⟩⟩
      have eD3 := s3 _ _ eD
      refine ⟨Dd, l, _, _, rfl, rfl, by rw [upd_ne (ne_of_none eD3 hl)]; exact eD3, upd_same, len_1000 (by rw [lstC_len]; simp; omega), fun L hL => ?_⟩
      have s4 : Same H3 (upd (upd H3 l (.lst [.str (S [con c])])) L (.lst (lstC F ++ [.str (S [con c])]))) := (Same.new hl).upd' hL
      have e4 : upd (upd H3 l (.lst [.str (S [con c])])) L (.lst (lstC F ++ [.str (S [con c])])) L = some (.lst (wds (ones' (F ++ [con c])))) := by rw [upd_same, wds_ones', lstC_snoc]
      generalize upd (upd H3 l (.lst [.str (S [con c])])) L (.lst (lstC F ++ [.str (S [con c])])) = H4 at s4 e4
      refine ⟨_, rfl, c, rfl, hcL, fun H6 s6 => ⟨_, rfl, ?_⟩⟩
      have e6 := s6 _ _ e4
      obtain ⟨l', xs', kz, Pv, el, a0, a1, a2, a3, a4, a5, a6, a7⟩ := sort_wds (K := K) (Q := fun v H'' => ∃ D ws', v = V.ref D ∧ H6 D = none ∧ Same H6 H'' ∧ H'' D = some (.lst (wds ws')) ∧ ws'.Perm (ones' (F ++ [con c])) ∧ ws'.Pairwise leW) (SqL.of e6) (by unfold ones'; rw [List.length_map, List.length_append]; show F.length + 1 < 64; omega) (fun y hy => by
        obtain ⟨d, hd, rfl⟩ := List.mem_map.mp hy
        exact ⟨one_all (hfm d hd), by simp⟩) (fun D ws' H' a b c d e => ⟨D, ws', rfl, a, b, c, d, e⟩)
      refine ⟨l', xs', kz, Pv, el, a0, a1, a2, a3, a4, a5, a6, fun S' ks H5' hP => ?_⟩
      obtain ⟨b1, b2, b3, b4⟩ := a7 S' ks H5' hP
      refine ⟨b1, b2, b3, fun pp hpp so L2 hL2 => ?_⟩
      obtain ⟨L', ws, eL, _, s7, e7, hp7, ho7⟩ := b4 pp hpp so L2 hL2
      cases eL
      generalize upd (upd H5' S' (.lst [])) L2 (.lst (pp.toList.map fun i => xs'.getD i .non)) = H7 at s7 e7
      rw [hss ws hp7 ho7, wds_ones'] at e7
      have s17 : Same H H7 := (((s2.trans s3).trans s4).trans s6).trans s7
      refine ⟨L2, _, rfl, .inl ⟨SqL.of e7, fun t ht => ⟨len_1000 (by simp), fun r hr => k r _ ((s17.upd' ht).upd' hr) ⟨t, upd_same, ?_⟩⟩⟩⟩
      rw [upd_ne (ne_of_none (upd_same (H := H7) (a := t) (o := HO.tup (lstC (sdB c sd)))) hr)]
      exact upd_same
theorem ok_law_exchange_back {f : Addr} {fd : FuncData} (D : Df K mg "_law_exchange_back" s_law_exchange_back ["_law_n", "_law_told"] f fd) (T : Txt P w K mg a_CONTRARIES a_EXCHANGE a_LETTERS a_Weave) : Cl P w K mg base "_law_exchange_back" ["_law_n", "_law_told"] 1 spExBk := by
  refine D.cl (D.F.ok sc_law_exchange_back (fun vs H Q E h => ?_) (fun cdv A outer s H vs Q E hr h => ?_))
  · obtain ⟨n, a, cs, rfl, _⟩ := h
    rfl
  · obtain ⟨n, a, cs, rfl, h1, h4, ex, ea, k⟩ := h
    refine ⟨_, (pss_cons (ps_set (i := 2) sc_law_exchange_back.nd rfl (Or.inl rfl) (pe_lst pa_nil))
      (pss_cons (ps_for PassesOwn.never rfl (pi_str (pe_slice sl_str pe_str po_none (po_some (pv 0)))) (pg_name (i := 3) sc_law_exchange_back.nd rfl (Or.inl rfl)) (pss_one (ps_if (pt_cmpR (op_inK (K := K) rfl) (pv 3) (pv 1) (by rfl)) (pss_one (ps_expr (pe_bmK (K := K) rfl PySem.F.plainAttrs_list PySem.F.slot_list_append PySem.F.type_list_append mt_append (pv 2) (pa_cons (pe_ix ix_str pe_str (pe_bmT PySem.F.slot_tuple_index PySem.F.type_tuple_index (mt_tindexK (K := K) rfl) (pv 1) (pa_cons (pv 3) pa_nil)) (fun _ _ => rfl)) pa_nil)))) (pss_one (ps_expr (pe_bmK (K := K) rfl PySem.F.plainAttrs_list PySem.F.slot_list_append PySem.F.type_list_append mt_append (pv 2) (pa_cons (pe_ix ix_str pe_str (pe_bmT PySem.F.slot_tuple_index PySem.F.type_tuple_index (mt_tindexK (K := K) rfl) (pv 1) (pa_cons (pe_bm0K (K := K) rfl PySem.F.plainAttrs_str PySem.F.slot_str_upper PySem.F.type_str_upper mt_upper (pv 3)) pa_nil)) (fun _ _ => rfl)) pa_nil)))))))
      (pss_one (ps_ret (pe_callTy (call_tupleK (K := K) rfl) (by rfl) T.b_tuple boot_tuple (pa_cons (pv 2) pa_nil)))))), ?_⟩
    have hcl := ex.len
    refine ⟨len_1000 (by simp), fun l hl => ?_⟩
    refine ⟨_, rfl, _, rfl, _, rfl, by decide +kernel, S (lowN n), ?_, ?_⟩
    · show V.str (Txt.slice (Str.ofString "abcd") none (some ((n : Nat) : Int))) = _
      rw [abcd_S, slice_to _ (by omega) (by simp; omega)]
      rfl
    have wsq : ∀ H1, Same H H1 → SqT K H1 a ((cs.map fun c => S [c]).map V.str) := fun H1 s1 => by
      rw [List.map_map]
      exact SqT.of (s1 _ _ ea)
    have ix : ∀ d ∈ cs, (cs.map fun c => S [c])[cs.idxOf d]? = some (S [d]) ∧ (∀ m, m < cs.idxOf d → (cs.map fun c => S [c])[m]? ≠ some (S [d])) ∧ cs.idxOf d < n := fun d hd => by
      have hj : cs.idxOf d < cs.length := List.idxOf_lt_length_of_mem hd
      have hd' : cs[cs.idxOf d]? = some d := by rw [List.getElem?_eq_getElem hj, List.getElem_idxOf hj]
      refine ⟨by rw [List.getElem?_map, hd']; rfl, fun m hm z => ?_, by omega⟩
      rw [List.getElem?_map] at z
      have hm' : cs[m]? = some (cs[m]'(by omega)) := List.getElem?_eq_getElem _
      rw [hm'] at z
      have e := S_inj (Option.some.inj z)
      exact (ex.apart h1 h4 (show m ≠ cs.idxOf d by omega) hm' hd').1 (by simpa using e)
    refine for_str (w := lowN n) (fun i σ H1 => ∃ v3 : Option V, σ = [some (.int (n : Nat)), some (.ref a), some (.ref l), v3] ∧ Same H H1 ∧ H1 l = some (.lst (lstC ((xB n cs).take i)))) ⟨none, rfl, Same.new hl, upd_same⟩ ?_ ?_
    · rintro i d σ H1 hd ⟨v3, rfl, s1, e1⟩
      have hm := List.mem_of_getElem? hd
      have hdL := low_isL hm
      have hdl := low_low hm
      have hi : i < n := by have := (List.getElem?_eq_some_iff.mp hd).1; rw [lowN_len h4] at this; exact this
      have hx : (xB n cs)[i]? = some (xBf cs d) := by unfold xB; rw [List.getElem?_map, hd]; rfl
      have ea1 := s1 _ _ ea
      have fin : ∀ y, y = xBf cs d → ∃ v3 : Option V, [some (V.int (n : Nat)), some (.ref a), some (.ref l), some (.str (S [d]))] = [some (.int (n : Nat)), some (.ref a), some (.ref l), v3] ∧ Same H (upd H1 l (.lst (lstC ((xB n cs).take i) ++ [.str (S [y])]))) ∧ upd H1 l (.lst (lstC ((xB n cs).take i) ++ [.str (S [y])])) l = some (.lst (lstC ((xB n cs).take (i + 1)))) := fun y ey => by
        refine ⟨_, rfl, s1.upd hl, ?_⟩
        rw [upd_same, take_snoc hx, lstC_snoc, ey]
      have sm : (lstC ((xB n cs).take i)).length < sizeLine := by rw [lstC_len, List.length_take]; exact small1000 (by omega)
      refine ⟨_, rfl, _, rfl, a, lstC cs, rfl, .inr (SqT.of ea1), rfl, lstC_flat cs, _, rfl, ?_⟩
      show if inV (.str (S [d])) (lstC cs) = true then _ else _
      rw [in_lst]
      by_cases hin : d ∈ cs
      · rw [decide_eq_true hin]
        obtain ⟨i1, i2, i3⟩ := ix d hin
        refine iteT ⟨_, rfl, .inl ⟨rfl, _, SqL.of e1⟩, _, rfl, ⟨a, _, rfl, ea1⟩, _, rfl, a, _, _, cs.idxOf d, rfl, rfl, wsq H1 s1, i1, i2, _, _, 97 + cs.idxOf d, rfl, rfl, by decide +kernel, ?_, l, _, _, rfl, rfl, e1, sm, fin _ (by unfold xBf; rw [if_pos hin])⟩
        rw [abcd_S]
        refine atI_S (by omega) ?_
        have : cs.idxOf d = 0 ∨ cs.idxOf d = 1 ∨ cs.idxOf d = 2 ∨ cs.idxOf d = 3 := by omega
        rcases this with z | z | z | z <;> rw [z] <;> rfl
      · rw [decide_eq_false hin]
        have hin2 : con d ∈ cs := (ex.has h1 h4 hm).resolve_left hin
        obtain ⟨i1, i2, i3⟩ := ix _ hin2
        refine iteF ⟨_, rfl, .inl ⟨rfl, _, SqL.of e1⟩, _, rfl, ⟨a, _, rfl, ea1⟩, _, rfl, rfl, S [d], rfl, rfl, by rw [upper_S hdL hdl]; exact short1 _, ?_⟩
        rw [upper_S hdL hdl]
        refine ⟨a, _, _, cs.idxOf (con d), rfl, rfl, wsq H1 s1, i1, i2, _, _, 65 + cs.idxOf (con d), rfl, rfl, by decide +kernel, ?_, l, _, _, rfl, rfl, e1, sm, fin _ (by unfold xBf; rw [if_neg hin])⟩
        rw [show (Str.ofString "ABCD" : Str) = S [65, 66, 67, 68] by decide +kernel]
        refine atI_S (by omega) ?_
        have : cs.idxOf (con d) = 0 ∨ cs.idxOf (con d) = 1 ∨ cs.idxOf (con d) = 2 ∨ cs.idxOf (con d) = 3 := by omega
        rcases this with z | z | z | z <;> rw [z] <;> rfl
    · rintro _ H1 ⟨v3, rfl, s1, e1⟩
      rw [lowN_len h4, List.take_of_length_le (by rw [ex.xB_len h1 h4]; exact Nat.le_refl _)] at e1
      exact ⟨_, rfl, l, _, rfl, .inl ⟨SqL.of e1, fun t ht => k t _ (s1.upd' ht) upd_same⟩⟩
theorem ok_law_step_back {f : Addr} {fd : FuncData} (D : Df K mg "_law_step_back" s_law_step_back ["_law_n", "_law_step"] f fd) (T : Txt P w K mg a_CONTRARIES a_EXCHANGE a_LETTERS a_Weave) (c_law_change_back : Cl P w K mg base "_law_change_back" ["_law_change"] 4 spChBk) (c_law_exchange_back : Cl P w K mg base "_law_exchange_back" ["_law_n", "_law_told"] 1 spExBk) : Cl P w K mg base "_law_step_back" ["_law_n", "_law_step"] 5 spStpBL := by
  obtain ⟨f_law_change_back, fd_law_change_back, G_law_change_back, m_law_change_back, k_law_change_back, b_law_change_back⟩ := c_law_change_back
  obtain ⟨f_law_exchange_back, fd_law_exchange_back, G_law_exchange_back, m_law_exchange_back, k_law_exchange_back, b_law_exchange_back⟩ := c_law_exchange_back
  refine D.cl (D.F.ok sc_law_step_back (fun vs H Q E h => ?_) (fun cdv A outer s H vs Q E hr h => ?_))
  · obtain ⟨n, v, s, rfl, _⟩ := h
    rfl
  · obtain ⟨n, v, s, rfl, h1, h4, ⟨p, q, rfl, hst⟩, ok, k⟩ := h
    refine ⟨_, (pss_cons (ps_if (pt_cmpR op_eq (pe_ix (ix_tupK (K := K) rfl) (pv 1) pe_int (fun _ _ => rfl)) pe_str (nomark _)) (pss_one (ps_ret (pe_op (op_catTK (K := K) rfl) (pe_tup (pa_cons pe_str pa_nil)) (pe_call G_law_change_back (hr.mono (by decide)) (by rfl) m_law_change_back k_law_change_back b_law_change_back .nil pass0 (pa_cons (pe_slice (sl_tupK (K := K) rfl) (pv 1) (po_some pe_int) po_none) pa_nil))))) pss_nil)
      (pss_one (ps_ret (pe_tup (pa_cons pe_str (pa_cons (pe_call G_law_exchange_back (hr.mono (by decide)) (by rfl) m_law_exchange_back k_law_exchange_back b_law_exchange_back .nil pass0 (pa_cons (pv 0) (pa_cons (pe_ix (ix_tupK (K := K) rfl) (pv 1) pe_int (fun _ _ => rfl)) pa_nil))) pa_nil)))))), ?_⟩
    cases s with
    | ch c sd =>
      obtain ⟨e1, e2⟩ := hst
      refine ⟨_, rfl, p, _, 0, _, rfl, rfl, SqT.of e1, rfl, rfl, _, rfl, ?_⟩
      rw [decide_eq_true rfl]
      refine iteT ⟨len_1000 (by simp), fun t ht => ?_⟩
      have s1 : Same H (upd H t (.tup [.str (Str.ofString "change")])) := Same.new ht
      have et : upd H t (.tup [.str (Str.ofString "change")]) t = some (.tup [.str (Str.ofString "change")]) := upd_same
      generalize upd H t (.tup [.str (Str.ofString "change")]) = H1 at s1 et
      refine ⟨_, rfl, _, rfl, p, _, rfl, SqT.of (s1 _ _ e1), (by show ¬ ((1 : Nat) = 0 ∧ (3 : Nat) = 3); decide), fun r hr => ⟨n, r, c, sd, rfl, h1, h4, ⟨q, upd_same, by rw [upd_ne (ne_of_none (s1 _ _ e2) hr)]; exact s1 _ _ e2⟩, ok.1, ok.2, fun u H2 s2 ⟨w, eu, ew⟩ => ?_⟩⟩
      have s12 : Same H1 H2 := (Same.new hr).trans s2
      refine ⟨t, u, _, _, rfl, rfl, SqT.of (s12 _ _ et), SqT.of eu, by simp, len_1000 (by simp), (fun z => by cases z), fun _ x hx => k (.ref x) _ ((s1.trans s12).upd' hx) ⟨x, w, rfl, upd_same, ?_⟩⟩
      rw [upd_ne (ne_of_none ew hx)]
      exact ew
    | ex cs =>
      obtain ⟨e1, e2⟩ := hst
      refine ⟨_, rfl, p, _, 0, _, rfl, rfl, SqT.of e1, rfl, rfl, _, rfl, ?_⟩
      rw [decide_eq_false (fun z => absurd (V.str.inj z) (by decide))]
      refine iteF ⟨_, rfl, _, rfl, p, _, 1, _, rfl, rfl, SqT.of e1, rfl, n, q, cs, rfl, h1, h4, ok, e2, fun t H1 s1 et => ⟨len_1000 (by simp), fun r hr => k (.ref r) _ (s1.upd' hr) ⟨r, t, rfl, upd_same, by rw [upd_ne (ne_of_none et hr)]; exact et⟩⟩⟩
theorem ok_law_drawn_step {f : Addr} {fd : FuncData} (D : Df K mg "_law_drawn_step" s_law_drawn_step ["_law_flow_here", "_law_n"] f fd) (T : Txt P w K mg a_CONTRARIES a_EXCHANGE a_LETTERS a_Weave) (c_law_pick : Cl P w K mg base "_law_pick" ["_law_flow_here", "_law_many"] 1 spPick) (c_law_drawn_change : Cl P w K mg base "_law_drawn_change" ["_law_flow_here", "_law_n"] 2 spDrawnB) (c_law_exchange : Cl P w K mg base "_law_exchange" ["_law_flow_here", "_law_n"] 2 spExchP) : Cl P w K mg base "_law_drawn_step" ["_law_flow_here", "_law_n"] 3 spDrStB := by
  obtain ⟨f_law_pick, fd_law_pick, G_law_pick, m_law_pick, k_law_pick, b_law_pick⟩ := c_law_pick
  obtain ⟨f_law_drawn_change, fd_law_drawn_change, G_law_drawn_change, m_law_drawn_change, k_law_drawn_change, b_law_drawn_change⟩ := c_law_drawn_change
  obtain ⟨f_law_exchange, fd_law_exchange, G_law_exchange, m_law_exchange, k_law_exchange, b_law_exchange⟩ := c_law_exchange
  refine D.cl (D.F.ok sc_law_drawn_step (fun vs H Q E h => ?_) (fun cdv A outer s H vs Q E hr h => ?_))
  · obtain ⟨fl, sc, n, rfl, _⟩ := h
    rfl
  · obtain ⟨fl, sc, n, rfl, hf, h1, h4, k⟩ := h
    refine ⟨_, (pss_cons (ps_if (pt_cmpR op_eq (pe_call G_law_pick (hr.mono (by decide)) (by rfl) m_law_pick k_law_pick b_law_pick .nil pass0 (pa_cons (pv 0) (pa_cons pe_int pa_nil))) pe_int (nomark _)) (pss_one (ps_ret (pe_tup (pa_cons pe_str (pa_cons (pe_call G_law_exchange (hr.mono (by decide)) (by rfl) m_law_exchange k_law_exchange b_law_exchange .nil pass0 (pa_cons (pv 0) (pa_cons (pv 1) pa_nil))) pa_nil))))) pss_nil)
      (pss_one (ps_ret (pe_op (op_catTK (K := K) rfl) (pe_tup (pa_cons pe_str pa_nil)) (pe_call G_law_drawn_change (hr.mono (by decide)) (by rfl) m_law_drawn_change k_law_drawn_change b_law_drawn_change .nil pass0 (pa_cons (pv 0) (pa_cons (pv 1) pa_nil))))))), ?_⟩
    refine ⟨_, rfl, fl, sc, 3, rfl, hf, by decide, by decide, fun e H1 e0 e1 f1 k1 => ⟨rfl, _, rfl, ite2 (fun q => ?_) (fun q => ?_)⟩⟩
    · refine ⟨_, rfl, _, rfl, fl, sc, n, rfl, f1, h1, h4, fun p cs H2 hp hex hrt hro ep f2 k2 => ⟨len_1000 (by simp), fun t ht => ?_⟩⟩
      have htf : t ≠ fl := f2.ne ht
      rw [wds_ones'] at ep
      exact k (.ref t) (.ex cs) _ ⟨t, p, rfl, upd_same, by rw [upd_ne (ne_of_none ep ht)]; exact ep⟩ hex (f2.upd ht) ((k1.trans k2).upd ((k1.trans k2).free ht htf))
    · refine ⟨len_1000 (by simp), fun t ht => ⟨_, rfl, _, rfl, fl, sc, n, rfl, f1.upd ht, h1, h4, fun p c sd H2 hp hg h8 ⟨q, ep, eq⟩ f2 k2 => ?_⟩⟩
      have htf : t ≠ fl := f1.ne ht
      have et := kp_tup (f1.upd ht) k2 (upd_same (H := H1) (a := t) (o := HO.tup [.str (Str.ofString "change")]))
      refine ⟨t, p, _, _, rfl, rfl, SqT.of et, SqT.of ep, by simp, len_1000 (by simp), (fun z => by cases z), fun _ r hr => ?_⟩
      have hrf : r ≠ fl := f2.ne hr
      have k12 : Kp fl H H2 := (k1.upd (k1.free ht htf)).trans k2
      exact k (.ref r) (.ch c sd) _ ⟨r, q, rfl, upd_same, by rw [upd_ne (ne_of_none eq hr)]; exact eq⟩ ⟨hg, h8⟩ (f2.upd hr) (k12.upd (k12.free hr hrf))
theorem ok_law_right {f : Addr} {fd : FuncData} (D : Df K mg "_law_right" s_law_right ["_law_n", "_law_road"] f fd) (T : Txt P w K mg a_CONTRARIES a_EXCHANGE a_LETTERS a_Weave) (c_told_then : Cl P w K mg base "told_then" ["one", "other"] 5 (spThen K)) (c_told_same : Cl P w K mg base "told_same" ["n"] 2 spFirst) (c_road_told : Cl P w K mg base "road_told" ["n", "road"] 7 spRoadTold) (c_road_back : Cl P w K mg base "road_back" ["n", "road"] 12 spRdBk) (c_law_alike : Cl P w K mg base "_law_alike" ["_law_found", "_law_due"] 4 (spLq K 3)) (c_law_step_back : Cl P w K mg base "_law_step_back" ["_law_n", "_law_step"] 5 spStpBL) : Cl P w K mg base "_law_right" ["_law_n", "_law_road"] 13 spRight32 := by
  obtain ⟨f_told_then, fd_told_then, G_told_then, m_told_then, k_told_then, b_told_then⟩ := c_told_then
  obtain ⟨f_told_same, fd_told_same, G_told_same, m_told_same, k_told_same, b_told_same⟩ := c_told_same
  obtain ⟨f_road_told, fd_road_told, G_road_told, m_road_told, k_road_told, b_road_told⟩ := c_road_told
  obtain ⟨f_road_back, fd_road_back, G_road_back, m_road_back, k_road_back, b_road_back⟩ := c_road_back
  obtain ⟨f_law_alike, fd_law_alike, G_law_alike, m_law_alike, k_law_alike, b_law_alike⟩ := c_law_alike
  obtain ⟨f_law_step_back, fd_law_step_back, G_law_step_back, m_law_step_back, k_law_step_back, b_law_step_back⟩ := c_law_step_back
  refine D.cl (D.F.ok sc_law_right (fun vs H Q E h => ?_) (fun cdv A outer s H vs Q E hr h => ?_))
  · obtain ⟨n, p, ss, rfl, _⟩ := h
    rfl
  · obtain ⟨n, p, ss, rfl, h1, h4, hR, hl6, k⟩ := h
    refine ⟨_, (pss_cons (ps_set (i := 2) sc_law_right.nd rfl (Or.inl rfl) (pe_callTy (call_tupleK (K := K) rfl) (by rfl) T.b_tuple boot_tuple (pa_cons (pe_compc (sc0 := defScope s_law_right) (N := ["_law_n", "_law_road", "_law_due", "_law_found", "_law_there", "_law_back"]) (ix := [0]) (by decide +kernel) rfl rfl rfl (pi_tupK (K := K) rfl (pe_slice3 (sl3_revT (K := K) rfl) (pv 1) po_none po_none (po_some (pe_un un_neg pe_int)))) (fun _ _ _ => pifs_nil) (fun _ _ _ => (pe_call G_law_step_back (hr.mono (by decide)) (by rfl) m_law_step_back k_law_step_back b_law_step_back .nil pass0 (pa_cons (pv 1) (pa_cons (pv 0) pa_nil))))) pa_nil)))
      (pss_cons (ps_set (i := 3) sc_law_right.nd rfl (Or.inl rfl) (pe_call G_road_back (hr.mono (by decide)) (by rfl) m_road_back k_road_back b_road_back .nil pass0 (pa_cons (pv 0) (pa_cons (pv 1) pa_nil))))
      (pss_cons (ps_if (pw_or (pt_not (pt_val (pe_call G_law_alike (hr.mono (by decide)) (by rfl) m_law_alike k_law_alike b_law_alike .nil pass0 (pa_cons (pv 3) (pa_cons (pv 2) pa_nil))))) (pw_or1 (pt_not (pt_val (pe_call G_law_alike (hr.mono (by decide)) (by rfl) m_law_alike k_law_alike b_law_alike .nil pass0 (pa_cons (pe_call G_road_back (hr.mono (by decide)) (by rfl) m_road_back k_road_back b_road_back .nil pass0 (pa_cons (pv 0) (pa_cons (pv 3) pa_nil))) (pa_cons (pv 1) pa_nil))))))).pt (pss_one (ps_ret pe_bl)) pss_nil)
      (pss_cons (ps_if (pt_cmpR op_gt (pe_callB (call_lenK (K := K) rfl) (by rfl) T.b_len PySem.boot_len (pa_cons (pv 1) pa_nil)) pe_int (nomark _)) (pss_one (ps_ret pe_bl)) pss_nil)
      (pss_cons (ps_par (i := 4) (j := 5) rfl sc_law_right.nd rfl rfl (by decide) rfl rfl (pa_cons (pe_call G_road_told (hr.mono (by decide)) (by rfl) m_road_told k_road_told b_road_told .nil pass0 (pa_cons (pv 0) (pa_cons (pv 1) pa_nil))) (pa_cons (pe_call G_road_told (hr.mono (by decide)) (by rfl) m_road_told k_road_told b_road_told .nil pass0 (pa_cons (pv 0) (pa_cons (pv 3) pa_nil))) pa_nil)) (by rfl))
      (pss_one (ps_ret (pe_and (pe_call G_law_alike (hr.mono (by decide)) (by rfl) m_law_alike k_law_alike b_law_alike .nil pass0 (pa_cons (pe_call G_told_then (hr.mono (by decide)) (by rfl) m_told_then k_told_then b_told_then .nil pass0 (pa_cons (pv 4) (pa_cons (pv 5) pa_nil))) (pa_cons (pe_call G_told_same (hr.mono (by decide)) (by rfl) m_told_same k_told_same b_told_same .nil pass0 (pa_cons (pv 0) pa_nil)) pa_nil))) (pe_one (pe_call G_law_alike (hr.mono (by decide)) (by rfl) m_law_alike k_law_alike b_law_alike .nil pass0 (pa_cons (pe_call G_told_then (hr.mono (by decide)) (by rfl) m_told_then k_told_then b_told_then .nil pass0 (pa_cons (pv 5) (pa_cons (pv 4) pa_nil))) (pa_cons (pe_call G_told_same (hr.mono (by decide)) (by rfl) m_told_same k_told_same b_told_same .nil pass0 (pa_cons (pv 0) pa_nil)) pa_nil)))))))))))), ?_⟩
    obtain ⟨⟨vs, ep, hE⟩, hok⟩ := id hR
    have hvl := hE.1
    have hsb : (ss.reverse.map (Stp.bk n)).length = ss.length := by rw [List.length_map, List.length_reverse]
    refine ⟨_, rfl, 1, rfl, _, rfl, p, vs, rfl, SqT.of ep, rfl, rfl, rfl, fun p2 hp2 => ?_⟩
    have s1 : Same H (upd H p2 (.tup vs.reverse)) := Same.new hp2
    have ep2 : upd H p2 (.tup vs.reverse) p2 = some (.tup vs.reverse) := upd_same
    generalize upd H p2 (.tup vs.reverse) = H1 at s1 ep2
    refine ⟨p2, rfl, ⟨_, SqT.of ep2⟩, fun Dd hD => comp_tupIf (xs := vs.reverse) (fun i H2 => Same H1 H2 ∧ ∃ us, H2 Dd = some (.lst us) ∧ us.length = i ∧ Each (StB H2) us ((ss.reverse.take i).map (Stp.bk n))) ⟨Same.new hD, [], upd_same, rfl, Each.nil⟩ (fun i H2 _ h => SqT.of (h.1 _ _ ep2)) ?_ ?_⟩
    · rintro i v H2 hv ⟨s2, us, eD, hul, hEu⟩
      obtain ⟨s, hs, hst⟩ := hE.rev.get hv
      have hsm : s ∈ ss := List.mem_reverse.mp (List.mem_of_getElem? hs)
      have hi : i < vs.length := by have := (List.getElem?_eq_some_iff.mp hv).1; rw [List.length_reverse] at this; exact this
      refine ⟨_, rfl, _, rfl, n, v, s, rfl, h1, h4, hst.tups (Tups.same (s1.trans s2)), hok s hsm, fun u H3 s3 hu => ⟨us, s3 _ _ eD, small1000 (by omega), (s2.trans s3).upd hD, us ++ [u], upd_same, by rw [List.length_append, hul]; rfl, ?_⟩⟩
      have tD : Tups H3 (upd H3 Dd (.lst (us ++ [u]))) := Tups.set (s3 _ _ eD)
      have et : ss.reverse.take (i + 1) = ss.reverse.take i ++ [s] := by rw [List.take_add_one, hs]; rfl
      rw [et, List.map_append]
      exact (hEu.imp fun a b x => x.tups ((Tups.same s3).trans tD)).snoc (hu.tups tD)
    · rintro H2 ⟨s2, us, eD, hul, hEu⟩
      rw [List.take_of_length_le (by rw [List.length_reverse, List.length_reverse]; omega)] at hEu
      refine ⟨Dd, _, rfl, .inl ⟨SqL.of eD, fun dq hdq => ?_⟩⟩
      have hbok : ∀ s ∈ ss.reverse.map (Stp.bk n), s.Ok n := fun s hs => by
        obtain ⟨s0, h0, rfl⟩ := List.mem_map.mp hs
        exact Stp.okB h1 h4 (hok s0 (List.mem_reverse.mp h0))
      have hDue : RdB n (upd H2 dq (.tup us)) dq (ss.reverse.map (Stp.bk n)) := ⟨⟨us, upd_same, hEu.imp fun a b x => x.tups (Tups.same (Same.new hdq))⟩, hbok⟩
      have s3 : Same H (upd H2 dq (.tup us)) := (s1.trans s2).upd' hdq
      generalize upd H2 dq (.tup us) = H3 at hDue s3
      have R3 := hR.tups (Tups.same s3)
      refine ⟨_, rfl, _, rfl, n, p, ss, rfl, h1, h4, R3, hl6, fun f H4 s4 hF => ?_⟩
      refine ⟨_, rfl, _, rfl, _, _, rfl, lq_road h4 (by rw [hsb]; omega) hF (hDue.tups (Tups.same s4)), fun H5 s5 => ⟨_, rfl, ?_⟩⟩
      have hF5 := hF.tups (Tups.same s5)
      have R5 := R3.tups (Tups.same (s4.trans s5))
      refine iteF ?_
      refine ⟨_, rfl, _, rfl, n, f, _, rfl, h1, h4, hF5, by rw [hsb]; exact hl6, fun b H6 s6 hB => ?_⟩
      have eB : (ss.reverse.map (Stp.bk n)).reverse.map (Stp.bk n) = ss := by
        rw [← List.map_reverse, List.reverse_reverse, List.map_map]
        exact (List.map_congr_left fun s hs => Stp.bkbk h1 h4 (hok s hs)).trans (List.map_id ss)
      rw [eB] at hB
      refine ⟨_, rfl, _, _, rfl, lq_road h4 (by omega) hB (R5.tups (Tups.same s6)), fun H7 s7 => ⟨_, rfl, ?_⟩⟩
      have R7 := R5.tups (Tups.same (s6.trans s7))
      have F7 := hF5.tups (Tups.same (s6.trans s7))
      have s17 := s3.trans (s4.trans (s5.trans (s6.trans s7)))
      refine iteF ?_
      refine ⟨_, rfl, p, _, rfl, .inr (SqT.of (s17 _ _ ep)), _, _, rfl, rfl, _, rfl, ite2 (fun z => ?_) (fun z => ?_)⟩
      · exact k _ s17
      have hl4 : ss.length ≤ 4 := by
        refine Classical.byContradiction fun c => z (decide_eq_true ?_)
        show ((4 : Int) : Int) < ((vs.length : Nat) : Int)
        omega
      have hgA := (invs_of h1 h4 hok).good
      have rA := road_all h1 h4 hgA.1
      have hgB : ∀ st ∈ (ss.map fun s => (s.bk n).tl n).reverse, RT st n 3 ∧ ∀ x ∈ st, OfN n x := fun st hst => hgA.2 st (List.mem_reverse.mp hst)
      have rB := road_all h1 h4 hgB
      have eR : (ss.reverse.map (Stp.bk n)).map (Stp.tl n) = (ss.map fun s => (s.bk n).tl n).reverse := by
        rw [List.map_map, List.map_reverse]; rfl
      have e1 := road_there h1 h4 (invs_of h1 h4 hok)
      have e2 := road_back' h1 h4 (invs_of h1 h4 hok)
      have pA : 3 ^ ss.length ≤ 81 := Nat.le_trans (Nat.pow_le_pow_right (by decide) hl4) (by decide)
      rw [List.length_map, Nat.one_mul] at rA
      rw [List.length_reverse, List.length_map, Nat.one_mul] at rB
      have pp : 3 ^ ss.length * 3 ^ ss.length ≤ 81 * 81 := Nat.mul_le_mul pA pA
      refine ⟨_, rfl, _, rfl, n, p, _, rfl, h1, h4, R7.road, by rw [List.length_map]; omega, fun t H8 s8 et => ?_⟩
      refine ⟨_, rfl, _, rfl, n, f, _, rfl, h1, h4, (F7.tups (Tups.same s8)).road, by rw [List.length_map, hsb]; omega, fun u H9 s9 eu => ?_⟩
      rw [eR] at eu
      refine ⟨_, _, rfl, ?_⟩
      have ll : (lowW n).length = n := (lowW_rt h1 h4).len
      refine ⟨_, rfl, _, rfl, t, u, _, _, n, _, _, rfl, SqT.of (s9 _ _ et), SqT.of eu, rA.1, rB.1, rA.2, h1, h4, by omega, by omega, by omega, fun w H10 hw s10 ew => ?_⟩
      rw [e1] at ew
      refine ⟨_, rfl, n, rfl, h1, h4, fun x H11 hx s11 ex => ⟨_, _, rfl, lq_wds (s11 _ _ ew) ex (by omega), fun H12 s12 => ⟨_, rfl, ?_⟩⟩⟩
      refine iteT ?_
      have s9c := s10.trans (s11.trans s12)
      refine ⟨_, rfl, _, rfl, u, t, _, _, n, _, _, rfl, SqT.of (s9c _ _ eu), SqT.of (s9c _ _ (s9 _ _ et)), rB.1, rA.1, rB.2, h1, h4, by omega, by omega, by omega, fun y H13 hy s13 ey => ?_⟩
      rw [e2] at ey
      refine ⟨_, rfl, n, rfl, h1, h4, fun z2 H14 hz s14 ez => ⟨_, _, rfl, lq_wds (s14 _ _ ey) ez (by omega), fun H15 s15 => ?_⟩⟩
      exact k _ (((s17.trans s8).trans s9).trans (s9c.trans (s13.trans (s14.trans s15))))
theorem ok_law {f : Addr} {fd : FuncData} (D : Df K mg "law" s_law ["_law_script"] f fd) (T : Txt P w K mg a_CONTRARIES a_EXCHANGE a_LETTERS a_Weave) (c_law_flow : Cl P w K mg base "_law_flow" ["_law_script"] 1 (spFlow K)) (c_law_pick : Cl P w K mg base "_law_pick" ["_law_flow_here", "_law_many"] 1 spPick) (c_law_drawn_change : Cl P w K mg base "_law_drawn_change" ["_law_flow_here", "_law_n"] 2 spDrawnB) (c_law_exchange : Cl P w K mg base "_law_exchange" ["_law_flow_here", "_law_n"] 2 spExchP) (c_law_drawn_step : Cl P w K mg base "_law_drawn_step" ["_law_flow_here", "_law_n"] 3 spDrStB) (c_law_right : Cl P w K mg base "_law_right" ["_law_n", "_law_road"] 13 spRight32) : FnOk P w K mg base CX0 14 f fd ["_law_script"] (spLaw K) := by
  obtain ⟨f_law_flow, fd_law_flow, G_law_flow, m_law_flow, k_law_flow, b_law_flow⟩ := c_law_flow
  obtain ⟨f_law_pick, fd_law_pick, G_law_pick, m_law_pick, k_law_pick, b_law_pick⟩ := c_law_pick
  obtain ⟨f_law_drawn_change, fd_law_drawn_change, G_law_drawn_change, m_law_drawn_change, k_law_drawn_change, b_law_drawn_change⟩ := c_law_drawn_change
  obtain ⟨f_law_exchange, fd_law_exchange, G_law_exchange, m_law_exchange, k_law_exchange, b_law_exchange⟩ := c_law_exchange
  obtain ⟨f_law_drawn_step, fd_law_drawn_step, G_law_drawn_step, m_law_drawn_step, k_law_drawn_step, b_law_drawn_step⟩ := c_law_drawn_step
  obtain ⟨f_law_right, fd_law_right, G_law_right, m_law_right, k_law_right, b_law_right⟩ := c_law_right
  refine D.F.ok sc_law (fun vs H Q E h => ?_) (fun cdv A outer s H vs Q E hr h => ?_)
  · obtain ⟨a, ns, rfl, _⟩ := h
    rfl
  · obtain ⟨a, ns, rfl, hs, hl, k⟩ := h
    refine ⟨_, (pss_cons (ps_set (i := 1) sc_law.nd rfl (Or.inr rfl) (pe_call G_law_flow (hr.mono (by decide)) (by rfl) m_law_flow k_law_flow b_law_flow .nil pass0 (pa_cons (pv 0) pa_nil)))
      (pss_cons (ps_set (i := 2) sc_law.nd rfl (Or.inr rfl) (pe_op op_add pe_int (pe_call G_law_pick (hr.mono (by decide)) (by rfl) m_law_pick k_law_pick b_law_pick .nil pass0 (pa_cons (pv 1) (pa_cons pe_int pa_nil)))))
      (pss_cons (ps_set (i := 3) sc_law.nd rfl (Or.inl rfl) (pe_lst pa_nil))
      (pss_cons (ps_for PassesOwn.never rfl (pi_range1 (by rfl) T.b_range (pa_cons pe_int pa_nil)) (pg_name (i := 4) sc_law.nd rfl (Or.inl rfl)) (pss_one (ps_expr (pe_bmK (K := K) rfl PySem.F.plainAttrs_list PySem.F.slot_list_append PySem.F.type_list_append mt_append (pv 3) (pa_cons (pe_callTy (call_tupleK (K := K) rfl) (by rfl) T.b_tuple boot_tuple (pa_cons (pe_compc (sc0 := defScope s_law) (N := ["_law_script", "_law_flow_here", "_law_n", "_law_given", "_law_k"]) (ix := [1, 2]) (by decide +kernel) rfl rfl rfl (pi_range1 (by rfl) T.b_range (pa_cons (pe_call G_law_pick (hr.mono (by decide)) (by rfl) m_law_pick k_law_pick b_law_pick .nil pass0 (pa_cons (pv 1) (pa_cons pe_int pa_nil))) pa_nil)) (fun _ _ _ => pifs_nil) (fun _ _ _ => (pe_call G_law_drawn_step (hr.mono (by decide)) (by rfl) m_law_drawn_step k_law_drawn_step b_law_drawn_step .nil pass0 (pa_cons (pv 1) (pa_cons (pv 2) pa_nil))))) pa_nil)) pa_nil)))))
      (pss_cons (ps_expr (pe_bmK (K := K) rfl PySem.F.plainAttrs_list PySem.F.slot_list_append PySem.F.type_list_append mt_append (pv 3) (pa_cons (pe_tup (pa_cons (pe_op (op_catTK (K := K) rfl) (pe_tup (pa_cons pe_str pa_nil)) (pe_call G_law_drawn_change (hr.mono (by decide)) (by rfl) m_law_drawn_change k_law_drawn_change b_law_drawn_change .nil pass0 (pa_cons (pv 1) (pa_cons (pv 2) pa_nil)))) pa_nil)) pa_nil)))
      (pss_cons (ps_expr (pe_bmK (K := K) rfl PySem.F.plainAttrs_list PySem.F.slot_list_append PySem.F.type_list_append mt_append (pv 3) (pa_cons (pe_tup (pa_cons (pe_tup (pa_cons pe_str (pa_cons (pe_call G_law_exchange (hr.mono (by decide)) (by rfl) m_law_exchange k_law_exchange b_law_exchange .nil pass0 (pa_cons (pv 1) (pa_cons (pv 2) pa_nil))) pa_nil))) pa_nil)) pa_nil)))
      (pss_one (ps_ret (pe_callB (call_allK (K := K) rfl rfl) (by rfl) T.b_all boot_all (pa_cons (pe_compc (sc0 := defScope s_law) (N := ["_law_script", "_law_flow_here", "_law_n", "_law_given", "_law_k"]) (ix := [2]) (by decide +kernel) rfl rfl rfl (pi_listK (K := K) rfl (pe_op op_cat (pe_op op_cat (pv 3) (pe_slice (sl_listK (K := K) rfl) (pv 3) po_none (po_some pe_int))) (pe_lst (pa_cons (pe_tup pa_nil) pa_nil)))) (fun _ _ _ => pifs_nil) (fun _ _ _ => (pe_call G_law_right (hr.mono (by decide)) (by rfl) m_law_right k_law_right b_law_right .nil pass0 (pa_cons (pv 1) (pa_cons (pv 0) pa_nil))))) pa_nil)))))))))), ?_⟩
    refine ⟨_, rfl, a, ns, rfl, hs, hl, fun fl sc H1 hfl s1 f1 => ?_⟩
    refine ⟨_, rfl, fl, sc, 4, rfl, f1, by decide, by decide, fun d H2 d0 d1 f2 k2 => ⟨_, _, rfl, rfl, ?_⟩⟩
    obtain ⟨n, hn⟩ : ∃ n : Nat, 1 + d = (n : Int) := ⟨(1 + d).toNat, by omega⟩
    have hd : (fun i j : Int => V.int (i + j)) 1 d = V.int (n : Nat) := by rw [← hn]
    rw [hd]
    have n1 : 1 ≤ n := by omega
    have n4 : n ≤ 4 := by omega
    refine ⟨len_1000 (by simp), fun G hG => ?_⟩
    have hGf : G ≠ fl := f2.ne hG
    have hGs : G ≠ sc := f2.ne2 hG
    refine ⟨2, rfl, by decide, by decide, for_range (lo := 0) (n := 2) (fun i σ H3 => ∃ v4 : Option V, σ = [some (.ref a), some (.ref fl), some (.int (n : Nat)), some (.ref G), v4] ∧ GivB n fl sc G i H3) ⟨none, rfl, f2.upd hG, [], rfl, (fun p hp => nomatch hp), upd_same⟩ ?_ ?_⟩
    · rintro i _ H3 hi ⟨v4, rfl, g3⟩
      obtain ⟨f3, ps, hpl, hps, eG⟩ := id g3
      refine ⟨_, rfl, .inl ⟨rfl, _, SqL.of eG⟩, _, rfl, fl, sc, 7, rfl, f3, by decide, by decide, fun e H4 e0 e1 f4 k4 => ⟨e, rfl, by omega, by omega, fun Dd hD => ?_⟩⟩
      have hDf : Dd ≠ fl := f4.ne hD
      have hDs : Dd ≠ sc := f4.ne2 hD
      have hD0 : H3 Dd = none := k4.free hD hDf
      refine comp_range (lo := 0) (n := e.toNat) (fun j H5 => IsFl H5 fl sc ∧ Kp fl H3 H5 ∧ ∃ (vs : List V) (ss : List Stp), ss.length = j ∧ Each (StB H5) vs ss ∧ (∀ s ∈ ss, s.Ok n) ∧ H5 Dd = some (.lst vs)) ⟨f4.upd hD, k4.upd hD0, [], [], rfl, Each.nil, (fun s hs => nomatch hs), upd_same⟩ ?_ ?_
      · rintro j H5 hj ⟨f5, k5, vs, ss, hsl, hE, hok, eD⟩
        have hvl := hE.1
        refine ⟨_, rfl, _, rfl, fl, sc, n, rfl, f5, n1, n4, fun v s H6 hv hs f6 k6 => ?_⟩
        have eD6 := k6 _ _ eD hDf
        have tD : Tups H6 (upd H6 Dd (.lst (vs ++ [v]))) := Tups.set eD6
        refine ⟨vs, eD6, small1000 (by omega), f6.set hDf hDs, (k5.trans k6).upd hD0, vs ++ [v], ss ++ [s], by rw [List.length_append, hsl]; rfl, (hE.imp fun a b x => (x.tups (Tups.kp f5 k6)).tups tD).snoc (hv.tups tD), fun z hz => ?_, upd_same⟩
        rcases List.mem_append.mp hz with q | q
        · exact hok z q
        · rw [List.mem_singleton.mp q]; exact hs
      · rintro H5 ⟨f5, k5, vs, ss, hsl, hE, hok, eD⟩
        refine ⟨Dd, _, rfl, .inl ⟨SqL.of eD, fun p hp => ?_⟩⟩
        have hpf : p ≠ fl := f5.ne hp
        have k6 : Kp fl H3 (upd H5 p (.tup vs)) := k5.upd (k5.free hp hpf)
        obtain ⟨xs, eX, lX, gX⟩ := g3.add (by omega) k6 (f5.upd hp) hGf hGs (q := p) (ss := ss) ⟨⟨vs, upd_same, hE.imp fun a b x => x.tups (Tups.same (Same.new hp))⟩, hok⟩ (by omega)
        exact ⟨G, _, _, rfl, rfl, eX, lX, _, rfl, gX⟩
    · rintro _ H3 ⟨v4, rfl, g3⟩
      obtain ⟨f3, ps, hpl, hps, eG⟩ := id g3
      refine ⟨_, rfl, .inl ⟨rfl, _, SqL.of eG⟩, len_1000 (by simp), fun t ht => ⟨_, rfl, _, rfl, fl, sc, n, rfl, f3.upd ht, n1, n4, fun p c sd H4 hp hg h8 ⟨q, ep, eq⟩ f4 k4 => ?_⟩⟩
      have htf : t ≠ fl := f3.ne ht
      have et := kp_tup (f3.upd ht) k4 (upd_same (H := H3) (a := t) (o := HO.tup [.str (Str.ofString "change")]))
      have k34 : Kp fl H3 H4 := ((Kp.refl fl H3).upd ht).trans k4
      refine ⟨t, p, _, _, rfl, rfl, SqT.of et, SqT.of ep, by simp, len_1000 (by simp), (fun z => by cases z), fun _ r hr => ⟨len_1000 (by simp), fun u hu => ?_⟩⟩
      have hrf : r ≠ fl := f4.ne hr
      have k5 : Kp fl H3 (upd H4 r (.tup [.str (Str.ofString "change"), .str (S [c]), .ref q])) := k34.upd (k34.free hr hrf)
      have f5 := f4.upd (o := HO.tup [.str (Str.ofString "change"), .str (S [c]), .ref q]) hr
      have er : upd H4 r (.tup [.str (Str.ofString "change"), .str (S [c]), .ref q]) r = some (.tup [.str (Str.ofString "change"), .str (S [c]), .ref q]) := upd_same
      have eq5 : upd H4 r (.tup [.str (Str.ofString "change"), .str (S [c]), .ref q]) q = some (.tup (lstC sd)) := by rw [upd_ne (ne_of_none eq hr)]; exact eq
      have hu' : upd H4 r (.tup [.str (Str.ofString "change"), .str (S [c]), .ref q]) u = none := hu
      have hst : StB (upd H4 r (.tup [.str (Str.ofString "change"), .str (S [c]), .ref q])) (.ref r) (.ch c sd) := ⟨r, q, rfl, er, eq5⟩
      have k6 := k5.upd (o := HO.tup [.ref r]) (k5.free hu' (f5.ne hu'))
      obtain ⟨xs, eX, lX, gX⟩ := g3.add (by decide) k6 (f5.upd hu') hGf hGs (rd_one hst ⟨hg, h8⟩ hu') (by simp)
      refine ⟨G, _, _, rfl, rfl, eX, lX, ?_⟩
      replace gX : GivB n fl sc G (2 + 1) (upd (upd (upd H4 r (.tup ([.str (Str.ofString "change")] ++ [.str (S [c]), .ref q]))) u (.tup [.ref r])) G (.lst (xs ++ [.ref u]))) := gX
      generalize upd (upd (upd H4 r (.tup ([.str (Str.ofString "change")] ++ [.str (S [c]), .ref q]))) u (.tup [.ref r])) G (.lst (xs ++ [.ref u])) = H7 at gX
      obtain ⟨f7, ps7, hpl7, hps7, eG7⟩ := id gX
      refine ⟨_, rfl, .inl ⟨rfl, _, SqL.of eG7⟩, _, rfl, _, rfl, fl, sc, n, rfl, f7, n1, n4, fun p8 cs H8 hp8 hex hrt hro ep8 f8 k8 => ⟨len_1000 (by simp), fun r8 hr8 => ⟨len_1000 (by simp), fun u8 hu8 => ?_⟩⟩⟩
      rw [wds_ones'] at ep8
      have hr8f : r8 ≠ fl := f8.ne hr8
      have k9 : Kp fl H7 (upd H8 r8 (.tup [.str (Str.ofString "exchange"), .ref p8])) := k8.upd (k8.free hr8 hr8f)
      have f9 := f8.upd (o := HO.tup [.str (Str.ofString "exchange"), .ref p8]) hr8
      have hst8 : StB (upd H8 r8 (.tup [.str (Str.ofString "exchange"), .ref p8])) (.ref r8) (.ex cs) := ⟨r8, p8, rfl, upd_same, by rw [upd_ne (ne_of_none ep8 hr8)]; exact ep8⟩
      have k10 := k9.upd (o := HO.tup [.ref r8]) (k9.free hu8 (f9.ne hu8))
      obtain ⟨xs9, eX9, lX9, gX9⟩ := gX.add (by decide) k10 (f9.upd hu8) hGf hGs (rd_one hst8 hex hu8) (by simp)
      refine ⟨G, _, _, rfl, rfl, eX9, lX9, ?_⟩
      generalize upd (upd (upd H8 r8 (.tup [.str (Str.ofString "exchange"), .ref p8])) u8 (.tup [.ref r8])) G (.lst (xs9 ++ [.ref u8])) = H10 at gX9
      obtain ⟨f10, qs, hql, hqs, eG10⟩ := gX9
      obtain ⟨y1, y2, y3, y4, rfl⟩ : ∃ x y z w, qs = [x, y, z, w] := by
        match qs, hql with
        | [x, y, z, w], _ => exact ⟨x, y, z, w, rfl⟩
      have eG10 : H10 G = some (.lst [.ref y1.1, .ref y2.1, .ref y3.1, .ref y4.1]) := eG10
      refine ⟨_, rfl, _, rfl, _, rfl, G, _, rfl, SqL.of eG10, fun q1 hq1 => ⟨G, q1, _, _, rfl, rfl, by rw [upd_ne (ne_of_none eG10 hq1)]; exact eG10, upd_same, len_1000 (by show 5 ≤ 100000; decide), fun L hL => ⟨len_1000 (by simp), fun e he => ⟨len_1000 (by simp), fun l2 hl2 => ?_⟩⟩⟩⟩
      have s11 : Same H10 (upd (upd H10 q1 (.lst (cutV [.ref y1.1, .ref y2.1, .ref y3.1, .ref y4.1] none (some 1)))) L (.lst ([.ref y1.1, .ref y2.1, .ref y3.1, .ref y4.1] ++ cutV [.ref y1.1, .ref y2.1, .ref y3.1, .ref y4.1] none (some 1)))) := (Same.new hq1).upd' hL
      have eL : upd (upd H10 q1 (.lst (cutV [.ref y1.1, .ref y2.1, .ref y3.1, .ref y4.1] none (some 1)))) L (.lst ([.ref y1.1, .ref y2.1, .ref y3.1, .ref y4.1] ++ cutV [.ref y1.1, .ref y2.1, .ref y3.1, .ref y4.1] none (some 1))) L = some (.lst [.ref y1.1, .ref y2.1, .ref y3.1, .ref y4.1, .ref y1.1]) := upd_same
      generalize upd (upd H10 q1 (.lst (cutV [.ref y1.1, .ref y2.1, .ref y3.1, .ref y4.1] none (some 1)))) L (.lst ([.ref y1.1, .ref y2.1, .ref y3.1, .ref y4.1] ++ cutV [.ref y1.1, .ref y2.1, .ref y3.1, .ref y4.1] none (some 1))) = H11 at s11 eL he hl2
      have s12 : Same H11 (upd H11 e (.tup [])) := Same.new he
      have ee : upd H11 e (.tup []) e = some (.tup []) := upd_same
      generalize upd H11 e (.tup []) = H12 at s12 ee hl2
      have s13 : Same H12 (upd H12 l2 (.lst [.ref e])) := Same.new hl2
      refine ⟨L, l2, _, _, rfl, rfl, s13 _ _ (s12 _ _ eL), upd_same, len_1000 (by show 6 ≤ 100000; decide), fun M hM => ?_⟩
      have s14 : Same H10 (upd (upd H12 l2 (.lst [.ref e])) M (.lst ([.ref y1.1, .ref y2.1, .ref y3.1, .ref y4.1, .ref y1.1] ++ [.ref e]))) := ((s11.trans s12).trans s13).upd' hM
      have eM : upd (upd H12 l2 (.lst [.ref e])) M (.lst ([.ref y1.1, .ref y2.1, .ref y3.1, .ref y4.1, .ref y1.1] ++ [.ref e])) M = some (.lst [.ref y1.1, .ref y2.1, .ref y3.1, .ref y4.1, .ref y1.1, .ref e]) := upd_same
      have ee14 : upd (upd H12 l2 (.lst [.ref e])) M (.lst ([.ref y1.1, .ref y2.1, .ref y3.1, .ref y4.1, .ref y1.1] ++ [.ref e])) e = some (.tup []) := (s13.upd' hM) _ _ ee
      generalize upd (upd H12 l2 (.lst [.ref e])) M (.lst ([.ref y1.1, .ref y2.1, .ref y3.1, .ref y4.1, .ref y1.1] ++ [.ref e])) = H14 at s14 eM ee14
      refine ⟨M, rfl, ⟨_, SqL.of eM⟩, fun Dd hD => ?_⟩
      refine comp_listIf (xs := [.ref y1.1, .ref y2.1, .ref y3.1, .ref y4.1, .ref y1.1, .ref e]) (fun i H15 => Same H14 H15 ∧ H15 Dd = some (.lst ((List.replicate i true).map V.bl))) ⟨Same.new hD, upd_same⟩ (fun i H15 _ h => SqL.of (h.1 _ _ eM)) ?_ ?_
      · rintro i v H15 hv ⟨s15, e15⟩
        have hi : i < 6 := (List.getElem?_eq_some_iff.mp hv).1
        obtain ⟨y, ss, rfl, hy, hy6⟩ : ∃ y ss, v = .ref y ∧ RdB n H15 y ss ∧ ss.length ≤ 6 := by
          have t15 : Tups H10 H15 := Tups.same (s14.trans s15)
          have := List.mem_of_getElem? hv
          simp only [List.mem_cons, List.not_mem_nil, or_false] at this
          have old : ∀ y ∈ [y1, y2, y3, y4], ∃ z ss, V.ref y.1 = .ref z ∧ RdB n H15 z ss ∧ ss.length ≤ 6 := fun y hy => by
            obtain ⟨a, b⟩ := hqs y hy
            exact ⟨_, _, rfl, a.tups t15, b⟩
          rcases this with z | z | z | z | z | z
          · rw [z]; exact old y1 (by simp)
          · rw [z]; exact old y2 (by simp)
          · rw [z]; exact old y3 (by simp)
          · rw [z]; exact old y4 (by simp)
          · rw [z]; exact old y1 (by simp)
          · exact ⟨e, [], z, ⟨⟨[], s15 _ _ ee14, Each.nil⟩, fun s hs => nomatch hs⟩, by decide⟩
        refine ⟨_, rfl, _, rfl, n, y, ss, rfl, n1, n4, hy, hy6, fun H16 s16 => ⟨_, s16 _ _ e15, ?_, (s15.trans s16).upd hD, ?_⟩⟩
        · rw [List.length_map, List.length_replicate]; exact small1000 (by omega)
        · rw [upd_same, List.replicate_succ', List.map_append]; rfl
      · rintro H15 ⟨s15, e15⟩
        refine ⟨Dd, _, rfl, SqL.of e15, ?_⟩
        exact k H15
end
theorem all_mk {l : PySem.W.OpenLaw} {w : World} {K : PySem.W.Frag} {h : Heap} {mg : Str → Option Value} {fa : Addr} (X : K.In h) (G : h.Ns mainGlobals mg) (hfa : mg "law" = some (.ref fa))
    {f_0 f_1 f_2 f_3 f_4 f_5 f_6 f_7 f_8 f_9 f_10 f_11 f_12 f_13 f_14 f_15 f_16 f_17 f_18 f_19 f_20 f_21 f_22 f_23 f_24 f_25 f_26 f_27 f_28 f_29 f_30 f_31 f_32 f_33 f_34 f_35 f_36 f_37 f_38 f_39 f_40 f_41 f_42 f_43 f_44 f_45 a_CONTRARIES a_EXCHANGE a_LETTERS a_Weave : Addr}
    {od_0 an_0 od_1 an_1 od_2 an_2 od_3 an_3 od_4 an_4 od_5 an_5 od_6 an_6 od_7 an_7 od_8 an_8 od_9 an_9 od_10 an_10 od_11 an_11 od_12 an_12 od_13 an_13 od_14 an_14 od_15 an_15 od_16 an_16 od_17 an_17 od_18 an_18 od_19 an_19 od_20 an_20 od_21 an_21 od_22 an_22 od_23 an_23 od_24 an_24 od_25 an_25 od_26 an_26 od_27 an_27 od_28 an_28 od_29 an_29 od_30 an_30 od_31 an_31 od_32 an_32 od_33 an_33 od_34 an_34 od_35 an_35 od_36 an_36 od_37 an_37 od_38 an_38 od_39 an_39 od_40 an_40 od_41 an_41 od_42 an_42 od_43 an_43 od_44 an_44 od_45 an_45 : Option Addr} {sl_0 sl_1 sl_2 sl_3 sl_4 sl_5 sl_6 sl_7 sl_8 sl_9 sl_10 sl_11 sl_12 sl_13 sl_14 sl_15 sl_16 sl_17 sl_18 sl_19 sl_20 sl_21 sl_22 sl_23 sl_24 sl_25 sl_26 sl_27 sl_28 sl_29 sl_30 sl_31 sl_32 sl_33 sl_34 sl_35 sl_36 sl_37 sl_38 sl_39 sl_40 sl_41 sl_42 sl_43 sl_44 sl_45 : Array (Option Value)} {oc_0 kV_0 dc_0 pm_0 cd_0 ct_0 oc_1 kV_1 dc_1 pm_1 cd_1 ct_1 oc_2 kV_2 dc_2 pm_2 cd_2 ct_2 oc_3 kV_3 dc_3 pm_3 cd_3 ct_3 oc_4 kV_4 dc_4 pm_4 cd_4 ct_4 oc_5 kV_5 dc_5 pm_5 cd_5 ct_5 oc_6 kV_6 dc_6 pm_6 cd_6 ct_6 oc_7 kV_7 dc_7 pm_7 cd_7 ct_7 oc_8 kV_8 dc_8 pm_8 cd_8 ct_8 oc_9 kV_9 dc_9 pm_9 cd_9 ct_9 oc_10 kV_10 dc_10 pm_10 cd_10 ct_10 oc_11 kV_11 dc_11 pm_11 cd_11 ct_11 oc_12 kV_12 dc_12 pm_12 cd_12 ct_12 oc_13 kV_13 dc_13 pm_13 cd_13 ct_13 oc_14 kV_14 dc_14 pm_14 cd_14 ct_14 oc_15 kV_15 dc_15 pm_15 cd_15 ct_15 oc_16 kV_16 dc_16 pm_16 cd_16 ct_16 oc_17 kV_17 dc_17 pm_17 cd_17 ct_17 oc_18 kV_18 dc_18 pm_18 cd_18 ct_18 oc_19 kV_19 dc_19 pm_19 cd_19 ct_19 oc_20 kV_20 dc_20 pm_20 cd_20 ct_20 oc_21 kV_21 dc_21 pm_21 cd_21 ct_21 oc_22 kV_22 dc_22 pm_22 cd_22 ct_22 oc_23 kV_23 dc_23 pm_23 cd_23 ct_23 oc_24 kV_24 dc_24 pm_24 cd_24 ct_24 oc_25 kV_25 dc_25 pm_25 cd_25 ct_25 oc_26 kV_26 dc_26 pm_26 cd_26 ct_26 oc_27 kV_27 dc_27 pm_27 cd_27 ct_27 oc_28 kV_28 dc_28 pm_28 cd_28 ct_28 oc_29 kV_29 dc_29 pm_29 cd_29 ct_29 oc_30 kV_30 dc_30 pm_30 cd_30 ct_30 oc_31 kV_31 dc_31 pm_31 cd_31 ct_31 oc_32 kV_32 dc_32 pm_32 cd_32 ct_32 oc_33 kV_33 dc_33 pm_33 cd_33 ct_33 oc_34 kV_34 dc_34 pm_34 cd_34 ct_34 oc_35 kV_35 dc_35 pm_35 cd_35 ct_35 oc_36 kV_36 dc_36 pm_36 cd_36 ct_36 oc_37 kV_37 dc_37 pm_37 cd_37 ct_37 oc_38 kV_38 dc_38 pm_38 cd_38 ct_38 oc_39 kV_39 dc_39 pm_39 cd_39 ct_39 oc_40 kV_40 dc_40 pm_40 cd_40 ct_40 oc_41 kV_41 dc_41 pm_41 cd_41 ct_41 oc_42 kV_42 dc_42 pm_42 cd_42 ct_42 oc_43 kV_43 dc_43 pm_43 cd_43 ct_43 oc_44 kV_44 dc_44 pm_44 cd_44 ct_44 oc_45 kV_45 dc_45 pm_45 cd_45 ct_45 : Value}
    (na_0 : PySem.W.nsIn K mainGlobals "letters_of" = some (some (.ref f_0))) (nl_0 : K.lookup f_0 = some ⟨oc_0, od_0, .func (fnX "letters_of" s_letters_of kV_0 dc_0 pm_0 an_0 cd_0 ct_0), sl_0⟩) (nc_0 : PySem.W.codeIn K cd_0 "letters_of" = true) (nk_0 : PySem.W.keepIn K (.ref f_0) = true)
    (na_1 : PySem.W.nsIn K mainGlobals "first_letters" = some (some (.ref f_1))) (nl_1 : K.lookup f_1 = some ⟨oc_1, od_1, .func (fnX "first_letters" s_first_letters kV_1 dc_1 pm_1 an_1 cd_1 ct_1), sl_1⟩) (nc_1 : PySem.W.codeIn K cd_1 "first_letters" = true) (nk_1 : PySem.W.keepIn K (.ref f_1) = true)
    (na_2 : PySem.W.nsIn K mainGlobals "contrary" = some (some (.ref f_2))) (nl_2 : K.lookup f_2 = some ⟨oc_2, od_2, .func (fnX "contrary" s_contrary kV_2 dc_2 pm_2 an_2 cd_2 ct_2), sl_2⟩) (nc_2 : PySem.W.codeIn K cd_2 "contrary" = true) (nk_2 : PySem.W.keepIn K (.ref f_2) = true)
    (na_3 : PySem.W.nsIn K mainGlobals "laid_out" = some (some (.ref f_3))) (nl_3 : K.lookup f_3 = some ⟨oc_3, od_3, .func (fnX "laid_out" s_laid_out kV_3 dc_3 pm_3 an_3 cd_3 ct_3), sl_3⟩) (nc_3 : PySem.W.codeIn K cd_3 "laid_out" = true) (nk_3 : PySem.W.keepIn K (.ref f_3) = true)
    (na_4 : PySem.W.nsIn K mainGlobals "turned_back" = some (some (.ref f_4))) (nl_4 : K.lookup f_4 = some ⟨oc_4, od_4, .func (fnX "turned_back" s_turned_back kV_4 dc_4 pm_4 an_4 cd_4 ct_4), sl_4⟩) (nc_4 : PySem.W.codeIn K cd_4 "turned_back" = true) (nk_4 : PySem.W.keepIn K (.ref f_4) = true)
    (na_5 : PySem.W.nsIn K mainGlobals "joined" = some (some (.ref f_5))) (nl_5 : K.lookup f_5 = some ⟨oc_5, od_5, .func (fnX "joined" s_joined kV_5 dc_5 pm_5 an_5 cd_5 ct_5), sl_5⟩) (nc_5 : PySem.W.codeIn K cd_5 "joined" = true) (nk_5 : PySem.W.keepIn K (.ref f_5) = true)
    (na_6 : PySem.W.findIn K (.ref a_Weave) "__init__" = some (some (.ref f_6))) (nf_6 : PySem.W.isFn K (.ref f_6) = true) (nl_6 : K.lookup f_6 = some ⟨oc_6, od_6, .func (PySem.W.fnOf "__init__" "Weave.__init__" (defArgs s_Weave___init__) (defBody s_Weave___init__) (defScope s_Weave___init__) .none kV_6 dc_6 pm_6 an_6 cd_6 ct_6), sl_6⟩) (nc_6 : PySem.W.codeIn K cd_6 "Weave.__init__" = true) (nk_6 : PySem.W.keepIn K (.ref f_6) = true)
    (na_7 : PySem.W.findIn K (.ref a_Weave) "end_of" = some (some (.ref f_7))) (nf_7 : PySem.W.isFn K (.ref f_7) = true) (nl_7 : K.lookup f_7 = some ⟨oc_7, od_7, .func (PySem.W.fnOf "end_of" "Weave.end_of" (defArgs s_Weave_end_of) (defBody s_Weave_end_of) (defScope s_Weave_end_of) .none kV_7 dc_7 pm_7 an_7 cd_7 ct_7), sl_7⟩) (nc_7 : PySem.W.codeIn K cd_7 "Weave.end_of" = true) (nk_7 : PySem.W.keepIn K (.ref f_7) = true)
    (na_8 : PySem.W.findIn K (.ref a_Weave) "head_of" = some (some (.ref f_8))) (nf_8 : PySem.W.isFn K (.ref f_8) = true) (nl_8 : K.lookup f_8 = some ⟨oc_8, od_8, .func (PySem.W.fnOf "head_of" "Weave.head_of" (defArgs s_Weave_head_of) (defBody s_Weave_head_of) (defScope s_Weave_head_of) .none kV_8 dc_8 pm_8 an_8 cd_8 ct_8), sl_8⟩) (nc_8 : PySem.W.codeIn K cd_8 "Weave.head_of" = true) (nk_8 : PySem.W.keepIn K (.ref f_8) = true)
    (na_9 : PySem.W.findIn K (.ref a_Weave) "goal_of" = some (some (.ref f_9))) (nf_9 : PySem.W.isFn K (.ref f_9) = true) (nl_9 : K.lookup f_9 = some ⟨oc_9, od_9, .func (PySem.W.fnOf "goal_of" "Weave.goal_of" (defArgs s_Weave_goal_of) (defBody s_Weave_goal_of) (defScope s_Weave_goal_of) .none kV_9 dc_9 pm_9 an_9 cd_9 ct_9), sl_9⟩) (nc_9 : PySem.W.codeIn K cd_9 "Weave.goal_of" = true) (nk_9 : PySem.W.keepIn K (.ref f_9) = true)
    (na_10 : PySem.W.findIn K (.ref a_Weave) "new_place" = some (some (.ref f_10))) (nf_10 : PySem.W.isFn K (.ref f_10) = true) (nl_10 : K.lookup f_10 = some ⟨oc_10, od_10, .func (PySem.W.fnOf "new_place" "Weave.new_place" (defArgs s_Weave_new_place) (defBody s_Weave_new_place) (defScope s_Weave_new_place) .none kV_10 dc_10 pm_10 an_10 cd_10 ct_10), sl_10⟩) (nc_10 : PySem.W.codeIn K cd_10 "Weave.new_place" = true) (nk_10 : PySem.W.keepIn K (.ref f_10) = true)
    (na_11 : PySem.W.findIn K (.ref a_Weave) "lay_way" = some (some (.ref f_11))) (nf_11 : PySem.W.isFn K (.ref f_11) = true) (nl_11 : K.lookup f_11 = some ⟨oc_11, od_11, .func (PySem.W.fnOf "lay_way" "Weave.lay_way" (defArgs s_Weave_lay_way) (defBody s_Weave_lay_way) (defScope s_Weave_lay_way) .none kV_11 dc_11 pm_11 an_11 cd_11 ct_11), sl_11⟩) (nc_11 : PySem.W.codeIn K cd_11 "Weave.lay_way" = true) (nk_11 : PySem.W.keepIn K (.ref f_11) = true)
    (na_12 : PySem.W.findIn K (.ref a_Weave) "lay_word" = some (some (.ref f_12))) (nf_12 : PySem.W.isFn K (.ref f_12) = true) (nl_12 : K.lookup f_12 = some ⟨oc_12, od_12, .func (PySem.W.fnOf "lay_word" "Weave.lay_word" (defArgs s_Weave_lay_word) (defBody s_Weave_lay_word) (defScope s_Weave_lay_word) .none kV_12 dc_12 pm_12 an_12 cd_12 ct_12), sl_12⟩) (nc_12 : PySem.W.codeIn K cd_12 "Weave.lay_word" = true) (nk_12 : PySem.W.keepIn K (.ref f_12) = true)
    (na_13 : PySem.W.findIn K (.ref a_Weave) "put_under" = some (some (.ref f_13))) (nf_13 : PySem.W.isFn K (.ref f_13) = true) (nl_13 : K.lookup f_13 = some ⟨oc_13, od_13, .func (PySem.W.fnOf "put_under" "Weave.put_under" (defArgs s_Weave_put_under) (defBody s_Weave_put_under) (defScope s_Weave_put_under) .none kV_13 dc_13 pm_13 an_13 cd_13 ct_13), sl_13⟩) (nc_13 : PySem.W.codeIn K cd_13 "Weave.put_under" = true) (nk_13 : PySem.W.keepIn K (.ref f_13) = true)
    (na_14 : PySem.W.findIn K (.ref a_Weave) "fold" = some (some (.ref f_14))) (nf_14 : PySem.W.isFn K (.ref f_14) = true) (nl_14 : K.lookup f_14 = some ⟨oc_14, od_14, .func (PySem.W.fnOf "fold" "Weave.fold" (defArgs s_Weave_fold) (defBody s_Weave_fold) (defScope s_Weave_fold) .none kV_14 dc_14 pm_14 an_14 cd_14 ct_14), sl_14⟩) (nc_14 : PySem.W.codeIn K cd_14 "Weave.fold" = true) (nk_14 : PySem.W.keepIn K (.ref f_14) = true)
    (na_15 : PySem.W.findIn K (.ref a_Weave) "round_told" = some (some (.ref f_15))) (nf_15 : PySem.W.isFn K (.ref f_15) = true) (nl_15 : K.lookup f_15 = some ⟨oc_15, od_15, .func (PySem.W.fnOf "round_told" "Weave.round_told" (defArgs s_Weave_round_told) (defBody s_Weave_round_told) (defScope s_Weave_round_told) .none kV_15 dc_15 pm_15 an_15 cd_15 ct_15), sl_15⟩) (nc_15 : PySem.W.codeIn K cd_15 "Weave.round_told" = true) (nk_15 : PySem.W.keepIn K (.ref f_15) = true)
    (na_16 : PySem.W.nsIn K mainGlobals "numbers_of_heads" = some (some (.ref f_16))) (nl_16 : K.lookup f_16 = some ⟨oc_16, od_16, .func (fnX "numbers_of_heads" s_numbers_of_heads kV_16 dc_16 pm_16 an_16 cd_16 ct_16), sl_16⟩) (nc_16 : PySem.W.codeIn K cd_16 "numbers_of_heads" = true) (nk_16 : PySem.W.keepIn K (.ref f_16) = true)
    (na_17 : PySem.W.nsIn K mainGlobals "place_told" = some (some (.ref f_17))) (nl_17 : K.lookup f_17 = some ⟨oc_17, od_17, .func (fnX "place_told" s_place_told kV_17 dc_17 pm_17 an_17 cd_17 ct_17), sl_17⟩) (nc_17 : PySem.W.codeIn K cd_17 "place_told" = true) (nk_17 : PySem.W.keepIn K (.ref f_17) = true)
    (na_18 : PySem.W.nsIn K mainGlobals "web_of" = some (some (.ref f_18))) (nl_18 : K.lookup f_18 = some ⟨oc_18, od_18, .func (fnX "web_of" s_web_of kV_18 dc_18 pm_18 an_18 cd_18 ct_18), sl_18⟩) (nc_18 : PySem.W.codeIn K cd_18 "web_of" = true) (nk_18 : PySem.W.keepIn K (.ref f_18) = true)
    (na_19 : PySem.W.nsIn K mainGlobals "look_alphabet" = some (some (.ref f_19))) (nl_19 : K.lookup f_19 = some ⟨oc_19, od_19, .func (fnX "look_alphabet" s_look_alphabet kV_19 dc_19 pm_19 an_19 cd_19 ct_19), sl_19⟩) (nc_19 : PySem.W.codeIn K cd_19 "look_alphabet" = true) (nk_19 : PySem.W.keepIn K (.ref f_19) = true)
    (na_20 : PySem.W.nsIn K mainGlobals "leading_back" = some (some (.ref f_20))) (nl_20 : K.lookup f_20 = some ⟨oc_20, od_20, .func (fnX "leading_back" s_leading_back kV_20 dc_20 pm_20 an_20 cd_20 ct_20), sl_20⟩) (nc_20 : PySem.W.codeIn K cd_20 "leading_back" = true) (nk_20 : PySem.W.keepIn K (.ref f_20) = true)
    (na_21 : PySem.W.nsIn K mainGlobals "words_by_letter" = some (some (.ref f_21))) (nl_21 : K.lookup f_21 = some ⟨oc_21, od_21, .func (fnX "words_by_letter" s_words_by_letter kV_21 dc_21 pm_21 an_21 cd_21 ct_21), sl_21⟩) (nc_21 : PySem.W.codeIn K cd_21 "words_by_letter" = true) (nk_21 : PySem.W.keepIn K (.ref f_21) = true)
    (na_22 : PySem.W.nsIn K mainGlobals "retold" = some (some (.ref f_22))) (nl_22 : K.lookup f_22 = some ⟨oc_22, od_22, .func (fnX "retold" s_retold kV_22 dc_22 pm_22 an_22 cd_22 ct_22), sl_22⟩) (nc_22 : PySem.W.codeIn K cd_22 "retold" = true) (nk_22 : PySem.W.keepIn K (.ref f_22) = true)
    (na_23 : PySem.W.nsIn K mainGlobals "told_then" = some (some (.ref f_23))) (nl_23 : K.lookup f_23 = some ⟨oc_23, od_23, .func (fnX "told_then" s_told_then kV_23 dc_23 pm_23 an_23 cd_23 ct_23), sl_23⟩) (nc_23 : PySem.W.codeIn K cd_23 "told_then" = true) (nk_23 : PySem.W.keepIn K (.ref f_23) = true)
    (na_24 : PySem.W.nsIn K mainGlobals "told_same" = some (some (.ref f_24))) (nl_24 : K.lookup f_24 = some ⟨oc_24, od_24, .func (fnX "told_same" s_told_same kV_24 dc_24 pm_24 an_24 cd_24 ct_24), sl_24⟩) (nc_24 : PySem.W.codeIn K cd_24 "told_same" = true) (nk_24 : PySem.W.keepIn K (.ref f_24) = true)
    (na_25 : PySem.W.nsIn K mainGlobals "letter_changed" = some (some (.ref f_25))) (nl_25 : K.lookup f_25 = some ⟨oc_25, od_25, .func (fnX "letter_changed" s_letter_changed kV_25 dc_25 pm_25 an_25 cd_25 ct_25), sl_25⟩) (nc_25 : PySem.W.codeIn K cd_25 "letter_changed" = true) (nk_25 : PySem.W.keepIn K (.ref f_25) = true)
    (na_26 : PySem.W.nsIn K mainGlobals "change_told" = some (some (.ref f_26))) (nl_26 : K.lookup f_26 = some ⟨oc_26, od_26, .func (fnX "change_told" s_change_told kV_26 dc_26 pm_26 an_26 cd_26 ct_26), sl_26⟩) (nc_26 : PySem.W.codeIn K cd_26 "change_told" = true) (nk_26 : PySem.W.keepIn K (.ref f_26) = true)
    (na_27 : PySem.W.nsIn K mainGlobals "step_told" = some (some (.ref f_27))) (nl_27 : K.lookup f_27 = some ⟨oc_27, od_27, .func (fnX "step_told" s_step_told kV_27 dc_27 pm_27 an_27 cd_27 ct_27), sl_27⟩) (nc_27 : PySem.W.codeIn K cd_27 "step_told" = true) (nk_27 : PySem.W.keepIn K (.ref f_27) = true)
    (na_28 : PySem.W.nsIn K mainGlobals "words_along" = some (some (.ref f_28))) (nl_28 : K.lookup f_28 = some ⟨oc_28, od_28, .func (fnX "words_along" s_words_along kV_28 dc_28 pm_28 an_28 cd_28 ct_28), sl_28⟩) (nc_28 : PySem.W.codeIn K cd_28 "words_along" = true) (nk_28 : PySem.W.keepIn K (.ref f_28) = true)
    (na_29 : PySem.W.nsIn K mainGlobals "road_told" = some (some (.ref f_29))) (nl_29 : K.lookup f_29 = some ⟨oc_29, od_29, .func (fnX "road_told" s_road_told kV_29 dc_29 pm_29 an_29 cd_29 ct_29), sl_29⟩) (nc_29 : PySem.W.codeIn K cd_29 "road_told" = true) (nk_29 : PySem.W.keepIn K (.ref f_29) = true)
    (na_30 : PySem.W.nsIn K mainGlobals "step_back" = some (some (.ref f_30))) (nl_30 : K.lookup f_30 = some ⟨oc_30, od_30, .func (fnX "step_back" s_step_back kV_30 dc_30 pm_30 an_30 cd_30 ct_30), sl_30⟩) (nc_30 : PySem.W.codeIn K cd_30 "step_back" = true) (nk_30 : PySem.W.keepIn K (.ref f_30) = true)
    (na_31 : PySem.W.nsIn K mainGlobals "road_back" = some (some (.ref f_31))) (nl_31 : K.lookup f_31 = some ⟨oc_31, od_31, .func (fnX "road_back" s_road_back kV_31 dc_31 pm_31 an_31 cd_31 ct_31), sl_31⟩) (nc_31 : PySem.W.codeIn K cd_31 "road_back" = true) (nk_31 : PySem.W.keepIn K (.ref f_31) = true)
    (na_32 : PySem.W.nsIn K mainGlobals "_law_flow" = some (some (.ref f_32))) (nl_32 : K.lookup f_32 = some ⟨oc_32, od_32, .func (fnX "_law_flow" s_law_flow kV_32 dc_32 pm_32 an_32 cd_32 ct_32), sl_32⟩) (nc_32 : PySem.W.codeIn K cd_32 "_law_flow" = true) (nk_32 : PySem.W.keepIn K (.ref f_32) = true)
    (na_33 : PySem.W.nsIn K mainGlobals "_law_pick" = some (some (.ref f_33))) (nl_33 : K.lookup f_33 = some ⟨oc_33, od_33, .func (fnX "_law_pick" s_law_pick kV_33 dc_33 pm_33 an_33 cd_33 ct_33), sl_33⟩) (nc_33 : PySem.W.codeIn K cd_33 "_law_pick" = true) (nk_33 : PySem.W.keepIn K (.ref f_33) = true)
    (na_34 : PySem.W.nsIn K mainGlobals "_law_alike" = some (some (.ref f_34))) (nl_34 : K.lookup f_34 = some ⟨oc_34, od_34, .func (fnX "_law_alike" s_law_alike kV_34 dc_34 pm_34 an_34 cd_34 ct_34), sl_34⟩) (nc_34 : PySem.W.codeIn K cd_34 "_law_alike" = true) (nk_34 : PySem.W.keepIn K (.ref f_34) = true)
    (na_35 : PySem.W.nsIn K mainGlobals "_law_letters" = some (some (.ref f_35))) (nl_35 : K.lookup f_35 = some ⟨oc_35, od_35, .func (fnX "_law_letters" s_law_letters kV_35 dc_35 pm_35 an_35 cd_35 ct_35), sl_35⟩) (nc_35 : PySem.W.codeIn K cd_35 "_law_letters" = true) (nk_35 : PySem.W.keepIn K (.ref f_35) = true)
    (na_36 : PySem.W.nsIn K mainGlobals "_law_contrary" = some (some (.ref f_36))) (nl_36 : K.lookup f_36 = some ⟨oc_36, od_36, .func (fnX "_law_contrary" s_law_contrary kV_36 dc_36 pm_36 an_36 cd_36 ct_36), sl_36⟩) (nc_36 : PySem.W.codeIn K cd_36 "_law_contrary" = true) (nk_36 : PySem.W.keepIn K (.ref f_36) = true)
    (na_37 : PySem.W.nsIn K mainGlobals "_law_key" = some (some (.ref f_37))) (nl_37 : K.lookup f_37 = some ⟨oc_37, od_37, .func (fnX "_law_key" s_law_key kV_37 dc_37 pm_37 an_37 cd_37 ct_37), sl_37⟩) (nc_37 : PySem.W.codeIn K cd_37 "_law_key" = true) (nk_37 : PySem.W.keepIn K (.ref f_37) = true)
    (na_38 : PySem.W.nsIn K mainGlobals "_law_drawn_change" = some (some (.ref f_38))) (nl_38 : K.lookup f_38 = some ⟨oc_38, od_38, .func (fnX "_law_drawn_change" s_law_drawn_change kV_38 dc_38 pm_38 an_38 cd_38 ct_38), sl_38⟩) (nc_38 : PySem.W.codeIn K cd_38 "_law_drawn_change" = true) (nk_38 : PySem.W.keepIn K (.ref f_38) = true)
    (na_39 : PySem.W.nsIn K mainGlobals "_law_change_back" = some (some (.ref f_39))) (nl_39 : K.lookup f_39 = some ⟨oc_39, od_39, .func (fnX "_law_change_back" s_law_change_back kV_39 dc_39 pm_39 an_39 cd_39 ct_39), sl_39⟩) (nc_39 : PySem.W.codeIn K cd_39 "_law_change_back" = true) (nk_39 : PySem.W.keepIn K (.ref f_39) = true)
    (na_40 : PySem.W.nsIn K mainGlobals "_law_exchange" = some (some (.ref f_40))) (nl_40 : K.lookup f_40 = some ⟨oc_40, od_40, .func (fnX "_law_exchange" s_law_exchange kV_40 dc_40 pm_40 an_40 cd_40 ct_40), sl_40⟩) (nc_40 : PySem.W.codeIn K cd_40 "_law_exchange" = true) (nk_40 : PySem.W.keepIn K (.ref f_40) = true)
    (na_41 : PySem.W.nsIn K mainGlobals "_law_drawn_step" = some (some (.ref f_41))) (nl_41 : K.lookup f_41 = some ⟨oc_41, od_41, .func (fnX "_law_drawn_step" s_law_drawn_step kV_41 dc_41 pm_41 an_41 cd_41 ct_41), sl_41⟩) (nc_41 : PySem.W.codeIn K cd_41 "_law_drawn_step" = true) (nk_41 : PySem.W.keepIn K (.ref f_41) = true)
    (na_42 : PySem.W.nsIn K mainGlobals "_law_exchange_back" = some (some (.ref f_42))) (nl_42 : K.lookup f_42 = some ⟨oc_42, od_42, .func (fnX "_law_exchange_back" s_law_exchange_back kV_42 dc_42 pm_42 an_42 cd_42 ct_42), sl_42⟩) (nc_42 : PySem.W.codeIn K cd_42 "_law_exchange_back" = true) (nk_42 : PySem.W.keepIn K (.ref f_42) = true)
    (na_43 : PySem.W.nsIn K mainGlobals "_law_step_back" = some (some (.ref f_43))) (nl_43 : K.lookup f_43 = some ⟨oc_43, od_43, .func (fnX "_law_step_back" s_law_step_back kV_43 dc_43 pm_43 an_43 cd_43 ct_43), sl_43⟩) (nc_43 : PySem.W.codeIn K cd_43 "_law_step_back" = true) (nk_43 : PySem.W.keepIn K (.ref f_43) = true)
    (na_44 : PySem.W.nsIn K mainGlobals "_law_right" = some (some (.ref f_44))) (nl_44 : K.lookup f_44 = some ⟨oc_44, od_44, .func (fnX "_law_right" s_law_right kV_44 dc_44 pm_44 an_44 cd_44 ct_44), sl_44⟩) (nc_44 : PySem.W.codeIn K cd_44 "_law_right" = true) (nk_44 : PySem.W.keepIn K (.ref f_44) = true)
    (na_45 : PySem.W.nsIn K mainGlobals "law" = some (some (.ref f_45))) (nl_45 : K.lookup f_45 = some ⟨oc_45, od_45, .func (fnX "law" s_law kV_45 dc_45 pm_45 an_45 cd_45 ct_45), sl_45⟩) (nc_45 : PySem.W.codeIn K cd_45 "law" = true) (nk_45 : PySem.W.keepIn K (.ref f_45) = true)
    (nb_all : PySem.W.nsIn K mainGlobals "all" = some none)
    (nb_bool : PySem.W.nsIn K mainGlobals "bool" = some none)
    (nb_enumerate : PySem.W.nsIn K mainGlobals "enumerate" = some none)
    (nb_int : PySem.W.nsIn K mainGlobals "int" = some none)
    (nb_isinstance : PySem.W.nsIn K mainGlobals "isinstance" = some none)
    (nb_len : PySem.W.nsIn K mainGlobals "len" = some none)
    (nb_list : PySem.W.nsIn K mainGlobals "list" = some none)
    (nb_range : PySem.W.nsIn K mainGlobals "range" = some none)
    (nb_reversed : PySem.W.nsIn K mainGlobals "reversed" = some none)
    (nb_sorted : PySem.W.nsIn K mainGlobals "sorted" = some none)
    (nb_tuple : PySem.W.nsIn K mainGlobals "tuple" = some none)
    (nb_zip : PySem.W.nsIn K mainGlobals "zip" = some none)
    (oa_Weave : PySem.W.nsIn K mainGlobals "Weave" = some (some (.ref a_Weave)))
    (ob_Weave : PySem.W.plainGet K a_Weave Str.empty = true)
    (oe_Weave : PySem.W.hasDictIn K a_Weave = true)
    (of_Weave : PySem.W.plainOver K a_Weave = true)
    (og_Weave : PySem.W.findIn K (.ref a_Weave) "__setattr__" = some (some (.builtin "object.__setattr__")))
    (oh_Weave : PySem.W.makesIn K a_Weave = true)
    (oi_Weave : PySem.W.keepIn K (.ref a_Weave) = true)
    (on_Weave_heads : PySem.W.findIn K (.ref a_Weave) "heads" = some none)
    (on_Weave_turns : PySem.W.findIn K (.ref a_Weave) "turns" = some none)
    (on_Weave_ways : PySem.W.findIn K (.ref a_Weave) "ways" = some none)
    (on_Weave_alike : PySem.W.findIn K (.ref a_Weave) "alike" = some none)
    (nm_CONTRARIES : PySem.W.nsIn K mainGlobals "CONTRARIES" = some (some (.ref a_CONTRARIES)))
    (nt_CONTRARIES : KTD.tabLook KTD.flatLooks (fun b => K.lookup b) a_CONTRARIES conTab_rows = true) (nh_CONTRARIES : KTD.hashesOf (fun b => K.lookup b) a_CONTRARIES = conTab_rows.map fun p => (PySem.strKind l.prog w).hash p.1)
    {t_EXCHANGE : Tok} (nm_EXCHANGE : PySem.W.nsIn K mainGlobals "EXCHANGE" = some (some (.str (Str.ofString "exchange") t_EXCHANGE)))
    (nm_LETTERS : PySem.W.nsIn K mainGlobals "LETTERS" = some (some (.ref a_LETTERS)))
    {i_LETTERS : Array Value} {n_LETTERS : Nat} (nt_LETTERS : K.lookup a_LETTERS = some ⟨.type "tuple", none, .seq i_LETTERS n_LETTERS, #[]⟩) (nv_LETTERS : Vals letV i_LETTERS.toList)
    : ∃ fd : FuncData, (∀ (s : Shared) (v : Value), BindsTo s fd ⟨[v], []⟩ [("_law_script", v)]) ∧ ∀ base : Heap, K.In base → base.Ns mainGlobals mg → FnOk l.prog w K mg base CX0 40 fa fd ["_law_script"] (spLaw K) := by
  have e := hfa.symm.trans (PySem.W.mg_of X G na_45)
  have e2 : f_45 = fa := by cases e; rfl
  subst e2
  have T : Txt l.prog w K mg a_CONTRARIES a_EXCHANGE a_LETTERS a_Weave := ⟨PySem.W.mg_of X G oa_Weave, ⟨⟨ob_Weave, oe_Weave, of_Weave, og_Weave⟩, oh_Weave, oi_Weave⟩, on_Weave_heads, on_Weave_turns, on_Weave_ways, on_Weave_alike, PySem.W.mg_none_of X G nb_all, PySem.W.mg_none_of X G nb_bool, PySem.W.mg_none_of X G nb_enumerate, PySem.W.mg_none_of X G nb_int, PySem.W.mg_none_of X G nb_isinstance, PySem.W.mg_none_of X G nb_len, PySem.W.mg_none_of X G nb_list, PySem.W.mg_none_of X G nb_range, PySem.W.mg_none_of X G nb_reversed, PySem.W.mg_none_of X G nb_sorted, PySem.W.mg_none_of X G nb_tuple, PySem.W.mg_none_of X G nb_zip, PySem.W.mg_of X G nm_CONTRARIES, fun h x => PySem.W.kt_tab_in l.prog w x nt_CONTRARIES (by decide +kernel) nh_CONTRARIES, ⟨_, PySem.W.mg_of X G nm_EXCHANGE⟩, PySem.W.mg_of X G nm_LETTERS, fun H => .inr ⟨_, _, _, nt_LETTERS, rfl, rfl, tab_fit nv_LETTERS (by decide), nv_LETTERS⟩⟩
  have D_0 := dmk (ps := ["n"]) nl_0 nc_0 nk_0 (PySem.W.mg_of X G na_0) (fun _ _ _ _ _ _ u h => match u, h with | [_], _ => rfl)
  have D_1 := dmk (ps := ["n"]) nl_1 nc_1 nk_1 (PySem.W.mg_of X G na_1) (fun _ _ _ _ _ _ u h => match u, h with | [_], _ => rfl)
  have D_2 := dmk (ps := ["letter"]) nl_2 nc_2 nk_2 (PySem.W.mg_of X G na_2) (fun _ _ _ _ _ _ u h => match u, h with | [_], _ => rfl)
  have D_3 := dmk (ps := ["text"]) nl_3 nc_3 nk_3 (PySem.W.mg_of X G na_3) (fun _ _ _ _ _ _ u h => match u, h with | [_], _ => rfl)
  have D_4 := dmk (ps := ["word"]) nl_4 nc_4 nk_4 (PySem.W.mg_of X G na_4) (fun _ _ _ _ _ _ u h => match u, h with | [_], _ => rfl)
  have D_5 := dmk (ps := ["one", "other"]) nl_5 nc_5 nk_5 (PySem.W.mg_of X G na_5) (fun _ _ _ _ _ _ u h => match u, h with | [_, _], _ => rfl)
  have D_6 := dmkM (st := s_Weave___init__) (ps := ["self"]) na_6 nf_6 nl_6 nc_6 nk_6 (fun _ _ _ _ _ _ u h => match u, h with | [_], _ => rfl)
  have D_7 := dmkM (st := s_Weave_end_of) (ps := ["self", "place", "told"]) na_7 nf_7 nl_7 nc_7 nk_7 (fun _ _ _ _ _ _ u h => match u, h with | [_, _, _], _ => rfl)
  have D_8 := dmkM (st := s_Weave_head_of) (ps := ["self", "place"]) na_8 nf_8 nl_8 nc_8 nk_8 (fun _ _ _ _ _ _ u h => match u, h with | [_, _], _ => rfl)
  have D_9 := dmkM (st := s_Weave_goal_of) (ps := ["self", "head", "letter"]) na_9 nf_9 nl_9 nc_9 nk_9 (fun _ _ _ _ _ _ u h => match u, h with | [_, _, _], _ => rfl)
  have D_10 := dmkM (st := s_Weave_new_place) (ps := ["self"]) na_10 nf_10 nl_10 nc_10 nk_10 (fun _ _ _ _ _ _ u h => match u, h with | [_], _ => rfl)
  have D_11 := dmkM (st := s_Weave_lay_way) (ps := ["self", "place", "letter", "goal", "told"]) na_11 nf_11 nl_11 nc_11 nk_11 (fun _ _ _ _ _ _ u h => match u, h with | [_, _, _, _, _], _ => rfl)
  have D_12 := dmkM (st := s_Weave_lay_word) (ps := ["self", "word", "told"]) na_12 nf_12 nl_12 nc_12 nk_12 (fun _ _ _ _ _ _ u h => match u, h with | [_, _, _], _ => rfl)
  have D_13 := dmkM (st := s_Weave_put_under) (ps := ["self", "head", "above", "turn"]) na_13 nf_13 nl_13 nc_13 nk_13 (fun _ _ _ _ _ _ u h => match u, h with | [_, _, _, _], _ => rfl)
  have D_14 := dmkM (st := s_Weave_fold) (ps := ["self"]) na_14 nf_14 nl_14 nc_14 nk_14 (fun _ _ _ _ _ _ u h => match u, h with | [_], _ => rfl)
  have D_15 := dmkM (st := s_Weave_round_told) (ps := ["self", "letter"]) na_15 nf_15 nl_15 nc_15 nk_15 (fun _ _ _ _ _ _ u h => match u, h with | [_, _], _ => rfl)
  have D_16 := dmk (ps := ["n", "weave"]) nl_16 nc_16 nk_16 (PySem.W.mg_of X G na_16) (fun _ _ _ _ _ _ u h => match u, h with | [_, _], _ => rfl)
  have D_17 := dmk (ps := ["n", "weave", "numbers", "head"]) nl_17 nc_17 nk_17 (PySem.W.mg_of X G na_17) (fun _ _ _ _ _ _ u h => match u, h with | [_, _, _, _], _ => rfl)
  have D_18 := dmk (ps := ["n", "words"]) nl_18 nc_18 nk_18 (PySem.W.mg_of X G na_18) (fun _ _ _ _ _ _ u h => match u, h with | [_, _], _ => rfl)
  have D_19 := dmk (ps := ["retelling"]) nl_19 nc_19 nk_19 (PySem.W.mg_of X G na_19) (fun _ _ _ _ _ _ u h => match u, h with | [_], _ => rfl)
  have D_20 := dmk (ps := ["retelling"]) nl_20 nc_20 nk_20 (PySem.W.mg_of X G na_20) (fun _ _ _ _ _ _ u h => match u, h with | [_], _ => rfl)
  have D_21 := dmk (ps := ["retelling"]) nl_21 nc_21 nk_21 (PySem.W.mg_of X G na_21) (fun _ _ _ _ _ _ u h => match u, h with | [_], _ => rfl)
  have D_22 := dmk (ps := ["retelling", "word"]) nl_22 nc_22 nk_22 (PySem.W.mg_of X G na_22) (fun _ _ _ _ _ _ u h => match u, h with | [_, _], _ => rfl)
  have D_23 := dmk (ps := ["one", "other"]) nl_23 nc_23 nk_23 (PySem.W.mg_of X G na_23) (fun _ _ _ _ _ _ u h => match u, h with | [_, _], _ => rfl)
  have D_24 := dmk (ps := ["n"]) nl_24 nc_24 nk_24 (PySem.W.mg_of X G na_24) (fun _ _ _ _ _ _ u h => match u, h with | [_], _ => rfl)
  have D_25 := dmk (ps := ["letter", "by", "side"]) nl_25 nc_25 nk_25 (PySem.W.mg_of X G na_25) (fun _ _ _ _ _ _ u h => match u, h with | [_, _, _], _ => rfl)
  have D_26 := dmk (ps := ["n", "change"]) nl_26 nc_26 nk_26 (PySem.W.mg_of X G na_26) (fun _ _ _ _ _ _ u h => match u, h with | [_, _], _ => rfl)
  have D_27 := dmk (ps := ["n", "step"]) nl_27 nc_27 nk_27 (PySem.W.mg_of X G na_27) (fun _ _ _ _ _ _ u h => match u, h with | [_, _], _ => rfl)
  have D_28 := dmk (ps := ["n", "words", "road"]) nl_28 nc_28 nk_28 (PySem.W.mg_of X G na_28) (fun _ _ _ _ _ _ u h => match u, h with | [_, _, _], _ => rfl)
  have D_29 := dmk (ps := ["n", "road"]) nl_29 nc_29 nk_29 (PySem.W.mg_of X G na_29) (fun _ _ _ _ _ _ u h => match u, h with | [_, _], _ => rfl)
  have D_30 := dmk (ps := ["step"]) nl_30 nc_30 nk_30 (PySem.W.mg_of X G na_30) (fun _ _ _ _ _ _ u h => match u, h with | [_], _ => rfl)
  have D_31 := dmk (ps := ["n", "road"]) nl_31 nc_31 nk_31 (PySem.W.mg_of X G na_31) (fun _ _ _ _ _ _ u h => match u, h with | [_, _], _ => rfl)
  have D_32 := dmk (ps := ["_law_script"]) nl_32 nc_32 nk_32 (PySem.W.mg_of X G na_32) (fun _ _ _ _ _ _ u h => match u, h with | [_], _ => rfl)
  have D_33 := dmk (ps := ["_law_flow_here", "_law_many"]) nl_33 nc_33 nk_33 (PySem.W.mg_of X G na_33) (fun _ _ _ _ _ _ u h => match u, h with | [_, _], _ => rfl)
  have D_34 := dmk (ps := ["_law_found", "_law_due"]) nl_34 nc_34 nk_34 (PySem.W.mg_of X G na_34) (fun _ _ _ _ _ _ u h => match u, h with | [_, _], _ => rfl)
  have D_35 := dmk (ps := ["_law_n"]) nl_35 nc_35 nk_35 (PySem.W.mg_of X G na_35) (fun _ _ _ _ _ _ u h => match u, h with | [_], _ => rfl)
  have D_36 := dmk (ps := ["_law_letter"]) nl_36 nc_36 nk_36 (PySem.W.mg_of X G na_36) (fun _ _ _ _ _ _ u h => match u, h with | [_], _ => rfl)
  have D_37 := dmk (ps := ["_law_word"]) nl_37 nc_37 nk_37 (PySem.W.mg_of X G na_37) (fun _ _ _ _ _ _ u h => match u, h with | [_], _ => rfl)
  have D_38 := dmk (ps := ["_law_flow_here", "_law_n"]) nl_38 nc_38 nk_38 (PySem.W.mg_of X G na_38) (fun _ _ _ _ _ _ u h => match u, h with | [_, _], _ => rfl)
  have D_39 := dmk (ps := ["_law_change"]) nl_39 nc_39 nk_39 (PySem.W.mg_of X G na_39) (fun _ _ _ _ _ _ u h => match u, h with | [_], _ => rfl)
  have D_40 := dmk (ps := ["_law_flow_here", "_law_n"]) nl_40 nc_40 nk_40 (PySem.W.mg_of X G na_40) (fun _ _ _ _ _ _ u h => match u, h with | [_, _], _ => rfl)
  have D_41 := dmk (ps := ["_law_flow_here", "_law_n"]) nl_41 nc_41 nk_41 (PySem.W.mg_of X G na_41) (fun _ _ _ _ _ _ u h => match u, h with | [_, _], _ => rfl)
  have D_42 := dmk (ps := ["_law_n", "_law_told"]) nl_42 nc_42 nk_42 (PySem.W.mg_of X G na_42) (fun _ _ _ _ _ _ u h => match u, h with | [_, _], _ => rfl)
  have D_43 := dmk (ps := ["_law_n", "_law_step"]) nl_43 nc_43 nk_43 (PySem.W.mg_of X G na_43) (fun _ _ _ _ _ _ u h => match u, h with | [_, _], _ => rfl)
  have D_44 := dmk (ps := ["_law_n", "_law_road"]) nl_44 nc_44 nk_44 (PySem.W.mg_of X G na_44) (fun _ _ _ _ _ _ u h => match u, h with | [_, _], _ => rfl)
  have D_45 := dmk (ps := ["_law_script"]) nl_45 nc_45 nk_45 (PySem.W.mg_of X G na_45) (fun _ _ _ _ _ _ u h => match u, h with | [_], _ => rfl)
  refine ⟨fnX "law" s_law kV_45 dc_45 pm_45 an_45 cd_45 ct_45, fun s v => .of_eq rfl, fun base _ _ => ?_⟩
  have c_law_flow := ok_law_flow (base := base) D_32 T
  have c_law_pick := ok_law_pick (base := base) D_33 T
  have c_law_contrary := ok_law_contrary (base := base) D_36 T
  have c_law_letters := ok_law_letters (base := base) D_35 T
  have c_contrary := ok_contrary (base := base) D_2 T
  have c_laid_out := ok_laid_out (base := base) D_3 T c_contrary
  have c_turned_back := ok_turned_back (base := base) D_4 T c_contrary
  have c_joined := ok_joined (base := base) D_5 T c_laid_out
  have c_letters_of := ok_letters_of (base := base) D_0 T
  have c_first_letters := ok_first_letters (base := base) D_1 T
  have c_told_same := ok_told_same (base := base) D_24 T c_first_letters
  have c_words_by_letter := ok_words_by_letter (base := base) D_21 T c_first_letters c_contrary c_turned_back
  have c_retold := ok_retold (base := base) D_22 T c_laid_out c_words_by_letter
  have c_told_then := ok_told_then (base := base) D_23 T c_retold
  have c_Weave___init__ := ok_Weave___init__ (base := base) D_6 T
  have c_Weave_end_of := ok_Weave_end_of (base := base) D_7 T c_joined
  have c_Weave_head_of := ok_Weave_head_of (base := base) D_8 T c_Weave_end_of
  have c_Weave_goal_of := ok_Weave_goal_of (base := base) D_9 T c_Weave_head_of
  have c_Weave_lay_way := ok_Weave_lay_way (base := base) D_11 T c_turned_back c_joined
  have c_Weave_new_place := ok_Weave_new_place (base := base) D_10 T
  have c_Weave_put_under := ok_Weave_put_under (base := base) D_13 T
  have c_Weave_fold := ok_Weave_fold (base := base) D_14 T c_turned_back c_joined c_Weave_end_of c_Weave_put_under
  have c_Weave_round_told := ok_Weave_round_told (base := base) D_15 T c_laid_out c_turned_back c_Weave_end_of
  have c_Weave_lay_word := ok_Weave_lay_word (base := base) D_12 T c_contrary c_turned_back c_Weave_new_place c_Weave_lay_way
  have c_numbers_of_heads := ok_numbers_of_heads (base := base) D_16 T c_letters_of c_Weave_head_of c_Weave_goal_of
  have c_place_told := ok_place_told (base := base) D_17 T c_first_letters c_Weave_goal_of
  have c_web_of := ok_web_of (base := base) D_18 T c_Weave___init__ c_Weave_lay_word c_Weave_fold c_numbers_of_heads c_place_told
  have c_look_alphabet := ok_look_alphabet (base := base) D_19 T c_web_of
  have c_leading_back := ok_leading_back (base := base) D_20 T c_first_letters c_Weave___init__ c_Weave_lay_word c_Weave_fold c_Weave_round_told c_look_alphabet
  have c_step_back := ok_step_back (base := base) D_30 T c_contrary c_leading_back
  have c_road_back := ok_road_back (base := base) D_31 T c_step_back
  have c_letter_changed := ok_letter_changed (base := base) D_25 T c_contrary
  have c_change_told := ok_change_told (base := base) D_26 T c_first_letters c_letter_changed
  have c_step_told := ok_step_told (base := base) D_27 T c_change_told
  have c_words_along := ok_words_along (base := base) D_28 T c_told_then c_step_told
  have c_road_told := ok_road_told (base := base) D_29 T c_told_same c_words_along
  have c_law_alike := ok_law_alike (base := base) D_34 T
  have c_law_alike_X := ok_law_alike_X (base := base) D_34 T c_law_alike
  have c_law_alike_Y := ok_law_alike_X (base := base) D_34 T c_law_alike_X
  have c_law_alike_Z := ok_law_alike_X (base := base) D_34 T c_law_alike_Y
  have c_law_alike_W := ok_law_alike_X (base := base) D_34 T c_law_alike_Z
  have c_law_key := ok_law_key (base := base) D_37 T
  have c_law_drawn_change := ok_law_drawn_change (base := base) D_38 T c_law_pick c_law_letters c_law_contrary
  have c_law_exchange := ok_law_exchange (base := base) D_40 T c_law_pick
  have c_law_change_back := ok_law_change_back (base := base) D_39 T c_law_contrary c_law_key
  have c_law_exchange_back := ok_law_exchange_back (base := base) D_42 T
  have c_law_step_back := ok_law_step_back (base := base) D_43 T c_law_change_back c_law_exchange_back
  have c_law_drawn_step := ok_law_drawn_step (base := base) D_41 T c_law_pick c_law_drawn_change c_law_exchange
  have c_law_right := ok_law_right (base := base) D_44 T c_told_then c_told_same c_road_told c_road_back c_law_alike_Z c_law_step_back
  exact FnOk.mono (k := 40) (ok_law D_45 T c_law_flow c_law_pick c_law_drawn_change c_law_exchange c_law_drawn_step c_law_right) (by decide)
theorem walk {l : PySem.W.OpenLaw} {q : Program} {loose : List Str} {XP : (Str → Option Value) → Heap → Prop} {YP : World → Heap → Prop} {d : DefRec} {K : Params → PySem.W.Frag} (hn : l.most = some 63) (hdf : d.params.defaults = [])
    (hY : ∀ (w : World) (h : Heap), YP w h → (K w.params).In h)
    (F : ∀ (w : World) (mg : Str → Option Value) (fa : Addr) (h : Heap), (K w.params).In h → h.Ns mainGlobals mg → mg d.name = some (.ref fa) →
      ∃ fd : FuncData, (∀ (s : Shared) (u : Value), BindsTo s fd ⟨[u], []⟩ [("_law_script", u)]) ∧ ∀ base : Heap, (K w.params).In base → base.Ns mainGlobals mg → FnOk l.prog w (K w.params) mg base CX0 40 fa fd ["_law_script"] (spLaw (K w.params))) :
    PySem.W.WalkO q loose XP YP l.row.toRowW d [] (fun f vs => PySem.call f vs) :=
  L2.walk_of (n := 63) (k := 40) (x := "_law_script") (CX := fun _ => CX0) (sp := fun w => spLaw (K w.params)) hn (by decide) hdf ⟨rfl, by decide, by decide⟩ hY F (fun _ _ a ns hl _ hS => ⟨a, ns, rfl, hS, hl, fun _ => rfl⟩) fun _ _ _ _ _ z => z
end Lw
def PySem.W.Fast.tw3728742695245480186 : Nat := 0
def PySem.W.Fast.tw17024437639680090770 : Nat := 0
def PySem.W.Fast.tw10018245272954945927 : Nat := 0
def PySem.W.Fast.tw16819549775876737122 : Nat := 0
def PySem.W.Fast.tw3946665114124662230 : Nat := 0
def PySem.W.Fast.tw1267066033082770711 : Nat := 0
def PySem.W.Fast.tw13258432075948498058 : Nat := 0
def PySem.W.Fast.tw15444842368039971693 : Nat := 0
def PySem.W.Fast.tw909196532015256117 : Nat := 0
def PySem.W.Fast.tw16100855881514844797 : Nat := 0
def PySem.W.Fast.tw11750921125580299715 : Nat := 0
def PySem.W.Fast.tw13151853070013033693 : Nat := 0
def PySem.W.Fast.tw15575888908346510520 : Nat := 0
def PySem.W.Fast.tw15200134975826374577 : Nat := 0
def PySem.W.Fast.tw12446216440581722489 : Nat := 0
def PySem.W.Fast.tw2920222000842198951 : Nat := 0
def PySem.W.Fast.tw3740725270915555245 : Nat := 0
def PySem.W.Fast.tw11394879374126683991 : Nat := 0
def PySem.W.Fast.tw11350768011169865013 : Nat := 0
def PySem.W.Fast.tw4156863724583279966 : Nat := 0
def PySem.W.Fast.tw1414262424161474407 : Nat := 0
def PySem.W.Fast.tw3290040174365406671 : Nat := 0
def PySem.W.Fast.tw772342436935840378 : Nat := 0
def PySem.W.Fast.tw5298847470063258481 : Nat := 0
def PySem.W.Fast.tw11874038732099335739 : Nat := 0
def PySem.W.Fast.tw7795384080835846588 : Nat := 0
def PySem.W.Fast.tw7123708263474035495 : Nat := 0
def PySem.W.Fast.tw7184997070121702332 : Nat := 0
def PySem.W.Fast.tw2674174632615357425 : Nat := 0
def PySem.W.Fast.tw1318227842060635678 : Nat := 0
def PySem.W.Fast.tw17177363827499293994 : Nat := 0
def PySem.W.Fast.tw17437463998458953903 : Nat := 0
def PySem.W.Fast.tw5164438334915684285 : Nat := 0
def PySem.W.Fast.tw10734961282324725298 : Nat := 0
def PySem.W.Fast.tw15478966859726504820 : Nat := 0
def PySem.W.Fast.tw14023337698703589947 : Nat := 0
def PySem.W.Fast.tw7402378320469580727 : Nat := 0
def PySem.W.Fast.tw7427469126827283805 : Nat := 0
def PySem.W.Fast.tw2991099509808511184 : Nat := 0
def PySem.W.Fast.tw5105927972818557697 : Nat := 0
def PySem.W.Fast.tw1222868688769948102 : Nat := 0
def PySem.W.Fast.tw12109022124452650208 : Nat := 0
def PySem.W.Fast.tw14136705516498302178 : Nat := 0
def PySem.W.Fast.tw8824160431684720880 : Nat := 0
def PySem.W.Fast.tw10333859168875723983 : Nat := 0
def PySem.W.Fast.tw13559641885406629404 : Nat := 0
def PySem.W.Fast.tw10792992242298898927 : Nat := 0
def PySem.W.Fast.tw14511931932133792358 : Nat := 0
def PySem.W.Fast.tw16689918012984024761 : Nat := 0
def PySem.W.Fast.tw17533769742130143918 : Nat := 0
def PySem.W.Fast.tw672230320789495970 : Nat := 0
def PySem.W.Fast.tw6538613067041553999 : Nat := 0
def PySem.W.Fast.tw14739687320359640886 : Nat := 0
def PySem.W.Fast.tw3662141007190162048 : Nat := 0
def PySem.W.Fast.tw11487930683817492703 : Nat := 0
def PySem.W.Fast.tw731808641065167994 : Nat := 0
def PySem.W.Fast.tw11319437383795748025 : Nat := 0
def PySem.W.Fast.tw4356530244765013641 : Nat := 0
def PySem.W.Fast.tw15926278411964085447 : Nat := 0
def PySem.W.Fast.tw11988664134472668796 : Nat := 0
def PySem.W.Fast.tw14166441843257034915 : Nat := 0
def PySem.W.Fast.tw9790079588029077031 : Nat := 0
def PySem.W.Fast.tw14459392468224622324 : Nat := 0
open PySem PySem.W PyProof.Rows
set_option maxRecDepth 100000 in
set_option maxHeartbeats 0 in
theorem PySem.Challenge.cw_newletters_k32_roads_back_holds : PySem.Challenge.rw_newletters_k32_roads_back.Holds := by
  w_on; o_law; k_head; (case hw => w_witness2)
  k_fill
  refine Lw.walk (l := PySem.Challenge.rw_newletters_k32_roads_back) rfl rfl (fun w h Y => PySem.W.kIn_of Y) ?F
  case F =>
    intro w mg fa h KX G hmg
    refine' Lw.all_mk (a_EXCHANGE := (0 : Nat)) KX G hmg ?na_0 ?nl_0 ?nc_0 ?nk_0 ?na_1 ?nl_1 ?nc_1 ?nk_1 ?na_2 ?nl_2 ?nc_2 ?nk_2 ?na_3 ?nl_3 ?nc_3 ?nk_3 ?na_4 ?nl_4 ?nc_4 ?nk_4 ?na_5 ?nl_5 ?nc_5 ?nk_5 ?na_6 ?nf_6 ?nl_6 ?nc_6 ?nk_6 ?na_7 ?nf_7 ?nl_7 ?nc_7 ?nk_7 ?na_8 ?nf_8 ?nl_8 ?nc_8 ?nk_8 ?na_9 ?nf_9 ?nl_9 ?nc_9 ?nk_9 ?na_10 ?nf_10 ?nl_10 ?nc_10 ?nk_10 ?na_11 ?nf_11 ?nl_11 ?nc_11 ?nk_11 ?na_12 ?nf_12 ?nl_12 ?nc_12 ?nk_12 ?na_13 ?nf_13 ?nl_13 ?nc_13 ?nk_13 ?na_14 ?nf_14 ?nl_14 ?nc_14 ?nk_14 ?na_15 ?nf_15 ?nl_15 ?nc_15 ?nk_15 ?na_16 ?nl_16 ?nc_16 ?nk_16 ?na_17 ?nl_17 ?nc_17 ?nk_17 ?na_18 ?nl_18 ?nc_18 ?nk_18 ?na_19 ?nl_19 ?nc_19 ?nk_19 ?na_20 ?nl_20 ?nc_20 ?nk_20 ?na_21 ?nl_21 ?nc_21 ?nk_21 ?na_22 ?nl_22 ?nc_22 ?nk_22 ?na_23 ?nl_23 ?nc_23 ?nk_23 ?na_24 ?nl_24 ?nc_24 ?nk_24 ?na_25 ?nl_25 ?nc_25 ?nk_25 ?na_26 ?nl_26 ?nc_26 ?nk_26 ?na_27 ?nl_27 ?nc_27 ?nk_27 ?na_28 ?nl_28 ?nc_28 ?nk_28 ?na_29 ?nl_29 ?nc_29 ?nk_29 ?na_30 ?nl_30 ?nc_30 ?nk_30 ?na_31 ?nl_31 ?nc_31 ?nk_31 ?na_32 ?nl_32 ?nc_32 ?nk_32 ?na_33 ?nl_33 ?nc_33 ?nk_33 ?na_34 ?nl_34 ?nc_34 ?nk_34 ?na_35 ?nl_35 ?nc_35 ?nk_35 ?na_36 ?nl_36 ?nc_36 ?nk_36 ?na_37 ?nl_37 ?nc_37 ?nk_37 ?na_38 ?nl_38 ?nc_38 ?nk_38 ?na_39 ?nl_39 ?nc_39 ?nk_39 ?na_40 ?nl_40 ?nc_40 ?nk_40 ?na_41 ?nl_41 ?nc_41 ?nk_41 ?na_42 ?nl_42 ?nc_42 ?nk_42 ?na_43 ?nl_43 ?nc_43 ?nk_43 ?na_44 ?nl_44 ?nc_44 ?nk_44 ?na_45 ?nl_45 ?nc_45 ?nk_45 ?nb_all ?nb_bool ?nb_enumerate ?nb_int ?nb_isinstance ?nb_len ?nb_list ?nb_range ?nb_reversed ?nb_sorted ?nb_tuple ?nb_zip ?oa_Weave ?ob_Weave ?oe_Weave ?of_Weave ?og_Weave ?oh_Weave ?oi_Weave ?on_Weave_heads ?on_Weave_turns ?on_Weave_ways ?on_Weave_alike ?nm_CONTRARIES ?nt_CONTRARIES ?nh_CONTRARIES ?nm_EXCHANGE ?nm_LETTERS ?nt_LETTERS ?nv_LETTERS
    (case oa_Weave => k_is); (case na_0 => k_is); (case nl_0 => k_is); (case nc_0 => k_is)
    (case nk_0 => k_is); (case na_1 => k_is); (case nl_1 => k_is); (case nc_1 => k_is)
    (case nk_1 => k_is); (case na_2 => k_is); (case nl_2 => k_is); (case nc_2 => k_is)
    (case nk_2 => k_is); (case na_3 => k_is); (case nl_3 => k_is); (case nc_3 => k_is)
    (case nk_3 => k_is); (case na_4 => k_is); (case nl_4 => k_is); (case nc_4 => k_is)
    (case nk_4 => k_is); (case na_5 => k_is); (case nl_5 => k_is); (case nc_5 => k_is)
    (case nk_5 => k_is); (case na_6 => k_is); (case nf_6 => k_is); (case nl_6 => k_is)
    (case nc_6 => k_is); (case nk_6 => k_is); (case na_7 => k_is); (case nf_7 => k_is)
    (case nl_7 => k_is); (case nc_7 => k_is); (case nk_7 => k_is); (case na_8 => k_is)
    (case nf_8 => k_is); (case nl_8 => k_is); (case nc_8 => k_is); (case nk_8 => k_is)
    (case na_9 => k_is); (case nf_9 => k_is); (case nl_9 => k_is); (case nc_9 => k_is)
    (case nk_9 => k_is); (case na_10 => k_is); (case nf_10 => k_is); (case nl_10 => k_is)
    (case nc_10 => k_is); (case nk_10 => k_is); (case na_11 => k_is); (case nf_11 => k_is)
    (case nl_11 => k_is); (case nc_11 => k_is); (case nk_11 => k_is); (case na_12 => k_is)
    (case nf_12 => k_is); (case nl_12 => k_is); (case nc_12 => k_is); (case nk_12 => k_is)
    (case na_13 => k_is); (case nf_13 => k_is); (case nl_13 => k_is); (case nc_13 => k_is)
    (case nk_13 => k_is); (case na_14 => k_is); (case nf_14 => k_is); (case nl_14 => k_is)
    (case nc_14 => k_is); (case nk_14 => k_is); (case na_15 => k_is); (case nf_15 => k_is)
    (case nl_15 => k_is); (case nc_15 => k_is); (case nk_15 => k_is); (case na_16 => k_is)
    (case nl_16 => k_is); (case nc_16 => k_is); (case nk_16 => k_is); (case na_17 => k_is)
    (case nl_17 => k_is); (case nc_17 => k_is); (case nk_17 => k_is); (case na_18 => k_is)
    (case nl_18 => k_is); (case nc_18 => k_is); (case nk_18 => k_is); (case na_19 => k_is)
    (case nl_19 => k_is); (case nc_19 => k_is); (case nk_19 => k_is); (case na_20 => k_is)
    (case nl_20 => k_is); (case nc_20 => k_is); (case nk_20 => k_is); (case na_21 => k_is)
    (case nl_21 => k_is); (case nc_21 => k_is); (case nk_21 => k_is); (case na_22 => k_is)
    (case nl_22 => k_is); (case nc_22 => k_is); (case nk_22 => k_is); (case na_23 => k_is)
    (case nl_23 => k_is); (case nc_23 => k_is); (case nk_23 => k_is); (case na_24 => k_is)
    (case nl_24 => k_is); (case nc_24 => k_is); (case nk_24 => k_is); (case na_25 => k_is)
    (case nl_25 => k_is); (case nc_25 => k_is); (case nk_25 => k_is); (case na_26 => k_is)
    (case nl_26 => k_is); (case nc_26 => k_is); (case nk_26 => k_is); (case na_27 => k_is)
    (case nl_27 => k_is); (case nc_27 => k_is); (case nk_27 => k_is); (case na_28 => k_is)
    (case nl_28 => k_is); (case nc_28 => k_is); (case nk_28 => k_is); (case na_29 => k_is)
    (case nl_29 => k_is); (case nc_29 => k_is); (case nk_29 => k_is); (case na_30 => k_is)
    (case nl_30 => k_is); (case nc_30 => k_is); (case nk_30 => k_is); (case na_31 => k_is)
    (case nl_31 => k_is); (case nc_31 => k_is); (case nk_31 => k_is); (case na_32 => k_is)
    (case nl_32 => k_is); (case nc_32 => k_is); (case nk_32 => k_is); (case na_33 => k_is)
    (case nl_33 => k_is); (case nc_33 => k_is); (case nk_33 => k_is); (case na_34 => k_is)
    (case nl_34 => k_is); (case nc_34 => k_is); (case nk_34 => k_is); (case na_35 => k_is)
    (case nl_35 => k_is); (case nc_35 => k_is); (case nk_35 => k_is); (case na_36 => k_is)
    (case nl_36 => k_is); (case nc_36 => k_is); (case nk_36 => k_is); (case na_37 => k_is)
    (case nl_37 => k_is); (case nc_37 => k_is); (case nk_37 => k_is); (case na_38 => k_is)
    (case nl_38 => k_is); (case nc_38 => k_is); (case nk_38 => k_is); (case na_39 => k_is)
    (case nl_39 => k_is); (case nc_39 => k_is); (case nk_39 => k_is); (case na_40 => k_is)
    (case nl_40 => k_is); (case nc_40 => k_is); (case nk_40 => k_is); (case na_41 => k_is)
    (case nl_41 => k_is); (case nc_41 => k_is); (case nk_41 => k_is); (case na_42 => k_is)
    (case nl_42 => k_is); (case nc_42 => k_is); (case nk_42 => k_is); (case na_43 => k_is)
    (case nl_43 => k_is); (case nc_43 => k_is); (case nk_43 => k_is); (case na_44 => k_is)
    (case nl_44 => k_is); (case nc_44 => k_is); (case nk_44 => k_is); (case na_45 => k_is)
    (case nl_45 => k_is); (case nc_45 => k_is); (case nk_45 => k_is); (case nb_all => k_is)
    (case nb_bool => k_is); (case nb_enumerate => k_is); (case nb_int => k_is); (case nb_isinstance => k_is)
    (case nb_len => k_is); (case nb_list => k_is); (case nb_range => k_is); (case nb_reversed => k_is)
    (case nb_sorted => k_is); (case nb_tuple => k_is); (case nb_zip => k_is); (case ob_Weave => k_is)
    (case oe_Weave => k_is); (case of_Weave => k_is); (case og_Weave => k_is); (case oh_Weave => k_is)
    (case oi_Weave => k_is); (case on_Weave_heads => k_is); (case on_Weave_turns => k_is); (case on_Weave_ways => k_is)
    (case on_Weave_alike => k_is); (case nm_CONTRARIES => k_is); (case nm_EXCHANGE => k_is); (case nm_LETTERS => k_is)
    (case nt_LETTERS => k_is)
    (case nt_CONTRARIES => kernel_rfl)
    (case nh_CONTRARIES => kernel_rfl)
    (case nv_LETTERS => exact .cons ⟨_, rfl⟩ (.cons ⟨_, rfl⟩ (.cons ⟨_, rfl⟩ (.cons ⟨_, rfl⟩ (.cons ⟨_, rfl⟩ (.cons ⟨_, rfl⟩ (.cons ⟨_, rfl⟩ (.cons ⟨_, rfl⟩ .nil))))))))
