import PyProof.Rows.All
import Wide.All
import OpenK.AllK
import Wide.FinOn
import Lean
import PyProof.EqAt
import PyProof.EqKinds
import PyProof.TupleCall
import KE.KMinKey
import KE.KSortTup
import KE.KLam
import KE.KNestM
import KE.KIsAll
import PySem.Challenge.RW_newletters_k42_changes_that_keep_the_len
set_option Elab.async false
set_option maxHeartbeats 4000000
set_option maxRecDepth 100000
set_option linter.all false
namespace L2
open PySem PySem.Spec PyProof.Rows
abbrev Key:=Sum Int Str
def keyIs:Key→Value→Bool
 | .inl k,v=>Value.isInt k v
 | .inr x,v=>Value.isStrOf x v
def keyH (w:World):Key→Int
 | .inl k=>hashInt k
 | .inr x=>hashStr w x
theorem keyIs_shape:∀ {k:Key} {v:Value},keyIs k v=true→(∃ i t,k=Sum.inl i∧v=Value.int i t)∨(∃ x t,k=Sum.inr x∧v=Value.str x t)
 | .inl i,v,h=>by
  obtain ⟨t,e⟩:=Value.isInt_shape (k:=i) (v:=v) h
  exact .inl ⟨i,t,rfl,e⟩
 | .inr x,v,h=>by
  obtain ⟨t,e⟩:=Value.isStrOf_shape (x:=x) (v:=v) h
  exact .inr ⟨x,t,rfl,e⟩
theorem keyIs_int (i:Int) (t:Tok):keyIs (.inl i) (.int i t)=true:=by simp [keyIs,Value.isInt]
theorem keyIs_str (x:Str) (t:Tok):keyIs (.inr x) (.str x t)=true:=by simp [keyIs,Value.isStrOf]
theorem key_ll (a b:Int):decide ((Sum.inl a:Key)=Sum.inl b)=(a == b):=by
 by_cases e:a=b
 ·subst e;simp
 ·have h:¬ (Sum.inl a:Key)=Sum.inl b:=fun q=>e (Sum.inl.inj q)
  rw [decide_eq_false h]
  exact (beq_eq_false_iff_ne.mpr e).symm
theorem key_rr (a b:Str):decide ((Sum.inr a:Key)=Sum.inr b)=decide (a=b):=by
 by_cases e:a=b
 ·subst e;simp
 ·have h:¬ (Sum.inr a:Key)=Sum.inr b:=fun q=>e (Sum.inr.inj q)
  rw [decide_eq_false h,decide_eq_false e]
theorem key_lr (a:Int) (b:Str):decide ((Sum.inl a:Key)=Sum.inr b)=false:=decide_eq_false (fun q=>nomatch q)
theorem key_rl (a:Str) (b:Int):decide ((Sum.inr a:Key)=Sum.inl b)=false:=decide_eq_false (fun q=>nomatch q)
def mixKind (prog:Program) (w:World):PySem.KeyKind prog w Key where
 is:=keyIs
 hash:=keyH w
 inj:=fun v a b ha hb=>by
  rcases keyIs_shape ha with ⟨i,t,rfl,rfl⟩ | ⟨x,t,rfl,rfl⟩
  ·rcases keyIs_shape hb with ⟨j,u,rfl,e⟩ | ⟨y,u,rfl,e⟩
   ·injection e with e1 _;rw [e1]
   ·exact nomatch e
  ·rcases keyIs_shape hb with ⟨j,u,rfl,e⟩ | ⟨y,u,rfl,e⟩
   ·exact nomatch e
   ·injection e with e1 _;rw [e1]
 byValue:=fun k v h=>by
  rcases keyIs_shape h with ⟨i,t,rfl,rfl⟩ | ⟨x,t,rfl,rfl⟩ <;> rfl
 pyHash:=fun hv h=>by
  rcases keyIs_shape hv with ⟨i,t,rfl,rfl⟩ | ⟨x,t,rfl,rfl⟩
  ·exact wpAny_pyHash_int h
  ·exact wpAny_pyHash_str h
 eqBool:=fun hu hv h=>by
  rcases keyIs_shape hu with ⟨i,t,rfl,rfl⟩ | ⟨x,t,rfl,rfl⟩
  ·rcases keyIs_shape hv with ⟨j,u,rfl,rfl⟩ | ⟨y,u,rfl,rfl⟩
   ·rw [key_ll] at h;exact wpAny_eqBool_int h
   ·rw [key_lr] at h;exact SeqAt.EqAt.int_str i t y u _ _ _ _ h
  ·rcases keyIs_shape hv with ⟨j,u,rfl,rfl⟩ | ⟨y,u,rfl,rfl⟩
   ·rw [key_rl] at h;exact SeqAt.EqAt.str_int x t j u _ _ _ _ h
   ·rw [key_rr] at h;exact wpAny_eqBool_str h
 «strs»:=fun k x t v h=>by
  rcases keyIs_shape h with ⟨i,u,rfl,e⟩ | ⟨y,u,rfl,e⟩
  ·exact nomatch e
  ·injection e with e1 _
   subst e1
   cases v <;> rfl
theorem mixKind_int (prog:Program) (w:World) (i:Int) (t:Tok):(mixKind prog w).is (.inl i) (.int i t)=true:=keyIs_int i t
theorem mixKind_str (prog:Program) (w:World) (x:Str) (t:Tok):(mixKind prog w).is (.inr x) (.str x t)=true:=keyIs_str x t
inductive V where
 | non | bl (b:Bool) | int (i:Int) | str (x:Str) | byt (b:Array UInt8) | flt (b:UInt64) | ref (a:Addr) | ty (n:String)
 deriving DecidableEq
def RelV:V→Value→Prop
 | .non,u=>u=Value.none
 | .bl b,u=>u=Value.bool b
 | .int i,u=>∃ t,u=Value.int i t
 | .str x,u=>∃ t,u=Value.str x t
 | .byt b,u=>∃ t,u=Value.bytes b t
 | .flt b,u=>∃ t,u=Value.float b t
 | .ref a,u=>u=Value.ref a
 | .ty n,u=>u=Value.type n
abbrev Vals:List V→List Value→Prop:=Paired RelV
theorem Vals.length {xs:List V} {us:List Value} (r:Vals xs us):xs.length=us.length:=Paired.length r
theorem Vals.get:∀ {xs:List V} {us:List Value} {i:Nat} {x:V},Vals xs us→xs[i]?=some x→∃ u,us[i]?=some u∧RelV x u
 | _,_,_,_,.nil,e=>by simp at e
 | _,_,0,_,.cons r _,e=>by simp at e;subst e;exact ⟨_,rfl,r⟩
 | _,_,i+1,x,.cons _ t,e=>by
  obtain ⟨u,h1,h2⟩:=Vals.get (i:=i) (x:=x) t (by simpa using e)
  exact ⟨u,by simpa using h1,h2⟩
theorem Vals.set {x:V} {u:Value} (r:RelV x u):∀ {xs:List V} {us:List Value} (i:Nat),Vals xs us→Vals (xs.set i x) (us.set i u)
 | _,_,_,.nil=>.nil
 | _,_,0,.cons _ t=>.cons r t
 | _,_,i+1,.cons q t=>.cons q (Vals.set r i t)
theorem Vals.append:∀ {xs ys:List V} {us ws:List Value},Vals xs us→Vals ys ws→Vals (xs++ys) (us++ws)
 | _,_,_,_,.nil,s=>s
 | _,_,_,_,.cons r t,s=>.cons r (Vals.append t s)
theorem Vals.take:∀ {xs:List V} {us:List Value} (n:Nat),Vals xs us→Vals (xs.take n) (us.take n)
 | _,_,0,_=>.nil
 | _,_,_+1,.nil=>.nil
 | _,_,n+1,.cons r t=>.cons r (Vals.take n t)
theorem Vals.drop:∀ {xs:List V} {us:List Value} (n:Nat),Vals xs us→Vals (xs.drop n) (us.drop n)
 | _,_,0,r=>r
 | _,_,_+1,.nil=>.nil
 | _,_,n+1,.cons _ t=>Vals.drop n t
def RelO:Option V→Option Value→Prop
 | some v,some u=>RelV v u
 | none,none=>True
 | _,_=>False
def KV {κ:Type}:List (κ×V)→List (κ×Value)→Prop:=Paired fun (p:κ×V) (q:κ×Value)=>p.1=q.1∧RelV p.2 q.2
def kV:Key→V
 | .inl i=>.int i
 | .inr x=>.str x
inductive HO where
 | lst (xs:List V)
 | tup (xs:List V)
 | dK (kvs:List (Key×V)) | dT (kvs:List (List Key×V))
 | set (S:Int→Bool) (n:Nat)
 | ins (C dx:Addr) (fs:List (Str×V))
 | own (x:Addr)
 | xd (fs:List (Str×V))
 | met (f x:Addr)
 | rng (lo hi:Int)
 | frz (o:Obj) (u:HO)
 | tbl (ps:Array Value)
 | ext (φ:Heap→Prop)
abbrev Hp:=Addr→Option HO
def upd (H:Hp) (a:Addr) (o:HO):Hp:=fun b=>if b=a then some o else H b
theorem upd_same {H:Hp} {a:Addr} {o:HO}:upd H a o a=some o:=by unfold upd;rw [if_pos rfl]
theorem upd_ne {H:Hp} {a b:Addr} {o:HO} (h:b≠a):upd H a o b=H b:=by unfold upd;rw [if_neg h]
theorem ne_of {H:Hp} {a b:Addr} {o u:HO} (h:H a=some o) (h':H b=some u) (d:o≠u):a≠b:=by
 intro e;subst e;rw [h] at h';exact d (Option.some.inj h')
theorem ne_of_none {H:Hp} {a b:Addr} {o:HO} (h:H a=some o) (h':H b=none):a≠b:=by
 intro e;subst e;rw [h] at h';cases h'
section
variable (P:Program) (w:World)
def ObjOk (H:Hp) (h:Heap) (a:Addr):HO→Prop
 | .lst xs=>xs.length≤sizeLine∧∃ (its:List Value) (n:Nat),Vals xs its∧h.get? a=some { cls:=.type "list",data:=.seq its.toArray n }
 | .tup xs=>xs.length≤sizeLine∧∃ its:List Value,Vals xs its∧IsTup h a its.toArray
 | .dK kvs=>kvs.length≤sizeLine∧(a == sysModules)=false∧∃ vs,KV kvs vs∧h.DictOf (mixKind P w) a vs
 | .dT kvs=>kvs.length≤sizeLine∧(a == sysModules)=false∧∃ xs:List (List Key×Addr×Value),
   Paired (fun (p:List Key×V) (q:List Key×Addr×Value)=>p.1=q.1∧H q.2.1=some (.tup (p.1.map kV))∧RelV p.2 q.2.2) kvs xs ∧
   ∃ o es ep,h.get? a=some o∧o.ExactDict∧o.data=.dict es ep∧es.toList=xs.map (entryOfKey (tupleKind (mixKind P w)))∧(xs.map (·.1)).Nodup
 | .set S n=>h.SetOf (intKind P w) a S n
 | .ins C dx fs=>H dx=some (.own a)∧fs.length≤1000∧dx≠a∧h.get? a=some (PySem.W.instObj C dx) ∧
   ∃ mA,h.Ns1 dx mA∧(∀ f,RelO (fs.lookup f) (mA f))∧PySem.Within mA (fs.map (·.1))
 | .own _=>∃ o,h.get? a=some o
 | .xd fs=>∃ mA,h.Ns1 a mA∧∀ f,RelO (fs.lookup f) (mA f)
 | .rng lo hi=>∃ t u v,h.get? a=some { cls:=.type "range",data:=.fields #[.int lo t,.int hi u,.int 1 v] }
 | .frz o u=>h.get? a=some o∧ObjOk H h a u
 | .tbl ps=>h.get? a=some { cls:=.none,data:=.fields ps }
 | .met f x=>h.get? a=some (PySem.W.methodObj (.ref f) (.ref x))
 | .ext φ=>φ h∧(∃ o,h.get? a=some o)∧∀ h1 h2:Heap,φ h1→(∀ o,h1.get? a=some o→h2.get? a=some o)→φ h2
def HOk (H:Hp) (h:Heap):Prop:=∀ a o,H a=some o→ObjOk P w H h a o
end
section
variable {P:Program} {w:World} {H H':Hp} {h h':Heap} {a:Addr} {o:HO}
theorem ObjOk.lt (x:ObjOk P w H h a o):a<h.objs.size:=by
 cases o with
 | lst xs=>obtain ⟨_,_,_,_,e⟩:=x;exact Heap.lt_size e
 | tup xs=>obtain ⟨_,_,_,p⟩:=x;exact p.lt
 | dK kvs=>obtain ⟨_,_,_,_,o,_,_,e,_⟩:=x;exact Heap.lt_size e
 | dT kvs=>obtain ⟨_,_,_,_,o,_,_,e,_⟩:=x;exact Heap.lt_size e
 | set S n=>obtain ⟨o,_,_,_,e,_⟩:=x;exact Heap.lt_size e
 | ins C dx fs=>obtain ⟨_,_,_,e,_⟩:=x;exact Heap.lt_size e
 | own y=>obtain ⟨_,e⟩:=x;exact Heap.lt_size e
 | xd fs=>obtain ⟨_,⟨_,_,_,e,_⟩,_⟩:=x;exact Heap.lt_size e
 | rng lo hi=>obtain ⟨_,_,_,e⟩:=x;exact Heap.lt_size e
 | frz ob u=>obtain ⟨e,_⟩:=x;exact Heap.lt_size e
 | tbl ps=>exact Heap.lt_size (show h.get? a=some _ from x)
 | met f y=>exact Heap.lt_size (show h.get? a=some _ from x)
 | ext φ=>obtain ⟨_,⟨_,e⟩,_⟩:=x;exact Heap.lt_size e
theorem Paired.mapP {α β:Type} {F G:α→β→Prop}:∀ {l₁:List α} {l₂:List β},Paired F l₁ l₂→(∀ a b,F a b→G a b)→Paired G l₁ l₂
 | _,_,.nil,_=>.nil
 | _,_,.cons r t,f=>.cons (f _ _ r) (Paired.mapP t f)
theorem ObjOk.stay (x:ObjOk P w H h a o) (k:∀ b u,(b=a∨H b=some (.own a))→h.get? b=some u→h'.get? b=some u)
  (ho:∀ b,H b=some (.own a)→H' b=some (.own a)) (ht:∀ b xs,H b=some (.tup xs)→H' b=some (.tup xs)):ObjOk P w H' h' a o:=by
 induction o with
 | lst xs=>obtain ⟨z,its,n,r,e⟩:=x;exact ⟨z,its,n,r,k _ _ (.inl rfl) e⟩
 | tup xs=>obtain ⟨z,its,r,ob,e,c⟩:=x;exact ⟨z,its,r,ob,k _ _ (.inl rfl) e,c⟩
 | dK kvs=>obtain ⟨z,y,vs,r,ob,es,ep,e,c⟩:=x;exact ⟨z,y,vs,r,ob,es,ep,k _ _ (.inl rfl) e,c⟩
 | dT kvs =>
  obtain ⟨z,y,xs,r,ob,es,ep,e,c⟩:=x
  exact ⟨z,y,xs,Paired.mapP r fun p q z=>⟨z.1,ht _ _ z.2.1,z.2.2⟩,ob,es,ep,k _ _ (.inl rfl) e,c⟩
 | set S n=>obtain ⟨ob,es,ep,t,e,c⟩:=x;exact ⟨ob,es,ep,t,k _ _ (.inl rfl) e,c⟩
 | ins C dx fs =>
  obtain ⟨d,z,ne,e,mA,⟨od,es,ep,e2,c⟩,r⟩:=x
  exact ⟨ho _ d,z,ne,k _ _ (.inl rfl) e,mA,⟨od,es,ep,k _ _ (.inr d) e2,c⟩,r⟩
 | own y=>obtain ⟨ob,e⟩:=x;exact ⟨ob,k _ _ (.inl rfl) e⟩
 | xd fs=>obtain ⟨mA,⟨od,es,ep,e,c⟩,r⟩:=x;exact ⟨mA,⟨od,es,ep,k _ _ (.inl rfl) e,c⟩,r⟩
 | rng lo hi=>obtain ⟨t,u,v,e⟩:=x;exact ⟨t,u,v,k _ _ (.inl rfl) e⟩
 | frz ob u ih=>obtain ⟨e,q⟩:=x;exact ⟨k _ _ (.inl rfl) e,ih q⟩
 | tbl ps =>
  have e:h.get? a=some { cls:=.none,data:=.fields ps }:=x
  show h'.get? a=some { cls:=.none,data:=.fields ps }
  exact k a _ (.inl rfl) e
 | met f y =>
  have e:h.get? a=some (PySem.W.methodObj (.ref f) (.ref y)):=x
  show h'.get? a=some (PySem.W.methodObj (.ref f) (.ref y))
  exact k a _ (.inl rfl) e
 | ext φ=>obtain ⟨p,⟨o,e⟩,st⟩:=x;exact ⟨st _ _ p fun o q=>k _ _ (.inl rfl) q,⟨o,k _ _ (.inl rfl) e⟩,st⟩
theorem HOk.lt (x:HOk P w H h) (e:H a=some o):a<h.objs.size:=(x a o e).lt
theorem HOk.fresh (x:HOk P w H h) (e:h.objs.size≤a):H a=none:=by
 cases q:H a with
 | none=>rfl
 | some u=>exact absurd (Nat.lt_of_lt_of_le (x.lt q) e) (Nat.lt_irrefl _)
theorem HOk.kept (x:HOk P w H h) (k:∀ b u,h.get? b=some u→h'.get? b=some u):HOk P w H h':=fun a o e =>
 (x a o e).stay (fun b u _ q=>k b u q) (fun _ q=>q) fun _ _ q=>q
theorem HOk.laid (x:HOk P w H h) (k:∀ b u,h.get? b=some u→h'.get? b=some u) (hp:h.objs.size≤a) (new:ObjOk P w (upd H a o) h' a o):HOk P w (upd H a o) h':=fun b u e=>by
 have hn:=x.fresh hp
 by_cases hb:b=a
 ·subst hb;rw [upd_same] at e;cases e;exact new
 ·rw [upd_ne hb] at e
  exact (x b u e).stay (fun c v _ q=>k c v q) (fun c q=>by rw [upd_ne (ne_of_none q hn)];exact q) fun c xs q=>by rw [upd_ne (ne_of_none q hn)];exact q
end
def Rd (H:Hp) (a:Addr) (u:HO):Prop:=H a=some u∨∃ o,H a=some (.frz o u)
theorem Rd.ok {P:Program} {w:World} {H:Hp} {h:Heap} {a:Addr} {u:HO} (r:Rd H a u) (x:HOk P w H h):ObjOk P w H h a u:=by
 rcases r with r | ⟨o,r⟩
 ·exact x a u r
 ·obtain ⟨_,q⟩:=x a _ r
  exact q
def Mut:Option HO→Prop
 | some (.lst _)=>True
 | some (.dK _)=>True
 | some (.dT _)=>True
 | some (.set _ _)=>True
 | some (.ins _ _ _)=>True
 | some (.ext _)=>True
 | _=>False
section
variable {P:Program} {w:World} {H:Hp} {h h':Heap} {x e:Addr} {o':HO}
theorem HOk.write (ok:HOk P w H h) (mu:Mut (H x)) (he:e=x∨H e=some (.own x)) (k:∀ b u,b≠e→h.get? b=some u→h'.get? b=some u) (heo:∃ u,h'.get? e=some u)
  (new:ObjOk P w (upd H x o') h' x o'):HOk P w (upd H x o') h':=fun b u q=>by
 have nown:∀ c y,H c=some (.own y)→c≠x:=fun c y r z=>by subst z;rw [r] at mu;exact mu
 have ntup:∀ c xs,H c=some (.tup xs)→c≠x:=fun c xs r z=>by subst z;rw [r] at mu;exact mu
 by_cases hb:b=x
 ·subst hb;rw [upd_same] at q;cases q;exact new
 ·rw [upd_ne hb] at q
  by_cases hbe:b=e
  ·have q':H b=some (.own x):=by
    rcases he with z | z
    ·exact absurd (hbe.trans z) hb
    ·rw [hbe];exact z
   rw [q] at q';cases q'
   obtain ⟨v,hv⟩:=heo
   exact ⟨v,by rw [hbe];exact hv⟩
  ·refine (ok b u q).stay (fun c v hc r=>k c v ?_ r) (fun c r=>by rw [upd_ne (nown c b r)];exact r) fun c xs r=>by rw [upd_ne (ntup c xs r)];exact r
   rcases hc with rfl | hc
   ·exact hbe
   ·rintro rfl
    rcases he with z | z
    ·exact nown c b hc z
    ·rw [hc] at z;cases z;exact hb rfl
end
structure Un (fs ex:List Addr) (H H':Hp) (h h':Heap):Prop where
 keep:∀ b o,h.get? b=some o→H b=none→b ∉ fs→b ∉ ex→h'.get? b=some o
 slot:∀ b o,h.get? b=some o→H b=none→b∈fs→b ∉ ex→∃ sl,h'.get? b=some { o with slots:=sl }
 free:∀ b o,h.get? b=some o→H b=none→b ∉ ex→H' b=none
 there:∀ b o,h.get? b=some o→b ∉ ex→∃ o',h'.get? b=some o'
 tups:∀ b xs,H b=some (.tup xs)→H' b=some (.tup xs)
 frzs:∀ b o u,H b=some (.frz o u)→H' b=some (.frz o u)
 tbls:∀ b ps,H b=some (.tbl ps)→∃ more,H' b=some (.tbl (ps++more))
section
variable {fs fs' ex ex':List Addr} {H H1 H2:Hp} {h h1 h2 h':Heap} {a x e:Addr} {o:HO}
theorem Un.any (u:Un fs ex H H1 h h1) {b:Addr} {ob:Obj} (q:h.get? b=some ob) (n:H b=none) (hx:b ∉ ex):∃ sl,h1.get? b=some { ob with slots:=sl }:=by
 by_cases hb:b∈fs
 ·exact u.slot b ob q n hb hx
 ·exact ⟨ob.slots,u.keep b ob q n hb hx⟩
theorem Un.kept (k:∀ b u,h.get? b=some u→h'.get? b=some u):Un fs ex H H h h' :=
 ⟨fun b ob q _ _ _=>k b ob q,fun b ob q _ _ _=>⟨ob.slots,k b ob q⟩,fun _ _ _ n _=>n,fun b ob q _=>⟨ob,k b ob q⟩,fun _ _ q=>q,fun _ _ _ q=>q,fun _ ps q=>⟨#[],by rw [q];simp⟩⟩
theorem Un.refl:Un fs ex H H h h:=Un.kept fun _ _ q=>q
theorem Un.laid (k:∀ b u,h.get? b=some u→h'.get? b=some u) (hp:h.objs.size≤a) (hn:H a=none):Un fs ex H (upd H a o) h h' where
 keep:=fun b u q _ _ _=>k b u q
 slot:=fun b u q _ _ _=>⟨u.slots,k b u q⟩
 free:=fun b u q n _=>by rw [upd_ne (Nat.ne_of_lt (Nat.lt_of_lt_of_le (Heap.lt_size q) hp))];exact n
 there:=fun b u q _=>⟨u,k b u q⟩
 tups:=fun b xs q=>by rw [upd_ne (ne_of_none q hn)];exact q
 frzs:=fun b u xs q=>by rw [upd_ne (ne_of_none q hn)];exact q
 tbls:=fun b ps q=>⟨#[],by rw [upd_ne (ne_of_none q hn),q];simp⟩
theorem Un.write (mu:Mut (H x)) (he:e=x∨H e=some (.own x)) (k:∀ b u,b≠e→h.get? b=some u→h'.get? b=some u) (heo:∃ u,h'.get? e=some u):Un fs ex H (upd H x o) h h':=by
 have hx:∀ b,H b=none→b≠x:=fun b n z=>by subst z;rw [n] at mu;exact mu
 have hb:∀ b,H b=none→b≠e:=fun b n z=>by
  subst z
  rcases he with r | r
  ·exact hx b n r
  ·rw [n] at r;cases r
 have hm:∀ b u,H b=some u→¬ Mut (some u)→b≠x:=fun b u q nm z=>by subst z;rw [q] at mu;exact nm mu
 refine ⟨fun b u q n _ _=>k b u (hb b n) q,fun b u q n _ _=>⟨u.slots,k b u (hb b n) q⟩,fun b u q n _=>by rw [upd_ne (hx b n)];exact n,fun b u q _=>?_,
  fun b xs q=>by rw [upd_ne (hm b _ q fun z=>z)];exact q,fun b u xs q=>by rw [upd_ne (hm b _ q fun z=>z)];exact q,fun b ps q=>⟨#[],by rw [upd_ne (hm b _ q fun z=>z),q];simp⟩⟩
 by_cases hbe:b=e
 ·subst hbe;exact heo
 ·exact ⟨u,k b u hbe q⟩
end
def trk (h:Heap) (H:Hp):List Addr:=(List.range h.objs.size).filter fun a=>(H a).isSome
def hidT (h:Heap) (H:Hp):Heap:=PySem.W.hideAll h (trk h H)
theorem hidT_size (h:Heap) (H:Hp):(hidT h H).objs.size=h.objs.size:=PySem.W.hideAll_size _ _
theorem hidT_get {h:Heap} {H:Hp} {b:Addr} {o:Obj} (e:h.get? b=some o) (n:H b=none):(hidT h H).get? b=some o :=
 PySem.W.hideAll_get _ e fun hm=>by
  have q:(H b).isSome=true:=(List.mem_filter.mp hm).2
  rw [n] at q;simp at q
theorem of_hidT {h:Heap} {H:Hp} {b:Addr} {o:Obj} (e:(hidT h H).get? b=some o):h.get? b=some o∧H b=none:=by
 have e':h.get? b=some o:=PySem.W.of_hideAll (trk h H) e
 refine ⟨e',?_⟩
 cases q:H b with
 | none=>rfl
 | some x =>
  have hm:b∈trk h H:=List.mem_filter.mpr ⟨List.mem_range.mpr (Heap.lt_size e'),by simp [q]⟩
  have z:(hidT h H).get? b=none:=PySem.W.hideAll_none (trk h H) hm
  rw [z] at e;cases e
structure Mod (K:PySem.W.Frag) (mg:Str→Option Value) (base:Heap):Prop where
 kin:K.In base
 glob:base.Ns mainGlobals mg
 blt:∃ mb,base.Ns builtinsNs mb∧∀ x:Str,x≠"__name__"→mb x=bootBuiltins x
 nolimit:base.NoLimit
structure Cx where
 prog:Program
 w:World
 K:PySem.W.Frag
 mg:Str→Option Value
 base:Heap
 A:Around
 N:List Str
 s₀:Shared
 H₀:Hp
 env:Env
 outer:List Env
 stack:List Env
 ex:List Addr
 fn:Str→Bool
 calm:Bool
 pn:List (Addr×Obj)
 xe:Value→Shared→Prop
def frs (l:List Env):List Addr:=l.filterMap (·.frame)
abbrev Cx.fs (X:Cx):List Addr:=frs X.outer
def Vis (sc:Scope) (x:Str):Prop:=sc.names.lookup x=some .local∨sc.names.lookup x=some .cell∨sc.names.lookup x=some .free
def Loc (sc:Scope) (x:Str):Prop:=sc.names.lookup x=some .local∨sc.names.lookup x=some .cell
def Look (env:Env) (h:Heap) (m:Str→Option Value) (x:Str) (u:Value):Prop :=
 (env.kindOf x=some .local∧m x=some u)∨((env.kindOf x=some .cell∨env.kindOf x=some .free)∧∃ c,env.cells.lookup x=some c∧h.IsCell c (some u))
structure Cx.Ok (X:Cx):Prop where
 mod:Mod X.K X.mg X.base
 kind:X.env.scope.kind=.function
 glob:X.env.globals=mainGlobals
 blt:X.env.builtins=builtinsNs
 above:X.s₀.heap.objs.size≤X.env.locals
 inj:∀ x y c,X.env.cells.lookup x=some c→X.env.cells.lookup y=some c→x=y
 has:∀ x,(X.env.kindOf x=some .cell∨X.env.kindOf x=some .free)→∃ c,X.env.cells.lookup x=some c
 cab:∀ x c,X.fn x=true→X.env.cells.lookup x=some c→X.s₀.heap.objs.size≤c
 hd:X.calm=true→X.A.handled=none
 frames:X.A.frames=some X.stack
 stk:X.stack=X.outer∨(X.stack=X.env::X.outer∧X.env.frame=some X.env.locals)
 exf:∀ b∈X.ex,b≠X.env.locals∧∀ x c,X.env.cells.lookup x=some c→c≠b
 bs:∀ b o,X.base.get? b=some o→X.s₀.heap.get? b=some o∧X.H₀ b=none
 bsz:X.base.objs.size≤X.s₀.heap.objs.size
 noex:∀ b o,X.base.get? b=some o→b ∉ X.ex
 exfs:∀ b∈X.ex,b ∉ X.fs
 funs:X.s₀.heap.FunFrames X.base X.outer
 frf:∀ b∈X.fs,X.H₀ b=none
structure Inv (X:Cx) (pins:List (Addr×Obj)) (σ:List (Option V)) (H:Hp) (s:Shared):Prop where
 ok:X.Ok
 os:s.os=X.s₀.os
 bare:AllBare s.gens
 base:Un X.fs X.ex X.H₀ H X.s₀.heap s.heap
 loc:∃ m,s.heap.Ns X.env.locals m∧∀ (i:Nat) (x:Str) (v:V),X.N[i]?=some x→σ[i]?=some (some v)→Vis X.env.scope x→∃ u,RelV v u∧Look X.env s.heap m x u
 cell:∀ x c,X.env.cells.lookup x=some c→∃ v,s.heap.IsCell c v
 free:H X.env.locals=none
 freeC:∀ x c,X.env.cells.lookup x=some c→H c=none
 pin:∀ p∈X.pn++pins,s.heap.get? p.1=some p.2∧H p.1=none∧p.1≠X.env.locals∧p.1 ∉ X.fs∧∀ v,p.2.data≠.cell v
 hok:HOk X.prog X.w H s.heap
 len:σ.length=X.N.length
section
variable {X:Cx} {pins:List (Addr×Obj)} {σ:List (Option V)} {H H':Hp} {s:Shared} {h':Heap}
theorem Cx.Ok.nofr (ok:X.Ok) {b:Addr} {o:Obj} (e:X.base.get? b=some o):b ∉ X.fs:=fun hb=>by
 have:=(ok.funs.mem hb).1
 rw [e] at this;cases this
theorem Inv.bs (I:Inv X pins σ H s):∀ b o,X.base.get? b=some o→s.heap.get? b=some o∧H b=none:=fun b o e =>
 ⟨I.base.keep b o (I.ok.bs b o e).1 (I.ok.bs b o e).2 (I.ok.nofr e) (I.ok.noex b o e),I.base.free b o (I.ok.bs b o e).1 (I.ok.bs b o e).2 (I.ok.noex b o e)⟩
theorem Inv.bk (I:Inv X pins σ H s):∀ b o,X.base.get? b=some o→s.heap.get? b=some o:=fun b o e=>(I.bs b o e).1
theorem Inv.mod (I:Inv X pins σ H s):Mod X.K X.mg X.base:=I.ok.mod
theorem Inv.kIn (I:Inv X pins σ H s):X.K.In s.heap:=I.ok.mod.kin.keeps I.bk
theorem Inv.lt (I:Inv X pins σ H s):X.env.locals<s.heap.objs.size:=let ⟨_,hn,_⟩:=I.loc;hn.lt
theorem Inv.sz (I:Inv X pins σ H s):X.s₀.heap.objs.size≤s.heap.objs.size:=Nat.le_trans I.ok.above (Nat.le_of_lt I.lt)
theorem Inv.nofs (I:Inv X pins σ H s) {a:Addr} (h:s.heap.objs.size≤a):a ∉ X.fs:=fun hb=>by
 obtain ⟨_,o,ho,_⟩:=I.ok.funs.mem hb
 exact absurd (Nat.lt_of_lt_of_le (Heap.lt_size ho) (Nat.le_trans I.sz h)) (Nat.lt_irrefl _)
theorem Inv.cne (I:Inv X pins σ H s):∀ x c,X.env.cells.lookup x=some c→c≠X.env.locals:=fun x c e z=>by
 obtain ⟨v,o,ho,hd⟩:=I.cell x c e
 obtain ⟨m,⟨o',es,ep,ho',hd',_⟩,_⟩:=I.loc
 rw [z,ho'] at ho;cases ho;rw [hd'] at hd;cases hd
theorem Inv.funs (I:Inv X pins σ H s):s.heap.FunFrames X.base X.outer:=by
 have all:∀ (l:List Env),(∀ b∈frs l,b∈X.fs)→X.s₀.heap.FunFrames X.base l→s.heap.FunFrames X.base l:=by
  intro l
  induction l with
  | nil=>intro _ _;trivial
  | cons env r ih =>
   intro hs hl
   obtain ⟨hk,⟨L,o,hf,hn,ho,hd⟩,hr⟩:=hl
   have hL:L∈X.fs:=hs L (by unfold frs;rw [List.filterMap_cons,hf];exact List.mem_cons_self)
   obtain ⟨sl,e⟩:=I.base.slot L o ho (I.ok.frf L hL) hL fun z=>I.ok.exfs L z hL
   exact ⟨hk,⟨L,_,hf,hn,e,hd⟩,ih (fun b hb=>hs b (by unfold frs;rw [List.filterMap_cons,hf];exact List.mem_cons_of_mem _ hb)) hr⟩
 exact all X.outer (fun _ hb=>hb) I.ok.funs
theorem Inv.stack (I:Inv X pins σ H s):s.heap.FunFrames X.base X.stack:=by
 rcases I.ok.stk with e | ⟨e,hf⟩
 ·rw [e];exact I.funs
 ·rw [e]
  obtain ⟨m,hn,_⟩:=I.loc
  refine .cons (by rw [I.ok.kind];decide) hf hn ?_ I.funs
  exact Heap.get?_none_of_le (Nat.le_trans I.ok.bsz I.ok.above)
theorem Inv.stkSub (I:Inv X pins σ H s):∀ b∈frs X.stack,b∈X.env.locals::X.fs:=fun b hb=>by
 rcases I.ok.stk with e | ⟨e,hf⟩
 ·rw [e] at hb;exact List.mem_cons_of_mem _ hb
 ·rw [e] at hb
  unfold frs at hb
  rw [List.filterMap_cons,hf] at hb
  exact hb
theorem Inv.stkFree (I:Inv X pins σ H s):∀ b∈frs X.stack,H b=none:=fun b hb=>by
 rcases List.mem_cons.mp (I.stkSub b hb) with e | hb
 ·rw [e];exact I.free
 ·obtain ⟨_,o,ho,_⟩:=I.ok.funs.mem hb
  exact I.base.free b o ho (I.ok.frf b hb) fun z=>I.ok.exfs b z hb
theorem Inv.step {g':Array GenState} {t':Nat} {d':Drawn} {ch:List Addr} (I:Inv X pins σ H s)
  (hch:∀ b∈ch,(b∈X.ex∨X.s₀.heap.objs.size≤b)∧b≠X.env.locals∧(∀ x c,X.env.cells.lookup x=some c→c≠b)∧∀ p∈X.pn++pins,p.1≠b)
  (keep:∀ b o,b≠X.env.locals→b ∉ X.fs→b ∉ ch→s.heap.get? b=some o→H b=none→h'.get? b=some o)
  (slot:∀ b o,b≠X.env.locals→b∈X.fs→b ∉ ch→s.heap.get? b=some o→H b=none→∃ sl,h'.get? b=some { o with slots:=sl }) (free:∀ b o,b ∉ ch→s.heap.get? b=some o→H b=none→H' b=none)
  (there:∀ b o,b ∉ ch→s.heap.get? b=some o→∃ o',h'.get? b=some o')
  (tups:∀ b xs,H b=some (.tup xs)→H' b=some (.tup xs)) (frzs:∀ b o u,H b=some (.frz o u)→H' b=some (.frz o u)) (tbls:∀ b ps,H b=some (.tbl ps)→∃ more,H' b=some (.tbl (ps++more)))
  (ns:∀ m,s.heap.Ns X.env.locals m→h'.Ns X.env.locals m) (hok:HOk X.prog X.w H' h') (hg:AllBare g') :
  Inv X pins σ H' { s with heap:=h',gens:=g',drawn:=d',toks:=t' }:=by
 have neL:∀ b o,X.s₀.heap.get? b=some o→b≠X.env.locals:=fun b o e=>Nat.ne_of_lt (Nat.lt_of_lt_of_le (Heap.lt_size e) I.ok.above)
 have neC:∀ b o,X.s₀.heap.get? b=some o→b ∉ X.ex→b ∉ ch:=fun b o e hx hb=>by
  rcases (hch b hb).1 with z | z
  ·exact hx z
  ·exact absurd (Nat.lt_of_lt_of_le (Heap.lt_size e) z) (Nat.lt_irrefl _)
 have cellK:∀ x c,X.env.cells.lookup x=some c→∀ v,s.heap.IsCell c v→h'.IsCell c v:=fun x c e v ⟨o,ho,hd⟩=>by
  have nch:c ∉ ch:=fun z=>(hch c z).2.2.1 x c e rfl
  by_cases hc:c∈X.fs
  ·obtain ⟨sl,q⟩:=slot c o (I.cne x c e) hc nch ho (I.freeC x c e)
   exact ⟨_,q,hd⟩
  ·exact ⟨o,keep c o (I.cne x c e) hc nch ho (I.freeC x c e),hd⟩
 refine ⟨I.ok,I.os,hg,⟨fun b o e n hb hx=>?_,fun b o e n hb hx=>?_,fun b o e n hx=>?_,fun b o e hx=>?_,fun b xs e=>tups b xs (I.base.tups b xs e),fun b o xs e=>frzs b o xs (I.base.frzs b o xs e),fun b ps e=>?_⟩,?_,fun x c e=>?_,?_,fun x c e=>?_,fun p hp=>?_,hok,I.len⟩
 ·exact keep b o (neL b o e) hb (neC b o e hx) (I.base.keep b o e n hb hx) (I.base.free b o e n hx)
 ·obtain ⟨sl,e1⟩:=I.base.slot b o e n hb hx
  obtain ⟨sl',e2⟩:=slot b _ (neL b o e) hb (neC b o e hx) e1 (I.base.free b o e n hx)
  exact ⟨sl',e2⟩
 ·obtain ⟨o',e1⟩:=I.base.there b o e hx
  exact free b o' (neC b o e hx) e1 (I.base.free b o e n hx)
 ·obtain ⟨o',e1⟩:=I.base.there b o e hx
  exact there b o' (neC b o e hx) e1
 ·obtain ⟨m1,e1⟩:=I.base.tbls b ps e
  obtain ⟨m2,e2⟩:=tbls b _ e1
  exact ⟨m1++m2,by rw [e2,Array.append_assoc]⟩
 ·obtain ⟨m,hn,hl⟩:=I.loc
  refine ⟨m,ns m hn,fun i x v e1 e2 e3=>?_⟩
  obtain ⟨u,r,l⟩:=hl i x v e1 e2 e3
  refine ⟨u,r,?_⟩
  rcases l with l | ⟨k,c,e,z⟩
  ·exact .inl l
  ·exact .inr ⟨k,c,e,cellK x c e _ z⟩
 ·obtain ⟨v,z⟩:=I.cell x c e
  exact ⟨v,cellK x c e v z⟩
 ·obtain ⟨m,⟨o,_,_,ho,_⟩,_⟩:=I.loc
  exact free _ o (fun z=>(hch _ z).2.1 rfl) ho I.free
 ·obtain ⟨v,o,ho,hd⟩:=I.cell x c e
  exact free c o (fun z=>(hch c z).2.2.1 x c e rfl) ho (I.freeC x c e)
 ·obtain ⟨e,n,ne,nf,d⟩:=I.pin p hp
  have nch:p.1 ∉ ch:=fun z=>(hch p.1 z).2.2.2 p hp rfl
  exact ⟨keep p.1 p.2 ne nf nch e n,free p.1 p.2 nch e n,ne,nf,d⟩
theorem Inv.un {t':Nat} (I:Inv X pins σ H s) (u:Un X.fs [] H H' s.heap h') (hok:HOk X.prog X.w H' h'):Inv X pins σ H' { s with heap:=h',toks:=t' }:=by
 obtain ⟨m,⟨o,es,ep,ho,r⟩,_⟩:=id I.loc
 obtain ⟨sl,hL⟩:=u.any ho I.free (by simp)
 exact I.step (g':=s.gens) (d':=s.drawn) (ch:=[]) (fun _ z=>nomatch z) (fun b o _ hb _ e n=>u.keep b o e n hb (by simp)) (fun b o _ hb _ e n=>u.slot b o e n hb (by simp)) (fun b o _ e n=>u.free b o e n (by simp)) (fun b o _ e=>u.there b o e (by simp)) u.tups u.frzs u.tbls (fun m' hm=>by
  obtain ⟨o',es',ep',ho',r'⟩:=hm
  rw [ho] at ho';cases ho'
  exact ⟨_,es',ep',hL,r'⟩) hok I.bare
theorem Inv.call {g':Array GenState} {t':Nat} {d':Drawn} {ch:List Addr} (I:Inv X pins σ H s) (u:Un (frs X.stack) ch H H' s.heap h') (hok:HOk X.prog X.w H' h') (hg:AllBare g')
  (hch:∀ b∈ch,(b∈X.ex∨X.s₀.heap.objs.size≤b)∧b≠X.env.locals∧(∀ x c,X.env.cells.lookup x=some c→c≠b)∧∀ p∈X.pn++pins,p.1≠b) :
  Inv X pins σ H' { s with heap:=h',gens:=g',drawn:=d',toks:=t' }:=by
 obtain ⟨m,⟨o,es,ep,ho,r⟩,_⟩:=id I.loc
 obtain ⟨sl,hL⟩:=u.any ho I.free fun z=>(hch _ z).2.1 rfl
 exact I.step (ch:=ch) hch (fun b o hL hb hc e n=>u.keep b o e n (fun z=>(List.mem_cons.mp (I.stkSub b z)).elim hL hb) hc) (fun b o _ _ hc e n=>u.any e n hc) (fun b o hc e n=>u.free b o e n hc) (fun b o hc e=>u.there b o e hc) u.tups u.frzs u.tbls (fun m' hm=>by
  obtain ⟨o',es',ep',ho',r'⟩:=hm
  rw [ho] at ho';cases ho'
  exact ⟨_,es',ep',hL,r'⟩) hok hg
theorem Inv.turned {t':Nat} {it:Addr} (I:Inv X pins σ H s) (k:∀ b o,b≠it→s.heap.get? b=some o→h'.get? b=some o) (hn:H it=none) (hL:it≠X.env.locals)
  (h1:it∈X.ex∨X.s₀.heap.objs.size≤it) (h2:∀ x c,X.env.cells.lookup x=some c→c≠it) (h3:∀ p∈X.pn++pins,p.1≠it):Inv X pins σ H { s with heap:=h',toks:=t' }:=by
 have nit:∀ b u,H b=some u→b≠it:=fun b u e z=>by rw [z,hn] at e;cases e
 refine I.step (g':=s.gens) (d':=s.drawn) (ch:=[it]) (fun b hb=>?_) (fun b o _ _ hc e _=>k b o (fun z=>hc (by simp [z])) e) (fun b o _ _ hc e _=>⟨o.slots,k b o (fun z=>hc (by simp [z])) e⟩) (fun _ _ _ _ n=>n)
  (fun b o hc e=>⟨o,k b o (fun z=>hc (by simp [z])) e⟩) (fun _ _ e=>e) (fun _ _ _ e=>e) (fun b ps e=>⟨#[],by rw [e];simp⟩) (fun m hm=>?_) (fun b u e=>?_) I.bare
 ·have e:b=it:=by simpa using hb
  subst e
  exact ⟨h1,hL,h2,h3⟩
 ·obtain ⟨o,es,ep,ho,r⟩:=hm
  exact ⟨o,es,ep,k _ o (Ne.symm hL) ho,r⟩
 ·refine (I.hok b u e).stay (fun c v hc q=>k c v ?_ q) (fun _ q=>q) fun _ _ q=>q
  rcases hc with z | z
  ·rw [z];exact nit b u e
  ·exact nit c _ z
theorem Inv.tok (I:Inv X pins σ H s) (t:Nat):Inv X pins σ H { s with toks:=t }:=I.un (h':=s.heap) (t':=t) Un.refl I.hok
theorem Inv.kept {t':Nat} (I:Inv X pins σ H s) (k:∀ b u,s.heap.get? b=some u→h'.get? b=some u):Inv X pins σ H { s with heap:=h',toks:=t' }:=I.un (Un.kept k) (I.hok.kept k)
theorem Inv.laid {a:Addr} {o:HO} {t':Nat} (I:Inv X pins σ H s) (k:∀ b u,s.heap.get? b=some u→h'.get? b=some u) (hp:s.heap.objs.size≤a) (new:ObjOk X.prog X.w (upd H a o) h' a o) :
  Inv X pins σ (upd H a o) { s with heap:=h',toks:=t' }:=I.un (Un.laid k hp (I.hok.fresh hp)) (I.hok.laid k hp new)
theorem Inv.write {x e:Addr} {o:HO} {t':Nat} (I:Inv X pins σ H s) (mu:Mut (H x)) (he:e=x∨H e=some (.own x)) (k:∀ b u,b≠e→s.heap.get? b=some u→h'.get? b=some u) (heo:∃ u,h'.get? e=some u)
  (new:ObjOk X.prog X.w (upd H x o) h' x o):Inv X pins σ (upd H x o) { s with heap:=h',toks:=t' }:=I.un (Un.write mu he k heo) (I.hok.write mu he k heo new)
theorem Inv.pins_of {pins':List (Addr×Obj)} (I:Inv X pins σ H s) (h:∀ p∈pins',s.heap.get? p.1=some p.2∧H p.1=none∧p.1≠X.env.locals∧p.1 ∉ X.fs∧∀ v,p.2.data≠.cell v):Inv X pins' σ H s :=
 ⟨I.ok,I.os,I.bare,I.base,I.loc,I.cell,I.free,I.freeC,fun p hp=>(List.mem_append.mp hp).elim (fun z=>I.pin p (List.mem_append_left _ z)) (h p),I.hok,I.len⟩
theorem nodup_ix {N:List Str} (hN:N.Nodup) {i j:Nat} {x:Str} (a:N[i]?=some x) (b:N[j]?=some x):i=j:=by
 obtain ⟨h1,e1⟩:=List.getElem?_eq_some_iff.mp a
 obtain ⟨h2,e2⟩:=List.getElem?_eq_some_iff.mp b
 exact (List.getElem_inj hN).mp (e1.trans e2.symm)
theorem store_ok2 {M:Model} {A:Around} {E:Value→Shared→Prop} {i:Nat} {x:Str} {v:V} {u:Value} {Q:Unit→Shared→Prop} (I:Inv X pins σ H s) (hN:X.N.Nodup) (hi:X.N[i]?=some x) (hx:Loc X.env.scope x) (r:RelV v u)
  (h:∀ s',Inv X pins (σ.set i (some v)) H s'→(∃ a,Heap.SameBut a s.heap s'.heap∧(a=X.env.locals∨X.env.cells.lookup x=some a))→Q () s') (hf:X.fn x=true∨X.env.scope.names.lookup x=some .local:=by first | exact .inl rfl | exact .inr rfl | assumption):wpAny M A (storeName X.env x u) Q E s:=by
 obtain ⟨m,hn,hl⟩:=id I.loc
 have hcls:(X.env.scope.kind == .class || (X.env.scope.kind == .module && X.env.locals != X.env.globals))=false:=by rw [I.ok.kind];rfl
 have hiσ:i<σ.length:=by rw [I.len];exact (List.getElem?_eq_some_iff.mp hi).1
 have cne:=I.cne
 have tracked:∀ {a:Addr} {h':Heap},(∃ o,s.heap.get? a=some o∧H a=none)→Heap.SameBut a s.heap h'→HOk X.prog X.w H h':=fun {a h'} ha hs b ob e=>by
  obtain ⟨_,_,hfree⟩:=ha
  refine (I.hok b ob e).stay (fun c w' hc q=>(hs.2 c ?_).trans q) (fun _ q=>q) fun _ _ q=>q
  rintro rfl
  rcases hc with rfl | hc
  ·rw [hfree] at e;cases e
  ·rw [hfree] at hc;cases hc
 rcases hx with hk | hk
 ·refine wpAny_storeName_local hk hn (fun h' hn' hs=>?_) hcls
  obtain ⟨oL,_,_,hoL,_⟩:=id hn
  refine h _ ⟨I.ok,I.os,I.bare,⟨fun b o e n hb hx=>?_,fun b o e n hb hx=>?_,I.base.free,fun b o e hx=>?_,I.base.tups,I.base.frzs,I.base.tbls⟩,⟨_,hn',fun j y v' e1 e2 e3=>?_⟩,fun y c e=>?_,I.free,I.freeC,fun p hp=>?_,tracked ⟨oL,hoL,I.free⟩ hs,by simpa using I.len⟩ ⟨_,hs,.inl rfl⟩
  ·exact (hs.2 b (Nat.ne_of_lt (Nat.lt_of_lt_of_le (Heap.lt_size e) I.ok.above))).trans (I.base.keep b o e n hb hx)
  ·obtain ⟨sl,e1⟩:=I.base.slot b o e n hb hx
   exact ⟨sl,(hs.2 b (Nat.ne_of_lt (Nat.lt_of_lt_of_le (Heap.lt_size e) I.ok.above))).trans e1⟩
  ·obtain ⟨o',e1⟩:=I.base.there b o e hx
   exact ⟨o',(hs.2 b (Nat.ne_of_lt (Nat.lt_of_lt_of_le (Heap.lt_size e) I.ok.above))).trans e1⟩
  ·by_cases hj:j=i
   ·subst hj
    rw [hi] at e1;cases e1
    rw [List.getElem?_set_self hiσ] at e2
    cases e2
    exact ⟨u,r,.inl ⟨hk,by simp⟩⟩
   ·rw [List.getElem?_set_ne (Ne.symm hj)] at e2
    obtain ⟨u',r',q⟩:=hl j y v' e1 e2 e3
    refine ⟨u',r',?_⟩
    rcases q with ⟨k,e⟩ | ⟨k,c,e,z⟩
    ·refine .inl ⟨k,?_⟩
     have:y≠x:=fun e=>hj (nodup_ix hN e1 (e ▸ hi))
     simp [this,e]
    ·exact .inr ⟨k,c,e,z.sameBut hs (cne y c e)⟩
  ·obtain ⟨w',z⟩:=I.cell y c e
   exact ⟨w',z.sameBut hs (cne y c e)⟩
  ·obtain ⟨e,n,ne,nf,d⟩:=I.pin p hp
   exact ⟨(hs.2 p.1 ne).trans e,n,ne,nf,d⟩
 ·have hfn:X.fn x=true:=by
   rcases hf with z | z
   ·exact z
   ·rw [z] at hk;cases hk
  obtain ⟨c,hc⟩:=I.ok.has x (.inl hk)
  obtain ⟨w',z⟩:=I.cell x c hc
  refine wpAny_storeName_cell I.ok.kind hk hc z (fun h' hc' hs=>?_)
  obtain ⟨oc,hoc,hocd⟩:=id z
  refine h { s with heap:=h' } ⟨I.ok,I.os,I.bare,⟨fun b o e n hb hx=>?_,fun b o e n hb hx=>?_,I.base.free,fun b o e hx=>?_,I.base.tups,I.base.frzs,I.base.tbls⟩,⟨m,hn.sameBut hs (Ne.symm (cne x c hc)),fun j y v' e1 e2 e3=>?_⟩,fun y c' e=>?_,I.free,I.freeC,fun p hp=>?_,tracked ⟨oc,hoc,I.freeC x c hc⟩ hs,by simpa using I.len⟩ ⟨c,hs,.inr hc⟩
  ·exact (hs.2 b (Nat.ne_of_lt (Nat.lt_of_lt_of_le (Heap.lt_size e) (I.ok.cab x c hfn hc)))).trans (I.base.keep b o e n hb hx)
  ·obtain ⟨sl,e1⟩:=I.base.slot b o e n hb hx
   exact ⟨sl,(hs.2 b (Nat.ne_of_lt (Nat.lt_of_lt_of_le (Heap.lt_size e) (I.ok.cab x c hfn hc)))).trans e1⟩
  ·obtain ⟨o',e1⟩:=I.base.there b o e hx
   exact ⟨o',(hs.2 b (Nat.ne_of_lt (Nat.lt_of_lt_of_le (Heap.lt_size e) (I.ok.cab x c hfn hc)))).trans e1⟩
  ·by_cases hj:j=i
   ·subst hj
    rw [hi] at e1;cases e1
    rw [List.getElem?_set_self hiσ] at e2
    cases e2
    exact ⟨u,r,.inr ⟨.inl hk,c,hc,hc'⟩⟩
   ·rw [List.getElem?_set_ne (Ne.symm hj)] at e2
    obtain ⟨u',r',q⟩:=hl j y v' e1 e2 e3
    refine ⟨u',r',?_⟩
    rcases q with q | ⟨k,c',e,z'⟩
    ·exact .inl q
    ·refine .inr ⟨k,c',e,z'.sameBut hs ?_⟩
     rintro rfl
     exact hj (nodup_ix hN e1 (I.ok.inj _ _ _ e hc ▸ hi))
  ·by_cases hcc:c'=c
   ·subst hcc;exact ⟨_,hc'⟩
   ·obtain ⟨w2,z2⟩:=I.cell y c' e
    exact ⟨w2,z2.sameBut hs hcc⟩
  ·obtain ⟨e,n,ne,nf,d⟩:=I.pin p hp
   refine ⟨(hs.2 p.1 ?_).trans e,n,ne,nf,d⟩
   intro q
   rw [q,hoc] at e
   have q':oc=p.2:=Option.some.inj e
   exact d w' (by rw [← q'];exact hocd)
theorem store_ok {M:Model} {A:Around} {E:Value→Shared→Prop} {i:Nat} {x:Str} {v:V} {u:Value} {Q:Unit→Shared→Prop} (I:Inv X pins σ H s) (hN:X.N.Nodup) (hi:X.N[i]?=some x) (hx:Loc X.env.scope x) (r:RelV v u)
  (h:∀ s',Inv X pins (σ.set i (some v)) H s'→Q () s') (hf:X.fn x=true∨X.env.scope.names.lookup x=some .local:=by first | exact .inl rfl | exact .inr rfl | assumption):wpAny M A (storeName X.env x u) Q E s :=
 store_ok2 I hN hi hx r (fun s' I' _=>h s' I') hf
theorem Inv.call' {s':Shared} {ch:List Addr} (I:Inv X pins σ H s) (ho:s'.os=s.os) (u:Un (frs X.stack) ch H H' s.heap s'.heap) (hok:HOk X.prog X.w H' s'.heap) (hg:AllBare s'.gens)
  (hch:∀ b∈ch,(b∈X.ex∨X.s₀.heap.objs.size≤b)∧b≠X.env.locals∧(∀ x c,X.env.cells.lookup x=some c→c≠b)∧∀ p∈X.pn++pins,p.1≠b):Inv X pins σ H' s':=by
 obtain ⟨h',g',d',t',o'⟩:=s'
 have e:o'=s.os:=ho
 subst e
 exact I.call (g':=g') (t':=t') (d':=d') u hok hg hch
end
abbrev XK:=Value→Option Addr→Hp→Prop
abbrev St:=List (Option V)
abbrev VK:=V→Hp→Prop
abbrev TE:=St→Hp→VK→Prop
abbrev TT:=St→Hp→(Bool→Hp→Prop)→Prop
abbrev TA:=St→Hp→(List V→Hp→Prop)→Prop
structure Ends where
 nx:St→Hp→Prop
 rt:VK
 bk:St→Hp→Prop:=fun _ _=>False
 ct:St→Hp→Prop:=fun _ _=>False
abbrev TS:=Ends→St→Hp→Prop
def EP (X:Cx) (pins:List (Addr×Obj)) (σ:St) (Q:VK) (u:Value) (s':Shared):Prop:=∃ v H',Inv X pins σ H' s'∧RelV v u∧Q v H'
def TP (X:Cx) (pins:List (Addr×Obj)) (σ:St) (Q:Bool→Hp→Prop) (b:Bool) (s':Shared):Prop:=∃ H',Inv X pins σ H' s'∧Q b H'
def AP (X:Cx) (pins:List (Addr×Obj)) (σ:St) (Q:List V→Hp→Prop) (us:List Value) (s':Shared):Prop:=∃ vs H',Inv X pins σ H' s'∧Vals vs us∧Q vs H'
def SP (X:Cx) (pins:List (Addr×Obj)) (D:Ends) (f:Flow) (s':Shared):Prop :=
 match f with
 | .next=>∃ σ' H',Inv X pins σ' H' s'∧D.nx σ' H'
 | .brk=>∃ σ' H',Inv X pins σ' H' s'∧D.bk σ' H'
 | .cont=>∃ σ' H',Inv X pins σ' H' s'∧D.ct σ' H'
 | .ret u=>∃ v σ' H',Inv X pins σ' H' s'∧RelV v u∧D.rt v H'
def PE (X:Cx) (e:Expr) (t:TE):Prop :=
 ∀ (pins:List (Addr×Obj)) (s:Shared) (σ:St) (H:Hp) (Q:VK),Inv X pins σ H s→t σ H Q→wpAny (model X.prog X.w) X.A (eval e X.env) (EP X pins σ Q) X.xe s
def PT (X:Cx) (e:Expr) (t:TT):Prop :=
 ∀ (pins:List (Addr×Obj)) (s:Shared) (σ:St) (H:Hp) (Q:Bool→Hp→Prop),Inv X pins σ H s→t σ H Q→wpAny (model X.prog X.w) X.A (isTrue e X.env (eval e X.env)) (TP X pins σ Q) X.xe s
def PW (X:Cx) (e:Expr) (t:TT):Prop :=
 ∀ (whole:Sem Value) (pins:List (Addr×Obj)) (s:Shared) (σ:St) (H:Hp) (Q:Bool→Hp→Prop),Inv X pins σ H s→t σ H Q→wpAny (model X.prog X.w) X.A (isTrue e X.env whole) (TP X pins σ Q) X.xe s
theorem PW.pt {X:Cx} {e:Expr} {t:TT} (h:PW X e t):PT X e t:=h _
def PA (X:Cx) (es:List Expr) (t:TA):Prop :=
 ∀ (pos:Pos) (pins:List (Addr×Obj)) (s:Shared) (σ:St) (H:Hp) (Q:List V→Hp→Prop),Inv X pins σ H s→t σ H Q→wpAny (model X.prog X.w) X.A (spliced (backTo pos (starEach es X.env))) (AP X pins σ Q) X.xe s
def PS (X:Cx) (st:Stmt) (t:TS):Prop :=
 ∀ (pins:List (Addr×Obj)) (s:Shared) (σ:St) (H:Hp) (D:Ends),Inv X pins σ H s→t D σ H→wpAny (model X.prog X.w) X.A (exec st X.env) (SP X pins D) X.xe s
def PSs (X:Cx) (st:List Stmt) (t:TS):Prop :=
 ∀ (pins:List (Addr×Obj)) (s:Shared) (σ:St) (H:Hp) (D:Ends),Inv X pins σ H s→t D σ H→wpAny (model X.prog X.w) X.A (execs st X.env) (SP X pins D) X.xe s
theorem thn {α:Type} {t:Sem α} {Q Q':α→Shared→Prop} {M:Model} {A:Around} {E:Value→Shared→Prop} {s:Shared} (h:wpAny M A t Q E s) (hQ:∀ a s,Q a s→Q' a s):wpAny M A t Q' E s:=wpAny_mono h hQ fun _ _ x=>x
section
variable {X:Cx}
theorem bin {a b:Expr} {ta tb:TE} (ha:PE X a ta) (hb:PE X b tb) {pins:List (Addr×Obj)} {s:Shared} {σ:St} {H:Hp} {R:V→V→Hp→Prop} (I:Inv X pins σ H s) (h:ta σ H fun x H1=>tb σ H1 fun y H2=>R x y H2)
  {α:Type} {Q:α→Shared→Prop} {f:Value→Value→Sem α}
  (hf:∀ v u s2 x y H2,Inv X pins σ H2 s2→RelV x v→RelV y u→R x y H2→wpAny (model X.prog X.w) X.A (f v u) Q X.xe s2) :
  wpAny (model X.prog X.w) X.A (eval a X.env) (fun v s₁=>wpAny (model X.prog X.w) X.A (eval b X.env) (fun u s₂=>wpAny (model X.prog X.w) X.A (f v u) Q X.xe s₂) X.xe s₁) X.xe s:=by
 refine thn (ha pins s σ H _ I h) fun v s1 ⟨x,H1,I1,r1,q1⟩=>?_
 refine thn (hb pins s1 σ H1 _ I1 q1) fun u s2 ⟨y,H2,I2,r2,q2⟩=>?_
 exact hf v u s2 x y H2 I2 r1 r2 q2
def tVar (i:Nat):TE:=fun σ H Q=>∃ v,σ[i]?=some (some v)∧Q v H
def tC (v:V):TE:=fun _ H Q=>Q v H
theorem pe_var {i:Nat} {x:Str} {pos:Pos} (hN:X.N[i]?=some x) (hv:Vis X.env.scope x) (hd:(x == ("__debug__":Str))=false:=by decide) (hcd:(x == ("__classdict__":Str))=false:=by decide):PE X (.Name x pos) (tVar i):=by
 intro pins s σ H Q I h
 obtain ⟨v,e,h⟩:=h
 obtain ⟨m,hn,hl⟩:=I.loc
 obtain ⟨u,r,l⟩:=hl i x v hN e hv
 have fin:EP X pins σ Q u s:=⟨v,H,I,r,h⟩
 rcases l with ⟨hk,hm⟩ | ⟨hk,c,hc,hcell⟩
 ·exact wpAny_Name (wpAny_loadName_local I.ok.kind hk hn hm fin) hd
 ·rcases hk with hk | hk
  ·exact wpAny_Name (wpAny_loadName_cell I.ok.kind hk hc hcell fin) hd
  ·exact wpAny_Name (wpAny_loadName_free I.ok.kind hk hc hcell fin hcd) hd
theorem pe_int {i j pos}:PE X (.Constant (.int i) j pos) (tC (.int i)):=fun _ _ _ H _ I h=>wpAny_Constant_int ⟨.int i,H,I.tok _,⟨_,rfl⟩,h⟩
theorem pe_bl {b j pos}:PE X (.Constant (.bool b) j pos) (tC (.bl b)):=fun _ _ _ H _ I h=>Constant_bool ⟨.bl b,H,I,rfl,h⟩
theorem pe_non {j pos}:PE X (.Constant .none j pos) (tC .non):=fun _ _ _ H _ I h=>Constant_none ⟨.non,H,I,rfl,h⟩
theorem pe_str {x j pos}:PE X (.Constant (.str x) j pos) (tC (.str x)):=fun _ _ _ H _ I h=>Calls.Constant_str ⟨.str x,H,I.tok _,⟨_,rfl⟩,h⟩
def Gl (X:Cx) (x:Str):Prop:=X.env.kindOf x=some .globalImplicit
theorem ld_glob {E:Value→Shared→Prop} {pins:List (Addr×Obj)} {s:Shared} {σ:St} {H:Hp} {x:Str} {u:Value} {pos:Pos} {Q:Value→Shared→Prop} (I:Inv X pins σ H s) (hg:Gl X x) (hm:X.mg x=some u) (h:Q u s)
  (hd:(x == ("__debug__":Str))=false:=by decide):wpAny (model X.prog X.w) X.A (eval (.Name x pos) X.env) Q E s :=
 Calls.Name_function_global I.ok.kind hg (Calls.loadGlobal_global (by rw [I.ok.glob];exact I.mod.glob.keeps I.bk) hm h) hd
theorem ld_blt {E:Value→Shared→Prop} {pins:List (Addr×Obj)} {s:Shared} {σ:St} {H:Hp} {x:Str} {u:Value} {pos:Pos} {Q:Value→Shared→Prop} (I:Inv X pins σ H s) (hg:Gl X x) (hm:X.mg x=none) (hv:bootBuiltins x=some u) (h:Q u s)
  (hn:x≠"__name__":=by decide) (hd:(x == ("__debug__":Str))=false:=by decide):wpAny (model X.prog X.w) X.A (eval (.Name x pos) X.env) Q E s:=by
 obtain ⟨mb,h1,h2⟩:=I.mod.blt
 exact Calls.Name_function_global I.ok.kind hg (Calls.loadGlobal_builtin (by rw [I.ok.glob];exact I.mod.glob.keeps I.bk) hm (by rw [I.ok.blt];exact h1.keeps I.bk) ((h2 x hn).trans hv) h) hd
theorem pe_glob {x:Str} {v:V} {u:Value} {pos:Pos} (hg:Gl X x) (hm:X.mg x=some u) (r:RelV v u) (hd:(x == ("__debug__":Str))=false:=by decide):PE X (.Name x pos) (tC v) :=
 fun _ _ _ H _ I h=>ld_glob I hg hm ⟨v,H,I,r,h⟩ hd
theorem pe_bltn {x:Str} {v:V} {u:Value} {pos:Pos} (hg:Gl X x) (hm:X.mg x=none) (hv:bootBuiltins x=some u) (r:RelV v u) (hn:x≠"__name__":=by decide) (hd:(x == ("__debug__":Str))=false:=by decide):PE X (.Name x pos) (tC v) :=
 fun _ _ _ H _ I h=>ld_blt I hg hm hv ⟨v,H,I,r,h⟩ hn hd
variable {a b:Expr} {ta tb:TE} {pos:Pos}
def PC (X:Cx) (op:CmpOp) (a b:Expr) (t:TE):Prop :=
 ∀ (pins:List (Addr×Obj)) (s:Shared) (σ:St) (H:Hp) (Q:VK),Inv X pins σ H s→t σ H Q →
  wpAny (model X.prog X.w) X.A (eval a X.env) (fun v s₁=>wpAny (model X.prog X.w) X.A (eval b X.env) (fun u s₂=>wpAny (model X.prog X.w) X.A (compareOp op v u) (EP X pins σ Q) X.xe s₂) X.xe s₁) X.xe s
def tB (t:TE):TT:=fun σ H Q=>t σ H fun x H1=>∃ c,x=.bl c∧Q c H1
theorem pt_cmp {op:CmpOp} {t:TE} (h:PC X op a b t) (h1:behindInMarks op b=false:=by first | exact nobehind _ (by decide) (by decide) | rfl):PT X (.Compare a [op] [b] pos) (tB t):=by
 intro pins s σ H Q I hw
 refine wpAny_isTrue_Compare1 (thn (h pins s σ H _ I hw) fun v s1 h1=>thn h1 fun u s2 h2=>thn h2 fun c s3 ⟨x,H1,I1,r1,q1⟩=>?_) h1
 obtain ⟨d,rfl,q⟩:=q1
 cases r1
 exact wpAny_truthy_bool ⟨H1,I1,q⟩
theorem pt_val {e:Expr} {t:TE} (h:PE X e t) (he:∀ whole,isTrue e X.env whole=(do let v ← whole;standAt e.pos;holding [v] (truthy v)):=by intro _;rfl):PT X e (tB t):=by
 intro pins s σ H Q I hw
 refine isTrue_plain (thn (h pins s σ H _ I hw) fun v s1 ⟨x,H1,I1,r1,q1⟩=>?_) (he _)
 obtain ⟨d,rfl,q⟩:=q1
 cases r1
 exact wpAny_truthy_bool ⟨H1,I1,q⟩
variable {tA tB':TT} {rest:List Expr}
def tAnd (t u:TT):TT:=fun σ H Q=>t σ H fun c H1=>if c=true then u σ H1 Q else Q false H1
def tOr (t u:TT):TT:=fun σ H Q=>t σ H fun c H1=>if c=true then Q true H1 else u σ H1 Q
def tNot (t:TT):TT:=fun σ H Q=>t σ H fun c H1=>Q (!c) H1
theorem pw_and1 (ha:PT X a tA):PW X (.BoolOp .And [a] pos) tA:=by
 intro wh pins s σ H Q I h
 refine isTrue_and (thn (ha pins s σ H Q I h) fun c s1 e=>?_)
 cases c with
 | true=>exact isTrue_and_nil e
 | false=>exact e
theorem pw_or1 (ha:PT X a tA):PW X (.BoolOp .Or [a] pos) tA:=by
 intro wh pins s σ H Q I h
 refine isTrue_or (thn (ha pins s σ H Q I h) fun c s1 e=>?_)
 cases c with
 | false=>exact isTrue_or_nil e
 | true=>exact e
theorem pw_and (ha:PT X a tA) (hb:PW X (.BoolOp .And (b::rest) pos) tB'):PW X (.BoolOp .And (a::b::rest) pos) (tAnd tA tB'):=by
 intro wh pins s σ H Q I h
 refine isTrue_and (thn (ha pins s σ H _ I h) fun c s1 ⟨H1,I1,q1⟩=>?_)
 cases c with
 | true=>exact hb wh pins s1 σ H1 Q I1 q1
 | false=>exact ⟨H1,I1,q1⟩
theorem pw_or (ha:PT X a tA) (hb:PW X (.BoolOp .Or (b::rest) pos) tB'):PW X (.BoolOp .Or (a::b::rest) pos) (tOr tA tB'):=by
 intro wh pins s σ H Q I h
 refine isTrue_or (thn (ha pins s σ H _ I h) fun c s1 ⟨H1,I1,q1⟩=>?_)
 cases c with
 | true=>exact ⟨H1,I1,q1⟩
 | false=>exact hb wh pins s1 σ H1 Q I1 q1
theorem pt_not (ha:PT X a tA):PT X (.UnaryOp .Not a pos) (tNot tA):=by
 intro pins s σ H Q I h
 exact isTrue_not (ha pins s σ H (fun c H1=>Q (!c) H1) I h)
def tAndV (ta tb:TE):TE:=fun σ H Q=>ta σ H fun x H1=>∃ c,x=.bl c∧if c=true then tb σ H1 Q else Q (.bl false) H1
theorem pe_one {op} {t:TE} (h:PE X a t):PE X (.BoolOp op [a] pos) t:=fun pins s σ H Q I hw=>BoolOp_one (h pins s σ H Q I hw)
theorem pe_and (ha:PE X a ta) (hb:PE X (.BoolOp .And (b::rest) pos) tb):PE X (.BoolOp .And (a::b::rest) pos) (tAndV ta tb):=by
 intro pins s σ H Q I h
 refine BoolOp_and (thn (ha pins s σ H _ I h) fun v s1 ⟨x,H1,I1,r1,q1⟩=>?_)
 obtain ⟨c,rfl,q1⟩:=q1
 cases r1
 refine wpAny_truthy_bool ?_
 cases c with
 | true=>exact hb pins s1 σ H1 Q I1 q1
 | false=>exact ⟨.bl false,H1,I1,rfl,q1⟩
def tIf (t:TT) (ta tb:TE):TE:=fun σ H Q=>t σ H fun c H1=>if c=true then ta σ H1 Q else tb σ H1 Q
theorem pe_ifExp {c:Expr} (hc:PT X c tA) (ha:PE X a ta) (hb:PE X b tb):PE X (.IfExp c a b pos) (tIf tA ta tb):=by
 intro pins s σ H Q I h
 refine wpAny_IfExp (thn (hc pins s σ H _ I h) fun d s1 ⟨H1,I1,q1⟩=>?_)
 cases d with
 | true=>exact ha pins s1 σ H1 Q I1 q1
 | false=>exact hb pins s1 σ H1 Q I1 q1
end
def SqL (K:PySem.W.Frag) (H:Hp) (a:Addr) (xs:List V):Prop :=
 Rd H a (.lst xs) ∨
  ∃ (o:Obj) (its:Array Value) (n:Nat),K.lookup a=some o∧o.cls=.type "list"∧o.dict=none∧o.data=.seq its n∧its.size≤sizeLine∧Vals xs its.toList
def SqT (K:PySem.W.Frag) (H:Hp) (a:Addr) (xs:List V):Prop :=
 Rd H a (.tup xs) ∨
  ∃ (o:Obj) (its:Array Value) (n:Nat),K.lookup a=some o∧o.cls=.type "tuple"∧o.data=.seq its n∧its.size≤sizeLine∧Vals xs its.toList
def absV:Value→Option V
 | .none=>some .non
 | .bool b=>some (.bl b)
 | .int i _=>some (.int i)
 | .str x _=>some (.str x)
 | .bytes b _=>some (.byt b)
 | .float b _=>some (.flt b)
 | .ref a=>some (.ref a)
 | .type n=>some (.ty n)
 | _=>none
theorem RelV.abs {x:V} {u:Value} (r:RelV x u):absV u=some x:=by
 cases x with
 | non=>cases r;rfl
 | bl _=>cases r;rfl
 | int _=>obtain ⟨t,rfl⟩:=r;rfl
 | str _=>obtain ⟨t,rfl⟩:=r;rfl
 | byt _=>obtain ⟨t,rfl⟩:=r;rfl
 | flt _=>obtain ⟨t,rfl⟩:=r;rfl
 | ref _=>cases r;rfl
 | ty _=>cases r;rfl
theorem RelV.inj {x y:V} {u:Value} (r:RelV x u) (q:RelV y u):x=y:=Option.some.inj (r.abs.symm.trans q.abs)
theorem Vals.inj:∀ {xs ys:List V} {us:List Value},Vals xs us→Vals ys us→xs=ys
 | _,_,_,.nil,.nil=>rfl
 | _,_,_,.cons r t,.cons r' t'=>by rw [r.inj r',Vals.inj t t']
section
variable {X:Cx} {pins:List (Addr×Obj)} {σ:St} {H:Hp} {s:Shared} {a:Addr} {xs ys:List V}
theorem SqL.of {K:PySem.W.Frag} (h:H a=some (.lst xs)):SqL K H a xs:=.inl (.inl h)
theorem SqT.of {K:PySem.W.Frag} (h:H a=some (.tup xs)):SqT K H a xs:=.inl (.inl h)
theorem Inv.list (I:Inv X pins σ H s) (h:SqL X.K H a xs):∃ its:List Value,Vals xs its∧PlainL s.heap a its.toArray∧xs.length≤sizeLine:=by
 rcases h with h | ⟨o,its,n,hk,hc,hd,hs,hz,r⟩
 ·obtain ⟨z,its,n,r,e⟩:=h.ok I.hok
  exact ⟨its,r,⟨_,n,e,rfl,rfl,rfl⟩,z⟩
 ·refine ⟨its.toList,r,⟨o,n,I.kIn a o hk,hc,hd,by simpa using hs⟩,?_⟩
  have e:=r.length
  simp only [Array.length_toList] at e
  omega
theorem Inv.tuple (I:Inv X pins σ H s) (h:SqT X.K H a xs):∃ its:List Value,Vals xs its∧IsTup s.heap a its.toArray∧xs.length≤sizeLine:=by
 rcases h with h | ⟨o,its,n,hk,hc,hs,hz,r⟩
 ·obtain ⟨z,its,r,p⟩:=h.ok I.hok
  exact ⟨its,r,p,z⟩
 ·refine ⟨its.toList,r,⟨o,I.kIn a o hk,hc,n,by simpa using hs⟩,?_⟩
  have e:=r.length
  simp only [Array.length_toList] at e
  omega
theorem Inv.list_inj (I:Inv X pins σ H s) (h:SqL X.K H a xs) (h':SqL X.K H a ys):xs=ys:=by
 obtain ⟨its,r,⟨o,n,e,_,_,d⟩,_⟩:=I.list h
 obtain ⟨its',r',⟨o',n',e',_,_,d'⟩,_⟩:=I.list h'
 rw [e] at e';cases e'
 rw [d] at d'
 injection d' with d1 _
 have:its=its':=by simpa using congrArg Array.toList d1
 subst this
 exact r.inj r'
theorem Inv.tuple_inj (I:Inv X pins σ H s) (h:SqT X.K H a xs) (h':SqT X.K H a ys):xs=ys:=by
 obtain ⟨its,r,⟨o,e,_,n,d⟩,_⟩:=I.tuple h
 obtain ⟨its',r',⟨o',e',_,n',d'⟩,_⟩:=I.tuple h'
 rw [e] at e';cases e'
 rw [d] at d'
 injection d' with d1 _
 have:its=its':=by simpa using congrArg Array.toList d1
 subst this
 exact r.inj r'
end
abbrev Cx.wish (X:Cx) (E:Value→Shared→Prop):Cx:={ X with xe:=E }
abbrev Cx.nox (X:Cx):Cx:=X.wish fun _ _=>False
theorem Cx.Ok.wish {X:Cx} (ok:X.Ok) (E:Value→Shared→Prop):(X.wish E).Ok :=
 ⟨ok.mod,ok.kind,ok.glob,ok.blt,ok.above,ok.inj,ok.has,ok.cab,ok.hd,ok.frames,ok.stk,ok.exf,ok.bs,ok.bsz,ok.noex,ok.exfs,ok.funs,ok.frf⟩
theorem Cx.Ok.unwish {X:Cx} {E:Value→Shared→Prop} (ok:(X.wish E).Ok):X.Ok :=
 ⟨ok.mod,ok.kind,ok.glob,ok.blt,ok.above,ok.inj,ok.has,ok.cab,ok.hd,ok.frames,ok.stk,ok.exf,ok.bs,ok.bsz,ok.noex,ok.exfs,ok.funs,ok.frf⟩
section
variable {X:Cx} {pins:List (Addr×Obj)} {σ:St} {H:Hp} {s:Shared} {E:Value→Shared→Prop}
theorem Inv.wish (I:Inv X pins σ H s) (E:Value→Shared→Prop):Inv (X.wish E) pins σ H s:=⟨I.ok.wish E,I.os,I.bare,I.base,I.loc,I.cell,I.free,I.freeC,I.pin,I.hok,I.len⟩
theorem Inv.unwish (I:Inv (X.wish E) pins σ H s):Inv X pins σ H s:=⟨I.ok.unwish,I.os,I.bare,I.base,I.loc,I.cell,I.free,I.freeC,I.pin,I.hok,I.len⟩
theorem SP.unwish {D:Ends} {f:Flow} {s':Shared} (h:SP (X.wish E) pins D f s'):SP X pins D f s':=by
 cases f with
 | next=>obtain ⟨σ',H',I,q⟩:=h;exact ⟨σ',H',I.unwish,q⟩
 | brk=>obtain ⟨σ',H',I,q⟩:=h;exact ⟨σ',H',I.unwish,q⟩
 | cont=>obtain ⟨σ',H',I,q⟩:=h;exact ⟨σ',H',I.unwish,q⟩
 | ret u=>obtain ⟨v,σ',H',I,r,q⟩:=h;exact ⟨v,σ',H',I.unwish,r,q⟩
theorem PSs.nox {st:List Stmt} {t:TS} (h:PSs X.nox st t):PSs X st t:=fun pins s σ H D I hw =>
 wpAny_mono (h pins s σ H D (I.wish _) hw) (fun _ _ q=>q.unwish) fun _ _ z=>False.elim z
end
section
variable {X:Cx} {st:Stmt} {rest:List Stmt} {t u:TS} {e:Expr} {te:TE} {pos:Pos}
def tNext:TS:=fun D σ H=>D.nx σ H
def tSeq (t u:TS):TS:=fun D σ H=>t { D with nx:=u D } σ H
theorem pss_nil:PSs X [] tNext:=fun _ _ σ H _ I h=>wpAny_execs_nil ⟨σ,H,I,h⟩
theorem pss_cons (h1:PS X st t) (h2:PSs X rest u):PSs X (st::rest) (tSeq t u):=by
 intro pins s σ H D I h
 refine wpAny_execs_cons (thn (h1 pins s σ H { D with nx:=u D } I h) fun f s1 q=>?_)
 cases f with
 | next =>
  obtain ⟨σ',H',I',q⟩:=q
  exact h2 pins s1 σ' H' D I' q
 | ret v=>exact q
 | brk=>exact q
 | cont=>exact q
theorem pss_one (h1:PS X st t):PSs X [st] t:=by
 intro pins s σ H D I h
 refine wpAny_execs_cons (thn (h1 pins s σ H D I h) fun f s1 q=>?_)
 cases f with
 | next=>exact wpAny_execs_nil q
 | ret v=>exact q
 | brk=>exact q
 | cont=>exact q
def tCont:TS:=fun D σ H=>D.ct σ H
theorem ps_continue:PS X (.Continue pos) tCont:=fun _ _ σ H _ I h=>wpAny_Continue ⟨σ,H,I,h⟩
theorem Inv.quiet {pins:List (Addr×Obj)} {σ:St} {H:Hp} {s:Shared} (I:Inv X pins σ H s):interactive X.env=false:=by simp [interactive,I.ok.kind]
def tDrop (te:TE):TS:=fun D σ H=>te σ H fun _ H1=>D.nx σ H1
theorem ps_expr (he:PE X e te) (hs:swapsWith e none pos.line X.env=pure false:=by rfl):PS X (.Expr e pos) (tDrop te):=by
 intro pins s σ H D I h
 exact wpAny_Expr_any (thn (he pins s σ H _ I h) fun v s1 ⟨x,H1,I1,r1,q1⟩=>⟨σ,H1,I1,q1⟩) I.quiet hs
def tRet (te:TE):TS:=fun D σ H=>te σ H D.rt
theorem ps_ret (he:PE X e te):PS X (.Return (some e) pos) (tRet te):=by
 intro pins s σ H D I h
 exact wpAny_Return_some (thn (he pins s σ H _ I h) fun v s1 ⟨x,H1,I1,r1,q1⟩=>⟨x,σ,H1,I1,r1,q1⟩)
def tIfS (c:TT) (t u:TS):TS:=fun D σ H=>c σ H fun b H1=>if b=true then t D σ H1 else u D σ H1
theorem ps_if {c:Expr} {a b:List Stmt} {tc:TT} (hc:PT X c tc) (ha:PSs X a t) (hb:PSs X b u):PS X (.If c a b pos) (tIfS tc t u):=by
 intro pins s σ H D I h
 refine wpAny_If (thn (hc pins s σ H _ I h) fun d s1 ⟨H1,I1,q1⟩=>?_)
 cases d with
 | true=>exact ha pins s1 σ H1 D I1 q1
 | false=>exact hb pins s1 σ H1 D I1 q1
def tNever:TS:=fun _ _ _=>False
theorem pss_never {sts:List Stmt}:PSs X sts tNever:=fun _ _ _ _ _ _ h=>h.elim
end
abbrev TG:=V→St→Hp→(St→Hp→Prop)→Prop
abbrev TGs:=List V→St→Hp→(St→Hp→Prop)→Prop
def PG (X:Cx) (target:Expr) (t:TG):Prop :=
 ∀ (pins:List (Addr×Obj)) (s:Shared) (σ:St) (H:Hp) (v:V) (u:Value) (Q:St→Hp→Prop),Inv X pins σ H s→RelV v u→t v σ H Q →
  wpAny (model X.prog X.w) X.A (assign target X.env u) (fun _ s'=>∃ σ' H',Inv X pins σ' H' s'∧Q σ' H') X.xe s
def PGs (X:Cx) (ts:List Expr) (t:TGs):Prop :=
 ∀ (pins:List (Addr×Obj)) (s:Shared) (σ:St) (H:Hp) (vs:List V) (us:List Value) (Q:St→Hp→Prop),Inv X pins σ H s→Vals vs us→t vs σ H Q →
  wpAny (model X.prog X.w) X.A (assignInOrder ((assignEach ts X.env).map (·.2)) us) (fun _ s'=>∃ σ' H',Inv X pins σ' H' s'∧Q σ' H') X.xe s
abbrev TSet:=V→V→V→Hp→(Hp→Prop)→Prop
def PSet (X:Cx) (t:TSet):Prop :=
 ∀ (pins:List (Addr×Obj)) (s:Shared) (σ:St) (H:Hp) (o i v:V) (ov iv u:Value) (Q:Hp→Prop),Inv X pins σ H s→RelV o ov→RelV i iv→RelV v u→t o i v H Q →
  wpAny (model X.prog X.w) X.A (setItem ov iv u) (fun _ s'=>∃ H',Inv X pins σ H' s'∧Q H') X.xe s
section
variable {X:Cx} {pos:Pos}
def gName (i:Nat):TG:=fun v σ H Q=>Q (σ.set i (some v)) H
theorem pg_name {i:Nat} {x:Str} (hN:X.N.Nodup) (hi:X.N[i]?=some x) (hx:Loc X.env.scope x) (hf:X.fn x=true∨X.env.scope.names.lookup x=some .local:=by first | exact .inl rfl | exact .inr rfl | assumption):PG X (.Name x pos) (gName i):=by
 intro pins s σ H v u Q I r h
 exact wpAny_assign_Name (store_ok I hN hi hx r (fun s' I'=>⟨_,H,I',h⟩) hf)
def gNil:TGs:=fun vs σ H Q=>vs=[]∧Q σ H
def gCons (t:TG) (u:TGs):TGs:=fun vs σ H Q=>∃ v r,vs=v::r∧t v σ H fun σ' H'=>u r σ' H' Q
theorem pgs_nil:PGs X [] gNil:=by
 intro pins s σ H vs us Q I r h
 obtain ⟨e,h⟩:=h
 subst e
 cases r
 exact assignInOrder_nil ⟨σ,H,I,h⟩
theorem pgs_cons {e:Expr} {es:List Expr} {t:TG} {u:TGs} (h1:PG X e t) (h2:PGs X es u)
  (hs:(assignEach (e::es) X.env).map (·.2)=assign e X.env::(assignEach es X.env).map (·.2):=by rfl):PGs X (e::es) (gCons t u):=by
 intro pins s σ H vs us Q I r h
 obtain ⟨v,vr,e1,h⟩:=h
 subst e1
 cases r with
 | cons r rr =>
  rw [hs]
  refine assignInOrder_cons (thn (h1 pins s σ H _ _ _ I r h) fun _ s1 ⟨σ1,H1,I1,q1⟩=>?_)
  exact h2 pins s1 σ1 H1 _ _ Q I1 rr q1
def gSub (to ti:TE) (t:TSet):TG:=fun v σ H Q=>to σ H fun o H1=>ti σ H1 fun i H2=>t o i v H2 fun H3=>Q σ H3
theorem pg_sub {o i:Expr} {to ti:TE} {t:TSet} (ho:PE X o to) (hi:PE X i ti) (hs:PSet X t)
  (ha:∀ v,assign (.Subscript o i pos) X.env v=(do
   let ov ← holding [v] (eval o X.env)
   let iv ← holding [v,ov] (eval i X.env)
   standAt pos
   holding [v,ov,iv] (setItem ov iv v)
   release [v,ov,iv] []):=by intro _;rfl):PG X (.Subscript o i pos) (gSub to ti t):=by
 intro pins s σ H v u Q I r h
 rw [ha]
 refine wpAny_bind (wpAny_holding (thn (ho pins s σ H _ I h) fun ov s1 ⟨x,H1,I1,r1,q1⟩=>?_))
 refine wpAny_bind (wpAny_holding (thn (hi pins s1 σ H1 _ I1 q1) fun iv s2 ⟨y,H2,I2,r2,q2⟩=>?_))
 refine wpAny_bind (wpAny_standAt (wpAny_bind (wpAny_holding (thn (hs pins s2 σ H2 x y v ov iv u _ I2 r1 r2 r q2) fun _ s3 ⟨H3,I3,q3⟩=>?_))))
 exact wpAny_release ⟨σ,H3,I3,q3⟩
def tAsg (te:TE) (g:TG):TS:=fun D σ H=>te σ H fun x H1=>g x σ H1 D.nx
theorem ps_asg {tg e:Expr} {te:TE} {g:TG} (he:PE X e te) (hg:PG X tg g) (hs:swapsWithSole [tg] e pos.line X.env=pure false:=by rfl) (hw:swappedStores [tg] e X.env=pure none:=by rfl)
  (h1:(assignEach [tg] X.env).map (·.2)=[assign tg X.env]:=by rfl):PS X (.Assign [tg] e pos) (tAsg te g):=by
 intro pins s σ H D I h
 refine wpAny_Assign_stores (thn (he pins s σ H _ I h) fun v s1 ⟨x,H1,I1,r1,q1⟩=>?_) hs hw
 rw [h1]
 exact thn (hg pins s1 σ H1 x v _ I1 r1 q1) fun _ s2 q=>q
theorem ps_set {i:Nat} {x:Str} {e:Expr} {te:TE} {pos':Pos} (hN:X.N.Nodup) (hi:X.N[i]?=some x) (hx:Loc X.env.scope x) (he:PE X e te) (hs:swapsWith e (some (.Name x pos')) pos.line X.env=pure false:=by rfl) (hf:X.fn x=true∨X.env.scope.names.lookup x=some .local:=by first | exact .inl rfl | exact .inr rfl | assumption) :
  PS X (.Assign [.Name x pos'] e pos) (tAsg te (gName i)):=by
 intro pins s σ H D I h
 refine wpAny_Assign_Name (thn (he pins s σ H _ I h) fun v s1 ⟨y,H1,I1,r1,q1⟩=>?_) hs
 exact store_ok I1 hN hi hx r1 (fun s2 I2=>⟨_,H1,I2,q1⟩) hf
end
section
variable {X:Cx} {pos:Pos}
def tWhile (c:TT) (tb:TS):TS:=fun D σ H=>∃ W:Nat→St→Hp→Prop,(∃ m,W m σ H)∧∀ m σ H,W m σ H →
 c σ H fun b H1=>if b=true then ∃ N:St→Hp→Prop,(∀ σ' H',N σ' H'→∃ m',m' < m∧W m' σ' H')∧tb { D with nx:=N,ct:=N,bk:=D.nx } σ H1 else D.nx σ H1
theorem ps_while {c:Expr} {body:List Stmt} {tc:TT} {tb:TS} (hp:PassesOwn (model X.prog X.w) X.A X.env X.xe) (hc:PT X c tc) (hb:PSs X body tb):PS X (.While c body [] pos) (tWhile tc tb):=by
 intro pins s σ H D I h
 obtain ⟨W,⟨m0,w0⟩,turn⟩:=h
 refine wpAny_While (codeAny_whileLoop (fun n s'=>∃ σ' H',Inv X pins σ' H' s'∧W n σ' H') ?_ m0 ⟨σ,H,I,w0⟩)
 rintro n s1 ⟨σ1,H1,I1,w1⟩
 refine wpAny_passesOwn hp (thn (hc pins s1 σ1 H1 _ I1 (turn n σ1 H1 w1)) fun b s2 ⟨H2,I2,q2⟩=>?_)
 cases b with
 | true =>
  obtain ⟨N,hN,q2⟩:=q2
  rw [if_pos rfl]
  refine wpAny_passesOwn hp (thn (hb pins s2 σ1 H2 _ I2 q2) fun f s3 q3=>?_)
  cases f with
  | next =>
   obtain ⟨σ3,H3,I3,n3⟩:=q3
   obtain ⟨m',hm,w3⟩:=hN σ3 H3 n3
   exact ⟨m',hm,σ3,H3,I3,w3⟩
  | cont =>
   obtain ⟨σ3,H3,I3,n3⟩:=q3
   obtain ⟨m',hm,w3⟩:=hN σ3 H3 n3
   exact ⟨m',hm,σ3,H3,I3,w3⟩
  | brk=>exact q3
  | ret v=>exact q3
 | false =>
  rw [if_neg Bool.false_ne_true]
  exact wpAny_execs_nil ⟨σ1,H2,I2,q2⟩
end
structure It where
 go:Nat→Hp→Prop
 yld:Nat→Hp→V→Hp→Prop
 stop:Nat→Hp→Prop
def FpOk (X:Cx) (pins:List (Addr×Obj)) (H:Hp) (b:Addr):Prop :=
 H b=none∧b≠X.env.locals∧b ∉ X.fs∧(b∈X.ex∨X.s₀.heap.objs.size≤b)∧(∀ x c,X.env.cells.lookup x=some c→c≠b)∧∀ p∈X.pn++pins,p.1≠b
theorem Inv.fpOk {X:Cx} {pins:List (Addr×Obj)} {σ:St} {H H':Hp} {s:Shared} {b:Addr} (I:Inv X pins σ H s) (hb:s.heap.objs.size≤b) (hn:H' b=none):FpOk X pins H' b:=by
 refine ⟨hn,Nat.ne_of_gt (Nat.lt_of_lt_of_le I.lt hb),I.nofs hb,.inr (Nat.le_trans I.sz hb),fun x c e z=>?_,fun p hp z=>?_⟩
 ·obtain ⟨v,q⟩:=I.cell x c e
  exact absurd (Nat.lt_of_lt_of_le q.lt (by rw [z];exact hb)) (Nat.lt_irrefl _)
 ·exact absurd (Nat.lt_of_lt_of_le (Heap.lt_size (I.pin p hp).1) (by rw [z];exact hb)) (Nat.lt_irrefl _)
structure Turn (P:Program) (w:World) (K:PySem.W.Frag) (tg:Expr) (J:It) (fp:List Addr) (it:Addr) (tn:Nat→Heap→Prop):Prop where
 mem:it∈fp
 obj:∀ i h,tn i h→∀ b∈fp,∃ o,h.get? b=some o∧∀ v,o.data≠.cell v
 keep:∀ i h h',tn i h→(∀ b∈fp,∀ o,h.get? b=some o→h'.get? b=some o)→tn i h'
 item:∀ (X:Cx),X.prog=P→X.w=w→X.K=K→X.calm=true→∀ (i:Nat) (pins:List (Addr×Obj)) (s:Shared) (σ:St) (H:Hp) (E:Value→Shared→Prop),Inv X pins σ H s→(∀ b∈fp,FpOk X pins H b)→tn i s.heap→J.go i H →
  wpAny (model P w) X.A (pyNext (.ref it)) (fun r s1=>∃ u,r=some u ∧
   wpAny (model P w) X.A (letOwnedTupleGo tg (.ref it) u) (fun _ s2=>∃ x H',Inv X pins σ H' s2∧RelV x u∧J.yld i H x H'∧tn (i+1) s2.heap∧∀ b∈fp,H' b=none) E s1) E s
 done:∀ (X:Cx),X.prog=P→X.w=w→X.K=K→X.calm=true→∀ (i:Nat) (pins:List (Addr×Obj)) (s:Shared) (σ:St) (H:Hp) (E:Value→Shared→Prop),Inv X pins σ H s→(∀ b∈fp,FpOk X pins H b)→tn i s.heap→J.stop i H →
  wpAny (model P w) X.A (pyNext (.ref it)) (fun r s1=>r=none∧Inv X pins σ H s1) E s
 self:∀ (A:Around) (i:Nat) (s:Shared) (Q:Value→Shared→Prop) (E:Value→Shared→Prop),tn i s.heap→Q (.ref it) s→wpAny (model P w) A (pyIter (.ref it)) Q E s
abbrev TI:=St→Hp→(It→Hp→Prop)→Prop
def PIE (X:Cx) (pins:List (Addr×Obj)) (σ:St) (tg:Expr) (R:It→Hp→Prop) (itv:Value) (s2:Shared):Prop :=
 ∃ (it:Addr) (fp:List Addr) (tn:Nat→Heap→Prop) (J:It) (H':Hp),itv=.ref it∧Inv X pins σ H' s2∧Turn X.prog X.w X.K tg J fp it tn∧tn 0 s2.heap∧(∀ b∈fp,FpOk X pins H' b)∧R J H'
def PI (X:Cx) (tg iter:Expr) (wi:TI):Prop :=
 ∀ (pins:List (Addr×Obj)) (s:Shared) (σ:St) (H:Hp) (R:It→Hp→Prop),Inv X pins σ H s→wi σ H R →
  wpAny (model X.prog X.w) X.A (eval iter X.env) (fun v s1=>wpAny (model X.prog X.w) X.A (pyIter v) (PIE X pins σ tg R) X.xe s1) X.xe s
theorem go_of {M:Model} {A:Around} {E:Value→Shared→Prop} {s:Shared} {tg:Expr} {it:Addr} {u:Value} {o:Obj} {n:String} {vs:Array Value} {Q:Unit→Shared→Prop} (ho:s.heap.get? it=some o) (hc:o.cls=.type n) (hd:o.data=.fields vs)
  (hn:["enumerate","zip","dict_itemiterator","dict_reverseitemiterator","odict_iterator","itertools.zip_longest","itertools.pairwise"].contains n=false) (hQ:Q () s):wpAny M A (letOwnedTupleGo tg (.ref it) u) Q E s:=by
 unfold letOwnedTupleGo
 cases tg <;> first
  | exact wpAny_pure hQ
  | (cases u <;> first
    | exact wpAny_pure hQ
    | (refine wpAny_bind (wpAny_load ho ?_)
       rw [hc,hd]
       show wpAny M A (if (["enumerate","zip","dict_itemiterator","dict_reverseitemiterator","odict_iterator","itertools.zip_longest","itertools.pairwise"].contains n && vs[0]? == some (rawInt _))=true then _ else _) Q E s
       rw [if_neg (by intro h;rw [hn,Bool.false_and] at h;cases h)]
       exact wpAny_pure hQ))
def Itl (K:PySem.W.Frag) (a:Addr):It :=
 ⟨fun i H=>∃ xs x,SqL K H a xs∧xs[i]?=some x,fun i H x H'=>H'=H∧∀ xs,SqL K H a xs→xs[i]?=some x,fun i H=>∃ xs,SqL K H a xs∧xs.length≤i⟩
def Itt (K:PySem.W.Frag) (a:Addr):It :=
 ⟨fun i H=>∃ xs x,SqT K H a xs∧xs[i]?=some x,fun i H x H'=>H'=H∧∀ xs,SqT K H a xs→xs[i]?=some x,fun i H=>∃ xs,SqT K H a xs∧xs.length≤i⟩
def Itr (lo:Int) (n:Nat):It:=⟨fun i _=>i<n,fun i H x H'=>H'=H∧x=.int (lo+i),fun i _=>n≤i⟩
theorem turn_list {P:Program} {w:World} {K:PySem.W.Frag} {tg:Expr} (a it:Addr):Turn P w K tg (Itl K a) [it] it (fun i h=>h.IsListIter it a i) where
 mem:=by simp
 obj:=fun i h st b hb=>by
  have e:b=it:=by simpa using hb
  subst e
  obtain ⟨o,e,c,d⟩:=st
  exact ⟨o,e,fun v z=>by rw [d] at z;cases z⟩
 keep:=fun i h h' st k=>st.at fun o e=>k it (by simp) o e
 item:=by
  intro X hP hw hK hc i pins s σ H E I hf st hg
  subst hP hw hK
  obtain ⟨xs,x,hq,hx⟩:=hg
  obtain ⟨its,rv,p,hz⟩:=I.list hq
  obtain ⟨u,hu,ru⟩:=rv.get hx
  obtain ⟨f0,f1,f2,f3,f4,f5⟩:=hf it (by simp)
  refine wpAny_pyNext_list_item st p.isList (x:=u) (by simpa using hu) fun h' st' sb=>?_
  have I1:Inv X pins σ H { s with heap:=h' }:=I.turned (t':=s.toks) (fun b o hb e=>(sb.2 b hb).trans e) f0 f1 f3 f4 f5
  obtain ⟨o,e,c,d⟩:=id st'
  exact ⟨u,rfl,go_of (s:={ s with heap:=h' }) e c d (by decide) ⟨x,H,I1,ru,⟨rfl,fun ys hy=>by rw [I.list_inj hy hq];exact hx⟩,st',fun b hb=>(hf b hb).1⟩⟩
 done:=by
  intro X hP hw hK hc i pins s σ H E I hf st hg
  subst hP hw hK
  obtain ⟨xs,hq,hx⟩:=hg
  obtain ⟨its,rv,p,hz⟩:=I.list hq
  obtain ⟨f0,f1,f2,f3,f4,f5⟩:=hf it (by simp)
  have hl:=rv.length
  exact wpAny_pyNext_list_end (I.ok.hd hc) st p.isList (by simp;omega) fun h' eb=>⟨rfl,I.turned (t':=s.toks) (fun b o hb e=>eb b o hb e) f0 f1 f3 f4 f5⟩
 self:=fun _ _ _ _ _ st h=>wpAny_pyIter_listiter st h
theorem turn_tuple {P:Program} {w:World} {K:PySem.W.Frag} {tg:Expr} (a it:Addr):Turn P w K tg (Itt K a) [it] it (fun i h=>h.IsTupleIter it a i) where
 mem:=by simp
 obj:=fun i h st b hb=>by
  have e:b=it:=by simpa using hb
  subst e
  obtain ⟨o,e,c,d⟩:=st
  exact ⟨o,e,fun v z=>by rw [d] at z;cases z⟩
 keep:=fun i h h' st k=>st.at fun o e=>k it (by simp) o e
 item:=by
  intro X hP hw hK hc i pins s σ H E I hf st hg
  subst hP hw hK
  obtain ⟨xs,x,hq,hx⟩:=hg
  obtain ⟨its,rv,p,hz⟩:=I.tuple hq
  obtain ⟨u,hu,ru⟩:=rv.get hx
  obtain ⟨f0,f1,f2,f3,f4,f5⟩:=hf it (by simp)
  refine wpAny_pyNext_tuple_item st (show s.heap.IsTuple a its.toArray from p) (x:=u) (by simpa using hu) fun h' st' sb=>?_
  have I1:Inv X pins σ H { s with heap:=h' }:=I.turned (t':=s.toks) (fun b o hb e=>(sb.2 b hb).trans e) f0 f1 f3 f4 f5
  obtain ⟨o,e,c,d⟩:=id st'
  exact ⟨u,rfl,go_of (s:={ s with heap:=h' }) e c d (by decide) ⟨x,H,I1,ru,⟨rfl,fun ys hy=>by rw [I.tuple_inj hy hq];exact hx⟩,st',fun b hb=>(hf b hb).1⟩⟩
 done:=by
  intro X hP hw hK hc i pins s σ H E I hf st hg
  subst hP hw hK
  obtain ⟨xs,hq,hx⟩:=hg
  obtain ⟨its,rv,p,hz⟩:=I.tuple hq
  obtain ⟨f0,f1,f2,f3,f4,f5⟩:=hf it (by simp)
  have hl:=rv.length
  exact wpAny_pyNext_tuple_end (I.ok.hd hc) st (show s.heap.IsTuple a its.toArray from p) (by simp;omega) fun h' eb=>⟨rfl,I.turned (t':=s.toks) (fun b o hb e=>eb b o hb e) f0 f1 f3 f4 f5⟩
 self:=fun _ _ _ _ _ st h=>wpAny_pyIter_tupleiter st h
theorem turn_range {P:Program} {w:World} {K:PySem.W.Frag} {tg:Expr} (it:Addr) (lo:Int) (n:Nat):Turn P w K tg (Itr lo n) [it] it (fun i h=>IsRangeIter h it (lo+(i:Nat) * 1) ((n:Int) - (i:Nat)) 1) where
 mem:=by simp
 obj:=fun i h st b hb=>by
  have e:b=it:=by simpa using hb
  subst e
  exact ⟨_,st,fun v z=>by
   have z':Data.fields _=Data.cell v:=z
   cases z'⟩
 keep:=fun i h h' st k=>k it (by simp) _ st
 item:=by
  intro X hP hw hK hc i pins s σ H E I hf st hg
  subst hP hw hK
  obtain ⟨f0,f1,f2,f3,f4,f5⟩:=hf it (by simp)
  have W:=Walks.range (prog:=X.prog) (w:=X.w) (I.ok.hd hc) it lo 1 n
  refine W.item i s _ _ hg st fun v h' tk hv st' kk=>?_
  obtain ⟨t,rfl⟩:=hv
  have I1:Inv X pins σ H { s with heap:=h',toks:=tk }:=I.turned (fun b o hb e=>kk b o (by simpa using hb) e) f0 f1 f3 f4 f5
  refine ⟨_,rfl,go_of (s:={ s with heap:=h',toks:=tk }) (n:="range_iterator") st' rfl rfl (by decide) ⟨.int (lo+i),H,I1,⟨t,?_⟩,⟨rfl,rfl⟩,st',fun b hb=>(hf b hb).1⟩⟩
  rw [Int.mul_one]
 done:=by
  intro X hP hw hK hc i pins s σ H E I hf st hg
  subst hP hw hK
  obtain ⟨f0,f1,f2,f3,f4,f5⟩:=hf it (by simp)
  exact wpAny_pyNext_range_end (I.ok.hd hc) st (by have:n≤i:=hg;omega) fun h' eb=>⟨rfl,I.turned (t':=s.toks) (fun b o hb e=>eb b o hb e) f0 f1 f3 f4 f5⟩
 self:=fun _ _ _ _ _ st h=>wpAny_pyIter_rangeiter st h
section
variable {X:Cx} {tg:Expr}
def iList (K:PySem.W.Frag) (tl:TE):TI:=fun σ H R=>tl σ H fun x H1=>∃ a,x=.ref a∧(∃ xs,SqL K H1 a xs)∧R (Itl K a) H1
def iTup (K:PySem.W.Frag) (tl:TE):TI:=fun σ H R=>tl σ H fun x H1=>∃ a,x=.ref a∧(∃ xs,SqT K H1 a xs)∧R (Itt K a) H1
theorem pi_list {l:Expr} {tl:TE} (hl:PE X l tl):PI X tg l (iList X.K tl):=by
 intro pins s σ H R I h
 refine thn (hl pins s σ H _ I h) fun v s1 ⟨x,H1,I1,r1,q1⟩=>?_
 obtain ⟨a,e,⟨xs,hq⟩,q⟩:=q1
 subst e
 cases r1
 obtain ⟨its,rv,p,hz⟩:=I1.list hq
 refine wpAny_pyIter_list p.isList ?_
 refine ⟨s1.heap.objs.size,[s1.heap.objs.size],_,_,H1,rfl,I1.kept (t':=s1.toks) fun b o e=>Heap.get?_push_of_some _ e,turn_list a _,⟨_,Heap.get?_push_size _ rfl,rfl,rfl⟩,fun b hb=>?_,q⟩
 have e:b=s1.heap.objs.size:=by simpa using hb
 subst e
 exact I1.fpOk (Nat.le_refl _) (I1.hok.fresh (Nat.le_refl _))
theorem pi_tup {l:Expr} {tl:TE} (hl:PE X l tl):PI X tg l (iTup X.K tl):=by
 intro pins s σ H R I h
 refine thn (hl pins s σ H _ I h) fun v s1 ⟨x,H1,I1,r1,q1⟩=>?_
 obtain ⟨a,e,⟨xs,hq⟩,q⟩:=q1
 subst e
 cases r1
 obtain ⟨its,rv,p,hz⟩:=I1.tuple hq
 refine wpAny_pyIter_tuple (show s1.heap.IsTuple a its.toArray from p) ?_
 refine ⟨s1.heap.objs.size,[s1.heap.objs.size],_,_,H1,rfl,I1.kept (t':=s1.toks) fun b o e=>Heap.get?_push_of_some _ e,turn_tuple a _,⟨_,Heap.get?_push_size _ rfl,rfl,rfl⟩,fun b hb=>?_,q⟩
 have e:b=s1.heap.objs.size:=by simpa using hb
 subst e
 exact I1.fpOk (Nat.le_refl _) (I1.hok.fresh (Nat.le_refl _))
theorem range_it {pins:List (Addr×Obj)} {σ:St} {H:Hp} {s:Shared} {R:It→Hp→Prop} {E:Value→Shared→Prop} {lo hi:Int} {t u v:Tok} {tk:Nat} (I:Inv X pins σ H s) (h1:-(2 ^ 62)≤lo) (h2:lo<2 ^ 62) (h3:-(2 ^ 62)≤hi) (h4:hi<2 ^ 62)
  (q:R (Itr lo (hi - lo).toNat) H):wpAny (model X.prog X.w) X.A (pyIter (.ref s.heap.objs.size)) (PIE X pins σ tg R) E { s with heap:=s.heap.push { cls:=.type "range",data:=.fields #[.int lo t,.int hi u,.int 1 v] },toks:=tk }:=by
 refine wpAny_pyIter_range (IsRange.new ..) (small_one h1 h2 h3 h4) ?_
 have I1:Inv X pins σ H { s with heap:=s.heap.push { cls:=.type "range",data:=.fields #[.int lo t,.int hi u,.int 1 v] },toks:=tk }:=I.kept fun b o e=>Heap.get?_push_of_some _ e
 refine ⟨(s.heap.push { cls:=.type "range",data:=.fields #[.int lo t,.int hi u,.int 1 v] }).objs.size,[(s.heap.push { cls:=.type "range",data:=.fields #[.int lo t,.int hi u,.int 1 v] }).objs.size],_,_,H,rfl,
  I1.kept (t':=tk) fun b o e=>Heap.get?_push_of_some _ e,turn_range _ lo (hi - lo).toNat,?_,fun b hb=>?_,q⟩
 ·have e1:lo+((0:Nat):Int) * 1=lo:=by simp
  have e2:(((hi - lo).toNat:Nat):Int) - ((0:Nat):Int)=Builtin.Range.rangeSize lo hi 1:=by rw [rangeSize_one];split <;> omega
  show IsRangeIter _ _ (lo+((0:Nat):Int) * 1) ((((hi - lo).toNat:Nat):Int) - ((0:Nat):Int)) 1
  rw [e1,e2]
  exact Heap.get?_push_size _ rfl
 ·have e:b=(s.heap.push { cls:=.type "range",data:=.fields #[.int lo t,.int hi u,.int 1 v] }).objs.size:=by simpa using hb
  subst e
  exact I1.fpOk (Nat.le_refl _) (I1.hok.fresh (Nat.le_refl _))
def iRng1 (ta:TA):TI:=fun σ H R=>ta σ H fun vs H1=>∃ j:Int,vs=[.int j]∧-(2 ^ 62)≤j∧j<2 ^ 62∧R (Itr 0 j.toNat) H1
theorem pi_range1 {a:Expr} {ta:TA} {p pos:Pos} (hg:Gl X "range") (hm:X.mg "range"=none) (ha:PA X [a] ta) (hs:starEach [a] X.env=[(false,eval a X.env)]:=by rfl):PI X tg (.Call (.Name "range" p) [a] [] pos) (iRng1 ta):=by
 intro pins s σ H R I h
 refine Call_ (ld_blt I hg hm boot_range (PyProof.Rows.callWith_type1 (thn (ha pos pins s σ H _ I h) fun us s1 ⟨vs,H1,I1,r1,q1⟩=>?_) hs rfl))
 obtain ⟨j,e,q1,q2,q⟩:=q1
 subst e
 cases r1 with
 | cons r rr =>
  cases rr
  obtain ⟨t,rfl⟩:=r
  exact call_range_1 (range_it I1 (by omega) (by omega) q1 q2 (by simpa using q))
def tFor (wi:TI) (g:TG) (tb:TS):TS:=fun D σ H=>wi σ H fun J H1=>∃ W:Nat→Nat→St→Hp→Prop,(∃ m,W 0 m σ H1)∧∀ i m σ H,W i m σ H →
 (J.stop i H∧D.nx σ H)∨(J.go i H∧∃ N:St→Hp→Prop,(∀ σ' H',N σ' H'→∃ m',m' < m∧W (i+1) m' σ' H')∧∀ x H',J.yld i H x H'→g x σ H' fun σ2 H2=>tb { D with nx:=N,ct:=N,bk:=D.nx } σ2 H2)
def pinsAt (fp:List Addr) (h:Heap):List (Addr×Obj):=fp.filterMap fun b=>(h.get? b).map fun o=>(b,o)
theorem mem_pinsAt {fp:List Addr} {h:Heap} {b:Addr} {o:Obj} (hb:b∈fp) (e:h.get? b=some o):(b,o)∈pinsAt fp h:=List.mem_filterMap.mpr ⟨b,hb,by rw [e];rfl⟩
theorem of_pinsAt {fp:List Addr} {h:Heap} {p:Addr×Obj} (hp:p∈pinsAt fp h):p.1∈fp∧h.get? p.1=some p.2:=by
 obtain ⟨b,hb,e⟩:=List.mem_filterMap.mp hp
 cases q:h.get? b with
 | none=>rw [q] at e;cases e
 | some o =>
  rw [q] at e
  have e':(b,o)=p:=Option.some.inj e
  subst e'
  exact ⟨hb,q⟩
theorem Inv.pinned {pins:List (Addr×Obj)} {σ:St} {H:Hp} {s:Shared} {fp:List Addr} (I:Inv X pins σ H s) (hf:∀ b∈fp,FpOk X pins H b) (ho:∀ b∈fp,∃ o,s.heap.get? b=some o∧∀ v,o.data≠.cell v):Inv X (pins++pinsAt fp s.heap) σ H s :=
 I.pins_of fun p hp=>(List.mem_append.mp hp).elim (fun z=>I.pin p (List.mem_append_right _ z)) fun z=>by
  obtain ⟨hb,e⟩:=of_pinsAt z
  obtain ⟨f0,f1,f2,_⟩:=hf p.1 hb
  obtain ⟨o,e',d⟩:=ho p.1 hb
  rw [e] at e';cases e'
  exact ⟨e,f0,f1,f2,d⟩
theorem Inv.unpinned {pins pl:List (Addr×Obj)} {σ:St} {H:Hp} {s:Shared} (I:Inv X (pins++pl) σ H s):Inv X pins σ H s:=I.pins_of fun p hp=>I.pin p (List.mem_append_right _ (List.mem_append_left _ hp))
theorem ps_for {iter:Expr} {body:List Stmt} {wi:TI} {g:TG} {tb:TS} {pos:Pos} (hp:PassesOwn (model X.prog X.w) X.A X.env X.xe) (hc:X.calm=true) (hi:PI X tg iter wi) (hg:PG X tg g) (hb:PSs X body tb)
  (hs:∀ x,foldedSetIterable iter X.env x=pure x:=by intro _;rfl):PS X (.For tg iter body [] pos) (tFor wi g tb):=by
 intro pins s σ H D I h
 refine wpAny_For (thn (hi pins s σ H _ I h) fun v s1 h1=>thn h1 fun itv s2 h2=>?_) hs
 obtain ⟨it,fp,tn,J,H2,e,I2,T,st2,f2,W,⟨m0,w0⟩,turn⟩:=h2
 subst e
 -- what stays true of the iterator's objects through the loop
 have stat:∀ {H':Hp},(∀ b∈fp,H' b=none)→∀ b∈fp,FpOk X pins H' b:=fun hn b hb=>⟨hn b hb,(f2 b hb).2⟩
 refine codeAny_forLoop_any (fun n s'=>∃ i σ' H',Inv X pins σ' H' s'∧tn i s'.heap∧(∀ b∈fp,H' b=none)∧W i n σ' H') ?_ m0 ⟨0,σ,H2,I2,st2,fun b hb=>(f2 b hb).1,w0⟩
 rintro n s3 ⟨i,σ3,H3,I3,st3,fr3,w3⟩
 rcases turn i n σ3 H3 w3 with ⟨stop,qn⟩ | ⟨go,N,hN,step⟩
 ·refine wpAny_passesOwn hp (thn (T.done X rfl rfl rfl hc i pins s3 σ3 H3 X.xe I3 (stat fr3) st3 stop) fun r s4 ⟨hr,I4⟩=>?_)
  subst hr
  exact wpAny_execs_nil ⟨σ3,H3,I4,qn⟩
 ·refine wpAny_passesOwn hp (thn (T.item X rfl rfl rfl hc i pins s3 σ3 H3 X.xe I3 (stat fr3) st3 go) fun r s4 ⟨u,hr,h4⟩=>?_)
  subst hr
  refine wpAny_passesOwn hp (thn h4 fun _ s5 ⟨x,H5,I5,r5,y5,st5,fr5⟩=>?_)
  have I5':=I5.pinned (stat fr5) (T.obj _ _ st5)
  refine wpAny_passesOwn hp (thn (hg _ s5 σ3 H5 x u _ I5' r5 (step x H5 y5)) fun _ s6 ⟨σ6,H6,I6,q6⟩=>?_)
  refine wpAny_passesOwn hp (thn (hb _ s6 σ6 H6 _ I6 q6) fun f s7 q7=>?_)
  have again:∀ {σ7:St} {H7:Hp},Inv X (pins++pinsAt fp s5.heap) σ7 H7 s7→N σ7 H7→∃ m,m<n∧∃ i σ' H',Inv X pins σ' H' s7∧tn i s7.heap∧(∀ b∈fp,H' b=none)∧W i m σ' H':=fun {σ7 H7} I7 n7=>by
   obtain ⟨m',hm,w7⟩:=hN σ7 H7 n7
   refine ⟨m',hm,i+1,σ7,H7,I7.unpinned,T.keep _ _ _ st5 fun b hb o e=>(I7.pin (b,o) (List.mem_append_right _ (List.mem_append_right _ (mem_pinsAt hb e)))).1,fun b hb=>?_,w7⟩
   obtain ⟨o,e,d⟩:=T.obj _ _ st5 b hb
   exact (I7.pin (b,o) (List.mem_append_right _ (List.mem_append_right _ (mem_pinsAt hb e)))).2.1
  cases f with
  | next=>obtain ⟨σ7,H7,I7,n7⟩:=q7;exact again I7 n7
  | cont=>obtain ⟨σ7,H7,I7,n7⟩:=q7;exact again I7 n7
  | brk=>obtain ⟨σ7,H7,I7,q7⟩:=q7;exact ⟨σ7,H7,I7.unpinned,q7⟩
  | ret v=>obtain ⟨x7,σ7,H7,I7,r7,q7⟩:=q7;exact ⟨x7,σ7,H7,I7.unpinned,r7,q7⟩
end
theorem for_list {K:PySem.W.Frag} {a:Addr} {xs:List V} {g:TG} {tb:TS} {D:Ends} {σ:St} {H:Hp} (Pv:Nat→St→Hp→Prop) (h0:Pv 0 σ H) (hl:∀ i σ H,i≤xs.length→Pv i σ H→SqL K H a xs)
  (hs:∀ i x σ H,xs[i]?=some x→Pv i σ H→g x σ H fun σ2 H2=>tb { D with nx:=Pv (i+1),ct:=Pv (i+1),bk:=D.nx } σ2 H2) (hd:∀ σ H,Pv xs.length σ H→D.nx σ H) :
  ∃ W:Nat→Nat→St→Hp→Prop,(∃ m,W 0 m σ H)∧∀ i m σ H,W i m σ H →
   ((Itl K a).stop i H∧D.nx σ H)∨((Itl K a).go i H∧∃ N:St→Hp→Prop,(∀ σ' H',N σ' H'→∃ m',m' < m∧W (i+1) m' σ' H')∧∀ x H',(Itl K a).yld i H x H'→g x σ H' fun σ2 H2=>tb { D with nx:=N,ct:=N,bk:=D.nx } σ2 H2):=by
 refine ⟨fun i m σ H=>m=xs.length - i∧i≤xs.length∧Pv i σ H,⟨xs.length,by simp,Nat.zero_le _,h0⟩,?_⟩
 rintro i m σ H ⟨rfl,hi,p⟩
 have q:=hl i σ H hi p
 by_cases hlt:i<xs.length
 ·refine .inr ⟨⟨xs,xs[i],q,by simp [hlt]⟩,Pv (i+1),fun σ' H' p'=>⟨xs.length - (i+1),by omega,rfl,hlt,p'⟩,fun x H' y=>?_⟩
  obtain ⟨e,y⟩:=y
  subst e
  exact hs i x σ _ (y xs q) p
 ·have e:i=xs.length:=by omega
  subst e
  exact .inl ⟨⟨xs,q,Nat.le_refl _⟩,hd σ H p⟩
theorem for_tup {K:PySem.W.Frag} {a:Addr} {xs:List V} {g:TG} {tb:TS} {D:Ends} {σ:St} {H:Hp} (Pv:Nat→St→Hp→Prop) (h0:Pv 0 σ H) (hl:∀ i σ H,i≤xs.length→Pv i σ H→SqT K H a xs)
  (hs:∀ i x σ H,xs[i]?=some x→Pv i σ H→g x σ H fun σ2 H2=>tb { D with nx:=Pv (i+1),ct:=Pv (i+1),bk:=D.nx } σ2 H2) (hd:∀ σ H,Pv xs.length σ H→D.nx σ H) :
  ∃ W:Nat→Nat→St→Hp→Prop,(∃ m,W 0 m σ H)∧∀ i m σ H,W i m σ H →
   ((Itt K a).stop i H∧D.nx σ H)∨((Itt K a).go i H∧∃ N:St→Hp→Prop,(∀ σ' H',N σ' H'→∃ m',m' < m∧W (i+1) m' σ' H')∧∀ x H',(Itt K a).yld i H x H'→g x σ H' fun σ2 H2=>tb { D with nx:=N,ct:=N,bk:=D.nx } σ2 H2):=by
 refine ⟨fun i m σ H=>m=xs.length - i∧i≤xs.length∧Pv i σ H,⟨xs.length,by simp,Nat.zero_le _,h0⟩,?_⟩
 rintro i m σ H ⟨rfl,hi,p⟩
 have q:=hl i σ H hi p
 by_cases hlt:i<xs.length
 ·refine .inr ⟨⟨xs,xs[i],q,by simp [hlt]⟩,Pv (i+1),fun σ' H' p'=>⟨xs.length - (i+1),by omega,rfl,hlt,p'⟩,fun x H' y=>?_⟩
  obtain ⟨e,y⟩:=y
  subst e
  exact hs i x σ _ (y xs q) p
 ·have e:i=xs.length:=by omega
  subst e
  exact .inl ⟨⟨xs,q,Nat.le_refl _⟩,hd σ H p⟩
theorem for_range {lo:Int} {n:Nat} {g:TG} {tb:TS} {D:Ends} {σ:St} {H:Hp} (Pv:Nat→St→Hp→Prop) (h0:Pv 0 σ H)
  (hs:∀ i σ H,i<n→Pv i σ H→g (.int (lo+i)) σ H fun σ2 H2=>tb { D with nx:=Pv (i+1),ct:=Pv (i+1),bk:=D.nx } σ2 H2) (hd:∀ σ H,Pv n σ H→D.nx σ H) :
  ∃ W:Nat→Nat→St→Hp→Prop,(∃ m,W 0 m σ H)∧∀ i m σ H,W i m σ H →
   ((Itr lo n).stop i H∧D.nx σ H)∨((Itr lo n).go i H∧∃ N:St→Hp→Prop,(∀ σ' H',N σ' H'→∃ m',m' < m∧W (i+1) m' σ' H')∧∀ x H',(Itr lo n).yld i H x H'→g x σ H' fun σ2 H2=>tb { D with nx:=N,ct:=N,bk:=D.nx } σ2 H2):=by
 refine ⟨fun i m σ H=>m=n - i∧i≤n∧Pv i σ H,⟨n,by simp,Nat.zero_le _,h0⟩,?_⟩
 rintro i m σ H ⟨rfl,hi,p⟩
 by_cases hlt:i<n
 ·refine .inr ⟨hlt,Pv (i+1),fun σ' H' p'=>⟨n - (i+1),by omega,rfl,hlt,p'⟩,fun x H' y=>?_⟩
  obtain ⟨e,y⟩:=y
  subst e y
  exact hs i σ _ hlt p
 ·have e:i=n:=by omega
  subst e
  exact .inl ⟨Nat.le_refl _,hd σ H p⟩
abbrev R2:=V→V→Hp→VK→Prop
def OpR (X:Cx) (f:Value→Value→Sem Value) (r:R2):Prop :=
 ∀ (pins:List (Addr×Obj)) (s:Shared) (σ:St) (H:Hp) (x y:V) (v u:Value) (Q:VK),Inv X pins σ H s→RelV x v→RelV y u→r x y H Q →
  wpAny (model X.prog X.w) X.A (f v u) (EP X pins σ Q) X.xe s
def UnR (X:Cx) (f:Value→Sem Value) (r:V→Hp→VK→Prop):Prop :=
 ∀ (pins:List (Addr×Obj)) (s:Shared) (σ:St) (H:Hp) (x:V) (v:Value) (Q:VK),Inv X pins σ H s→RelV x v→r x H Q →
  wpAny (model X.prog X.w) X.A (f v) (EP X pins σ Q) X.xe s
def CallR (X:Cx) (f:Value) (r:List V→Hp→VK→Prop):Prop :=
 ∀ (pins:List (Addr×Obj)) (s:Shared) (σ:St) (H:Hp) (xs:List V) (us:List Value) (Q:VK),Inv X pins σ H s→Vals xs us→r xs H Q →
  wpAny (model X.prog X.w) X.A (call f us) (EP X pins σ Q) X.xe s
def tOp (r:R2) (ta tb:TE):TE:=fun σ H Q=>ta σ H fun x H1=>tb σ H1 fun y H2=>r x y H2 Q
def tUn (r:V→Hp→VK→Prop) (ta:TE):TE:=fun σ H Q=>ta σ H fun x H1=>r x H1 Q
def rI (C:Int→Int→Prop) (g:Int→Int→V):R2:=fun x y H Q=>∃ i j,x=.int i∧y=.int j∧C i j∧Q (g i j) H
def rI0 (g:Int→Int→V):R2:=fun x y H Q=>∃ i j,x=.int i∧y=.int j∧Q (g i j) H
def rU (g:Int→V):V→Hp→VK→Prop:=fun x H Q=>∃ i,x=.int i∧Q (g i) H
section
variable {X:Cx} {a b c:Expr} {ta tb tc:TE} {pos:Pos}
theorem binT (ha:PE X a ta) (hb:PE X b tb) {pins:List (Addr×Obj)} {s:Shared} {σ:St} {H:Hp} {R:V→V→Hp→Prop} (I:Inv X pins σ H s)
  (h:ta σ H fun x H1=>tb σ H1 fun y H2=>R x y H2) {Q:Value→Shared→Prop} {f:Value→Value→Sem Value}
  (hf:∀ v u s2 x y H2,Inv X pins σ H2 s2→RelV x v→RelV y u→R x y H2→wpAny (model X.prog X.w) X.A (f v u) Q X.xe s2) :
  wpAny (model X.prog X.w) X.A (eval a X.env) (fun v s₁=>wpAny (model X.prog X.w) X.A (eval b X.env) (fun u s₂=>wpAny (model X.prog X.w) X.A (f v u) Q X.xe s₂) X.xe s₁) X.xe s:=by
 refine thn (ha pins s σ H _ I h) fun v s1 ⟨x,H1,I1,r1,q1⟩=>?_
 refine thn (hb pins s1 σ H1 _ I1 q1) fun u s2 ⟨y,H2,I2,r2,q2⟩=>?_
 exact hf v u s2 x y H2 I2 r1 r2 q2
theorem pe_op {op:Operator} {r:R2} (ho:OpR X (binaryOp op) r) (ha:PE X a ta) (hb:PE X b tb):PE X (.BinOp a op b pos) (tOp r ta tb):=by
 intro pins s σ H Q I h
 exact wpAny_BinOp (binT ha hb I h fun v u s2 x y H2 I2 rx ry q=>ho pins s2 σ H2 x y v u Q I2 rx ry q)
theorem pe_un {op:UnaryOp} {r:V→Hp→VK→Prop} (ho:UnR X (unaryOp op) r) (ha:PE X a ta):PE X (.UnaryOp op a pos) (tUn r ta):=by
 intro pins s σ H Q I h
 exact UnaryOp_ (thn (ha pins s σ H _ I h) fun v s1 ⟨x,H1,I1,r1,q1⟩=>ho pins s1 σ H1 x v Q I1 r1 q1)
theorem opI {f:Value→Value→Sem Value} {C:Int→Int→Prop} {g:Int→Int→Int}
  (rule:∀ (i j:Int) (t u:Tok) (s:Shared) (Q:Value→Shared→Prop) (E:Value→Shared→Prop),C i j→Q (.int (g i j) s.toks) { s with toks:=s.toks+1 }→wpAny (model X.prog X.w) X.A (f (.int i t) (.int j u)) Q E s) :
  OpR X f (rI C fun i j=>.int (g i j)):=by
 intro pins s σ H x y v u Q I rx ry h
 obtain ⟨i,j,rfl,rfl,hc,q⟩:=h
 obtain ⟨t,rfl⟩:=rx
 obtain ⟨t',rfl⟩:=ry
 exact rule i j t t' s _ _ hc ⟨.int (g i j),H,I.tok _,⟨_,rfl⟩,q⟩
theorem opI0 {f:Value→Value→Sem Value} {g:Int→Int→Int}
  (rule:∀ (i j:Int) (t u:Tok) (s:Shared) (Q:Value→Shared→Prop) (E:Value→Shared→Prop),Q (.int (g i j) s.toks) { s with toks:=s.toks+1 }→wpAny (model X.prog X.w) X.A (f (.int i t) (.int j u)) Q E s) :
  OpR X f (rI0 fun i j=>.int (g i j)):=by
 intro pins s σ H x y v u Q I rx ry h
 obtain ⟨i,j,rfl,rfl,q⟩:=h
 obtain ⟨t,rfl⟩:=rx
 obtain ⟨t',rfl⟩:=ry
 exact rule i j t t' s _ _ ⟨.int (g i j),H,I.tok _,⟨_,rfl⟩,q⟩
theorem opB0 {f:Value→Value→Sem Value} {g:Int→Int→Bool}
  (rule:∀ (i j:Int) (t u:Tok) (s:Shared) (Q:Value→Shared→Prop) (E:Value→Shared→Prop),Q (.bool (g i j)) s→wpAny (model X.prog X.w) X.A (f (.int i t) (.int j u)) Q E s) :
  OpR X f (rI0 fun i j=>.bl (g i j)):=by
 intro pins s σ H x y v u Q I rx ry h
 obtain ⟨i,j,rfl,rfl,q⟩:=h
 obtain ⟨t,rfl⟩:=rx
 obtain ⟨t',rfl⟩:=ry
 exact rule i j t t' s _ _ ⟨.bl (g i j),H,I,rfl,q⟩
def CDiv (i j:Int):Prop:=0<j∧j<1073741824
def CPow (i j:Int):Prop:=0≤j∧j≤1000000∧i.natAbs<2 ^ 64
def CMul (i j:Int):Prop:=(-(2 ^ 64)<i∧i<2 ^ 64)∨(-(2 ^ 64)<j∧j<2 ^ 64)
theorem CMul.ok {i j:Int} (h:CMul i j):IntMulOk i j:=by
 rcases h with ⟨h1,h2⟩ | ⟨h1,h2⟩
 ·exact .of_left (intBits_le_64 h1 h2)
 ·exact .of_right (intBits_le_64 h1 h2)
theorem op_add:OpR X (binaryOp .Add) (rI0 fun i j=>.int (i+j)):=opI0 fun _ _ _ _ _ _ _ q=>add_int q
theorem op_sub:OpR X (binaryOp .Sub) (rI0 fun i j=>.int (i - j)):=opI0 fun _ _ _ _ _ _ _ q=>sub_int q
theorem op_mul:OpR X (binaryOp .Mult) (rI CMul fun i j=>.int (i * j)):=opI fun _ _ _ _ _ _ _ hc q=>mul_int q hc.ok
theorem op_fdiv:OpR X (binaryOp .FloorDiv) (rI CDiv fun i j=>.int (i / j)):=opI fun i j _ _ _ _ _ hc q=>by
 have h1:(0:Int)<j:=hc.1
 have h2:j<1073741824:=hc.2
 exact floordiv_int (by omega) (by rw [Int.fdiv_eq_ediv_of_nonneg i (by omega)];exact q) (.inl (PyProof.noPylong_small (by omega)))
theorem op_mod:OpR X (binaryOp .Mod) (rI (fun _ j=>0<j) fun i j=>.int (i % j)):=opI fun i j _ _ _ _ _ hc q=>by
 have h1:(0:Int)<j:=hc
 exact mod_int' (by omega) (by rw [Int.fmod_eq_emod_of_nonneg i (by omega)];exact q)
theorem op_pow:OpR X (binaryOp .Pow) (rI CPow fun i j=>.int (i ^ j.toNat)):=opI fun _ _ _ _ _ _ _ hc q=>pow_int_small hc.1 hc.2.1 hc.2.2 q
theorem unI {f:Value→Sem Value} {g:Int→Int}
  (rule:∀ (i:Int) (t:Tok) (s:Shared) (Q:Value→Shared→Prop) (E:Value→Shared→Prop),Q (.int (g i) s.toks) { s with toks:=s.toks+1 }→wpAny (model X.prog X.w) X.A (f (.int i t)) Q E s) :
  UnR X f (rU fun i=>.int (g i)):=by
 intro pins s σ H x v Q I rx h
 obtain ⟨i,rfl,q⟩:=h
 obtain ⟨t,rfl⟩:=rx
 exact rule i t s _ _ ⟨.int (g i),H,I.tok _,⟨_,rfl⟩,q⟩
theorem un_neg:UnR X (unaryOp .USub) (rU fun i=>.int (-i)):=unI fun _ _ _ _ _ q=>neg_int q
end
def scal:V→V→Bool
 | .non,.non=>true | .non,.int _=>true | .int _,.non=>true | .non,.bl _=>true | .bl _,.non=>true | .non,.str _=>true | .str _,.non=>true
 | .int _,.int _=>true | .bl _,.bl _=>true | .str _,.str _=>true | .byt _,.byt _=>true
 | .int _,.str _=>true | .str _,.int _=>true | .bl _,.str _=>true | .str _,.bl _=>true
 | _,_=>false
def rEq:R2:=fun x y H Q=>scal x y=true∧Q (.bl (decide (x=y))) H
def rNe:R2:=fun x y H Q=>scal x y=true∧Q (.bl (!decide (x=y))) H
theorem dec_int {i j:Int}:decide (V.int i=V.int j)=(i == j):=by
 rw [Bool.eq_iff_iff]
 simp
theorem dec_bl {i j:Bool}:decide (V.bl i=V.bl j)=(i == j):=by
 rw [Bool.eq_iff_iff]
 simp
theorem dec_str {i j:Str}:decide (V.str i=V.str j)=(i == j):=by
 rw [Bool.eq_iff_iff]
 simp
theorem dec_byt {i j:Array UInt8}:decide (V.byt i=V.byt j)=(i.toList == j.toList):=by
 rw [Bool.eq_iff_iff]
 cases i
 cases j
 simp
section
variable {X:Cx} {a b c:Expr} {ta tb tc:TE} {pos:Pos}
theorem fin_bl {pins:List (Addr×Obj)} {σ:St} {H:Hp} {s:Shared} {Q:VK} {k k':Bool} (I:Inv X pins σ H s) (q:Q (.bl k) H) (e:k=k'):EP X pins σ Q (.bool k') s:=by
 subst e
 exact ⟨.bl k,H,I,rfl,q⟩
theorem op_eq:OpR X (compareOp .Eq) rEq:=by
 intro pins s σ H x y v u Q I rx ry h
 obtain ⟨hs,q⟩:=h
 cases x with
 | non =>
  cases rx
  cases y with
  | non=>cases ry;exact PySem.EqNone.eq_none_none (fin_bl I q (by simp))
  | bl j=>cases ry;exact PySem.EqNone.eq_none_bool (fin_bl I q (by simp))
  | int j=>obtain ⟨t',rfl⟩:=ry;exact PySem.EqNone.eq_none_int (fin_bl I q (by simp))
  | str j=>obtain ⟨t',rfl⟩:=ry;exact PySem.EqNone.eq_none_str (fin_bl I q (by simp))
  | _=>exact absurd (show false=true from hs) Bool.false_ne_true
 | bl i =>
  cases rx
  cases y with
  | non=>cases ry;exact PySem.EqNone.eq_bool_none (fin_bl I q (by simp))
  | bl j=>cases ry;exact eq_bool (fin_bl I q dec_bl)
  | str j=>obtain ⟨t',rfl⟩:=ry;exact PySem.EqMixed.eq_bool_str (fin_bl I q (by simp))
  | _=>exact absurd (show false=true from hs) Bool.false_ne_true
 | int i =>
  obtain ⟨t,rfl⟩:=rx
  cases y with
  | non=>cases ry;exact PySem.EqNone.eq_int_none (fin_bl I q (by simp))
  | int j=>obtain ⟨t',rfl⟩:=ry;exact eq_int (fin_bl I q dec_int)
  | str j=>obtain ⟨t',rfl⟩:=ry;exact PySem.EqMixed.eq_int_str (fin_bl I q (by simp))
  | _=>exact absurd (show false=true from hs) Bool.false_ne_true
 | str i =>
  obtain ⟨t,rfl⟩:=rx
  cases y with
  | non=>cases ry;exact PySem.EqNone.eq_str_none (fin_bl I q (by simp))
  | bl j=>cases ry;exact PySem.EqMixed.eq_str_bool (fin_bl I q (by simp))
  | int j=>obtain ⟨t',rfl⟩:=ry;exact PySem.EqMixed.eq_str_int (fin_bl I q (by simp))
  | str j=>obtain ⟨t',rfl⟩:=ry;exact eq_str (fin_bl I q dec_str)
  | _=>exact absurd (show false=true from hs) Bool.false_ne_true
 | byt i =>
  obtain ⟨t,rfl⟩:=rx
  cases y with
  | byt j=>obtain ⟨t',rfl⟩:=ry;exact PySem.W.eq_bytes (fin_bl I q dec_byt)
  | _=>exact absurd (show false=true from hs) Bool.false_ne_true
 | _=>cases y <;> exact absurd (show false=true from hs) Bool.false_ne_true
theorem op_ne:OpR X (compareOp .NotEq) rNe:=by
 intro pins s σ H x y v u Q I rx ry h
 obtain ⟨hs,q⟩:=h
 cases x with
 | non =>
  cases rx
  cases y with
  | non=>cases ry;exact PySem.EqNone.ne_none_none (fin_bl I q (by simp))
  | bl j=>cases ry;exact PySem.EqNone.ne_none_bool (fin_bl I q (by simp))
  | int j=>obtain ⟨t',rfl⟩:=ry;exact PySem.EqNone.ne_none_int (fin_bl I q (by simp))
  | str j=>obtain ⟨t',rfl⟩:=ry;exact PySem.EqNone.ne_none_str (fin_bl I q (by simp))
  | _=>exact absurd (show false=true from hs) Bool.false_ne_true
 | bl i =>
  cases rx
  cases y with
  | non=>cases ry;exact PySem.EqNone.ne_bool_none (fin_bl I q (by simp))
  | bl j=>cases ry;exact ne_bool (fin_bl I q (congrArg not dec_bl))
  | str j=>obtain ⟨t',rfl⟩:=ry;exact PySem.EqMixed.ne_bool_str (fin_bl I q (by simp))
  | _=>exact absurd (show false=true from hs) Bool.false_ne_true
 | int i =>
  obtain ⟨t,rfl⟩:=rx
  cases y with
  | non=>cases ry;exact PySem.EqNone.ne_int_none (fin_bl I q (by simp))
  | int j=>obtain ⟨t',rfl⟩:=ry;exact ne_int (fin_bl I q (congrArg not dec_int))
  | str j=>obtain ⟨t',rfl⟩:=ry;exact PySem.EqMixed.ne_int_str (fin_bl I q (by simp))
  | _=>exact absurd (show false=true from hs) Bool.false_ne_true
 | str i =>
  obtain ⟨t,rfl⟩:=rx
  cases y with
  | non=>cases ry;exact PySem.EqNone.ne_str_none (fin_bl I q (by simp))
  | bl j=>cases ry;exact PySem.EqMixed.ne_str_bool (fin_bl I q (by simp))
  | int j=>obtain ⟨t',rfl⟩:=ry;exact PySem.EqMixed.ne_str_int (fin_bl I q (by simp))
  | str j=>obtain ⟨t',rfl⟩:=ry;exact ne_str (fin_bl I q (congrArg not dec_str))
  | _=>exact absurd (show false=true from hs) Bool.false_ne_true
 | byt i =>
  obtain ⟨t,rfl⟩:=rx
  cases y with
  | byt j=>obtain ⟨t',rfl⟩:=ry;exact PySem.W.ne_bytes (fin_bl I q (congrArg not dec_byt))
  | _=>exact absurd (show false=true from hs) Bool.false_ne_true
 | _=>cases y <;> exact absurd (show false=true from hs) Bool.false_ne_true
theorem op_lt:OpR X (compareOp .Lt) (rI0 fun i j=>.bl (decide (i<j))):=opB0 fun _ _ _ _ _ _ _ q=>lt_int q
theorem op_gt:OpR X (compareOp .Gt) (rI0 fun i j=>.bl (decide (j<i))):=opB0 fun _ _ _ _ _ _ _ q=>gt_int q
theorem op_ge:OpR X (compareOp .GtE) (rI0 fun i j=>.bl (decide (j≤i))):=opB0 fun _ _ _ _ _ _ _ q=>ge_int q
theorem op_in_str:OpR X (compareOp .In) (fun x y H Q=>∃ i j,x=.str i∧y=.str j∧Q (.bl (!(Builtin.Str.occurrences j i 0 j.length 1).isEmpty)) H):=by
 intro pins s σ H x y v u Q I rx ry h
 obtain ⟨i,j,rfl,rfl,q⟩:=h
 obtain ⟨t,rfl⟩:=rx
 obtain ⟨t',rfl⟩:=ry
 exact in_str (fin_bl I q rfl)
theorem op_notN:OpR X (compareOp .IsNot) (fun x y H Q=>y=.non∧Q (.bl (!decide (x=.non))) H):=by
 intro pins s σ H x y v u Q I rx ry h
 obtain ⟨rfl,q⟩:=h
 cases ry
 refine isnot_none_gen (fin_bl I q ?_)
 cases x <;> first
  | (cases rx;rfl)
  | (obtain ⟨t,rfl⟩:=rx;rfl)
theorem nomark (b:Expr) {op:CmpOp} (h:op≠.In:=by decide) (h2:op≠.NotIn:=by decide):behindInMarks op b=false:=by
 have e1:(op == CmpOp.In)=false:=by cases op <;> first | rfl | exact absurd rfl h
 have e2:(op == CmpOp.NotIn)=false:=by cases op <;> first | rfl | exact absurd rfl h2
 cases b <;> simp [behindInMarks,e1,e2]
theorem pe_cmpR {op:CmpOp} {r:R2} (ho:OpR X (compareOp op) r) (ha:PE X a ta) (hb:PE X b tb) (hm:behindInMarks op b=false):PE X (.Compare a [op] [b] pos) (tOp r ta tb):=by
 intro pins s σ H Q I h
 exact wpAny_Compare1 (binT ha hb I h fun v u s2 x y H2 I2 rx ry q=>ho pins s2 σ H2 x y v u Q I2 rx ry q) hm
def tTest (t:TE):TT:=fun σ H Q=>t σ H fun x H'=>∃ k,x=.bl k∧Q k H'
theorem pt_cmpR {op:CmpOp} {r:R2} (ho:OpR X (compareOp op) r) (ha:PE X a ta) (hb:PE X b tb) (hm:behindInMarks op b=false):PT X (.Compare a [op] [b] pos) (tTest (tOp r ta tb)):=by
 intro pins s σ H Q I h
 refine wpAny_isTrue_Compare1 (thn (ha pins s σ H _ I h) fun v s1 ⟨x,H1,I1,r1,q1⟩=>thn (hb pins s1 σ H1 _ I1 q1) fun u s2 ⟨y,H2,I2,r2,q2⟩ =>
  thn (ho pins s2 σ H2 x y v u _ I2 r1 r2 q2) fun c s3 ⟨z,H3,I3,r3,k,e,q3⟩=>?_) hm
 subst e
 cases r3
 exact wpAny_truthy_bool ⟨H3,I3,q3⟩
theorem line63:(sizeLine:Nat)<2 ^ 63:=by rw [sizeLine_eq];decide
theorem op_add_str:OpR X (binaryOp .Add) (fun x y H Q=>∃ i j,x=.str i∧y=.str j∧i.length+j.length≤sizeLine∧Q (.str (i++j)) H):=by
 intro pins s σ H x y v u Q I rx ry h
 obtain ⟨i,j,rfl,rfl,hz,q⟩:=h
 obtain ⟨t,rfl⟩:=rx
 obtain ⟨t',rfl⟩:=ry
 exact add_str (fun t' tk=>⟨.str (i++j),H,I.tok _,⟨_,rfl⟩,q⟩) hz
theorem vals1 {x:V} {us:List Value} (r:Vals [x] us):∃ u,us=[u]∧RelV x u:=by
 cases r with
 | cons r1 r2=>cases r2;exact ⟨_,rfl,r1⟩
theorem vals2 {x y:V} {us:List Value} (r:Vals [x,y] us):∃ u w',us=[u,w']∧RelV x u∧RelV y w':=by
 cases r with
 | cons r1 r2 =>
  cases r2 with
  | cons r3 r4=>cases r4;exact ⟨_,_,rfl,r1,r3⟩
theorem call_max2 (hc:X.calm=true):CallR X (.builtin "max") (fun xs H Q=>∃ i j,xs=[.int i,.int j]∧Q (.int (if j > i then j else i)) H):=by
 intro pins s σ H xs us Q I r h
 obtain ⟨i,j,rfl,q⟩:=h
 obtain ⟨u,w',rfl,⟨t,rfl⟩,⟨t',rfl⟩⟩:=vals2 r
 refine max_two_ints (I.ok.hd hc) fun h' tk k=>⟨_,H,I.kept k,?_,q⟩
 by_cases hj:j > i
 ·rw [if_pos hj,if_pos hj];exact ⟨_,rfl⟩
 ·rw [if_neg hj,if_neg hj];exact ⟨_,rfl⟩
theorem call_min2 (hc:X.calm=true):CallR X (.builtin "min") (fun xs H Q=>∃ i j,xs=[.int i,.int j]∧Q (.int (if j<i then j else i)) H):=by
 intro pins s σ H xs us Q I r h
 obtain ⟨i,j,rfl,q⟩:=h
 obtain ⟨u,w',rfl,⟨t,rfl⟩,⟨t',rfl⟩⟩:=vals2 r
 refine min_two_ints (I.ok.hd hc) fun h' tk k=>⟨_,H,I.kept k,?_,q⟩
 by_cases hj:j<i
 ·rw [if_pos hj,if_pos hj];exact ⟨_,rfl⟩
 ·rw [if_neg hj,if_neg hj];exact ⟨_,rfl⟩
theorem call_int1:CallR X (.type "int") (fun xs H Q=>(∃ i,xs=[.int i]∧Q (.int i) H)∨∃ k,xs=[.bl k]∧Q (.int (if k then 1 else 0)) H):=by
 intro pins s σ H xs us Q I r h
 rcases h with ⟨i,rfl,q⟩ | ⟨k,rfl,q⟩
 ·obtain ⟨u,rfl,t,rfl⟩:=vals1 r
  exact call_int_int ⟨.int i,H,I,⟨_,rfl⟩,q⟩
 ·obtain ⟨u,rfl,r1⟩:=vals1 r
  cases r1
  exact call_int_bool ⟨.int (if k then 1 else 0),H,I.tok _,⟨_,rfl⟩,q⟩
end
section
variable {prog:Program} {w:World} {A:Around} {E:Value→Shared→Prop} {s:Shared} {K:PySem.W.Frag} {x dx C f:Addr} {mA:Str→Option Value} {name:Str} {v:Value}
end
theorem RelO.some_of {v:V} {o:Option Value} (r:RelO (some v) o):∃ u,o=some u∧RelV v u:=by
 cases o with
 | none=>exact (show False from r).elim
 | some u=>exact ⟨u,rfl,r⟩
section
variable {P:Program} {w:World} {H H':Hp} {h h':Heap} {a C dx:Addr} {fs fs':List (Str×V)}
end
section
variable {X:Cx} {pins:List (Addr×Obj)} {σ:St} {H:Hp} {s:Shared} {a C dx:Addr} {fs:List (Str×V)} {f:Str} {v:V} {A:Around} {E:Value→Shared→Prop}
end
section
variable {X:Cx} {o e value:Expr} {f:Str} {pos pos' tpos:Pos} {ta tv:TE}
end
section
variable {X:Cx} {pins:List (Addr×Obj)} {σ:St} {H:Hp} {s:Shared} {A:Around} {E:Value→Shared→Prop} {Q:Value→Shared→Prop} {c:Value} {b:Bool}
end
structure Room (k:Nat) (A:Around):Prop where
 hd:A.handled=none
 dp:A.depth+3 * k+5<recursionLimit
 un:A.units+16 * k+200<cLine
theorem Room.mono {j k:Nat} {A:Around} (r:Room k A) (h:j≤k):Room j A:=⟨r.hd,by have:=r.dp;omega,by have:=r.un;omega⟩
theorem Room.deeper {k:Nat} {A:Around} (r:Room (k+1) A) (env:Env):Room k (A.deeper env) :=
 ⟨r.hd,by have:=r.dp;show A.depth+1+3 * k+5<_;omega,by have:=r.un;show A.units+3+16 * k+200<_;omega⟩
theorem Room.in1 {k:Nat} {A:Around} (r:Room (k+1) A):Room k A.in1 :=
 ⟨r.hd,by have:=r.dp;show A.depth+3 * k+5<_;omega,by have:=r.un;show A.units+1+16 * k+200<_;omega⟩
theorem Room.depth {k:Nat} {A:Around} (r:Room k A):A.depth<recursionLimit:=by have:=r.dp;omega
theorem Room.units {k:Nat} {A:Around} (r:Room k A):A.units+64<cLine:=by have:=r.un;omega
theorem Room.units0 {k:Nat} {A:Around} (r:Room k A):A.units<cLine:=by have:=r.un;omega
def tNil:TA:=fun _ H Q=>Q [] H
def tCons (ta:TE) (tr:TA):TA:=fun σ H Q=>ta σ H fun x H1=>tr σ H1 fun xs H2=>Q (x::xs) H2
section
variable {X:Cx} {e:Expr} {es:List Expr} {te:TE} {t:TA} {pos:Pos}
theorem pa_nil:PA X [] tNil:=fun _ _ _ _ H Q I h=>Calls.spliced_nil ⟨[],H,I,.nil,h⟩
theorem pa_cons (ha:PE X e te) (hr:PA X es t) (hs:starEach (e::es) X.env=(false,eval e X.env)::starEach es X.env:=by rfl):PA X (e::es) (tCons te t):=by
 intro pos pins s σ H Q I h
 rw [hs]
 show wpAny _ _ (spliced ((false,eval e X.env)::backTo pos (starEach es X.env))) _ _ s
 refine Calls.spliced_cons (thn (ha pins s σ H _ I h) fun u s1 ⟨x,H1,I1,r1,q1⟩=>?_)
 exact thn (hr pos pins s1 σ H1 _ I1 q1) fun us s2 ⟨xs,H2,I2,r2,q2⟩=>⟨x::xs,H2,I2,.cons r1 r2,q2⟩
def tTup (t:TA):TE:=fun σ H Q=>t σ H fun xs H1=>xs.length≤sizeLine∧∀ p,H1 p=none→Q (.ref p) (upd H1 p (.tup xs))
def tLst (t:TA):TE:=fun σ H Q=>t σ H fun xs H1=>xs.length≤sizeLine∧∀ p,H1 p=none→Q (.ref p) (upd H1 p (.lst xs))
theorem pe_tup {x1} (h:PA X es t):PE X (.Tuple es x1 pos) (tTup t):=by
 intro pins s σ H Q I hq
 refine wpAny_Tuple_spliced (thn (h pos pins s σ H _ I hq) fun us s1 ⟨xs,H1,I1,r,z,q⟩=>⟨by rw [← r.length];exact z,?_⟩)
 have hf:H1 s1.heap.objs.size=none:=I1.hok.fresh (Nat.le_refl _)
 refine ⟨.ref s1.heap.objs.size,upd H1 s1.heap.objs.size (.tup xs),I1.laid (t':=s1.toks) (fun b u e=>Heap.get?_push_of_some _ e) (Nat.le_refl _) ?_,rfl,q _ hf⟩
 exact ⟨z,us,r,⟨_,Heap.get?_push_size _ rfl,rfl,_,rfl⟩⟩
theorem pe_lst (h:PA X es t):PE X (.List es pos) (tLst t):=by
 intro pins s σ H Q I hq
 refine wpAny_List_spliced (thn (h pos pins s σ H _ I hq) fun us s1 ⟨xs,H1,I1,r,z,q⟩=>⟨by rw [← r.length];exact z,?_⟩)
 have hf:H1 s1.heap.objs.size=none:=I1.hok.fresh (Nat.le_refl _)
 refine ⟨.ref s1.heap.objs.size,upd H1 s1.heap.objs.size (.lst xs),I1.laid (t':=s1.toks) (fun b u e=>Heap.get?_push_of_some _ e) (Nat.le_refl _) ?_,rfl,q _ hf⟩
 exact ⟨z,us,0,r,Heap.get?_push_size _ rfl⟩
end
abbrev Sp:=List V→Hp→VK→XK→Prop
abbrev CXT:=List Env→Hp→Shared→XK→Value→Shared→Prop
structure Env0 (P:Program) (w:World) (K:PySem.W.Frag) (mg:Str→Option Value) (base:Heap) (A:Around) (outer:List Env) (s:Shared) (H:Hp):Prop where
 frames:A.frames=some outer
 mod:Mod K mg base
 bs:∀ b o,base.get? b=some o→s.heap.get? b=some o∧H b=none
 bsz:base.objs.size≤s.heap.objs.size
 funs:s.heap.FunFrames base outer
 frf:∀ b∈frs outer,H b=none
 hok:HOk P w H s.heap
 bare:AllBare s.gens
def CE (outer:List Env) (P:Program) (w:World) (H:Hp) (s:Shared) (Q:VK) (u:Value) (s':Shared):Prop :=
 ∃ v H',s'.os=s.os∧AllBare s'.gens∧Un (frs outer) [] H H' s.heap s'.heap∧HOk P w H' s'.heap∧RelV v u∧Q v H'
def CR (CX:CXT) (outer:List Env) (P:Program) (w:World) (H:Hp) (s:Shared) (Q:VK) (E:XK) (r:Result) (s':Shared):Prop :=
 match r with
 | .ok (.ret u)=>CE outer P w H s Q u s'
 | .ok _=>False
 | .error e=>CX outer H s E e s'
structure FnOk (P:Program) (w:World) (K:PySem.W.Frag) (mg:Str→Option Value) (base:Heap) (CX:CXT) (k:Nat) (f:Addr) (fd:FuncData) (ps:List Str) (sp:Sp):Prop where
 len:∀ vs H Q E,sp vs H Q E→vs.length=ps.length
 run:∀ (A:Around) (outer:List Env) (s:Shared) (H:Hp) (args:Args) (us:List Value) (vs:List V) (Q:VK) (E:XK),Room k A→Env0 P w K mg base A outer s H→BindsTo s fd args (ps.zip us)→Vals vs us→sp vs H Q E →
  codeAny (model P w) A (.call (.ref f) args) (CR CX outer P w H s Q E) s
theorem FnOk.mono {P:Program} {w:World} {K:PySem.W.Frag} {mg:Str→Option Value} {base:Heap} {CX:CXT} {j k:Nat} {f:Addr} {fd:FuncData} {ps:List Str} {sp:Sp} (F:FnOk P w K mg base CX j f fd ps sp) (h:j≤k) :
  FnOk P w K mg base CX k f fd ps sp:=⟨F.len,fun A outer s H args us vs Q E hr=>F.run A outer s H args us vs Q E (hr.mono h)⟩
section
variable {X:Cx} {pins:List (Addr×Obj)} {σ:St} {H:Hp} {s s':Shared}
theorem Inv.env0 (I:Inv X pins σ H s):Env0 X.prog X.w X.K X.mg X.base X.A X.stack s H :=
 ⟨I.ok.frames,I.ok.mod,I.bs,Nat.le_trans I.ok.bsz I.sz,I.stack,I.stkFree,I.hok,I.bare⟩
theorem Inv.after {Q:VK} {u:Value} (I:Inv X pins σ H s) (h:CE X.stack X.prog X.w H s Q u s'):EP X pins σ Q u s':=by
 obtain ⟨v,H',os,bare,un,hok,r,q⟩:=h
 obtain ⟨hh,g,d,t,os'⟩:=s'
 obtain rfl:os'=s.os:=os
 exact ⟨v,H',I.call (h':=hh) (g':=g) (d':=d) (t':=t) (ch:=[]) un hok bare (fun b z=>absurd z (by simp)),r,q⟩
end
def tCall (sp:Sp) (dvs:List V) (E:XK) (t:TA):TE:=fun σ H Q=>t σ H fun vs H1=>sp (vs++dvs) H1 Q E
def Binds (K:PySem.W.Frag) (fd:FuncData) (ps:List Str) (ds:List Value):Prop :=
 ∀ (s:Shared) (us:List Value),K.In s.heap→(us++ds).length=ps.length→BindsTo s fd ⟨us,[]⟩ (ps.zip (us++ds))
theorem Binds.all {K:PySem.W.Frag} {fd:FuncData} {ps:List Str} (h:∀ us:List Value,us.length=ps.length→bindArgs fd ⟨us,[]⟩=pure (ps.zip us)):Binds K fd ps []:=fun s us _ hl=>by
 rw [List.append_nil] at hl ⊢
 exact .of_eq (h us hl)
def Passes (CX:CXT) (X:Cx) (E:XK):Prop:=∀ (pins:List (Addr×Obj)) (σ:St) (H:Hp) (s:Shared) (e:Value) (s':Shared),Inv X pins σ H s→CX X.stack H s E e s'→X.xe e s'
section
variable {X:Cx} {CX:CXT} {k:Nat} {f C:Addr} {fd:FuncData} {ps:List Str} {sp:Sp} {dvs:List V} {ds:List Value} {E:XK} {x m:Str} {p pos apos:Pos} {e o:Expr} {es:List Expr} {ta:TE} {t:TA}
theorem run_fn {pins:List (Addr×Obj)} {σ:St} {H:Hp} {s:Shared} {Q:VK} {us:List Value} {vs:List V} (F:FnOk X.prog X.w X.K X.mg X.base CX k f fd ps sp) (hr:Room k X.A) (hb:Binds X.K fd ps ds) (hd:Vals dvs ds) (hx:Passes CX X E)
  (I:Inv X pins σ H s) (r:Vals vs us) (h:sp (vs++dvs) H Q E):wpAny (model X.prog X.w) X.A (call (.ref f) us) (EP X pins σ Q) X.xe s:=by
 have r2:Vals (vs++dvs) (us++ds):=r.append hd
 have hl:(us++ds).length=ps.length:=by rw [← r2.length];exact F.len _ _ _ _ h
 refine wpAny_call (codeAny_mono (F.run X.A X.stack s H ⟨us,[]⟩ (us++ds) (vs++dvs) Q E hr I.env0 (hb s us I.kIn hl) r2 h) fun r s' hq=>?_)
 cases r with
 | error e=>exact hx pins σ H s e s' I hq
 | ok fl =>
  cases fl with
  | ret u=>exact I.after hq
  | next=>exact False.elim hq
  | brk=>exact False.elim hq
  | cont=>exact False.elim hq
theorem pe_call (F:FnOk X.prog X.w X.K X.mg X.base CX k f fd ps sp) (hr:Room k X.A) (hg:Gl X x) (hm:X.mg x=some (.ref f)) (hk:PySem.W.keepIn X.K (.ref f)=true) (hb:Binds X.K fd ps ds) (hd:Vals dvs ds) (hx:Passes CX X E)
  (ha:PA X (e::es) t) (hdb:(x == ("__debug__":Str))=false:=by decide) (he:starEach (e::es) X.env=(false,eval e X.env)::starEach es X.env:=by rfl) (hpl:(backTo pos (starEach es X.env)).any (·.1)=false:=by rfl) :
  PE X (.Call (.Name x p) (e::es) [] pos) (tCall sp dvs E t):=by
 intro pins s σ H Q I h
 refine wpAny_Call_Name_kw (ld_glob I hg hm ?_ hdb)
 refine PySem.W.callWith_K (h₀:=X.base) I.ok.mod.kin hk (thn (ha pos pins s σ H _ I h) fun us s1 ⟨vs,H1,I1,r,q⟩=>⟨I1.kIn,?_⟩) he hpl
 exact run_fn F hr hb hd hx I1 r q
end
def PK (X:Cx) (kws:List Keyword) (t:TA):Prop :=
 ∀ (pos:Pos) (pins:List (Addr×Obj)) (s:Shared) (σ:St) (H:Hp) (Q:List V→Hp→Prop),Inv X pins σ H s→t σ H Q→wpAny (model X.prog X.w) X.A (evalAll ((backToKw pos (keywordEach kws X.env)).map (·.2))) (AP X pins σ Q) X.xe s
section
variable {X:Cx} {CX:CXT} {k:Nat} {f C:Addr} {fd:FuncData} {ps ks:List Str} {sp:Sp} {E:XK} {x m:Str} {p pos apos kpos:Pos} {e o:Expr} {es:List Expr} {kws:List Keyword} {te ta:TE} {t tk:TA} {nm:Option Str}
theorem pk_nil:PK X [] tNil:=fun _ _ _ _ H Q I h=>wpAny_evalAll_nil ⟨[],H,I,.nil,h⟩
theorem pk_cons (ha:PE X e te) (hr:PK X kws t):PK X (⟨nm,e,kpos⟩::kws) (tCons te t):=by
 intro pos pins s σ H Q I h
 show wpAny _ _ (evalAll ((do let v ← eval e X.env;standAt pos;pure v)::(backToKw pos (keywordEach kws X.env)).map (·.2))) _ _ s
 refine wpAny_evalAll_cons (wpAny_bind (thn (ha pins s σ H _ I h) fun u s1 ⟨x,H1,I1,r1,q1⟩=>wpAny_bind (wpAny_standAt (wpAny_pure ?_))))
 exact thn (hr pos pins s1 σ H1 _ I1 q1) fun us s2 ⟨xs,H2,I2,r2,q2⟩=>⟨x::xs,H2,I2,.cons r1 r2,q2⟩
variable {g:List Value→List Value→List Value} {gV:List V→List V→List V}
end
structure FnScope (N P:List Str) (sc:Scope):Prop where
 kind:sc.kind=.function
 co:sc.isCoroutine=false
 gen:sc.isGenerator=false
 nd:N.Nodup
 pre:N.take P.length=P
 par:∀ x∈P,sc.names.lookup x=some .local∨sc.names.lookup x=some .cell
 nofree:∀ y∈sc.names,y.2≠.free
theorem bindL_out {kindOf:Str→Option NameKind} {x:Str}:∀ {binds:List (Str×Value)} {m:Str→Option Value},(∀ v,(x,v) ∉ binds)→bindL kindOf binds m x=m x
 | [],_,_=>rfl
 | (n,v)::r,m,h=>by
  unfold bindL
  rw [bindL_out fun w hw=>h w (List.mem_cons_of_mem _ hw)]
  split
  ·have:x≠n:=by rintro rfl;exact h v List.mem_cons_self
   simp [this]
  ·rfl
theorem bindC_out {kindOf:Str→Option NameKind} {x:Str}:∀ {binds:List (Str×Value)} {m:Str→Option Value},(∀ v,(x,v) ∉ binds)→bindC kindOf binds m x=m x
 | [],_,_=>rfl
 | (n,v)::r,m,h=>by
  unfold bindC
  rw [bindC_out fun w hw=>h w (List.mem_cons_of_mem _ hw)]
  split
  ·rfl
  ·have:x≠n:=by rintro rfl;exact h v List.mem_cons_self
   simp [this]
theorem bindL_get {kindOf:Str→Option NameKind} {x:Str} {v:Value}:∀ {P:List Str} {vs:List Value} {i:Nat} {m:Str→Option Value},P.Nodup→P[i]?=some x→vs[i]?=some v→kindOf x=some .local →
  bindL kindOf (P.zip vs) m x=some v
 | [],_,_,_,_,h,_,_=>by simp at h
 | _::_,[],_,_,_,_,h,_=>by simp at h
 | p::P,w::vs,0,m,nd,h1,h2,hk=>by
  simp at h1 h2;subst h1;subst h2
  show bindL kindOf ((p,w)::P.zip vs) m p=_
  unfold bindL
  rw [bindL_out fun v hv=>(List.nodup_cons.mp nd).1 (List.of_mem_zip hv).1,if_pos hk]
  simp
 | p::P,w::vs,i+1,m,nd,h1,h2,hk=>by
  show bindL kindOf ((p,w)::P.zip vs) m x=_
  unfold bindL
  exact bindL_get (i:=i) (List.nodup_cons.mp nd).2 (by simpa using h1) (by simpa using h2) hk
theorem bindC_get {kindOf:Str→Option NameKind} {x:Str} {v:Value}:∀ {P:List Str} {vs:List Value} {i:Nat} {m:Str→Option Value},P.Nodup→P[i]?=some x→vs[i]?=some v→kindOf x≠some .local →
  bindC kindOf (P.zip vs) m x=some v
 | [],_,_,_,_,h,_,_=>by simp at h
 | _::_,[],_,_,_,_,h,_=>by simp at h
 | p::P,w::vs,0,m,nd,h1,h2,hk=>by
  simp at h1 h2;subst h1;subst h2
  show bindC kindOf ((p,w)::P.zip vs) m p=_
  unfold bindC
  rw [bindC_out fun v hv=>(List.nodup_cons.mp nd).1 (List.of_mem_zip hv).1,if_neg hk]
  simp
 | p::P,w::vs,i+1,m,nd,h1,h2,hk=>by
  show bindC kindOf ((p,w)::P.zip vs) m x=_
  unfold bindC
  exact bindC_get (i:=i) (List.nodup_cons.mp nd).2 (by simpa using h1) (by simpa using h2) hk
def start (N:List Str) (vs:List V):St:=vs.map some++List.replicate (N.length - vs.length) none
def cxOf (CX:CXT) (P:Program) (w:World) (K:PySem.W.Frag) (mg:Str→Option Value) (base:Heap) (N:List Str) (qual:Str) (scope:Scope) (f:Addr) (cd:Value) (A:Around) (outer:List Env) (s:Shared) (H:Hp) (E:XK):Cx where
 prog:=P
 w:=w
 K:=K
 mg:=mg
 base:=base
 A:=A.deeper (envOfC qual scope s.heap.objs.size f cd)
 N:=N
 s₀:=s
 H₀:=H
 env:=envOfC qual scope s.heap.objs.size f cd
 outer:=outer
 stack:=envOfC qual scope s.heap.objs.size f cd::outer
 ex:=[]
 calm:=true
 fn:=fun _=>true
 pn:=[]
 xe:=fun e s'=>wpAny (model P w) (A.deeper (envOfC qual scope s.heap.objs.size f cd)) (leaving (envOfC qual scope s.heap.objs.size f cd) e) (fun _ s''=>CX outer H s E e s'') (fun e' s''=>CX outer H s E e' s'') s'
theorem cell_has {sc:Scope} {n:Nat} {x:Str} (h:sc.names.lookup x=some .cell):∃ c,(cellsFrom n sc.names []).lookup x=some c:=by
 have q:=PySem.W.cellsFrom_some sc.names n [] (.inl h)
 exact Option.isSome_iff_exists.mp q
theorem inv_start {CX:CXT} {P:Program} {w:World} {K:PySem.W.Frag} {mg:Str→Option Value} {base:Heap} {N ps:List Str} {qual:Str} {scope:Scope} {f:Addr} {cd:Value} {A:Around} {outer:List Env} {s s1:Shared} {H:Hp} {E:XK} {us:List Value} {vs:List V}
  (S:FnScope N ps scope) (hd:A.handled=none) (e0:Env0 P w K mg base A outer s H) (hl:vs.length=ps.length) (r:Vals vs us)
  (x:InCallC s s.heap.objs.size (bindL (envOfC qual scope s.heap.objs.size f cd).kindOf (ps.zip us) fun _=>none) (cellsFrom (s.heap.objs.size+1) scope.names []) (bindC (envOfC qual scope s.heap.objs.size f cd).kindOf (ps.zip us) fun _=>none) s1) :
  Inv (cxOf CX P w K mg base N qual scope f cd A outer s H E) [] (start N vs) H s1:=by
 have hpl:ps.length≤N.length:=by have:=congrArg List.length S.pre;rw [List.length_take] at this;omega
 obtain ⟨h1,tk,rfl,hk⟩:=x.done
 have noA:∀ b:Addr,b ∉ (cxOf CX P w K mg base N qual scope f cd A outer s H E).ex:=fun b z=>absurd (show b∈([]:List Addr) from z) (by simp)
 refine ⟨⟨e0.mod,S.kind,rfl,rfl,Nat.le_refl _,fun y z c h1 h2=>?_,fun y hy=>?_,fun y c _ h=>?_,fun _=>hd,Around.frames_deeper e0.frames,.inr ⟨rfl,rfl⟩,fun b z=>absurd z (noA b),e0.bs,e0.bsz,fun b _ _=>noA b,fun b z=>absurd z (noA b),e0.funs,e0.frf⟩,
  rfl,e0.bare,Un.kept hk,⟨_,x.toInCall.ns,fun i y v h1 h2 h3=>?_⟩,fun y c h=>⟨_,x.cell y c h⟩,e0.hok.fresh (Nat.le_refl _),fun y c h=>?_,fun p hp=>absurd (show p∈([]:List (Addr×Obj)) from hp) (by simp),e0.hok.kept hk,?_⟩
 ·exact name_of_addr x.apart (PySem.mem_of_lookup h1) (PySem.mem_of_lookup h2)
 ·have hy:scope.names.lookup y=some .cell∨scope.names.lookup y=some .free:=hy
  rcases hy with hy | hy
  ·exact cell_has hy
  ·exact absurd rfl (S.nofree _ (PySem.mem_of_lookup hy))
 ·exact Nat.le_of_lt (x.above y c (PySem.mem_of_lookup h))
 ·have hi:i<vs.length:=by
   unfold start at h2
   by_cases hi:i<vs.length
   ·exact hi
   ·rw [List.getElem?_append_right (by simpa using hi)] at h2
    rw [List.getElem?_replicate] at h2
    split at h2 <;> cases h2
  have ha:vs[i]?=some v:=by
   unfold start at h2
   rw [List.getElem?_append_left (by simpa using hi),List.getElem?_map] at h2
   cases e:vs[i]? with
   | none=>rw [e] at h2;cases h2
   | some a=>rw [e] at h2;cases h2;rfl
  obtain ⟨u,hu,rv⟩:=r.get ha
  have hp:ps[i]?=some y:=by
   rw [← S.pre,List.getElem?_take_of_lt (by omega)];exact h1
  have ndP:ps.Nodup:=by rw [← S.pre];exact S.nd.sublist (List.take_sublist _ _)
  refine ⟨u,rv,?_⟩
  rcases S.par y (List.mem_of_getElem? hp) with k | k
  ·exact .inl ⟨k,bindL_get ndP hp hu k⟩
  ·obtain ⟨c,e⟩:=cell_has (n:=s.heap.objs.size+1) k
   refine .inr ⟨.inl k,c,e,?_⟩
   have q:=x.cell y c e
   rw [bindC_get ndP hp hu (by show scope.names.lookup y≠_;rw [k];decide)] at q
   exact q
 ·exact e0.hok.fresh (Nat.le_of_lt (x.above y c (PySem.mem_of_lookup h)))
 ·unfold start
  show _=N.length
  rw [List.length_append,List.length_map,List.length_replicate]
  omega
theorem fn_of {CX:CXT} {P:Program} {w:World} {K:PySem.W.Frag} {mg:Str→Option Value} {base:Heap} {k:Nat} {f:Addr} {name qual:Str} {params:Arguments} {body:List Stmt} {scope:Scope} {dV kV doc pm cdv ct oc:Value} {an od:Option Addr}
  {osl:Array (Option Value)} {N ps:List Str} {sp:Sp} (lk:K.lookup f=some ⟨oc,od,.func (PySem.W.fnOf name qual params body scope dV kV doc pm an cdv ct),osl⟩) (hcd:PySem.W.codeIn K cdv qual=true) (S:FnScope N ps scope)
  (len:∀ vs H Q E,sp vs H Q E→vs.length=ps.length)
  (hbody:∀ (A:Around) (outer:List Env) (s:Shared) (H:Hp) (vs:List V) (Q:VK) (E:XK),Room k (A.deeper (envOfC qual scope s.heap.objs.size f cdv))→sp vs H Q E →
   ∃ t,PSs (cxOf CX P w K mg base N qual scope f cdv A outer s H E) body t∧t { nx:=fun _ H'=>Q .non H',rt:=Q } (start N vs) H) :
  FnOk P w K mg base CX (k+1) f (PySem.W.fnOf name qual params body scope dV kV doc pm an cdv ct) ps sp:=by
 refine ⟨len,fun A outer s H args us vs Q E hr e0 hb r hsp=>?_⟩
 have hl:=len _ _ _ _ hsp
 have KX:K.In s.heap:=e0.mod.kin.keeps fun b o e=>(e0.bs b o e).1
 have lim:s.heap.NoLimit:=e0.mod.nolimit.keeps fun b o e=>(e0.bs b o e).1
 have hkind:∀ y∈ps.zip us,scope.names.lookup y.1=some .local∨(scope.names.lookup y.1=some .cell∧((cellsFrom (s.heap.objs.size+1) scope.names []).lookup y.1).isSome=true):=fun ⟨n,v⟩ hy=>by
  rcases S.par n (List.of_mem_zip hy).1 with q | q
  ·exact .inl q
  ·exact .inr ⟨q,PySem.W.cellsFrom_some _ _ _ (.inl q)⟩
 refine codeAny_call_function hr.depth (KX _ _ lk) rfl S.co S.gen rfl (PySem.W.codeRec_of KX hcd) (hb _ _ _ _ ?_)
 refine wpAny_newFunctionEnv_cells S.kind hkind fun env he s1 x=>?_
 subst he
 refine ⟨lim.keeps x.toInCall.keep,codeAny_func ?_⟩
 obtain ⟨t,ht,hq⟩:=hbody A outer s H vs Q E (hr.deeper _) hsp
 have I:Inv (cxOf CX P w K mg base N qual scope f cdv A outer s H E) [] (start N vs) H s1:=inv_start S hr.hd e0 hl r x
 refine wpAny_mono (ht [] s1 (start N vs) H _ I hq) (fun fl s' hs=>?_) fun e s' hs=>hs
 have fin:∀ {σ':St} {H':Hp} {v:V} {u:Value},Inv (cxOf CX P w K mg base N qual scope f cdv A outer s H E) [] σ' H' s'→RelV v u→Q v H'→CE outer P w H s Q u s' :=
  fun {σ' H' v u} J rv q=>⟨v,H',J.os,J.bare,J.base,J.hok,rv,q⟩
 cases fl with
 | ret u =>
  obtain ⟨v,σ',H',J,rv,q⟩:=hs
  exact fin J rv q
 | next =>
  obtain ⟨σ',H',J,q⟩:=hs
  exact fin (v:=V.non) (u:=Value.none) J rfl q
 | brk =>
  obtain ⟨_,_,_,q⟩:=hs
  exact False.elim q
 | cont =>
  obtain ⟨_,_,_,q⟩:=hs
  exact False.elim q
section
variable {X:Cx} {x:Str} {p pos:Pos} {e:Expr} {es:List Expr} {t:TA} {id T:String} {r:List V→Hp→VK→Prop}
def tCB (r:List V→Hp→VK→Prop) (t:TA):TE:=fun σ H Q=>t σ H fun vs H1=>r vs H1 Q
theorem pe_callB (hc:CallR X (.builtin id) r) (hg:Gl X x) (hm:X.mg x=none) (hv:bootBuiltins x=some (.builtin id)) (ha:PA X (e::es) t) (hn:x≠"__name__":=by decide) (hdb:(x == ("__debug__":Str))=false:=by decide)
  (he:starEach (e::es) X.env=(false,eval e X.env)::starEach es X.env:=by rfl) (hpl:(backTo pos (starEach es X.env)).any (·.1)=false:=by rfl):PE X (.Call (.Name x p) (e::es) [] pos) (tCB r t):=by
 intro pins s σ H Q I h
 refine wpAny_Call_Name_kw (ld_blt I hg hm hv ?_ hn hdb)
 exact PyProof.Rows.callWith_builtin1 (thn (ha pos pins s σ H _ I h) fun us s1 ⟨vs,H1,I1,r1,q1⟩=>hc pins s1 σ H1 vs us Q I1 r1 q1) he hpl
theorem pe_callTy (hc:CallR X (.type T) r) (hg:Gl X x) (hm:X.mg x=none) (hv:bootBuiltins x=some (.type T)) (ha:PA X (e::es) t) (hn:x≠"__name__":=by decide) (hdb:(x == ("__debug__":Str))=false:=by decide)
  (he:starEach (e::es) X.env=(false,eval e X.env)::starEach es X.env:=by rfl) (hpl:(backTo pos (starEach es X.env)).any (·.1)=false:=by rfl):PE X (.Call (.Name x p) (e::es) [] pos) (tCB r t):=by
 intro pins s σ H Q I h
 refine wpAny_Call_Name_kw (ld_blt I hg hm hv ?_ hn hdb)
 exact PyProof.Rows.callWith_type1 (thn (ha pos pins s σ H _ I h) fun us s1 ⟨vs,H1,I1,r1,q1⟩=>hc pins s1 σ H1 vs us Q I1 r1 q1) he hpl
end
end L2
namespace HT
open PySem PyProof.Rows
def lexLt:List Int→List Int→Bool
 | [],[]=>false
 | [],_::_=>true
 | _::_,[]=>false
 | x::xs,y::ys=>if x=y then lexLt xs ys else decide (x<y)
theorem lexLt_cons (x y:Int) (xs ys:List Int):lexLt (x::xs) (y::ys)=if x=y then lexLt xs ys else decide (x<y):=rfl
theorem rcLt_int (A:Around) (s:Shared) (a:Int) (t:Tok) (c:Int) (u:Tok) (prog:Program) (w:World) (E:Value→Shared→Prop) (Q:Value→Shared→Prop) (h:Q (.bool (decide (a<c))) s) :
  wpAny (model prog w) A (richCompare .Lt (.int a t) (.int c u)) Q E s :=
 (PyProof.Rows.lt_int h:wpAny (model prog w) A (compareOp .Lt (.int a t) (.int c u)) Q E s)
section
open PySem.SeqAt
open PySem.AutoSeq1 (wpAny_loadPart')
open PySem.MeetsSeq PySem.MeetsSeq2 PySem.MeetsSeq3
end
section
variable {prog:Program} {w:World} {A:Around} {E:Value→Shared→Prop} {s:Shared}
theorem cat_tup {t b:Addr} {vs ws:List Value} {Q:Value→Shared→Prop} (ht:IsTup s.heap t vs.toArray) (hb:IsTup s.heap b ws.toArray) (hv:vs≠[])
  (h1:ws=[]→Q (.ref t) s) (h2:ws≠[]→Q (.ref s.heap.objs.size) { s with heap:=s.heap.push { cls:=.type "tuple",data:=.seq (vs++ws).toArray } })
  (hsz:vs.length+ws.length≤sizeLine):wpAny (model prog w) A (binaryOp .Add (.ref t) (.ref b)) Q E s:=by
 obtain ⟨⟨cls,dd,data,sl⟩,ho,hc,n,hd⟩:=id ht
 obtain ⟨⟨cls2,dd2,data2,sl2⟩,ho2,hc2,n2,hd2⟩:=id hb
 simp only at hc hd hc2 hd2
 subst hc hd hc2 hd2
 have e:vs.toArray++ws.toArray=(vs++ws).toArray:=by simp
 by_cases hw:ws=[]
 ·exact concat_meets ⟨_,ho,rfl⟩ ⟨_,ho2,rfl⟩ noFill_tuple_add seq_tuple_add PySem.F.slot_tuple_add PySem.F.entry_tuple_add (PySem.F.args_tuple_add_2 _ _)
   (tuple_addW1 t b vs.toArray ws.toArray n n2 dd dd2 sl sl2 (by simpa using hv) (by simp [hw])) ⟨ho,ho2,h1 hw⟩
 ·refine concat_meets ⟨_,ho,rfl⟩ ⟨_,ho2,rfl⟩ noFill_tuple_add seq_tuple_add PySem.F.slot_tuple_add PySem.F.entry_tuple_add (PySem.F.args_tuple_add_2 _ _)
   (tuple_addW2 t b vs.toArray ws.toArray n n2 dd dd2 sl sl2 (by simpa using hv) (by simpa using hw) (by rw [List.size_toArray,List.size_toArray];exact hsz)) ⟨ho,ho2,?_⟩
  rw [e]
  exact h2 hw
def sIx (n d:Nat):Option Int→Nat
 | none=>d
 | some v=>if v<0 then (v+(n:Int)).toNat else min v.toNat n
theorem sIx_le (n d:Nat) (hd:d≤n) (o:Option Int):sIx n d o≤n:=by
 cases o with
 | none=>exact hd
 | some v =>
  show (if v<0 then (v+(n:Int)).toNat else min v.toNat n)≤n
  by_cases hv:v<0
  ·rw [if_pos hv];omega
  ·rw [if_neg hv];exact Nat.min_le_right _ _
theorem clip_eq (v:Int) (n d:Nat):(if v<0 then max (v+(n:Int)) 0 else min v (n:Int))=((sIx n d (some v):Nat):Int):=by
 show (if v<0 then max (v+(n:Int)) 0 else min v (n:Int))=(((if v<0 then (v+(n:Int)).toNat else min v.toNat n):Nat):Int)
 by_cases hv:v<0
 ·simp only [if_pos hv];omega
 ·simp only [if_neg hv];omega
theorem adjust_gen (lo hi:Option Int) (n:Nat):Builtin.Slice.sliceAdjust lo hi 1 (n:Int)=(((sIx n 0 lo:Nat):Int),((sIx n n hi:Nat):Int)):=by
 have h1:¬ ((1:Int)<0):=by omega
 unfold Builtin.Slice.sliceAdjust
 simp only [h1,if_false]
 refine Prod.ext ?_ ?_
 ·cases lo with
  | none=>rfl
  | some v=>exact clip_eq v n 0
 ·cases hi with
  | none=>rfl
  | some v=>exact clip_eq v n n
theorem places_gen (i j:Nat):Builtin.Slice.slicePlaces (i:Int) (j:Int) 1=j - i:=by
 unfold Builtin.Slice.slicePlaces
 have h1:(1:Int) > 0:=by omega
 simp only [h1,if_true,Int.ediv_one]
 split <;> omega
theorem slicePart_ {v:Value} {o:Option Int} {Q:Option Int→Shared→Prop} (p:IsPart v o) (h:Q o s):wpAny (model prog w) A (Builtin.Slice.slicePartIndex v) Q E s:=by
 cases p with
 | none=>exact slicePart_none h
 | int i t=>exact slicePart_int h
theorem sliceApplied_gen {sl:Addr} {vl vu:Value} {lo hi:Option Int} {n:Nat} {Q:Int×Int×Nat→Shared→Prop} (hs:s.heap.IsSliceOf sl vl vu .none) (pl:IsPart vl lo) (pu:IsPart vu hi)
  (h:Q (((sIx n 0 lo:Nat):Int),1,sIx n n hi - sIx n 0 lo) s):wpAny (model prog w) A (Builtin.Slice.sliceApplied (.ref sl) (pure (n:Int))) Q E s:=by
 obtain ⟨os,hos,hcs,hds⟩:=id hs
 unfold Builtin.Slice.sliceApplied Builtin.Slice.sliceFields
 refine wpAny_bind (wpAny_bind (wpAny_field hos hds (x:=vl) rfl (wpAny_bind (wpAny_field hos hds (x:=vu) rfl (wpAny_bind (wpAny_field hos hds (x:=.none) rfl (wpAny_pure ?_)))))))
 refine wpAny_bind (slicePart_none ?_)
 show wpAny _ _ (if ((1:Int) == 0)=true then _ else _) _ _ s
 rw [if_neg (by decide)]
 refine wpAny_bind (slicePart_ pl (wpAny_bind (slicePart_ pu (wpAny_bind (wpAny_pure ?_)))))
 show wpAny _ _ (match Builtin.Slice.sliceAdjust lo hi 1 (n:Int) with | (lo,hi)=>pure (lo,(1:Int),Builtin.Slice.slicePlaces lo hi 1)) _ _ s
 rw [adjust_gen lo hi n]
 show wpAny _ _ (pure (((sIx n 0 lo:Nat):Int),(1:Int),Builtin.Slice.slicePlaces ((sIx n 0 lo:Nat):Int) ((sIx n n hi:Nat):Int) 1)) _ _ s
 rw [places_gen]
 exact wpAny_pure h
theorem pick_gen (xs:Array Value) (i k:Nat):((List.range k).filterMap fun (m:Nat)=>xs[((i:Int)+(m:Int) * 1).toNat]?).toArray=((xs.toList.drop i).take k).toArray:=by
 have e:(fun (m:Nat)=>xs[((i:Int)+(m:Int) * 1).toNat]?)=fun m=>xs[i+m]?:=by
  funext m
  have:((i:Int)+(m:Int) * 1).toNat=i+m:=by omega
  rw [this]
 rw [e]
 have:=pick_run xs i k
 rw [List.filterMap_map] at this
 have e2:((fun x=>xs[x]?) ∘ fun x=>i+x)=fun m=>xs[i+m]?:=rfl
 rw [e2] at this
 rw [this]
theorem getItem_tuple_cut {t sl:Addr} {items:Array Value} {vl vu:Value} {lo hi:Option Int} {Q:Value→Shared→Prop} (ht:IsTup s.heap t items) (hs:s.heap.IsSliceOf sl vl vu .none) (pl:IsPart vl lo) (pu:IsPart vu hi)
  (hw:¬ (sIx items.size 0 lo=0∧sIx items.size items.size hi=items.size))
  (h:Q (.ref s.heap.objs.size) { s with heap:=s.heap.push { cls:=.type "tuple",data:=.seq ((items.toList.drop (sIx items.size 0 lo)).take (sIx items.size items.size hi - sIx items.size 0 lo)).toArray } })
  (hsz:items.size≤sizeLine):wpAny (model prog w) A (getItem (.ref t) (.ref sl)) Q E s:=by
 have htake:sizeOk (.seq ((items.toList.drop (sIx items.size 0 lo)).take (sIx items.size items.size hi - sIx items.size 0 lo)).toArray):=by
  show ((items.toList.drop (sIx items.size 0 lo)).take (sIx items.size items.size hi - sIx items.size 0 lo)).toArray.size≤sizeLine
  rw [List.size_toArray,List.length_take,List.length_drop,Array.length_toList]
  omega
 have hj:sIx items.size items.size hi≤items.size:=sIx_le _ _ (Nat.le_refl _) hi
 obtain ⟨os,hos,hcs,hds⟩:=id hs
 have hTs:s.TypeIs (.ref sl) "slice":=⟨os,hos,hcs⟩
 unfold getItem
 try with_reducible refine wpAny_holding ?_
 first | refine wpAny_bind (wpAny_pure ?_) | skip
 refine wpAny_bind (wpAny_sequenceKey ht.typeIs (by decide) ?_)
 refine wpAny_bind (wpAny_callSpecial?_slot (name:=Str.ofString "__getitem__") ht.typeIs PyProof.Rows.slot_tuple_getitem
  (wpAny_call_entry PyProof.Rows.slot_tuple_getitem ht.typeIs entry_tuple_getitem ?_ (args_tuple_getitem _ _)))
 show wpAny _ _ (Builtin.Tuple.tupleItemsOf (.ref t) >>= _) _ _ s
 refine wpAny_bind (tupleItemsOf_ ht ?_)
 refine wpAny_bind (wpAny_typeOf hTs ?_)
 rw [if_pos (by decide)]
 refine wpAny_bind (sliceApplied_gen hs pl pu ?_)
 have hno:¬ ((((sIx items.size 0 lo:Nat):Int) == 0 && (1:Int) == 1 && (sIx items.size items.size hi - sIx items.size 0 lo) == items.size)=true):=by
  intro q
  rw [Bool.and_eq_true,Bool.and_eq_true] at q
  have q1:((sIx items.size 0 lo:Nat):Int)=0:=eq_of_beq q.1.1
  have q2:sIx items.size items.size hi - sIx items.size 0 lo=items.size:=eq_of_beq q.2
  exact hw ⟨by omega,by omega⟩
 show wpAny _ _ (if (((sIx items.size 0 lo:Nat):Int) == 0 && (1:Int) == 1 && (sIx items.size items.size hi - sIx items.size 0 lo) == items.size)=true then _ else _) _ _ s
 rw [if_neg hno,pick_gen]
 first
  | exact wpAny_bind (m:=Builtin.Tuple.tupleExact _) (wpAny_newObj_type (wpAny_pure ⟨_,rfl,wpAny_pure h⟩) htake)
  | exact wpAny_bind (m:=Builtin.Tuple.tupleExact _) (wpAny_newObj_type (wpAny_bind (wpAny_pure (wpAny_pure ⟨_,rfl,wpAny_pure h⟩))) htake)
  | exact wpAny_bind (wpAny_bind (m:=Builtin.Tuple.tupleExact _) (wpAny_newObj_type (wpAny_pure (wpAny_pure ⟨_,rfl,wpAny_pure h⟩)) htake))
  | exact wpAny_bind (wpAny_bind (m:=Builtin.Tuple.tupleExact _) (wpAny_newObj_type (wpAny_pure ⟨_,rfl,wpAny_pure h⟩) htake))
end
end HT
namespace L2
open PySem PySem.Spec PyProof.Rows
abbrev TO:=St→Hp→(Option Int→Hp→Prop)→Prop
def PO (X:Cx) (e:Option Expr) (t:TO):Prop :=
 ∀ (pins:List (Addr×Obj)) (s:Shared) (σ:St) (H:Hp) (Q:Option Int→Hp→Prop),Inv X pins σ H s→t σ H Q →
  wpAny (model X.prog X.w) X.A (evalPart e X.env) (fun u s'=>∃ o H',Inv X pins σ H' s'∧IsPart u o∧Q o H') X.xe s
def tNoPart:TO:=fun _ H Q=>Q none H
def tPart (t:TE):TO:=fun σ H Q=>t σ H fun x H1=>∃ i,x=.int i∧Q (some i) H1
theorem intsAre_of {ns:List Int}:∀ {us:List Value},Vals (ns.map V.int) us→IntsAre us ns:=by
 induction ns with
 | nil=>intro us r;rw [List.map_nil] at r;cases r;exact .nil
 | cons n ns ih =>
  intro us r
  rw [List.map_cons] at r
  cases r with
  | cons r1 r2 =>
   obtain ⟨t,e⟩:=r1
   subst e
   exact .cons n t (ih r2)
section
variable {X:Cx} {e:Expr} {te:TE} {lo hi:Option Expr} {tl th:TO} {pos p2:Pos}
theorem po_none:PO X none tNoPart:=by
 intro pins s σ H Q I h
 rw [evalPart_none]
 exact wpAny_pure ⟨none,H,I,.none,h⟩
theorem po_some (h:PE X e te):PO X (some e) (tPart te):=by
 intro pins s σ H Q I hw
 rw [evalPart_some]
 refine thn (h pins s σ H _ I hw) fun u s1 ⟨x,H1,I1,r1,q1⟩=>?_
 obtain ⟨i,rfl,q⟩:=q1
 obtain ⟨t,rfl⟩:=r1
 exact ⟨some i,H1,I1,.int i t,q⟩
def SlR (X:Cx) (r:V→Option Int→Option Int→Hp→VK→Prop):Prop :=
 ∀ (pins:List (Addr×Obj)) (s:Shared) (σ:St) (H:Hp) (x:V) (v vl vu:Value) (lo hi:Option Int) (sl:Addr) (Q:VK),Inv X pins σ H s→RelV x v→s.heap.IsSliceOf sl vl vu .none→IsPart vl lo→IsPart vu hi→r x lo hi H Q →
  ∃ T id,typeLookup (.type T) "__getitem__"=pure (some (.builtin id))∧s.TypeIs v T∧wpAny (model X.prog X.w) X.A (getItem v (.ref sl)) (EP X pins σ Q) X.xe s
def tSl (r:V→Option Int→Option Int→Hp→VK→Prop) (te:TE) (tl th:TO):TE:=fun σ H Q=>te σ H fun x H1=>tl σ H1 fun l H2=>th σ H2 fun u H3=>r x l u H3 Q
theorem pe_slice {r:V→Option Int→Option Int→Hp→VK→Prop} (hr:SlR X r) (he:PE X e te) (hl:PO X lo tl) (hu:PO X hi th):PE X (.Subscript e (.Slice lo hi none p2) pos) (tSl r te tl th):=by
 intro pins s σ H Q I h
 refine Subscript_ (thn (he pins s σ H _ I h) fun v s1 ⟨x,H1,I1,r1,q1⟩=>?_)
 refine wpAny_Slice (thn (hl pins s1 σ H1 _ I1 q1) fun vl s2 ⟨l,H2,I2,pl,q2⟩=>thn (hu pins s2 σ H2 _ I2 q2) fun vu s3 ⟨u,H3,I3,pu,q3⟩=>?_)
 rw [evalPart_none]
 refine wpAny_pure ?_
 have I4:Inv X pins σ H3 { s3 with heap:=s3.heap.push { cls:=.type "slice",data:=.fields #[vl,vu,.none] } }:=I3.kept (t':=s3.toks) fun b ob q=>Heap.get?_push_of_some _ q
 obtain ⟨T,id,hT,ht,hg⟩:=hr pins { s3 with heap:=s3.heap.push { cls:=.type "slice",data:=.fields #[vl,vu,.none] } } σ H3 x v vl vu l u s3.heap.objs.size Q I4 r1 (Heap.IsSliceOf.new ..) pl pu q3
 show wpAny (model X.prog X.w) X.A (subscriptTail e (.Slice lo hi none p2) v (.ref s3.heap.objs.size)) (EP X pins σ Q) X.xe { s3 with heap:=s3.heap.push { cls:=.type "slice",data:=.fields #[vl,vu,.none] } }
 exact tail_any (ops:=[.ref s3.heap.objs.size,v]) ht hT hg (by with_unfolding_all rfl)
def cutV (xs:List V) (lo hi:Option Int):List V:=(xs.drop (HT.sIx xs.length 0 lo)).take (HT.sIx xs.length xs.length hi - HT.sIx xs.length 0 lo)
theorem cutV_length (xs:List V) (lo hi:Option Int):(cutV xs lo hi).length≤xs.length:=by
 unfold cutV
 rw [List.length_take,List.length_drop]
 omega
def rSlT (K:PySem.W.Frag):V→Option Int→Option Int→Hp→VK→Prop:=fun x lo hi H Q=>∃ a xs,x=.ref a∧SqT K H a xs ∧
 ¬ (HT.sIx xs.length 0 lo=0∧HT.sIx xs.length xs.length hi=xs.length)∧∀ p,H p=none→Q (.ref p) (upd H p (.tup (cutV xs lo hi)))
theorem sl_tup:SlR X (rSlT X.K):=by
 intro pins s σ H x v vl vu lo hi sl Q I rx hs pl pu h
 obtain ⟨a,xs,rfl,hx,hw,q⟩:=h
 cases rx
 obtain ⟨its,r,ht,hz⟩:=I.tuple hx
 have hlen:its.toArray.size=xs.length:=by rw [List.size_toArray];exact r.length.symm
 refine ⟨"tuple",_,PyProof.Rows.slot_tuple_getitem.lookup,ht.typeIs,?_⟩
 refine HT.getItem_tuple_cut ht hs pl pu (by rw [hlen];exact hw) ?_ (by rw [hlen];exact hz)
 rw [hlen]
 refine ⟨.ref s.heap.objs.size,_,I.laid (t':=s.toks) (o:=.tup (cutV xs lo hi)) (fun b ob q=>Heap.get?_push_of_some _ q) (Nat.le_refl _) ?_,rfl,q _ (I.hok.fresh (Nat.le_refl _))⟩
 exact ⟨Nat.le_trans (cutV_length xs lo hi) hz,_,(r.drop (HT.sIx xs.length 0 lo)).take (HT.sIx xs.length xs.length hi - HT.sIx xs.length 0 lo),IsTup.new _ _⟩
def rCatT (K:PySem.W.Frag):R2:=fun x y H Q=>∃ a b xs ys,x=.ref a∧y=.ref b∧SqT K H a xs∧SqT K H b ys∧xs≠[]∧xs.length+ys.length≤sizeLine ∧
 (ys=[]→Q (.ref a) H)∧(ys≠[]→∀ p,H p=none→Q (.ref p) (upd H p (.tup (xs++ys))))
theorem Vals.nil_iff {xs:List V} {us:List Value} (r:Vals xs us):us=[]↔xs=[]:=by
 cases r with
 | nil=>simp
 | cons _ _=>simp
theorem op_catT:OpR X (binaryOp .Add) (rCatT X.K):=by
 intro pins s σ H x y v u Q I rx ry h
 obtain ⟨a,b,xs,ys,rfl,rfl,ha,hb,hx,hz,q1,q2⟩:=h
 cases rx
 cases ry
 obtain ⟨its,r1,p1,_⟩:=I.tuple ha
 obtain ⟨its2,r2,p2,_⟩:=I.tuple hb
 refine HT.cat_tup p1 p2 (fun z=>hx (r1.nil_iff.mp z)) (fun z=>⟨.ref a,H,I,rfl,q1 (r2.nil_iff.mp z)⟩) (fun z=>?_) (by rw [← r1.length,← r2.length];exact hz)
 refine ⟨.ref s.heap.objs.size,_,I.laid (t':=s.toks) (o:=.tup (xs++ys)) (fun b ob q=>Heap.get?_push_of_some _ q) (Nat.le_refl _) ?_,rfl,q2 (fun w=>z (r2.nil_iff.mpr w)) _ (I.hok.fresh (Nat.le_refl _))⟩
 exact ⟨by rw [List.length_append];exact hz,_,r1.append r2,IsTup.new _ _⟩
end
def ixN (n:Nat) (i:Int):Option Nat:=if 0≤i then (if i<n then some i.toNat else none) else if -(n:Int)≤i then some (i+n).toNat else none
def atI {α:Type} (xs:List α) (i:Int):Option α:=(ixN xs.length i).bind fun j=>xs[j]?
theorem ixN_seq {n:Nat} {i:Int} {j:Nat} (h:ixN n i=some j):seqIndex? i n=some j∧j<n∧-(n:Int)≤i∧i<n:=by
 unfold ixN at h
 by_cases h0:0≤i
 ·rw [if_pos h0] at h
  by_cases h1:i<n
  ·rw [if_pos h1] at h
   have e:i.toNat=j:=Option.some.inj h
   exact ⟨by rw [seqIndex_of h0 h1,e],by omega,by omega,h1⟩
  ·rw [if_neg h1] at h;cases h
 ·rw [if_neg h0] at h
  by_cases h1:-(n:Int)≤i
  ·rw [if_pos h1] at h
   have e:(i+n).toNat=j:=Option.some.inj h
   exact ⟨by rw [seqIndex_neg (by omega) h1,e],by omega,h1,by omega⟩
  ·rw [if_neg h1] at h;cases h
theorem atI_get {α:Type} {xs:List α} {i:Int} {v:α} (h:atI xs i=some v):∃ j,seqIndex? i xs.length=some j∧xs[j]?=some v∧j<xs.length∧-(xs.length:Int)≤i∧i<xs.length:=by
 unfold atI at h
 cases e:ixN xs.length i with
 | none=>rw [e] at h;cases h
 | some j =>
  rw [e] at h
  obtain ⟨h1,h2,h3,h4⟩:=ixN_seq e
  exact ⟨j,h1,h,h2,h3,h4⟩
theorem atI_nat {α:Type} {xs:List α} {j:Nat} {v:α} (h:xs[j]?=some v):atI xs (j:Int)=some v:=by
 have hj:j<xs.length:=(List.getElem?_eq_some_iff.mp h).1
 have e:ixN xs.length (j:Int)=some j:=by
  unfold ixN
  rw [if_pos (by omega),if_pos (by omega)];simp
 unfold atI;rw [e];exact h
theorem atI_last {α:Type} (xs:List α) (v:α):atI (xs++[v]) (-1)=some v:=by
 have hl:(xs++[v]).length=xs.length+1:=by simp
 have e:ixN (xs++[v]).length (-1)=some xs.length:=by
  unfold ixN
  rw [hl,if_neg (by decide),if_pos (by omega)]
  congr 1
  omega
 unfold atI
 rw [e]
 show (xs++[v])[xs.length]?=some v
 simp
def PlainIx (b:Expr):Prop:=∀ o i,subscripted b false o i=operate [o,i] (getItem o i)
def IxR (X:Cx) (r:R2):Prop :=
 ∀ (value slice:Expr) (pins:List (Addr×Obj)) (s:Shared) (σ:St) (H:Hp) (x y:V) (v u:Value) (Q:VK),Inv X pins σ H s→RelV x v→RelV y u→r x y H Q →
  subscripted slice false v u=operate [v,u] (getItem v u)→wpAny (model X.prog X.w) X.A (subscriptTail value slice v u) (EP X pins σ Q) X.xe s
def MtR (X:Cx) (id:String) (r:V→List V→Hp→VK→Prop):Prop :=
 ∀ (pins:List (Addr×Obj)) (s:Shared) (σ:St) (H:Hp) (x:V) (xs:List V) (v:Value) (us:List Value) (Q:VK),Inv X pins σ H s→RelV x v→Vals xs us→r x xs H Q →
  wpAny (model X.prog X.w) X.A (call (.builtin id) (v::us)) (EP X pins σ Q) X.xe s
section
variable {X:Cx} {a b:Expr} {ta tb:TE} {pos:Pos}
theorem pe_ix {r:R2} (hr:IxR X r) (ha:PE X a ta) (hb:PE X b tb) (hs:PlainIx b):PE X (.Subscript a b pos) (tOp r ta tb):=by
 intro pins s σ H Q I h
 exact Subscript_ (binT ha hb I h fun v u s2 x y H2 I2 rx ry q=>hr a b pins s2 σ H2 x y v u Q I2 rx ry q (hs _ _))
def rIxL (K:PySem.W.Frag):R2:=fun x y H Q=>∃ p xs i v,x=.ref p∧y=.int i∧SqL K H p xs∧atI xs i=some v∧Q v H
def rIxT (K:PySem.W.Frag):R2:=fun x y H Q=>∃ p xs i v,x=.ref p∧y=.int i∧SqT K H p xs∧atI xs i=some v∧Q v H
def rIxS:R2:=fun x y H Q=>∃ z i c,x=.str z∧y=.int i∧z.length≤sizeLine∧atI z.cps.toList i=some c∧Q (.str ⟨#[c]⟩) H
theorem ix_list:IxR X (rIxL X.K):=by
 intro value slice pins s σ H x y v u Q I rx ry h hs
 obtain ⟨p,xs,i,z,rfl,rfl,hq,he,q⟩:=h
 cases rx
 obtain ⟨t,rfl⟩:=ry
 obtain ⟨its,r,pl,hz⟩:=I.list hq
 obtain ⟨j,h1,h2,h3,h4,h5⟩:=atI_get he
 obtain ⟨w,ew,rw'⟩:=r.get h2
 have hl:=r.length
 have hn:=line63
 have fin:EP X pins σ Q w s:=⟨z,H,I,rw',q⟩
 by_cases h0:0≤i
 ·have hj:i.toNat=j:=by
   rw [seqIndex_of h0 h5] at h1
   exact Option.some.inj h1
  exact item_listR pl.isList h0 (by omega) (by rw [hj];simpa using ew) fin hs
 ·have hj:(i+(its.toArray.size:Int)).toNat=j:=by
   rw [seqIndex_neg (by omega) h4] at h1
   rw [List.size_toArray,← hl]
   exact Option.some.inj h1
  exact subscriptTail_builtinR (x:=w) pl.isList.typeIs slot_list_getitem.lookup
   (wpAny_getItem_list_neg (Q:=fun r s'=>r=w∧EP X pins σ Q r s') pl.isList (by omega) (by rw [List.size_toArray] <;> omega) (by omega) (by rw [hj];simpa using ew) ⟨rfl,fin⟩) hs
theorem ix_tup:IxR X (rIxT X.K):=by
 intro value slice pins s σ H x y v u Q I rx ry h hs
 obtain ⟨p,xs,i,z,rfl,rfl,hq,he,q⟩:=h
 cases rx
 obtain ⟨t,rfl⟩:=ry
 obtain ⟨its,r,pl,hz⟩:=I.tuple hq
 obtain ⟨j,h1,h2,h3,h4,h5⟩:=atI_get he
 obtain ⟨w,ew,rw'⟩:=r.get h2
 have hl:=r.length
 have hn:=line63
 have fin:EP X pins σ Q w s:=⟨z,H,I,rw',q⟩
 exact subscriptTail_builtinR (x:=w) pl.typeIs slot_tuple_getitem.lookup
  (getItem_tuple (j:=j) (Q:=fun r s'=>r=w∧EP X pins σ Q r s') pl (by omega) (by omega) (by rw [List.size_toArray,← hl];exact h1) (by simpa using ew) ⟨rfl,fin⟩) hs
theorem ix_str:IxR X rIxS:=by
 intro value slice pins s σ H x y v u Q I rx ry h hs
 obtain ⟨z,i,c,rfl,rfl,hz,he,q⟩:=h
 obtain ⟨t,rfl⟩:=rx
 obtain ⟨t',rfl⟩:=ry
 obtain ⟨j,h1,h2,h3,h4,h5⟩:=atI_get he
 have hl:z.cps.toList.length=z.length:=by simp [Str.length]
 rw [hl] at h1 h4 h5
 have hn:=line63
 exact tail_any (typeIs_str s z t) slot_str_getitem.lookup (getItem_str (c:=c) (by
  have e1:decide (i < -(2 ^ 63:Int))=false:=decide_eq_false (by omega)
  have e2:decide (i ≥ 2 ^ 63)=false:=decide_eq_false (by omega)
  rw [e1,e2,Bool.or_false]) (by rw [h1];simpa using h2) ⟨.str ⟨#[c]⟩,H,I.tok _,⟨_,rfl⟩,q⟩) hs
theorem mapSeq_set (its:List Value) (n j:Nat) (u:Value):Obj.mapSeq (·.setIfInBounds j u) { cls:=.type "list",data:=.seq its.toArray n }={ cls:=.type "list",data:=.seq (its.set j u).toArray n }:=by
 simp [Obj.mapSeq]
theorem Inv.lst {pins:List (Addr×Obj)} {σ:St} {H:Hp} {s:Shared} {p:Addr} {xs:List V} (I:Inv X pins σ H s) (h:H p=some (.lst xs)) :
  ∃ (its:List Value) (n:Nat),Vals xs its∧s.heap.get? p=some { cls:=.type "list",data:=.seq its.toArray n }∧xs.length≤sizeLine:=by
 obtain ⟨z,its,n,r,e⟩:=I.hok p _ h
 exact ⟨its,n,r,e,z⟩
theorem Inv.lstUpd {pins:List (Addr×Obj)} {σ:St} {H:Hp} {s:Shared} {p:Addr} {xs ys:List V} {its its':List Value} {n n':Nat} {f:Obj→Obj} (I:Inv X pins σ H s) (h:H p=some (.lst xs))
  (ho:s.heap.get? p=some { cls:=.type "list",data:=.seq its.toArray n }) (hf:f { cls:=.type "list",data:=.seq its.toArray n }={ cls:=.type "list",data:=.seq its'.toArray n' }) (r:Vals ys its') (hz:ys.length≤sizeLine) (t:Nat) :
  Inv X pins σ (upd H p (.lst ys)) { s with heap:=s.heap.update p f,toks:=t }:=by
 have e:(s.heap.update p f).get? p=some { cls:=.type "list",data:=.seq its'.toArray n' }:=by
  rw [Heap.get?_update_self f ho (by rw [hf] <;> rfl),hf]
 refine I.write (x:=p) (e:=p) (by rw [h];trivial) (.inl rfl) (fun b u hb q=>(Heap.get?_update_other _ _ (Ne.symm hb)).trans q) ⟨_,e⟩ ?_
 exact ⟨hz,its',n',r,e⟩
def rSetL:V→V→V→Hp→(Hp→Prop)→Prop:=fun o i v H Q=>∃ p xs k j,o=.ref p∧i=.int k∧H p=some (.lst xs)∧ixN xs.length k=some j∧Q (upd H p (.lst (xs.set j v)))
theorem set_list:PSet X rSetL:=by
 intro pins s σ H o i v ov iv u Q I ro ri rv h
 obtain ⟨p,xs,k,j,rfl,rfl,hp,hj,q⟩:=h
 cases ro
 obtain ⟨t,rfl⟩:=ri
 obtain ⟨its,n,r,ho,hz⟩:=I.lst hp
 obtain ⟨h1,h2,h3,h4⟩:=ixN_seq hj
 have hl:=r.length
 have hn:=line63
 have I':Inv X pins σ (upd H p (.lst (xs.set j v))) { s with heap:=s.heap.update p (Obj.mapSeq (·.setIfInBounds j u)) } :=
  I.lstUpd hp ho (mapSeq_set its n j u) (r.set rv j) (by rw [List.length_set];exact hz) s.toks
 by_cases h0:0≤k
 ·have hk:k.toNat=j:=by
   rw [seqIndex_of h0 h4] at h1
   exact Option.some.inj h1
  exact PySem.W.ki_setAt ho h0 (by omega) (by rw [List.size_toArray,← hl];exact h4) (by rw [hk];exact ⟨_,I',q⟩)
 ·have hk:(k+(its.toArray.size:Int)).toNat=j:=by
   rw [seqIndex_neg (by omega) h3] at h1
   rw [List.size_toArray,← hl]
   exact Option.some.inj h1
  exact PySem.W.ki_setBack ho (by omega) (by rw [List.size_toArray,← hl];exact h3) (by omega) (by rw [hk];exact ⟨_,I',q⟩)
theorem slice_bounds (lo hi:Option Int) (n:Nat):(sliceBounds lo hi none n).1=((HT.sIx n 0 lo:Nat):Int)∧(sliceBounds lo hi none n).2.1=((HT.sIx n n hi:Nat):Int)∧(sliceBounds lo hi none n).2.2=1:=by
 refine ⟨?_,?_,rfl⟩
 ·cases lo with
  | none=>simp [sliceBounds,HT.sIx]
  | some i =>
   simp only [sliceBounds,HT.sIx,Option.getD_none,show (1:Int) > 0 by decide,if_true]
   by_cases h:i<0
   ·simp only [h,if_true] <;> omega
   ·simp only [h,if_false] <;> omega
 ·cases hi with
  | none=>simp [sliceBounds,HT.sIx]
  | some i =>
   simp only [sliceBounds,HT.sIx,Option.getD_none,show (1:Int) > 0 by decide,if_true]
   by_cases h:i<0
   ·simp only [h,if_true] <;> omega
   ·simp only [h,if_false] <;> omega
theorem slicePick_cut (its:List Value) (lo hi:Option Int):slicePick its.toArray lo hi none=((its.drop (HT.sIx its.length 0 lo)).take (HT.sIx its.length its.length hi - HT.sIx its.length 0 lo)).toArray:=by
 obtain ⟨h1,h2,h3⟩:=slice_bounds lo hi its.toArray.size
 unfold slicePick
 rw [h1,h2,h3]
 simp only [sliceRange_one,pick_run,List.size_toArray] <;> rfl
def rSlL (K:PySem.W.Frag):V→Option Int→Option Int→Hp→VK→Prop:=fun x lo hi H Q=>∃ a xs,x=.ref a∧SqL K H a xs∧∀ p,H p=none→Q (.ref p) (upd H p (.lst (cutV xs lo hi)))
theorem sl_list:SlR X (rSlL X.K):=by
 intro pins s σ H x v vl vu lo hi sl Q I rx hs pl pu h
 obtain ⟨a,xs,rfl,hx,q⟩:=h
 cases rx
 obtain ⟨its,r,ht,hz⟩:=I.list hx
 have hlen:=r.length
 refine ⟨"list",_,slot_list_getitem.lookup,ht.isList.typeIs,?_⟩
 refine wpAny_getItem_list_slice ht.isList hs pl pu .none (by simp) ?_ (by rw [List.size_toArray] <;> omega)
 rw [slicePick_cut,← hlen]
 refine ⟨.ref s.heap.objs.size,_,I.laid (t':=s.toks) (o:=.lst (cutV xs lo hi)) (fun b ob q=>Heap.get?_push_of_some _ q) (Nat.le_refl _) ?_,rfl,q _ (I.hok.fresh (Nat.le_refl _))⟩
 exact ⟨Nat.le_trans (cutV_length xs lo hi) hz,_,0,(r.drop (HT.sIx xs.length 0 lo)).take (HT.sIx xs.length xs.length hi - HT.sIx xs.length 0 lo),Heap.get?_push_size _ rfl⟩
def flatV:V→Bool
 | .non=>true
 | .bl _=>true
 | .int _=>true
 | .str _=>true
 | _=>false
def eqV:V→V→Bool
 | .non,.non=>true
 | .bl a,.bl b=>a == b
 | .bl a,.int b=>(if a then 1 else 0) == b
 | .int a,.bl b=>a == (if b then 1 else 0)
 | .int a,.int b=>a == b
 | .str a,.str b=>a == b
 | _,_=>false
theorem eqAt_V {A:Around} {s:Shared} {y x:V} {u v:Value} (ry:RelV y u) (rx:RelV x v) (fy:flatV y=true) (fx:flatV x=true):SeqAt.EqAt A s u v (eqV y x):=by
 cases y with
 | non =>
  cases ry
  cases x with
  | non=>cases rx;exact SeqAt.EqAt.same _
  | bl b=>cases rx;exact SeqAt.EqAt.none_bool b
  | int b=>obtain ⟨t,rfl⟩:=rx;exact SeqAt.EqAt.none_int b t
  | str b=>obtain ⟨t,rfl⟩:=rx;exact SeqAt.EqAt.none_str b t
  | _=>exact absurd (show false=true from fx) Bool.false_ne_true
 | bl a =>
  cases ry
  cases x with
  | non=>cases rx;exact SeqAt.EqAt.bool_none a
  | bl b=>cases rx;exact SeqAt.EqAt.bool_bool a b
  | int b=>obtain ⟨t,rfl⟩:=rx;exact SeqAt.EqAt.bool_int a b t
  | str b=>obtain ⟨t,rfl⟩:=rx;exact SeqAt.EqAt.bool_str a b t
  | _=>exact absurd (show false=true from fx) Bool.false_ne_true
 | int a =>
  obtain ⟨t',rfl⟩:=ry
  cases x with
  | non=>cases rx;exact SeqAt.EqAt.int_none a t'
  | bl b=>cases rx;exact SeqAt.EqAt.int_bool a t' b
  | int b=>obtain ⟨t,rfl⟩:=rx;exact SeqAt.EqAt.int_int a t' b t
  | str b=>obtain ⟨t,rfl⟩:=rx;exact SeqAt.EqAt.int_str a t' b t
  | _=>exact absurd (show false=true from fx) Bool.false_ne_true
 | str a =>
  obtain ⟨t',rfl⟩:=ry
  cases x with
  | non=>cases rx;exact SeqAt.EqAt.str_none a t'
  | bl b=>cases rx;exact SeqAt.EqAt.str_bool a t' b
  | int b=>obtain ⟨t,rfl⟩:=rx;exact SeqAt.EqAt.str_int a t' b t
  | str b=>obtain ⟨t,rfl⟩:=rx;exact SeqAt.EqAt.str_str a t' b t
  | _=>exact absurd (show false=true from fx) Bool.false_ne_true
 | _=>exact absurd (show false=true from fy) Bool.false_ne_true
def eqU (x:V) (u:Value):Bool:=match u with
 | .none=>eqV .non x
 | .bool b=>eqV (.bl b) x
 | .int i _=>eqV (.int i) x
 | .str z _=>eqV (.str z) x
 | _=>false
theorem eqU_of {x y:V} {u:Value} (r:RelV y u) (f:flatV y=true):eqU x u=eqV y x:=by
 cases y with
 | non=>cases r;rfl
 | bl b=>cases r;rfl
 | int i=>obtain ⟨t,rfl⟩:=r;rfl
 | str z=>obtain ⟨t,rfl⟩:=r;rfl
 | _=>exact absurd (show false=true from f) Bool.false_ne_true
theorem any_eqU {x:V}:∀ {xs:List V} {us:List Value},Vals xs us→xs.all flatV=true→us.any (eqU x)=xs.any fun y=>eqV y x
 | _,_,.nil,_=>rfl
 | y::xs,u::us,.cons r t,f=>by
  rw [List.all_cons,Bool.and_eq_true] at f
  rw [List.any_cons,List.any_cons,eqU_of r f.1,any_eqU t f.2]
theorem mem_eqAt {A:Around} {s:Shared} {x:V} {v:Value} (rx:RelV x v) (fx:flatV x=true):∀ {xs:List V} {us:List Value},Vals xs us→xs.all flatV=true→∀ u∈us,SeqAt.EqAt A s u v (eqU x u)
 | _,_,.nil,_=>fun u hu=>by cases hu
 | y::xs,u::us,.cons r t,f=>fun u' hu=>by
  rw [List.all_cons,Bool.and_eq_true] at f
  rcases List.mem_cons.mp hu with rfl | hu
  ·rw [eqU_of r f.1];exact eqAt_V r rx f.1 fx
  ·exact mem_eqAt rx fx t f.2 u' hu
def inV (x:V) (xs:List V):Bool:=xs.any fun y=>eqV y x
def rIn (K:PySem.W.Frag) (neg:Bool):R2:=fun x y H Q=>∃ p xs,y=.ref p∧(SqL K H p xs∨SqT K H p xs)∧flatV x=true∧xs.all flatV=true∧Q (.bl (if neg then !inV x xs else inV x xs)) H
theorem op_in_seq:OpR X (compareOp .In) (rIn X.K false):=by
 intro pins s σ H x y v u Q I rx ry h
 obtain ⟨p,xs,rfl,hq,fx,fs,q⟩:=h
 cases ry
 rcases hq with hq | hq
 ·obtain ⟨its,r,pl,hz⟩:=I.list hq
  refine SeqAt.in_listAt (eqU x) pl.isList (fun w hw=>mem_eqAt rx fx r fs w (by simpa using hw)) ⟨.bl _,H,I,rfl,?_⟩
  rw [show its.toArray.any (eqU x)=its.any (eqU x) by simp,any_eqU r fs]
  exact q
 ·obtain ⟨its,r,pl,hz⟩:=I.tuple hq
  refine SeqAt.in_tupleAt (eqU x) pl (fun w hw=>mem_eqAt rx fx r fs w (by simpa using hw)) ⟨.bl _,H,I,rfl,?_⟩
  rw [show its.toArray.any (eqU x)=its.any (eqU x) by simp,any_eqU r fs]
  exact q
theorem call_len_seq:CallR X (.builtin "len") (fun xs H Q=>∃ p ys,xs=[.ref p]∧(SqL X.K H p ys∨SqT X.K H p ys)∧Q (.int ys.length) H):=by
 intro pins s σ H xs us Q I r h
 obtain ⟨p,ys,rfl,hq,q⟩:=h
 obtain ⟨u,rfl,rx⟩:=vals1 r
 cases rx
 have hn:=line63
 rcases hq with hq | hq
 ·obtain ⟨its,r',pl,hz⟩:=I.list hq
  have hlen:=r'.length
  exact Calls.call_len_list pl.isList (by simp only [List.size_toArray] <;> omega) ⟨.int ys.length,H,I.tok _,⟨s.toks+1,by rw [List.size_toArray,hlen]⟩,q⟩
 ·obtain ⟨its,r',pl,hz⟩:=I.tuple hq
  have hlen:=r'.length
  exact len_tuple pl (by simp only [List.size_toArray] <;> omega) ⟨.int ys.length,H,I.tok _,⟨s.toks+1,by rw [List.size_toArray,hlen]⟩,q⟩
theorem call_len_str:CallR X (.builtin "len") (fun xs H Q=>∃ z,xs=[.str z]∧z.length≤sizeLine∧Q (.int z.length) H):=by
 intro pins s σ H xs us Q I r h
 obtain ⟨z,rfl,hz,q⟩:=h
 obtain ⟨u,rfl,t,rfl⟩:=vals1 r
 have hn:=line63
 exact len_str (by omega) ⟨.int z.length,H,I.tok _,⟨_,rfl⟩,q⟩
theorem call_list_of:CallR X (.type "list") (fun xs H Q=>∃ p ys,xs=[.ref p]∧(SqL X.K H p ys∨SqT X.K H p ys)∧∀ l,H l=none→Q (.ref l) (upd H l (.lst ys))):=by
 intro pins s σ H xs us Q I r h
 obtain ⟨p,ys,rfl,hq,q⟩:=h
 obtain ⟨u,rfl,rx⟩:=vals1 r
 cases rx
 have fin:∀ (its:List Value),Vals ys its→ys.length≤sizeLine→∀ (h':Heap) (c':Nat),(∀ b o',s.heap.get? b=some o'→h'.get? b=some o') →
   h'.get? s.heap.objs.size=some { cls:=.type "list",dict:=none,data:=.seq its.toArray c',slots:=#[] }→EP X pins σ Q (.ref s.heap.objs.size) { s with heap:=h' }:=fun its r' hz h' c' kp e =>
  ⟨.ref s.heap.objs.size,_,I.laid (t':=s.toks) kp (Nat.le_refl _) (show ObjOk X.prog X.w _ h' _ (.lst ys) from ⟨hz,its,c',r',e⟩),rfl,q _ (I.hok.fresh (Nat.le_refl _))⟩
 rcases hq with hq | hq
 ·obtain ⟨its,r',pl,hz⟩:=I.list hq
  have hlen:=r'.length
  obtain ⟨o,ho,hc,n,hd⟩:=pl.isList
  exact call_list_seq p (.inl rfl) ho hc hd (fun h' c' kp e=>fin its r' hz h' c' kp e) (by simp only [List.size_toArray] <;> omega)
 ·obtain ⟨its,r',pl,hz⟩:=I.tuple hq
  have hlen:=r'.length
  obtain ⟨o,ho,hc,n,hd⟩:=pl
  exact call_list_seq p (.inr rfl) ho hc hd (fun h' c' kp e=>fin its r' hz h' c' kp e) (by simp only [List.size_toArray] <;> omega)
theorem call_tuple_of:CallR X (.type "tuple") (fun xs H Q=>∃ p ys,xs=[.ref p]∧((SqL X.K H p ys∧∀ l,H l=none→Q (.ref l) (upd H l (.tup ys)))∨(SqT X.K H p ys∧Q (.ref p) H))):=by
 intro pins s σ H xs us Q I r h
 obtain ⟨p,ys,rfl,h⟩:=h
 obtain ⟨u,rfl,rx⟩:=vals1 r
 cases rx
 rcases h with ⟨hq,q⟩ | ⟨hq,q⟩
 ·obtain ⟨its,r',pl,hz⟩:=I.list hq
  have hlen:=r'.length
  refine call_tuple_list pl.isList (fun h' kp=>?_) (by simp only [List.size_toArray] <;> omega)
  have I1:Inv X pins σ H { s with heap:=h' }:=I.kept (t':=s.toks) kp
  have I2:Inv X pins σ (upd H h'.objs.size (.tup ys)) { s with heap:=h'.push { cls:=.type "tuple",data:=.seq its.toArray } } :=
   I1.laid (t':=s.toks) (fun b o e=>Heap.get?_push_of_some _ e) (Nat.le_refl _) (show ObjOk X.prog X.w _ _ _ (.tup ys) from ⟨hz,its,r',IsTup.new _ _⟩)
  exact ⟨.ref h'.objs.size,_,I2,rfl,q _ (I1.hok.fresh (Nat.le_refl _))⟩
 ·obtain ⟨its,r',pl,hz⟩:=I.tuple hq
  exact call_tuple_same pl ⟨.ref p,H,I,rfl,q⟩
def tyV (K:PySem.W.Frag) (T:String) (x:V) (H:Hp):Prop:=match x with
 | .str _=>T="str"
 | .int _=>T="int"
 | .ref p=>(T="list"∧∃ xs,SqL K H p xs)∨(T="tuple"∧∃ o,K.lookup p=some o∧o.cls=.type "tuple"∧o.dict=none) ∨
   (T="dict"∧((∃ kvs,H p=some (.dK kvs))∨∃ kvs,H p=some (.dT kvs)))∨(T="set"∧∃ S n,H p=some (.set S n))
 | _=>False
theorem tyV_is {pins:List (Addr×Obj)} {σ:St} {H:Hp} {s:Shared} {T:String} {x:V} {v:Value} (I:Inv X pins σ H s) (r:RelV x v) (ty:tyV X.K T x H) :
  s.TypeIs v T∧∀ a,v=.ref a→∃ ob,s.heap.get? a=some ob∧ob.dict=none:=by
 cases x with
 | str z =>
  obtain ⟨t,rfl⟩:=r
  cases (show T="str" from ty)
  exact ⟨typeIs_str s z t,fun _ e=>nomatch e⟩
 | int i =>
  obtain ⟨t,rfl⟩:=r
  cases (show T="int" from ty)
  exact ⟨typeIs_int s i t,fun _ e=>nomatch e⟩
 | ref p =>
  cases r
  rcases ty with ⟨rfl,xs,hq⟩ | ⟨rfl,o,hk,hc,hd⟩ | ⟨rfl,hk⟩ | ⟨rfl,S,n,hk⟩
  ·obtain ⟨its,_,pl,_⟩:=I.list hq
   refine ⟨pl.isList.typeIs,fun a e=>?_⟩
   cases e
   obtain ⟨o,n,e,c,hd,_⟩:=pl
   exact ⟨o,e,hd⟩
  ·refine ⟨⟨o,I.kIn p o hk,hc⟩,fun a e=>?_⟩
   cases e
   exact ⟨o,I.kIn _ o hk,hd⟩
  ·have z:∃ o,s.heap.get? p=some o∧o.ExactDict:=by
    rcases hk with ⟨kvs,hk⟩ | ⟨kvs,hk⟩
    ·obtain ⟨_,_,_,_,o,_,_,e,ex,_⟩:=I.hok p _ hk
     exact ⟨o,e,ex⟩
    ·obtain ⟨_,_,_,_,o,_,_,e,ex,_⟩:=I.hok p _ hk
     exact ⟨o,e,ex⟩
   obtain ⟨o,e,ex⟩:=z
   refine ⟨⟨o,e,ex.1⟩,fun a e2=>?_⟩
   cases e2
   exact ⟨o,e,ex.2.1⟩
  ·obtain ⟨o,_,_,_,e,ex,_⟩:=I.hok p _ hk
   refine ⟨⟨o,e,ex.1⟩,fun a e2=>?_⟩
   cases e2
   exact ⟨o,e,ex.2.1⟩
 | _=>exact False.elim ty
def tBM0 (K:PySem.W.Frag) (T:String) (r:V→List V→Hp→VK→Prop) (to:TE):TE:=fun σ H Q=>to σ H fun x H1=>tyV K T x H1∧r x [] H1 Q
def tBM (K:PySem.W.Frag) (T:String) (r:V→List V→Hp→VK→Prop) (to:TE) (t:TA):TE:=fun σ H Q=>to σ H fun x H1=>tyV K T x H1∧t σ H1 fun xs H2=>r x xs H2 Q
variable {o e:Expr} {es:List Expr} {to:TE} {t:TA} {name:Str} {apos cpos:Pos} {T id:String} {r:V→List V→Hp→VK→Prop}
theorem pe_bm0 (pa:PlainAttrs T) (slot:Slot T name id) (hty:typeOf (.builtin id)=pure (.type "method_descriptor")) (hm:MtR X id r) (ho:PE X o to)
  (hbase:attributeBase o name X.env (eval o X.env)=eval o X.env:=by rfl) (hline:(apos.endLine == cpos.line)=true:=by rfl):PE X (.Call (.Attribute o name apos) [] [] cpos) (tBM0 X.K T r to):=by
 intro pins s σ H Q I h
 refine wpAny_Call_method0_late hbase hline (thn (ho pins s σ H _ I h) fun v s1 ⟨x,H1,I1,r1,ty,q1⟩=>?_)
 obtain ⟨h1,h2⟩:=tyV_is I1 r1 ty
 exact ⟨T,id,pa,slot,hty,h1,h2,Calls.callWith_builtin rfl (PySem.evalArgs_none (hm pins s1 σ H1 x [] v [] Q I1 r1 .nil q1))⟩
theorem pe_bm (pa:PlainAttrs T) (slot:Slot T name id) (hty:typeOf (.builtin id)=pure (.type "method_descriptor")) (hm:MtR X id r) (ho:PE X o to) (ha:PA X (e::es) t)
  (hbase:attributeBase o name X.env (eval o X.env)=eval o X.env:=by rfl)
  (hfew:((backTo cpos (starEach (e::es) X.env)).all (fun x=>!x.1) && (backToKw cpos (keywordEach [] X.env)).all (fun x=>x.1.isSome)
   && decide ((e::es).length+([]:List Keyword).length+(if ([]:List Keyword).isEmpty then 0 else 1)<30))=true:=by rfl)
  (hline:(apos.endLine == cpos.line)=true:=by rfl) (hs:starEach (e::es) X.env=(false,eval e X.env)::starEach es X.env:=by rfl) (hplain:(backTo cpos (starEach es X.env)).any (·.1)=false:=by rfl) :
  PE X (.Call (.Attribute o name apos) (e::es) [] cpos) (tBM X.K T r to t):=by
 intro pins s σ H Q I h
 refine wpAny_Call_method_late hbase hfew hline rfl (thn (ho pins s σ H _ I h) fun v s1 ⟨x,H1,I1,r1,ty,q1⟩=>?_)
 obtain ⟨h1,h2⟩:=tyV_is I1 r1 ty
 refine ⟨T,id,pa,slot,hty,h1,h2,?_⟩
 have hA:=ha cpos pins s1 σ H1 _ I1 q1
 rw [hs] at hA ⊢
 refine Calls.callWith_builtin (by show (false || (backTo cpos (starEach es X.env)).any (·.1))=false;rw [hplain] <;> rfl) (Calls.evalArgs_plain ?_)
 exact thn hA fun us s2 ⟨vs,H2,I2,r2,q2⟩=>hm pins s2 σ H2 x vs v us Q I2 r1 r2 q2
/- xs.append(e),list.index on a module's tuple .. are MtR facts of 06m -/
end
def MtM (X:Cx) (id:String) (r:V→List V→Hp→VK→Prop):Prop :=
 ∀ (pins:List (Addr×Obj)) (s:Shared) (σ:St) (H:Hp) (x:V) (xs:List V) (v:Value) (us:List Value) (Q:VK),Inv X pins σ H s→RelV x v→Vals xs us→r x xs H Q →
  wpAny (model X.prog X.w) X.A (call (.builtin id) (v::us)) (EP X pins σ Q) X.xe s
theorem Vals.one:∀ {x:V} {us:List Value},Vals [x] us→∃ u,us=[u]∧RelV x u
 | _,_,.cons r .nil=>⟨_,rfl,r⟩
theorem Vals.two:∀ {x y:V} {us:List Value},Vals [x,y] us→∃ u v,us=[u,v]∧RelV x u∧RelV y v
 | _,_,_,.cons r (.cons q .nil)=>⟨_,_,rfl,r,q⟩
theorem Vals.zero:∀ {us:List Value},Vals [] us→us=[]
 | _,.nil=>rfl
theorem Vals.dropLast {xs:List V} {us:List Value} (h:Vals xs us):Vals xs.dropLast us.dropLast:=by
 induction h with
 | nil=>exact .nil
 | cons r t ih =>
  cases t with
  | nil=>exact .nil
  | cons q t'=>exact .cons r ih
theorem Vals.eraseIdx:∀ {xs:List V} {us:List Value} (i:Nat),Vals xs us→Vals (xs.eraseIdx i) (us.eraseIdx i)
 | _,_,_,.nil=>.nil
 | _,_,0,.cons _ t=>t
 | _,_,i+1,.cons r t=>.cons r (Vals.eraseIdx i t)
theorem erase_last {α:Type} (l:List α):l.eraseIdx (l.length - 1)=l.dropLast:=by
 induction l with
 | nil=>rfl
 | cons a r ih =>
  cases r with
  | nil=>rfl
  | cons b r =>
   have e:(a::b::r).length - 1=((b::r).length - 1)+1:=by
    have h1:(a::b::r).length=r.length+2:=rfl
    have h2:(b::r).length=r.length+1:=rfl
    omega
   rw [e,List.eraseIdx_cons_succ,ih]
   all_goals rfl
theorem len_erase {α:Type}:∀ (l:List α) (i:Nat),(l.eraseIdx i).length≤l.length
 | [],_=>Nat.le_refl _
 | _::_,0=>Nat.le_succ _
 | _::r,i+1=>Nat.succ_le_succ (len_erase r i)
section
variable {X:Cx} {pins:List (Addr×Obj)} {σ:St} {H:Hp} {s:Shared} {l b:Addr} {xs ys zs:List V}
theorem Inv.lset {its its':List Value} {n:Nat} {f:Array Value→Array Value} {t':Nat} (I:Inv X pins σ H s) (hH:H l=some (.lst xs))
  (e:s.heap.get? l=some { cls:=.type "list",data:=.seq its.toArray n }) (hf:f its.toArray=its'.toArray) (hv:Vals ys its') (hz:ys.length≤sizeLine) :
  Inv X pins σ (upd H l (.lst ys)) { s with heap:=s.heap.update l (Obj.mapSeq f),toks:=t' }:=by
 have q:=PySem.IsL.update e f
 rw [hf] at q
 refine I.write (x:=l) (e:=l) (by rw [hH];exact trivial) (.inl rfl) (fun b' u hb hu=>(Heap.get?_update_other s.heap (Obj.mapSeq f) (Ne.symm hb)).trans hu) ⟨_,q⟩ ?_
 exact ⟨hz,its',_,hv,q⟩
theorem Inv.lnew {its:List Value} {t':Nat} (I:Inv X pins σ H s) (hv:Vals ys its) (hz:ys.length≤sizeLine) :
  Inv X pins σ (upd H s.heap.objs.size (.lst ys)) { s with heap:=s.heap.push { cls:=.type "list",data:=.seq its.toArray },toks:=t' } :=
 I.laid (fun _ _ q=>Heap.get?_push_of_some _ q) (Nat.le_refl _) ⟨hz,its,0,hv,Heap.get?_push_size _ rfl⟩
theorem Inv.fresh (I:Inv X pins σ H s):H s.heap.objs.size=none:=I.hok.fresh (Nat.le_refl _)
theorem Inv.lstM (I:Inv X pins σ H s) (hH:H l=some (.lst xs)):xs.length≤sizeLine∧∃ (its:List Value) (n:Nat),Vals xs its∧xs.length=its.length∧s.heap.get? l=some { cls:=.type "list",data:=.seq its.toArray n }:=by
 obtain ⟨z,its,n,r,e⟩:=I.hok l _ hH
 exact ⟨z,its,n,r,r.length,e⟩
theorem notLongL {n:Nat} (h:n≤sizeLine):Builtin.List.listTooLong n=false:=by
 unfold Builtin.List.listTooLong
 exact decide_eq_false (by omega)
end
section
variable {X:Cx}
def rAppend:V→List V→Hp→VK→Prop:=fun x vs H Q=>∃ l xs y,x=.ref l∧vs=[y]∧H l=some (.lst xs)∧xs.length<sizeLine∧Q .non (upd H l (.lst (xs++[y])))
theorem mt_append:MtM X "list.append" rAppend:=by
 intro pins s σ H x vs v us Q I rx rv h
 obtain ⟨l,xs,y,rfl,rfl,hH,hz,q⟩:=h
 cases rx
 obtain ⟨u,rfl,ru⟩:=rv.one
 obtain ⟨z,its,n,r,hl,e⟩:=I.lstM hH
 refine call_meets F.slot_list_append ⟨_,e,rfl⟩ F.entry_list_append (F.args_list_append_2 _ _) (PySem.list_append l its.toArray n u (by rw [List.size_toArray];omega)) ⟨e,?_⟩
 refine ⟨.non,_,I.lset (its':=its++[u]) hH e (by simp) (r.append (.cons ru .nil)) ?_,rfl,q⟩
 rw [List.length_append,List.length_singleton]
 omega
def rExtend:V→List V→Hp→VK→Prop:=fun x vs H Q=>∃ l b xs zs,x=.ref l∧vs=[.ref b]∧H l=some (.lst xs)∧H b=some (.lst zs)∧xs.length+zs.length≤sizeLine∧Q .non (upd H l (.lst (xs++zs)))
theorem mt_extend:MtM X "list.extend" rExtend:=by
 intro pins s σ H x vs v us Q I rx rv h
 obtain ⟨l,b,xs,zs,rfl,rfl,hH,hB,hz,q⟩:=h
 cases rx
 obtain ⟨u,rfl,ru⟩:=rv.one
 cases ru
 obtain ⟨z,its,n,r,hl,e⟩:=I.lstM hH
 obtain ⟨z2,its2,n2,r2,hl2,e2⟩:=I.lstM hB
 have hsz:its.toArray.size+its2.toArray.size≤sizeLine:=by rw [List.size_toArray,List.size_toArray];omega
 have hlong:¬ (!its.toArray.isEmpty && Builtin.List.listTooLong (its.toArray.size+its2.toArray.size))=true:=by
  rw [notLongL hsz,Bool.and_false]
  exact Bool.false_ne_true
 refine call_meets F.slot_list_extend ⟨_,e,rfl⟩ F.entry_list_extend (F.args_list_extend_2 _ _)
  (AutoSeq1.list_extend_list_list_0 l its.toArray n b its2.toArray n2 hlong (by rw [List.size_toArray];omega) (by omega)) ⟨e,e2,?_⟩
 refine ⟨.non,_,I.lset (its':=its++its2) hH e (by simp) (r.append r2) ?_,rfl,q⟩
 rw [List.length_append]
 omega
def rPop:V→List V→Hp→VK→Prop:=fun x vs H Q=>∃ l xs y,x=.ref l∧vs=[]∧H l=some (.lst xs)∧xs[xs.length - 1]?=some y∧Q y (upd H l (.lst xs.dropLast))
theorem mt_pop:MtM X "list.pop" rPop:=by
 intro pins s σ H x vs v us Q I rx rv h
 obtain ⟨l,xs,y,rfl,rfl,hH,hy,q⟩:=h
 cases rx
 have hus:=rv.zero
 subst hus
 obtain ⟨z,its,n,r,hl,e⟩:=I.lstM hH
 obtain ⟨u,hu,ru⟩:=r.get hy
 have hy':its.toArray[its.toArray.size - 1]?=some u:=by
  show its.toArray[its.length - 1]?=some u
  rw [← Array.getElem?_toList,← hl]
  exact hu
 refine call_meets F.slot_list_pop ⟨_,e,rfl⟩ F.entry_list_pop (F.args_list_pop_1 _) (MeetsSeq.list_pop_last l its.toArray n u hy' (by rw [List.size_toArray];omega)) ⟨e,?_⟩
 refine ⟨y,_,I.lset (its':=its.dropLast) hH e ?_ r.dropLast ?_,ru,q⟩
 ·show its.toArray.eraseIdxIfInBounds (its.toArray.size - 1)=its.dropLast.toArray
  rw [List.size_toArray,List.eraseIdxIfInBounds_toArray,erase_last]
 ·rw [List.length_dropLast]
  omega
def rPopAt:V→List V→Hp→VK→Prop:=fun x vs H Q=>∃ l xs i k y,x=.ref l∧vs=[.int i]∧H l=some (.lst xs)∧-(2 ^ 63)≤i∧i<2 ^ 63∧seqIndex? i xs.length=some k∧xs[k]?=some y∧Q y (upd H l (.lst (xs.eraseIdx k)))
theorem mt_popAt:MtM X "list.pop" rPopAt:=by
 intro pins s σ H x vs v us Q I rx rv h
 obtain ⟨l,xs,i,k,y,rfl,rfl,hH,h1,h2,hk,hy,q⟩:=h
 cases rx
 obtain ⟨u,rfl,ru⟩:=rv.one
 obtain ⟨t,rfl⟩:=ru
 obtain ⟨z,its,n,r,hl,e⟩:=I.lstM hH
 obtain ⟨w,hw,rw'⟩:=r.get hy
 refine call_meets F.slot_list_pop ⟨_,e,rfl⟩ F.entry_list_pop (F.args_list_pop_2 _ _)
  (MeetsSeq.list_pop_at l its.toArray n i t k w (fitsIndex_both h1 h2) (by rw [List.size_toArray,← hl];exact hk) (by rw [← Array.getElem?_toList];exact hw) (by rw [List.size_toArray];omega)) ⟨e,?_⟩
 refine ⟨y,_,I.lset (its':=its.eraseIdx k) hH e ?_ (r.eraseIdx k) ?_,rw',q⟩
 ·show its.toArray.eraseIdxIfInBounds k=(its.eraseIdx k).toArray
  rw [List.eraseIdxIfInBounds_toArray]
 ·have:=len_erase xs k
  omega
def rClear:V→List V→Hp→VK→Prop:=fun x vs H Q=>∃ l xs,x=.ref l∧vs=[]∧H l=some (.lst xs)∧Q .non (upd H l (.lst []))
theorem mt_clear:MtM X "list.clear" rClear:=by
 intro pins s σ H x vs v us Q I rx rv h
 obtain ⟨l,xs,rfl,rfl,hH,q⟩:=h
 cases rx
 have hus:=rv.zero
 subst hus
 obtain ⟨z,its,n,r,hl,e⟩:=I.lstM hH
 refine call_meets F.slot_list_clear ⟨_,e,rfl⟩ F.entry_list_clear (F.args_list_clear_1 _) (AutoSeq1.list_clear_list_0 l its.toArray n (by rw [List.size_toArray];omega)) ⟨e,?_⟩
 exact ⟨.non,_,I.lset (its':=[]) (ys:=[]) hH e rfl .nil (Nat.zero_le _),rfl,q⟩
def rCat:R2:=fun x y H Q=>∃ l b xs zs,x=.ref l∧y=.ref b∧H l=some (.lst xs)∧H b=some (.lst zs)∧xs.length+zs.length≤sizeLine∧∀ p,H p=none→Q (.ref p) (upd H p (.lst (xs++zs)))
theorem op_cat:OpR X (binaryOp .Add) rCat:=by
 intro pins s σ H x y v u Q I rx ry h
 obtain ⟨l,b,xs,zs,rfl,rfl,hH,hB,hz,q⟩:=h
 cases rx
 cases ry
 obtain ⟨z,its,n,r,hl,e⟩:=I.lstM hH
 obtain ⟨z2,its2,n2,r2,hl2,e2⟩:=I.lstM hB
 refine PySem.P.add_list e e2 ?_ (by rw [List.size_toArray,List.size_toArray];omega)
 have ea:its.toArray++its2.toArray=(its++its2).toArray:=by simp
 rw [ea]
 exact ⟨.ref _,_,I.lnew (t':=s.toks) (r.append r2) (by rw [List.length_append];omega),rfl,q _ I.fresh⟩
end
section
variable {prog:Program} {w:World} {A:Around} {E:Value→Shared→Prop} {s:Shared}
set_option maxRecDepth 100000 in
end
section
variable {X:Cx}
end
end L2
namespace Att
open PySem PySem.W PySem.Calls PyProof.Rows
theorem ints_of_wellAll {P:Params} {h:Heap}:∀ (ns:List Int) (vs:List Value),WellAll P h vs (ns.map WData.int)→IntsAre vs ns:=by
 intro ns
 induction ns with
 | nil =>
  intro vs w
  rw [List.map_nil] at w
  cases w
  exact .nil
 | cons n ns ih =>
  intro vs w
  rw [List.map_cons] at w
  cases w with
  | cons a b =>
   cases a
   exact .cons _ _ (ih _ b)
theorem script_of {l:OpenLaw} {n:Nat} (hn:l.most=some n) {P:Params} {h:Heap} {args:List WData} {vals:List Value}
  (hpre:l.row.toRowW.claim.pre args=true) (hwl:WellAll P h vals args) :
  ∃ a vs ns,vals=[Value.ref a]∧args=[WData.list (ns.map WData.int)]∧h.get? a=some { cls:=.type "list",data:=.seq vs.toArray }∧IntsAre vs ns∧ns.length≤n:=by
 have hsh:WShape.hasAll [] args [.list .int]=true:=(pre_splitW hpre).1
 have hc:l.pre.holds [] { args:=args }=true:=(pre_splitW hpre).2
 obtain ⟨d,r,rfl,h1,h2⟩:=hasAllW_cons hsh
 obtain rfl:=hasAllW_nil h2
 obtain ⟨xs,rfl,h3⟩:=hasW_list h1
 obtain ⟨ns,rfl⟩:=items_int h3
 have hlen:ns.length≤n:=by
  unfold OpenLaw.pre at hc
  have h4:(WTm.not (.lt (.lit (.int (n:Int))) (.len (.arg 0)))).holds [] { args:=[.list (ns.map .int)] }=true:=by
   have h4:=(holds_andW hc).1
   rw [hn] at h4
   exact h4
  have h5:=condW_of h4 (w_not (w_lt w_lit (w_len_list (w_arg rfl))))
  rw [List.length_map] at h5
  refine Nat.le_of_not_lt fun q=>?_
  have q':(n:Int)<((ns.length:Nat):Int):=by omega
  first
   | (rw [decide_eq_true q'] at h5;exact absurd h5 (by decide))
   | (simp at h5;omega)
 cases hwl with
 | cons w1 w2 =>
  cases w2
  cases w1 with
  | list ho hall=>exact ⟨_,_,ns,rfl,rfl,ho,ints_of_wellAll ns _ hall,hlen⟩
theorem post_true (l:OpenLaw) (args:List WData):l.row.toRowW.claim.post args (.bool true) args=true :=
 postW_of (r:=l.row.toRowW) (X:=(true == true))
  (show WShape.has [] (.bool true) .bool=true by first | rfl | decide | simp [WShape.has,WShape.arms,WShape.armsAll])
  (show (WTm.eq .res (.lit (.bool true))).value [] { args:=args,res:=some (.bool true),after:=args }=some (.bool (true == true)) from w_eq_bool (w_res rfl) w_lit) rfl
theorem attach_call {l:OpenLaw} {n:Nat} {q:Program} {loose:List Str} {XP:(Str→Option Value)→Heap→Prop} {YP:World→Heap→Prop} {d:DefRec}
  (hn:l.most=some n) (hdf:d.params.defaults=[])
  (call:∀ (w:World) (s₀ s₁:Shared) (mg mb:Str→Option Value) (fa:Addr) (o:Obj) (pm cd doc:Value) (a:Addr) (vs:List Value) (ns:List Int),
   Ground q loose [] XP w s₀ mg mb s₁.heap→YP w s₁.heap →
   s₁.heap.get? fa=some o→o.data=.func (docDef d.name d.params d.body d.scope pm cd doc)→s₁.heap.CodeRec cd d.name→mg d.name=some (.ref fa) →
   s₁.heap.get? a=some { cls:=.type "list",data:=.seq vs.toArray }→IntsAre vs ns→ns.length≤n→s₁.gens=#[] →
   codeAny (model l.prog w) callerA (.call (.ref fa) ⟨[.ref a],[]⟩) (fun r s'=>r=.ok (.ret (.bool true))∧OldK s₁.heap s'.heap∧s'.os=s₁.os∧AllBare s'.gens) s₁) :
  WalkO q loose XP YP l.row.toRowW d [] (fun f vs=>PySem.call f vs):=by
 intro w s₀ s₁ mg mb G Y fa o pm cd doc dV kV ho hd hcd hD hmg hg args vals as hpre hlay hrd hwl hlo
 obtain rfl:dV=.none:=Dflts.none hD hdf
 obtain rfl:kV=.none:=Dflts.noKw hD
 obtain ⟨a,vs,ns,rfl,rfl,hobj,hints,hlen⟩:=script_of hn hpre hwl
 refine enter_call (codeAny_mono (call w s₀ s₁ mg mb fa o pm cd doc a vs ns G Y ho (fd_plain hd) hcd hmg hobj hints hlen hg) fun r s' hq=>?_)
 obtain ⟨rfl,h2,h3,h4⟩:=hq
 exact ⟨.inl ⟨.bool true,.bool true,[],rfl,fun _=>rfl,.bool true,post_true l _,fun _=>⟨List.Pairwise.nil,fun _ hm=>(nomatch hm)⟩⟩,h2,h3,h4⟩
section
variable {prog:Program} {w:World} {A:Around} {E:Value→Shared→Prop} {s:Shared} {K:Frag}
end
end Att
namespace L2
open PySem PySem.Spec PyProof.Rows
theorem vals_ints:∀ {vs:List Value} {ns:List Int},IntsAre vs ns→Vals (ns.map V.int) vs
 | _,_,.nil=>.nil
 | _,_,.cons n t h=>.cons ⟨t,rfl⟩ (vals_ints h)
end L2
/- THE LAST THEOREM (shape;LID,My.* are yours):
   My.Adr: a structure of the addresses that your layer names (classes,functions);My.Txt K t: a structure (Prop) of the equations over K;
   My.txt_mk:{K} {implicit addresses ..} (e1:nsIn K mainGlobals "law"=some (some (.ref f))) (e2:K.lookup f=some ⟨oc,od,.func (fnOf "law" "law" params body scope dV kV doc pm an cdv ct),sl⟩) (e3:codeIn K cdv "law"=true) ..:∃ t,My.Txt K t
set_option maxRecDepth 100000 in
set_option maxHeartbeats 0 in
theorem PySem.Challenge.cw_LID_holds : PySem.Challenge.rw_LID.Holds := by
 w_on;o_law;k_head;(case hw=>w_witness2)
 k_fill
 refine L2.walk_of (l:=PySem.Challenge.rw_LID) (n:=63) (k:=40) (x:="script") (CX:=fun w=>..) (sp:=fun _=>My.sp_law) rfl (by decide) rfl ⟨rfl,by decide,by decide⟩ (fun w h Y=>PySem.W.kIn_of Y) ?F ?S ?C
 case F =>
  intro w mg fa h KX G hmg
  have T:∃ t,My.Txt (L2.KOf KX) t:=by
   dsimp only [L2.KOf]                          -- K must stand as «<heap const> w.params» for k_is
   refine' My.txt_mk ?e1 ?e2 ?e3 ..
   (case e1=>PySem.W.k_is)                    -- in the order: a name -> its address -> its object -> its parts
   (case e2=>PySem.W.k_is)
   ..
  obtain ⟨t,T⟩:=T
  have e0:=hmg.symm.trans (PySem.W.mg_of KX G T.law)
  cases e0                                       -- fa is the law's own address
  exact ⟨_,fun s u=>.of_eq rfl,fun base kb nb=>My.law_fn T kb nb⟩     -- if «.of_eq rfl» comes too early: refine' ⟨_,?b,fun base kb nb=>My.law_fn T kb nb⟩;exact fun s u=>.of_eq rfl
 case S=>exact fun w H a ns hl hO hS=>..
 case C=>exact ..
(the tactic k_is has no namespace: write k_is) -/
namespace L2
open PySem PySem.Spec PyProof.Rows
def defArgs (s:Stmt):Arguments:=match s with
 | .FunctionDef _ a _ _ _ _ _ _ _ _=>a
 | _=>{ posonlyargs:=[],args:=[],vararg:=none,kwonlyargs:=[],kw_defaults:=[],kwarg:=none,defaults:=[] }
def defBody (s:Stmt):List Stmt:=match s with
 | .FunctionDef _ _ b _ _ _ _ _ _ _=>b
 | _=>[]
def defScope (s:Stmt):Scope:=match s with
 | .FunctionDef _ _ _ _ _ _ sc _ _ _=>sc
 | _=>{ kind:=.function,names:=[],isGenerator:=false,isCoroutine:=false }
abbrev CX0:CXT:=fun _ _ _ _ _ _=>False
abbrev E0:XK:=fun _ _ _=>False
theorem pass0 {X:Cx}:Passes CX0 X E0:=fun _ _ _ _ _ _ _ h=>h.elim
structure Fun (K:PySem.W.Frag) (x qual:Str) (st:Stmt) (f:Addr) (fd:FuncData):Prop where
 ex:∃ (oc:Value) (od:Option Addr) (kV doc pm:Value) (an:Option Addr) (cdv ct:Value) (osl:Array (Option Value)),
  fd=PySem.W.fnOf x qual (defArgs st) (defBody st) (defScope st) .none kV doc pm an cdv ct∧K.lookup f=some ⟨oc,od,.func fd,osl⟩∧PySem.W.codeIn K cdv qual=true
 kp:PySem.W.keepIn K (.ref f)=true
section
variable {P:Program} {w:World} {K:PySem.W.Frag} {mg:Str→Option Value} {base:Heap}
theorem Fun.ok {x qual:Str} {st:Stmt} {f:Addr} {fd:FuncData} {N ps:List Str} {k:Nat} {sp:Sp} (F:Fun K x qual st f fd) (S:FnScope N ps (defScope st)) (len:∀ vs H Q E,sp vs H Q E→vs.length=ps.length)
  (hbody:∀ (cdv:Value) (A:Around) (outer:List Env) (s:Shared) (H:Hp) (vs:List V) (Q:VK) (E:XK),Room k (A.deeper (envOfC qual (defScope st) s.heap.objs.size f cdv))→sp vs H Q E →
   ∃ t,PSs (cxOf CX0 P w K mg base N qual (defScope st) f cdv A outer s H E).nox (defBody st) t∧t { nx:=fun _ H'=>Q .non H',rt:=Q } (start N vs) H):FnOk P w K mg base CX0 (k+1) f fd ps sp:=by
 obtain ⟨oc,od,kV,doc,pm,an,cdv,ct,osl,rfl,lk,hcd⟩:=F.ex
 refine fn_of lk hcd S len fun A outer s H vs Q E hr hsp=>?_
 obtain ⟨t,h,q⟩:=hbody cdv A outer s H vs Q E hr hsp
 exact ⟨t,h.nox,q⟩
theorem Fun.binds {x qual:Str} {st:Stmt} {f:Addr} {fd:FuncData} {ps:List Str} (F:Fun K x qual st f fd)
  (h:∀ (kV doc pm:Value) (an:Option Addr) (cdv ct:Value) (us:List Value),us.length=ps.length→bindArgs (PySem.W.fnOf x qual (defArgs st) (defBody st) (defScope st) .none kV doc pm an cdv ct) ⟨us,[]⟩=pure (ps.zip us)):Binds K fd ps []:=by
 obtain ⟨oc,od,kV,doc,pm,an,cdv,ct,osl,rfl,lk,hcd⟩:=F.ex
 exact .all (h kV doc pm an cdv ct)
theorem fun_mk {x qual:Str} {st:Stmt} {f:Addr} {oc:Value} {od an:Option Addr} {osl:Array (Option Value)} {kV doc pm cdv ct:Value} (l:K.lookup f=some ⟨oc,od,.func (PySem.W.fnOf x qual (defArgs st) (defBody st) (defScope st) .none kV doc pm an cdv ct),osl⟩)
  (c:PySem.W.codeIn K cdv qual=true) (k:PySem.W.keepIn K (.ref f)=true):Fun K x qual st f (PySem.W.fnOf x qual (defArgs st) (defBody st) (defScope st) .none kV doc pm an cdv ct):=⟨⟨oc,od,kV,doc,pm,an,cdv,ct,osl,rfl,l,c⟩,k⟩
end
theorem small1000 {n:Nat} (h:n≤1000):n<sizeLine:=Nat.lt_of_le_of_lt h (by decide)
section
variable {X:Cx}
theorem pv (i:Nat) {x:Str} {pos:Pos} (hN:X.N[i]?=some x:=by rfl) (hv:Vis X.env.scope x:=by first | exact Or.inl rfl | exact Or.inr (Or.inl rfl) | exact Or.inr (Or.inr rfl)) (hd:(x == ("__debug__":Str))=false:=by decide)
  (hcd:(x == ("__classdict__":Str))=false:=by decide):PE X (.Name x pos) (tVar i):=pe_var hN hv hd hcd
end
theorem iteF {A B:Prop} (h:B):if false=true then A else B:=by
 rw [if_neg Bool.false_ne_true]
 exact h
theorem iteT {A B:Prop} (h:A):if true=true then A else B:=by
 rw [if_pos rfl]
 exact h
theorem ite2 {c A B:Prop} [Decidable c] (h1:c→A) (h2:¬ c→B):if c then A else B:=by
 by_cases h:c
 ·rw [if_pos h]
  exact h1 h
 ·rw [if_neg h]
  exact h2 h
def Same (H H':Hp):Prop:=∀ b o,H b=some o→H' b=some o
theorem Same.refl (H:Hp):Same H H:=fun _ _ h=>h
theorem Same.trans {H H1 H2:Hp} (a:Same H H1) (b:Same H1 H2):Same H H2:=fun c o h=>b c o (a c o h)
theorem Same.free {H H':Hp} (e:Same H H') {l:Addr} (h:H' l=Option.none):H l=Option.none:=by
 cases q:H l with
 | none=>rfl
 | some o =>
  rw [e l o q] at h
  cases h
def clStep (cells:List (Str×Addr)) (acc:List (Str×Addr)) (p:Str×NameKind):List (Str×Addr) :=
 if p.2 == .free then (match cells.lookup p.1 with | some c=>(p.1,c)::acc | none=>acc) else acc
def clOf (names:List (Str×NameKind)) (cells:List (Str×Addr)):List (Str×Addr):=names.foldl (clStep cells) []
theorem closure_loop {env:Env}:∀ (names:List (Str×NameKind)) (acc:List (Str×Addr)),(∀ y∈names,y.2=.free→∃ c,env.cells.lookup y.1=some c) →
  (forIn names acc (fun (p:Str×NameKind) (cs:List (Str×Addr))=>(match p with
   | (name,kind)=>if (kind == .free)=true then (do let c ← cellOf env name;pure (ForInStep.yield ((name,c)::cs))) else pure (ForInStep.yield cs):Sem (ForInStep (List (Str×Addr))))))=pure (names.foldl (clStep env.cells) acc)
 | [],acc,_=>rfl
 | (n,k)::r,acc,h=>by
  have ih:=fun acc=>closure_loop (env:=env) r acc fun y hy=>h y (List.mem_cons_of_mem _ hy)
  rw [List.forIn_cons,List.foldl_cons]
  by_cases e:(k == NameKind.free)=true
  ·obtain ⟨c,hc⟩:=h (n,k) List.mem_cons_self (by simpa using e)
   have hc':env.cells.lookup n=some c:=hc
   have e1:clStep env.cells acc (n,k)=(n,c)::acc:=by unfold clStep;rw [if_pos e];simp only [hc']
   rw [e1,← ih]
   have e2:cellOf env n=pure c:=by unfold cellOf;rw [hc']
   simp only [e,if_true,e2]
   rfl
  ·have e1:clStep env.cells acc (n,k)=acc:=by unfold clStep;rw [if_neg e]
   rw [e1,← ih]
   simp only [e,if_false]
   rfl
theorem closureFor_of {scope:Scope} {env:Env} (h:∀ y∈scope.names,y.2=.free→∃ c,env.cells.lookup y.1=some c):closureFor scope env=pure (clOf scope.names env.cells):=by
 unfold closureFor
 have q:=closure_loop (env:=env) scope.names [] h
 unfold clOf
 exact (congrArg (fun (m:Sem (List (Str×Addr)))=>m >>= fun cs=>pure cs) q).trans rfl
theorem cl_sound {cells:List (Str×Addr)}:∀ (names:List (Str×NameKind)) (acc:List (Str×Addr)),(∀ y c,acc.lookup y=some c→cells.lookup y=some c)→∀ y c,(names.foldl (clStep cells) acc).lookup y=some c→cells.lookup y=some c
 | [],acc,h,y,c,e=>h y c e
 | p::r,acc,h,y,c,e=>by
  refine cl_sound r (clStep cells acc p) (fun z d q=>?_) y c e
  unfold clStep at q
  split at q
  ·split at q
   ·rename_i c' hc'
    rw [List.lookup_cons] at q
    split at q
    ·rename_i hz
     have hz':z=p.1:=by simpa using hz
     cases q
     rw [hz'];exact hc'
    ·exact h z d q
   ·exact h z d q
  ·exact h z d q
theorem cl_keeps {cells:List (Str×Addr)}:∀ (names:List (Str×NameKind)) (acc:List (Str×Addr)) (y:Str),(acc.lookup y).isSome=true→((names.foldl (clStep cells) acc).lookup y).isSome=true
 | [],_,_,h=>h
 | p::r,acc,y,h=>by
  refine cl_keeps r _ y ?_
  unfold clStep
  split
  ·split
   ·rw [List.lookup_cons]
    split
    ·rfl
    ·exact h
   ·exact h
  ·exact h
theorem cl_has {cells:List (Str×Addr)}:∀ (names:List (Str×NameKind)) (acc:List (Str×Addr)) (y:Str) (c:Addr),(y,NameKind.free)∈names→cells.lookup y=some c→((names.foldl (clStep cells) acc).lookup y).isSome=true
 | [],_,_,_,h,_=>by simp at h
 | p::r,acc,y,c,h,hc=>by
  rcases List.mem_cons.mp h with e | e
  ·refine cl_keeps r _ y ?_
   subst e
   unfold clStep
   simp only [hc]
   simp [List.lookup_cons]
  ·exact cl_has r _ y c e hc
theorem relabel_free {env:Env}:∀ {names:List (Str×NameKind)} {x:Str},names.lookup x=some .free →
  (names.map fun (n,k)=>if (k == NameKind.free && env.scope.kind == .function && env.kindOf n == some .cell) then (n,NameKind.cell) else (n,k)).lookup x=some .cell ∨
  (names.map fun (n,k)=>if (k == NameKind.free && env.scope.kind == .function && env.kindOf n == some .cell) then (n,NameKind.cell) else (n,k)).lookup x=some .free
 | [],_,h=>by simp at h
 | (n,k)::r,x,h=>by
  have ih:=@relabel_free env r x
  rw [List.map_cons]
  cases hx:x == n with
  | true =>
   simp only [List.lookup_cons,hx] at h
   cases h
   by_cases hc:(NameKind.free == NameKind.free && env.scope.kind == .function && env.kindOf n == some .cell)=true
   ·left;dsimp only;rw [if_pos hc];simp [List.lookup_cons,hx]
   ·right;dsimp only;rw [if_neg hc];simp [List.lookup_cons,hx]
  | false =>
   simp only [List.lookup_cons,hx] at h
   have e:∀ z:Str×NameKind,z.1=n→((z::(r.map fun (n,k)=>if (k == NameKind.free && env.scope.kind == .function && env.kindOf n == some .cell) then (n,NameKind.cell) else (n,k))).lookup x=(r.map fun (n,k)=>if (k == NameKind.free && env.scope.kind == .function && env.kindOf n == some .cell) then (n,NameKind.cell) else (n,k)).lookup x):=fun z hz=>by
    obtain ⟨z1,z2⟩:=z
    cases hz
    rw [List.lookup_cons,hx]
   dsimp only
   split
   ·rw [e _ rfl];exact ih h
   ·rw [e _ rfl];exact ih h
theorem relabel_back {env:Env}:∀ {names:List (Str×NameKind)} {x:Str},(∀ y∈names,y.2≠.cell) →
  ((names.map fun (n,k)=>if (k == NameKind.free && env.scope.kind == .function && env.kindOf n == some .cell) then (n,NameKind.cell) else (n,k)).lookup x=some .cell ∨
  (names.map fun (n,k)=>if (k == NameKind.free && env.scope.kind == .function && env.kindOf n == some .cell) then (n,NameKind.cell) else (n,k)).lookup x=some .free)→names.lookup x=some .free
 | [],_,_,h=>by simp at h
 | (n,k)::r,x,hn,h=>by
  have ih:=@relabel_back env r x fun y hy=>hn y (List.mem_cons_of_mem _ hy)
  have hk:k≠.cell:=hn (n,k) List.mem_cons_self
  rw [List.map_cons] at h
  cases hx:x == n with
  | true =>
   by_cases hc:(k == NameKind.free && env.scope.kind == .function && env.kindOf n == some .cell)=true
   ·have:k=.free:=by
     cases k <;> simp at hc ⊢
    subst this
    simp [List.lookup_cons,hx]
   ·dsimp only at h;rw [if_neg hc] at h
    simp only [List.lookup_cons,hx] at h ⊢
    rcases h with h | h
    ·cases h;exact absurd rfl hk
    ·exact h
  | false =>
   have e:∀ z:Str×NameKind,z.1=n→((z::(r.map fun (n,k)=>if (k == NameKind.free && env.scope.kind == .function && env.kindOf n == some .cell) then (n,NameKind.cell) else (n,k))).lookup x=(r.map fun (n,k)=>if (k == NameKind.free && env.scope.kind == .function && env.kindOf n == some .cell) then (n,NameKind.cell) else (n,k)).lookup x):=fun z hz=>by
    obtain ⟨z1,z2⟩:=z
    cases hz
    rw [List.lookup_cons,hx]
   dsimp only at h
   have h':(r.map fun (n,k)=>if (k == NameKind.free && env.scope.kind == .function && env.kindOf n == some .cell) then (n,NameKind.cell) else (n,k)).lookup x=some .cell∨(r.map fun (n,k)=>if (k == NameKind.free && env.scope.kind == .function && env.kindOf n == some .cell) then (n,NameKind.cell) else (n,k)).lookup x=some .free:=by
    split at h
    ·rw [e _ rfl] at h;exact h
    ·rw [e _ rfl] at h;exact h
   rw [List.lookup_cons,hx]
   exact ih h'
structure CompSc (X:Cx) (scope:Scope) (x:Str) (ix:List Nat):Prop where
 kind:scope.kind=.function
 nocell:∀ y∈scope.names,y.2≠.cell
 loc:∀ y∈scope.names,y.2=.local→scope.names.lookup y.1=some .local
 x:scope.names.lookup x=some .local
 free:∀ y∈scope.names,y.2=.free→X.env.scope.names.lookup y.1=some .cell∨X.env.scope.names.lookup y.1=some .free
 cap:∀ i∈ix,i<X.N.length∧scope.names.lookup (X.N.getD i "")=some .free
def compN (X:Cx) (x:Str) (ix:List Nat):List Str:=x::ix.map fun i=>X.N.getD i ""
def compσ (σ:St) (ix:List Nat):St:=none::ix.map fun i=>σ.getD i none
def compCx (X:Cx) (scope:Scope) (x:Str) (ix:List Nat) (ex:List Addr) (s:Shared) (H:Hp):Cx where
 prog:=X.prog
 w:=X.w
 K:=X.K
 mg:=X.mg
 base:=X.base
 A:=X.A
 N:=compN X x ix
 s₀:=s
 H₀:=H
 env:=compEnvC scope (clOf scope.names X.env.cells) s.heap.objs.size X.env
 outer:=X.stack
 stack:=X.stack
 ex:=ex
 fn:=fun _=>false
 calm:=X.calm
 pn:=[]
 xe:=fun _ _=>False
section
variable {X:Cx} {scope:Scope} {x:Str} {ix:List Nat}
theorem CompSc.cells (S:CompSc X scope x ix) (ok:X.Ok):∀ y∈scope.names,y.2=.free→∃ c,X.env.cells.lookup y.1=some c:=fun y hy hf=>ok.has y.1 (S.free y hy hf)
theorem inv_comp {pins:List (Addr×Obj)} {σ:St} {H:Hp} {s:Shared} {h':Heap} {t':Nat} {fp:List Addr} (S:CompSc X scope x ix) (I:Inv X pins σ H s) (hf:∀ b∈fp,FpOk X pins H b) (hlt:∀ b∈fp,b<s.heap.objs.size)
  (ns:h'.Ns s.heap.objs.size (fun y=>([]:List (Str×Value)).reverse.lookup y)) (sb:Heap.SameBut s.heap.objs.size (s.heap.push { cls:=.type "dict",data:=.dict #[] }) h') :
  Inv (compCx X scope x ix fp s H) [] (compσ σ ix) H { s with heap:=h',toks:=t' }:=by
 have hk:∀ b u,s.heap.get? b=some u→h'.get? b=some u:=fun b u e=>(sb.2 b (Nat.ne_of_lt (Heap.lt_size e))).trans (Heap.get?_push_of_some _ e)
 have sound:∀ y c,(clOf scope.names X.env.cells).lookup y=some c→X.env.cells.lookup y=some c:=cl_sound scope.names [] (fun _ _ q=>by simp at q)
 have cellLt:∀ y c,X.env.cells.lookup y=some c→c<s.heap.objs.size:=fun y c e=>by
  obtain ⟨v,q⟩:=I.cell y c e
  exact q.lt
 have cellK:∀ y c v,X.env.cells.lookup y=some c→s.heap.IsCell c v→h'.IsCell c v:=fun y c v _ ⟨o,ho,hd⟩=>⟨o,hk c o ho,hd⟩
 refine ⟨⟨I.ok.mod,S.kind,I.ok.glob,I.ok.blt,Nat.le_refl _,fun y z c h1 h2=>I.ok.inj y z c (sound y c h1) (sound z c h2),fun y hy=>?_,fun y c hf _=>(by cases hf),I.ok.hd,I.ok.frames,.inl rfl,fun b hb=>⟨Nat.ne_of_lt (hlt b hb),fun y c e=>(hf b hb).2.2.2.2.1 y c (sound y c e)⟩,I.bs,Nat.le_trans I.ok.bsz I.sz,fun b o e hb=>?_,fun b hb hs=>?_,I.stack,I.stkFree⟩,
  rfl,I.bare,Un.kept hk,⟨_,ns,fun i y v h1 h2 h3=>?_⟩,fun y c e=>?_,I.hok.fresh (Nat.le_refl _),fun y c e=>I.freeC y c (sound y c e),fun p hp=>absurd (show p∈([]:List (Addr×Obj)) from hp) (by simp),I.hok.kept hk,?_⟩
 ·have hy':scope.names.lookup y=some .free:=relabel_back (env:=X.env) S.nocell hy
  obtain ⟨c,hc⟩:=S.cells I.ok (y,.free) (PySem.mem_of_lookup hy') rfl
  exact Option.isSome_iff_exists.mp (cl_has scope.names [] y c (PySem.mem_of_lookup hy') hc)
 ·obtain ⟨_,_,_,f3,_⟩:=hf b hb
  rcases f3 with f3 | f3
  ·exact I.ok.noex b o e f3
  ·exact absurd (Nat.lt_of_lt_of_le (Heap.lt_size e) (Nat.le_trans I.ok.bsz f3)) (Nat.lt_irrefl _)
 ·rcases List.mem_cons.mp (I.stkSub b hs) with e | e
  ·exact (hf b hb).2.1 e
  ·exact (hf b hb).2.2.1 e
 ·cases i with
  | zero =>
   have h2':(none:Option V)=some v:=by simpa [compσ] using h2
   cases h2'
  | succ i =>
   have h1':(ix.map fun i=>X.N.getD i "")[i]?=some y:=by simpa [compCx,compN] using h1
   have h2':(ix.map fun i=>σ.getD i none)[i]?=some (some v):=by simpa [compσ] using h2
   rw [List.getElem?_map] at h1' h2'
   cases ei:ix[i]? with
   | none=>rw [ei] at h1';cases h1'
   | some j =>
    rw [ei] at h1' h2'
    have h1'':X.N.getD j ""=y:=Option.some.inj h1'
    have h2'':σ.getD j none=some v:=Option.some.inj h2'
    obtain ⟨hj,hfr⟩:=S.cap j (List.mem_of_getElem? ei)
    rw [h1''] at hfr
    have e1:X.N[j]?=some y:=by
     rw [List.getElem?_eq_getElem hj]
     rw [List.getD_eq_getElem?_getD,List.getElem?_eq_getElem hj] at h1''
     exact congrArg some h1''
    have e2:σ[j]?=some (some v):=by
     have hj':j<σ.length:=by rw [I.len];exact hj
     rw [List.getElem?_eq_getElem hj']
     rw [List.getD_eq_getElem?_getD,List.getElem?_eq_getElem hj'] at h2''
     exact congrArg some h2''
    have vis:Vis X.env.scope y:=by
     rcases S.free (y,.free) (PySem.mem_of_lookup hfr) rfl with q | q
     ·exact .inr (.inl q)
     ·exact .inr (.inr q)
    obtain ⟨m,hn,hl⟩:=I.loc
    obtain ⟨u,r,q⟩:=hl j y v e1 e2 vis
    refine ⟨u,r,.inr ⟨?_,?_⟩⟩
    ·exact relabel_free (env:=X.env) hfr
    ·rcases q with ⟨k,_⟩ | ⟨_,c,hc,z⟩
     ·rcases S.free (y,.free) (PySem.mem_of_lookup hfr) rfl with q | q
      ·rw [show X.env.kindOf y=X.env.scope.names.lookup y from rfl,q] at k;cases k
      ·rw [show X.env.kindOf y=X.env.scope.names.lookup y from rfl,q] at k;cases k
     ·obtain ⟨c',hc'⟩:=Option.isSome_iff_exists.mp (cl_has scope.names [] y c (PySem.mem_of_lookup hfr) hc)
      have e3:=sound y c' hc'
      rw [hc] at e3;cases e3
      exact ⟨c,hc',cellK y c _ hc z⟩
 ·obtain ⟨v,q⟩:=I.cell y c (sound y c e)
  exact ⟨v,cellK y c v (sound y c e) q⟩
 ·simp [compσ,compCx,compN]
theorem comp_out {pins:List (Addr×Obj)} {σ σ':St} {H H':Hp} {s s':Shared} {fp:List Addr} {h'':Heap} (I:Inv X pins σ H s) (hf:∀ b∈fp,FpOk X pins H b) (J:Inv (compCx X scope x ix fp s H) [] σ' H' s')
  (sb:Heap.SameBut s.heap.objs.size s'.heap h''):Inv X pins σ H' { s' with heap:=h'' }:=by
 have neC:∀ b o,s.heap.get? b=some o→b≠s.heap.objs.size:=fun b o e=>Nat.ne_of_lt (Heap.lt_size e)
 have B:Un (frs X.stack) fp H H' s.heap s'.heap:=J.base
 have hC:H' s.heap.objs.size=none:=J.free
 refine I.call' (ch:=fp) J.os ?_ ?_ J.bare fun b hb=>⟨(hf b hb).2.2.2.1,(hf b hb).2.1,(hf b hb).2.2.2.2.1,(hf b hb).2.2.2.2.2⟩
 ·refine ⟨fun b o e n hb hx=>(sb.2 b (neC b o e)).trans (B.keep b o e n hb hx),fun b o e n hb hx=>?_,B.free,fun b o e hx=>?_,B.tups,B.frzs,B.tbls⟩
  ·obtain ⟨sl,q⟩:=B.slot b o e n hb hx
   exact ⟨sl,(sb.2 b (neC b o e)).trans q⟩
  ·obtain ⟨o',q⟩:=B.there b o e hx
   exact ⟨o',(sb.2 b (neC b o e)).trans q⟩
 ·intro b ob e
  refine (J.hok b ob e).stay (fun c w' hc q=>(sb.2 c ?_).trans q) (fun _ q=>q) fun _ _ q=>q
  rintro rfl
  rcases hc with hc | hc
  ·rw [← hc,hC] at e;cases e
  ·rw [hC] at hc;cases hc
end
theorem wpAny_of_pure {α β:Type} {M:Model} {A:Around} {a:α} {t:Sem β} {P:α→Shared→Prop} {Q:β→Shared→Prop} {E E':Value→Shared→Prop} {s:Shared} (h:wpAny M A (pure a:Sem α) P E s) (k:P a s→wpAny M A t Q E' s):wpAny M A t Q E' s:=fun Γ p hΓ=>k (h Γ p hΓ) Γ p hΓ
def PIfs (X:Cx) (ifs:List Expr) (t:TT):Prop :=
 ∀ (pins:List (Addr×Obj)) (s:Shared) (σ:St) (H:Hp) (Q:Bool→Hp→Prop),Inv X pins σ H s→t σ H Q →
  wpAny (model X.prog X.w) X.A (forIn ifs true fun c r=>if r=true then do let ok ← isTrue c X.env (eval c X.env);pure (ForInStep.yield ok) else pure (ForInStep.yield r)) (TP X pins σ Q) X.xe s
def tYes:TT:=fun _ H Q=>Q true H
theorem pifs_nil {X:Cx}:PIfs X [] tYes:=fun _ _ _ H _ I h=>wpAny_tests_nil ⟨H,I,h⟩
theorem pifs_one {X:Cx} {c:Expr} {t:TT} (h:PT X c t):PIfs X [c] t:=fun pins s σ H Q I q=>wpAny_tests_one (h pins s σ H Q I q)
def capσ (σ:St) (ix:List Nat):St:=ix.map fun i=>σ.getD i none
def compGo (J:It) (D:Addr) (Q:VK) (ti:TT) (te:TE) (c:St) (H0:Hp):Prop :=
 ∃ W:Nat→Nat→Hp→Prop,(∃ m,W 0 m H0)∧∀ i m H,W i m H →
  (J.stop i H∧Q (.ref D) H)∨(J.go i H∧∃ N:Hp→Prop,(∀ H',N H'→∃ m',m' < m∧W (i+1) m' H')∧∀ v H',J.yld i H v H' →
   ti (some v::c) H' fun b H2=>if b=true then te (some v::c) H2 fun y H3=>∃ ys,H3 D=some (.lst ys)∧ys.length<sizeLine∧N (upd H3 D (.lst (ys++[y]))) else N H2)
def tComp (wi:TI) (ix:List Nat) (ti:TT) (te:TE):TE:=fun σ H Q=>wi σ H fun J H1=>∀ D,H1 D=none→compGo J D Q ti te (capσ σ ix) (upd H1 D (.lst []))
section
variable {X:Cx} {scope:Scope} {x:Str} {px pos:Pos} {ix:List Nat} {elt iter:Expr} {ifs:List Expr} {wi:TI} {ti:TT} {te:TE}
theorem comp_block {pins:List (Addr×Obj)} {σ:St} {H:Hp} {s:Shared} {fp:List Addr} {it D:Addr} {tn:Nat→Heap→Prop} {J:It} {Q:VK} {E:Value→Shared→Prop} {RR:Result→Shared→Prop} (S:CompSc X scope x ix) (hc:X.calm=true)
  (he:∀ s H,PE (compCx X scope x ix fp s H) elt te) (hi:∀ s H,PIfs (compCx X scope x ix fp s H) ifs ti)
  (I:Inv X pins σ H s) (T:Turn X.prog X.w X.K (.Name x px) J fp it tn) (st:tn 0 s.heap) (hf:∀ b∈fp,FpOk X pins H b) (go:compGo J D Q ti te (capσ σ ix) H)
  (nd:(compN X x ix).Nodup)
  (hR:∀ σ' H' s',Inv (compCx X scope x ix fp s H) [] σ' H' s'→Q (.ref D) H'→RR (.ok .next) s') :
  wpAny (model X.prog X.w) X.A (newFunctionEnv scope X.env.globals (clOf scope.names X.env.cells) [] X.env.qual none .none (some X.env)) (fun cenv s₄=>cenv.locals=s.heap.objs.size ∧
   codeAny (model X.prog X.w) X.A (.compStart (.ListComp elt [⟨.Name x px,iter,ifs,0⟩] scope pos) 0 (.ref it) (.ref D) { cenv with scope:=relabel scope X.env }) RR s₄) E s:=by
 refine wpAny_newFunctionEnv S.nocell (by intro y hy;simp at hy) (fun h' ns sb=>⟨rfl,?_⟩) S.kind
 have hlt:∀ b∈fp,b<s.heap.objs.size:=fun b hb=>by
  obtain ⟨o,e,_⟩:=T.obj 0 _ st b hb
  exact Heap.lt_size e
 have I0:Inv (compCx X scope x ix fp s H) [] (compσ σ ix) H { s with heap:=h',toks:=s.toks+([]:List (Str×Value)).length }:=inv_comp S I hf hlt ns sb
 have st0:tn 0 h':=T.keep 0 _ _ st fun b hb o e=>(sb.2 b (Nat.ne_of_lt (Heap.lt_size e))).trans (Heap.get?_push_of_some _ e)
 obtain ⟨W,⟨m0,w0⟩,turn⟩:=go
 have stat:∀ {H':Hp},(∀ b∈fp,H' b=none)→∀ b∈fp,FpOk (compCx X scope x ix fp s H) [] H' b:=fun hn b hb=>by
  refine ⟨hn b hb,Nat.ne_of_lt (hlt b hb),fun z=>?_,.inl hb,fun y c e=>(I0.ok.exf b hb).2 y c e,fun p hp=>absurd (show p∈([]:List (Addr×Obj)) from hp) (by simp)⟩
  exact I0.ok.exfs b hb z
 have loop:codeAny (model X.prog X.w) X.A (.compLoop (.ListComp elt [⟨.Name x px,iter,ifs,0⟩] scope pos) 0 (.ref it) (.ref D) (compCx X scope x ix fp s H).env) RR { s with heap:=h',toks:=s.toks+([]:List (Str×Value)).length }:=by
  refine codeAny_compLoop_tests (fun n s'=>∃ i o H',Inv (compCx X scope x ix fp s H) [] (o::capσ σ ix) H' s'∧tn i s'.heap∧(∀ b∈fp,H' b=none)∧W i n H') ?_ m0 ⟨0,none,H,I0,st0,fun b hb=>(hf b hb).1,w0⟩
  rintro n s3 ⟨i,o3,H3,I3,st3,fr3,w3⟩
  rcases turn i n H3 w3 with ⟨stop,qn⟩ | ⟨gone,N,hN,step⟩
  ·refine thn (T.done (compCx X scope x ix fp s H) rfl rfl rfl hc i [] s3 _ H3 _ I3 (stat fr3) st3 stop) fun r s4 ⟨hr,I4⟩=>?_
   subst hr
   exact hR _ H3 s4 I4 qn
  ·refine thn (T.item (compCx X scope x ix fp s H) rfl rfl rfl hc i [] s3 _ H3 (fun _ _=>False) I3 (stat fr3) st3 gone |> fun z=>wpAny_mono z (fun _ _ q=>q) fun _ _ f=>f.elim) fun r s4 ⟨u,hr,h4⟩=>?_
   subst hr
   refine wpAny_of_pure (a:=()) h4 fun ⟨y,H5,I5,r5,y5,st5,fr5⟩=>?_
   have I5':=I5.pinned (stat fr5) (T.obj _ _ st5)
   have hx0:(compCx X scope x ix fp s H).N[0]?=some x:=rfl
   refine wpAny_assign_Name (store_ok I5' nd hx0 (.inl (lookup_relabel_local S.x)) r5 (fun s6 I6=>?_) (.inr (lookup_relabel_local S.x)))
   refine wpAny_mono (hi s H _ s6 _ H5 _ I6 (step y H5 y5)) (fun ok s7 ⟨H7,I7,q7⟩=>?_) fun _ _ f=>f.elim
   have again:∀ {o7:Option V} {H7:Hp} {s7:Shared},Inv (compCx X scope x ix fp s H) ([]++pinsAt fp s4.heap) (o7::capσ σ ix) H7 s7→N H7→∃ m,m<n∧∃ i o H',Inv (compCx X scope x ix fp s H) [] (o::capσ σ ix) H' s7∧tn i s7.heap∧(∀ b∈fp,H' b=none)∧W i m H':=fun {o7 H7 s7} I7 n7=>by
    obtain ⟨m',hm,w7⟩:=hN H7 n7
    refine ⟨m',hm,i+1,o7,H7,I7.unpinned,T.keep _ _ _ st5 fun b hb o e=>(I7.pin (b,o) (List.mem_append_right _ (List.mem_append_right _ (mem_pinsAt hb e)))).1,fun b hb=>?_,w7⟩
    obtain ⟨o,e,d⟩:=T.obj _ _ st5 b hb
    exact (I7.pin (b,o) (List.mem_append_right _ (List.mem_append_right _ (mem_pinsAt hb e)))).2.1
   cases ok with
   | false =>
    rw [if_neg (by simp)] at q7
    exact again I7 q7
   | true =>
    rw [if_pos rfl] at q7
    refine wpAny_mono (he s H _ s7 _ H7 _ I7 q7) (fun v s8 ⟨y8,H8,I8,r8,ys,hD,hz,n8⟩=>?_) fun _ _ f=>f.elim
    obtain ⟨z,its,k,rv,e⟩:=I8.hok D _ hD
    have hl:s8.heap.IsList D its.toArray:=⟨_,e,rfl,k,rfl⟩
    refine mt_append _ s8 _ H8 (.ref D) [y8] (.ref D) [v] _ I8 rfl (.cons r8 .nil) ⟨D,ys,y8,rfl,rfl,hD,hz,n8⟩ |> fun z=>wpAny_mono z (fun _ s9 ⟨_,H9,I9,_,q9⟩=>again I9 q9) fun _ _ f=>f.elim
 exact codeAny_compStart_list loop (T.self _ 0 _ _ _ st0 loop)
end
section
variable {X:Cx} {scope:Scope} {x:Str} {px pos:Pos} {ix:List Nat} {elt iter:Expr} {ifs:List Expr} {wi:TI} {ti:TT} {te:TE}
theorem Inv.fp_upd {pins:List (Addr×Obj)} {H:Hp} {D:Addr} {o:HO} {fp:List Addr} (hf:∀ b∈fp,FpOk X pins H b) (hD:∀ b∈fp,b≠D):∀ b∈fp,FpOk X pins (upd H D o) b:=fun b hb =>
 ⟨by rw [upd_ne (hD b hb)];exact (hf b hb).1,(hf b hb).2⟩
theorem pe_comp (S:CompSc X scope x ix) (nd:(compN X x ix).Nodup) (hc:X.calm=true) (hi:PI X (.Name x px) iter wi) (hif:∀ fp s H,PIfs (compCx X scope x ix fp s H) ifs ti) (he:∀ fp s H,PE (compCx X scope x ix fp s H) elt te)
  (hs:∀ z,foldedSetIterable iter X.env z=pure z:=by intro _;rfl):PE X (.ListComp elt [⟨.Name x px,iter,ifs,0⟩] scope pos) (tComp wi ix ti te):=by
 intro pins s σ H Q I h
 rw [eval_ListComp]
 refine wpAny_comprehension_free (use:=none) rfl hs (closureFor_of (S.cells I.ok)) S.kind S.loc (thn (hi pins s σ H _ I h) fun v s1 h1=>thn h1 fun itv s2 h2=>?_)
 obtain ⟨it,fp,tn,J,H2,rfl,I2,T,st2,f2,q⟩:=h2
 refine wpAny_newObj_type ?_
 have fr:=I2.fresh
 have I3:Inv X pins σ (upd H2 s2.heap.objs.size (.lst [])) { s2 with heap:=s2.heap.push { cls:=.type "list",data:=.seq ([]:List Value).toArray } }:=I2.lnew (t':=s2.toks) .nil (Nat.zero_le _)
 have hD:∀ b∈fp,b≠s2.heap.objs.size:=fun b hb=>by
  obtain ⟨o,e,_⟩:=T.obj 0 _ st2 b hb
  exact Nat.ne_of_lt (Heap.lt_size e)
 have f3:=Inv.fp_upd (o:=.lst []) f2 hD
 have st3:tn 0 (s2.heap.push { cls:=.type "list",data:=.seq ([]:List Value).toArray }):=T.keep 0 _ _ st2 fun b hb o e=>Heap.get?_push_of_some _ e
 refine thn (comp_block (px:=px) (pos:=pos) (iter:=iter) (E:=X.xe) (RR:=compPost (model X.prog X.w) X.A X.xe none (EP X pins σ Q) (.ref s2.heap.objs.size) (s2.heap.push { cls:=.type "list",data:=.seq ([]:List Value).toArray }).objs.size) S hc (he fp) (hif fp) I3 T st3 f3 (q _ fr) nd ?_) fun cenv s4 ⟨e,z⟩=>?_
 ·intro σ' H' s' J' q'
  obtain ⟨m,hn,_⟩:=J'.loc
  exact ⟨m,hn,fun h'' sb=>⟨_,H',comp_out I3 f3 J' sb,(show RelV (.ref s2.heap.objs.size) _ from rfl),q'⟩⟩
 ·rw [← show cenv.locals=(s2.heap.push { cls:=.type "list",data:=.seq ([]:List Value).toArray }).objs.size from e] at z;exact z
def tSetC (i:Nat) (wi:TI) (ix:List Nat) (ti:TT) (te:TE):TS:=fun D σ H=>tComp wi ix ti te σ H fun v H1=>D.nx (σ.set i (some v)) H1
theorem ps_setc {i:Nat} {y:Str} {py spos:Pos} (hN:X.N.Nodup) (hy:X.N[i]?=some y) (hyl:X.env.scope.names.lookup y=some .local) (S:CompSc X scope x ix) (nd:(compN X x ix).Nodup) (hc:X.calm=true) (hi:PI X (.Name x px) iter wi)
  (hif:∀ fp s H,PIfs (compCx X scope x ix fp s H) ifs ti) (he:∀ fp s H,PE (compCx X scope x ix fp s H) elt te)
  (hsw:swapsWith (.ListComp elt [⟨.Name x px,iter,ifs,0⟩] scope pos) (some (.Name y py)) spos.line X.env=pure true:=by rfl)
  (hs:∀ z,foldedSetIterable iter X.env z=pure z:=by intro _;rfl):PS X (.Assign [.Name y py] (.ListComp elt [⟨.Name x px,iter,ifs,0⟩] scope pos) spos) (tSetC i wi ix ti te):=by
 intro pins s σ H D I h
 rw [exec_Assign_Name_used _ _ _ _ hsw]
 refine wpAny_bind (wpAny_standAt (wpAny_bind ?_))
 show wpAny _ X.A (do let _ ← comprehension (.ListComp elt [⟨.Name x px,iter,ifs,0⟩] scope pos) scope X.env _ (newList []) false (eval iter X.env) (some (assign (.Name y py) X.env))) _ _ s
 refine wpAny_bind (wpAny_mono (wpAny_comprehension_free (use:=some (assign (.Name y py) X.env)) (Q:=fun _ s'=>SP X pins D .next s') rfl hs (closureFor_of (S.cells I.ok)) S.kind S.loc (thn (hi pins s σ H _ I h) fun v s1 h1=>thn h1 fun itv s2 h2=>?_)) (fun _ s' hq=>wpAny_pure (wpAny_pure hq)) fun _ _ e=>e)
 obtain ⟨it,fp,tn,J,H2,rfl,I2,T,st2,f2,q⟩:=h2
 refine wpAny_newObj_type ?_
 have fr:=I2.fresh
 have I3:Inv X pins σ (upd H2 s2.heap.objs.size (.lst [])) { s2 with heap:=s2.heap.push { cls:=.type "list",data:=.seq ([]:List Value).toArray } }:=I2.lnew (t':=s2.toks) .nil (Nat.zero_le _)
 have hD:∀ b∈fp,b≠s2.heap.objs.size:=fun b hb=>by
  obtain ⟨o,e,_⟩:=T.obj 0 _ st2 b hb
  exact Nat.ne_of_lt (Heap.lt_size e)
 have f3:=Inv.fp_upd (o:=.lst []) f2 hD
 have st3:tn 0 (s2.heap.push { cls:=.type "list",data:=.seq ([]:List Value).toArray }):=T.keep 0 _ _ st2 fun b hb o e=>Heap.get?_push_of_some _ e
 refine thn (comp_block (px:=px) (pos:=pos) (iter:=iter) (E:=X.xe) (RR:=compPost (model X.prog X.w) X.A X.xe (some (assign (.Name y py) X.env)) (fun _ s'=>SP X pins D .next s') (.ref s2.heap.objs.size) (s2.heap.push { cls:=.type "list",data:=.seq ([]:List Value).toArray }).objs.size) S hc (he fp) (hif fp) I3 T st3 f3 (q _ fr) nd ?_) fun cenv s4 ⟨e,z⟩=>?_
 ·intro σ' H' s' J' q'
  have neL:(s2.heap.push { cls:=.type "list",data:=.seq ([]:List Value).toArray }).objs.size≠X.env.locals:=Nat.ne_of_gt I3.lt
  have I4:Inv X pins σ H' { s' with heap:=s'.heap }:=comp_out I3 f3 J' (.refl ..)
  show wpAny (model X.prog X.w) X.A (assign (.Name y py) X.env (.ref s2.heap.objs.size)) _ X.xe s'
  refine wpAny_assign_Name (store_ok2 (s:=s') I4 hN hy (.inl hyl) (show RelV (.ref s2.heap.objs.size) _ from rfl) (fun s6 I6 ⟨a,sb,ha⟩=>?_) (.inr hyl))
  have ha':a≠(s2.heap.push { cls:=.type "list",data:=.seq ([]:List Value).toArray }).objs.size:=by
   rcases ha with ha | ha
   ·rw [ha];exact Ne.symm neL
   ·obtain ⟨v,z⟩:=I3.cell y a ha
    exact Nat.ne_of_lt z.lt
  obtain ⟨m,hn,_⟩:=J'.loc
  refine ⟨m,hn.sameBut sb (Ne.symm ha'),fun h'' sb2=>⟨σ.set i (some (.ref s2.heap.objs.size)),H',?_,q'⟩⟩
  -- the block's dict is not ours: its change is no matter
  have I7:Inv X pins (σ.set i (some (.ref s2.heap.objs.size))) H' s6:=I6
  have hCn:H' (s2.heap.push { cls:=.type "list",data:=.seq ([]:List Value).toArray }).objs.size=none:=J'.free
  refine I7.turned (s:=s6) (t':=s6.toks) (it:=(s2.heap.push { cls:=.type "list",data:=.seq ([]:List Value).toArray }).objs.size) (fun b o hb e=>(sb2.2 b hb).trans e) hCn neL (.inr (Nat.le_trans I3.sz (Nat.le_refl _))) (fun y c e z=>?_) fun p hp z=>?_
  ·obtain ⟨v,q⟩:=I3.cell y c e
   exact absurd z (Nat.ne_of_lt q.lt)
  ·exact absurd z (Nat.ne_of_lt (Heap.lt_size (I3.pin p hp).1))
 ·rw [← show cenv.locals=(s2.heap.push { cls:=.type "list",data:=.seq ([]:List Value).toArray }).objs.size from e] at z;exact z
end
theorem comp_range {lo:Int} {n:Nat} {D:Addr} {Q:VK} {te:TE} {c:St} {H0:Hp} (Pv:Nat→Hp→Prop) (h0:Pv 0 H0)
  (hs:∀ i H,i<n→Pv i H→te (some (.int (lo+i))::c) H fun y H2=>∃ ys,H2 D=some (.lst ys)∧ys.length<sizeLine∧Pv (i+1) (upd H2 D (.lst (ys++[y])))) (hd:∀ H,Pv n H→Q (.ref D) H) :
  compGo (Itr lo n) D Q tYes te c H0:=by
 refine ⟨fun i m H'=>m=n - i∧i≤n∧Pv i H',⟨n,by simp,Nat.zero_le _,h0⟩,?_⟩
 rintro i m H' ⟨rfl,hi,p⟩
 by_cases hlt:i<n
 ·refine .inr ⟨hlt,Pv (i+1),fun H'' p=>⟨n - (i+1),by omega,rfl,hlt,p⟩,fun v H2 y=>?_⟩
  obtain ⟨e,y⟩:=y
  subst e y
  exact iteT (B:=Pv (i+1) H2) (hs i H2 hlt p)
 ·have e:i=n:=by omega
  subst e
  exact .inl ⟨Nat.le_refl _,hd H' p⟩
theorem comp_listIf {K:PySem.W.Frag} {a:Addr} {xs:List V} {D:Addr} {Q:VK} {ti:TT} {te:TE} {c:St} {H0:Hp} (Pv:Nat→Hp→Prop) (h0:Pv 0 H0) (hl:∀ i H,i≤xs.length→Pv i H→SqL K H a xs)
  (hs:∀ i x H,xs[i]?=some x→Pv i H→ti (some x::c) H fun b H1=>if b=true then te (some x::c) H1 fun y H2=>∃ ys,H2 D=some (.lst ys)∧ys.length<sizeLine∧Pv (i+1) (upd H2 D (.lst (ys++[y]))) else Pv (i+1) H1) (hd:∀ H,Pv xs.length H→Q (.ref D) H) :
  compGo (Itl K a) D Q ti te c H0:=by
 refine ⟨fun i m H'=>m=xs.length - i∧i≤xs.length∧Pv i H',⟨xs.length,by simp,Nat.zero_le _,h0⟩,?_⟩
 rintro i m H' ⟨rfl,hi,p⟩
 have q:=hl i H' hi p
 by_cases hlt:i<xs.length
 ·refine .inr ⟨⟨xs,xs[i],q,by simp [hlt]⟩,Pv (i+1),fun H'' p=>⟨xs.length - (i+1),by omega,rfl,hlt,p⟩,fun v H2 y=>?_⟩
  obtain ⟨e,y⟩:=y
  subst e
  exact hs i v H2 (y xs q) p
 ·have e:i=xs.length:=by omega
  subst e
  exact .inl ⟨⟨xs,q,Nat.le_refl _⟩,hd H' p⟩
theorem comp_tupIf {K:PySem.W.Frag} {a:Addr} {xs:List V} {D:Addr} {Q:VK} {ti:TT} {te:TE} {c:St} {H0:Hp} (Pv:Nat→Hp→Prop) (h0:Pv 0 H0) (hl:∀ i H,i≤xs.length→Pv i H→SqT K H a xs)
  (hs:∀ i x H,xs[i]?=some x→Pv i H→ti (some x::c) H fun b H1=>if b=true then te (some x::c) H1 fun y H2=>∃ ys,H2 D=some (.lst ys)∧ys.length<sizeLine∧Pv (i+1) (upd H2 D (.lst (ys++[y]))) else Pv (i+1) H1) (hd:∀ H,Pv xs.length H→Q (.ref D) H) :
  compGo (Itt K a) D Q ti te c H0:=by
 refine ⟨fun i m H'=>m=xs.length - i∧i≤xs.length∧Pv i H',⟨xs.length,by simp,Nat.zero_le _,h0⟩,?_⟩
 rintro i m H' ⟨rfl,hi,p⟩
 have q:=hl i H' hi p
 by_cases hlt:i<xs.length
 ·refine .inr ⟨⟨xs,xs[i],q,by simp [hlt]⟩,Pv (i+1),fun H'' p=>⟨xs.length - (i+1),by omega,rfl,hlt,p⟩,fun v H2 y=>?_⟩
  obtain ⟨e,y⟩:=y
  subst e
  exact hs i v H2 (y xs q) p
 ·have e:i=xs.length:=by omega
  subst e
  exact .inl ⟨⟨xs,q,Nat.le_refl _⟩,hd H' p⟩
def Its (x:Str):It:=⟨fun i _=>i<x.cps.size,fun i H v H'=>H'=H∧∃ c,x.cps[i]?=some c∧v=.str ⟨#[c]⟩,fun i _=>i=x.cps.size⟩
theorem turn_str {P:Program} {w:World} {K:PySem.W.Frag} {tg:Expr} (x:Str) (t:Tok) (T:String) (it:Addr) (hT:T="str_ascii_iterator"∨T="str_iterator"):Turn P w K tg (Its x) [it] it (fun i h=>h.IsStrIter it T x t i) where
 mem:=by simp
 obj:=fun i h st b hb=>by
  have e:b=it:=by simpa using hb
  subst e
  obtain ⟨o,e,c,d⟩:=st
  exact ⟨o,e,fun v z=>by rw [d] at z;cases z⟩
 keep:=fun i h h' st k=>by
  obtain ⟨o,e,r⟩:=st
  exact ⟨o,k it (by simp) o e,r⟩
 item:=by
  intro X hP hw hK hc i pins s σ H E I hf st hg
  subst hP hw hK
  obtain ⟨f0,f1,f2,f3,f4,f5⟩:=hf it (by simp)
  have hn:["enumerate","zip","dict_itemiterator","dict_reverseitemiterator","odict_iterator","itertools.zip_longest","itertools.pairwise"].contains T=false:=by rcases hT with rfl | rfl <;> decide
  have fin:∀ (v:Value) (h':Heap) (tk:Nat),SignAt x i v→h'.IsStrIter it T x t (i+1)→(∀ b o,b ∉ [it]→s.heap.get? b=some o→h'.get? b=some o) →
    ∃ u,some v=some u∧wpAny (model X.prog X.w) X.A (letOwnedTupleGo tg (.ref it) u) (fun _ s2=>∃ y H',Inv X pins σ H' s2∧RelV y u∧(Its x).yld i H y H'∧s2.heap.IsStrIter it T x t (i+1)∧∀ b∈[it],H' b=none) E { s with heap:=h',toks:=tk }:=fun v h' tk hv st' kk=>by
   obtain ⟨c,u,hc',rfl⟩:=hv
   have I1:Inv X pins σ H { s with heap:=h',toks:=tk }:=I.turned (fun b o hb e=>kk b o (by simpa using hb) e) f0 f1 f3 f4 f5
   obtain ⟨o,e,c2,d⟩:=id st'
   exact ⟨_,rfl,go_of (s:={ s with heap:=h',toks:=tk }) e c2 d hn ⟨.str ⟨#[c]⟩,H,I1,⟨u,rfl⟩,⟨rfl,c,hc',rfl⟩,st',fun b hb=>(hf b hb).1⟩⟩
  rcases hT with rfl | rfl
  ·exact (Walks.strAscii (prog:=X.prog) (w:=X.w) (I.ok.hd hc) it x t).item i s _ _ hg st fin
  ·exact (Walks.strWide (prog:=X.prog) (w:=X.w) (I.ok.hd hc) it x t).item i s _ _ hg st fin
 done:=by
  intro X hP hw hK hc i pins s σ H E I hf st hg
  subst hP hw hK
  obtain ⟨f0,f1,f2,f3,f4,f5⟩:=hf it (by simp)
  have hi:i=x.cps.size:=hg
  subst hi
  have fin:∀ (h':Heap) (tk:Nat),(∀ b o,b ∉ [it]→s.heap.get? b=some o→h'.get? b=some o)→(none:Option Value)=none∧Inv X pins σ H { s with heap:=h',toks:=tk }:=fun h' tk kk =>
   ⟨rfl,I.turned (fun b o hb e=>kk b o (by simpa using hb) e) f0 f1 f3 f4 f5⟩
  rcases hT with rfl | rfl
  ·exact (Walks.strAscii (prog:=X.prog) (w:=X.w) (I.ok.hd hc) it x t).done s _ _ st fin
  ·exact (Walks.strWide (prog:=X.prog) (w:=X.w) (I.ok.hd hc) it x t).done s _ _ st fin
 self:=fun A i s Q E st h=>by
  rcases hT with rfl | rfl
  ·exact wpAny_pyIter_striter_ascii st h
  ·exact wpAny_pyIter_striter_wide st h
section
variable {X:Cx} {tg:Expr}
def iStr (tl:TE):TI:=fun σ H R=>tl σ H fun x H1=>∃ z,x=.str z∧R (Its z) H1
theorem pi_str {l:Expr} {tl:TE} (hl:PE X l tl):PI X tg l (iStr tl):=by
 intro pins s σ H R I h
 refine thn (hl pins s σ H _ I h) fun v s1 ⟨x,H1,I1,r1,q1⟩=>?_
 obtain ⟨z,e,q⟩:=q1
 subst e
 obtain ⟨t,rfl⟩:=r1
 refine wpAny_pyIter_strU ?_
 refine ⟨s1.heap.objs.size,[s1.heap.objs.size],_,_,H1,rfl,I1.kept (t':=s1.toks) fun b o e=>Heap.get?_push_of_some _ e,turn_str z t (strIterType z) _ (by unfold strIterType;split <;> simp),⟨_,Heap.get?_push_size _ rfl,rfl,rfl⟩,fun b hb=>?_,q⟩
 have e:b=s1.heap.objs.size:=by simpa using hb
 subst e
 exact I1.fpOk (Nat.le_refl _) (I1.hok.fresh (Nat.le_refl _))
end
abbrev S (w:List Nat):Str:=⟨w.toArray⟩
theorem for_str {w:List Nat} {g:TG} {tb:TS} {D:Ends} {σ:St} {H:Hp} (Pv:Nat→St→Hp→Prop) (h0:Pv 0 σ H)
  (hs:∀ i c σ H,w[i]?=some c→Pv i σ H→g (.str (S [c])) σ H fun σ2 H2=>tb { D with nx:=Pv (i+1),ct:=Pv (i+1),bk:=D.nx } σ2 H2) (hd:∀ σ H,Pv w.length σ H→D.nx σ H) :
  ∃ W:Nat→Nat→St→Hp→Prop,(∃ m,W 0 m σ H)∧∀ i m σ H,W i m σ H →
   ((Its (S w)).stop i H∧D.nx σ H)∨((Its (S w)).go i H∧∃ N:St→Hp→Prop,(∀ σ' H',N σ' H'→∃ m',m' < m∧W (i+1) m' σ' H')∧∀ x H',(Its (S w)).yld i H x H'→g x σ H' fun σ2 H2=>tb { D with nx:=N,ct:=N,bk:=D.nx } σ2 H2):=by
 refine ⟨fun i m σ H=>m=w.length - i∧i≤w.length∧Pv i σ H,⟨w.length,by simp,Nat.zero_le _,h0⟩,?_⟩
 rintro i m σ H ⟨rfl,hi,p⟩
 by_cases hlt:i<w.length
 ·refine .inr ⟨by simpa [Its] using hlt,Pv (i+1),fun σ' H' p'=>⟨w.length - (i+1),by omega,rfl,hlt,p'⟩,fun x H' y=>?_⟩
  obtain ⟨e,c,hc,rfl⟩:=y
  subst e
  exact hs i c σ _ (by simpa using hc) p
 ·have e:i=w.length:=by omega
  subst e
  exact .inl ⟨by simp [Its],hd σ H p⟩
theorem comp_strIf {w:List Nat} {D:Addr} {Q:VK} {ti:TT} {te:TE} {c:St} {H0:Hp} (Pv:Nat→Hp→Prop) (h0:Pv 0 H0)
  (hs:∀ i k H,w[i]?=some k→Pv i H→ti (some (.str (S [k]))::c) H fun b H1=>if b=true then te (some (.str (S [k]))::c) H1 fun y H2=>∃ ys,H2 D=some (.lst ys)∧ys.length<sizeLine∧Pv (i+1) (upd H2 D (.lst (ys++[y]))) else Pv (i+1) H1) (hd:∀ H,Pv w.length H→Q (.ref D) H) :
  compGo (Its (S w)) D Q ti te c H0:=by
 refine ⟨fun i m H'=>m=w.length - i∧i≤w.length∧Pv i H',⟨w.length,by simp,Nat.zero_le _,h0⟩,?_⟩
 rintro i m H' ⟨rfl,hi,p⟩
 by_cases hlt:i<w.length
 ·refine .inr ⟨by simpa [Its] using hlt,Pv (i+1),fun H'' p=>⟨w.length - (i+1),by omega,rfl,hlt,p⟩,fun v H2 y=>?_⟩
  obtain ⟨e,k,hk,rfl⟩:=y
  subst e
  exact hs i k H2 (by simpa using hk) p
 ·have e:i=w.length:=by omega
  subst e
  exact .inl ⟨by simp [Its],hd H' p⟩
section
variable {X:Cx}
def rTab (a:Addr) (D:List (PyData×PyData)):R2:=fun x y H Q=>x=.ref a∧∃ z,y=.str z∧((∃ v,lookup (.str z) D=some (.str v)∧Q (.str v) H)∨∃ i,lookup (.str z) D=some (.int i)∧Q (.int i) H)
theorem ix_tab {a:Addr} {D:List (PyData×PyData)} (T:∀ h,X.K.In h→StrTab X.prog X.w h a D):IxR X (rTab a D):=by
 intro value slice pins s σ H x y v u Q I rx ry h hs
 obtain ⟨rfl,z,rfl,q⟩:=h
 cases rx
 obtain ⟨t,rfl⟩:=ry
 obtain ⟨lo,kvs,hd,hf⟩:=T s.heap I.kIn
 rcases q with ⟨y,hl,q⟩ | ⟨y,hl,q⟩
 ·obtain ⟨v,hv,hfl⟩:=hf.of_lookup (enc:=PyData.str) PyProof.V.same_str hl
  exact tail_any hd.typeIs slot_dict_getitem.lookup (wpAny_getItem_of (strKind_is X.prog X.w z t) hd.mapOf hv ⟨.str y,H,I.tok _,PyProof.V.Flat.str_inv hfl,q⟩) hs
 ·obtain ⟨v,hv,hfl⟩:=hf.of_lookup (enc:=PyData.str) PyProof.V.same_str hl
  exact tail_any hd.typeIs slot_dict_getitem.lookup (wpAny_getItem_of (strKind_is X.prog X.w z t) hd.mapOf hv ⟨.int y,H,I.tok _,PyProof.V.Flat.int_inv hfl,q⟩) hs
def rSlS:V→Option Int→Option Int→Hp→VK→Prop:=fun x lo hi H Q=>∃ z,x=.str z∧z.length≤sizeLine∧Q (.str (Txt.slice z lo hi)) H
theorem sl_str:SlR X rSlS:=by
 intro pins s σ H x v vl vu lo hi sl Q I rx hs pl pu h
 obtain ⟨z,rfl,hz,q⟩:=h
 obtain ⟨t,rfl⟩:=rx
 refine ⟨"str",_,F.slot_str_getitem.lookup,typeIs_str _ _ _,?_⟩
 obtain ⟨o,ho,hc,hd⟩:=hs
 have fin:∀ t' k,EP X pins σ Q (.str (Txt.slice z lo hi) t') { s with toks:=k }:=fun t' k=>⟨.str (Txt.slice z lo hi),H,I.tok _,⟨t',rfl⟩,q⟩
 cases pl with
 | none =>
  cases pu with
  | none=>exact wpAny_getItem_str_slice (l:=none) (u:=none) (st:=none) ⟨o,ho,hc,hd⟩ rfl (post_val_or_str ⟨Nat.le_trans (Txt.slice_le z _ _) hz,fin⟩)
  | int j uj=>exact wpAny_getItem_str_slice (l:=none) (u:=some (j,uj)) (st:=none) ⟨o,ho,hc,hd⟩ rfl (post_val_or_str ⟨Nat.le_trans (Txt.slice_le z _ _) hz,fin⟩)
 | int i ui =>
  cases pu with
  | none=>exact wpAny_getItem_str_slice (l:=some (i,ui)) (u:=none) (st:=none) ⟨o,ho,hc,hd⟩ rfl (post_val_or_str ⟨Nat.le_trans (Txt.slice_le z _ _) hz,fin⟩)
  | int j uj=>exact wpAny_getItem_str_slice (l:=some (i,ui)) (u:=some (j,uj)) (st:=none) ⟨o,ho,hc,hd⟩ rfl (post_val_or_str ⟨Nat.le_trans (Txt.slice_le z _ _) hz,fin⟩)
theorem mt_islower:MtR X "str.islower" (fun x xs H Q=>∃ z,x=.str z∧xs=[]∧Q (.bl (Txt.islower z)) H):=by
 intro pins s σ H x xs v us Q I rx rs h
 obtain ⟨z,rfl,rfl,q⟩:=h
 obtain ⟨t,rfl⟩:=rx
 cases rs
 exact SC.islower ⟨.bl _,H,I,rfl,q⟩
theorem mt_isupper:MtR X "str.isupper" (fun x xs H Q=>∃ z,x=.str z∧xs=[]∧Q (.bl (Txt.isupper z)) H):=by
 intro pins s σ H x xs v us Q I rx rs h
 obtain ⟨z,rfl,rfl,q⟩:=h
 obtain ⟨t,rfl⟩:=rx
 cases rs
 exact SC.isupper ⟨.bl _,H,I,rfl,q⟩
theorem mt_upper:MtR X "str.upper" (fun x xs H Q=>∃ z,x=.str z∧xs=[]∧Builtin.Str.tooLong (Txt.upper z).length=false∧Q (.str (Txt.upper z)) H):=by
 intro pins s σ H x xs v us Q I rx rs h
 obtain ⟨z,rfl,rfl,hf,q⟩:=h
 obtain ⟨t,rfl⟩:=rx
 cases rs
 exact SC.upper hf ⟨.str _,H,I.tok _,⟨_,rfl⟩,q⟩
theorem mt_lower:MtR X "str.lower" (fun x xs H Q=>∃ z,x=.str z∧xs=[]∧Builtin.Str.tooLong (Txt.lower z).length=false∧Q (.str (Txt.lower z)) H):=by
 intro pins s σ H x xs v us Q I rx rs h
 obtain ⟨z,rfl,rfl,hf,q⟩:=h
 obtain ⟨t,rfl⟩:=rx
 cases rs
 exact SC.lower hf ⟨.str _,H,I.tok _,⟨_,rfl⟩,q⟩
theorem strsAre_of:∀ {zs:List Str} {us:List Value},Vals (zs.map V.str) us→StrsAre us zs
 | [],_,r=>by
  cases r
  exact .nil
 | z::zs,_,r=>by
  rw [List.map_cons] at r
  cases r with
  | cons r1 r2 =>
   obtain ⟨t,rfl⟩:=r1
   exact .cons z t (strsAre_of r2)
theorem mt_join:MtR X "str.join" (fun x xs H Q=>∃ z a zs,x=.str z∧xs=[.ref a]∧SqL X.K H a (zs.map V.str)∧(zs.map (·.length)).sum+zs.length * z.length≤16777216∧Q (.str (Txt.join z zs)) H):=by
 intro pins s σ H x xs v us Q I rx rs h
 obtain ⟨z,a,zs,rfl,rfl,hq,hz,q⟩:=h
 obtain ⟨t,rfl⟩:=rx
 obtain ⟨u,rfl,ru⟩:=rs.one
 cases ru
 obtain ⟨its,r,pl,_⟩:=I.list hq
 exact join_list pl.isList (by simpa using strsAre_of r) hz fun t' k=>⟨.str _,H,I.tok _,⟨t',rfl⟩,q⟩
end
def tyNames:List String:=["str","int","bool","list","tuple","NoneType","dict"]
def clNames:List String:=["list","tuple","bool","str","int"]
def subT (t c:String):Bool:=t == c || (t == "bool" && c == "int")
theorem kit_str (K:PySem.W.Frag) (c:String) (h:c∈clNames):PySem.W.kitOne K (.type "str") (.type c)=some (subT "str" c):=by
 simp only [clNames,List.mem_cons,List.not_mem_nil,or_false] at h
 rcases h with rfl | rfl | rfl | rfl | rfl <;> kernel_rfl
theorem kit_int (K:PySem.W.Frag) (c:String) (h:c∈clNames):PySem.W.kitOne K (.type "int") (.type c)=some (subT "int" c):=by
 simp only [clNames,List.mem_cons,List.not_mem_nil,or_false] at h
 rcases h with rfl | rfl | rfl | rfl | rfl <;> kernel_rfl
theorem kit_bool (K:PySem.W.Frag) (c:String) (h:c∈clNames):PySem.W.kitOne K (.type "bool") (.type c)=some (subT "bool" c):=by
 simp only [clNames,List.mem_cons,List.not_mem_nil,or_false] at h
 rcases h with rfl | rfl | rfl | rfl | rfl <;> kernel_rfl
theorem kit_list (K:PySem.W.Frag) (c:String) (h:c∈clNames):PySem.W.kitOne K (.type "list") (.type c)=some (subT "list" c):=by
 simp only [clNames,List.mem_cons,List.not_mem_nil,or_false] at h
 rcases h with rfl | rfl | rfl | rfl | rfl <;> kernel_rfl
theorem kit_tuple (K:PySem.W.Frag) (c:String) (h:c∈clNames):PySem.W.kitOne K (.type "tuple") (.type c)=some (subT "tuple" c):=by
 simp only [clNames,List.mem_cons,List.not_mem_nil,or_false] at h
 rcases h with rfl | rfl | rfl | rfl | rfl <;> kernel_rfl
theorem kit_none (K:PySem.W.Frag) (c:String) (h:c∈clNames):PySem.W.kitOne K (.type "NoneType") (.type c)=some (subT "NoneType" c):=by
 simp only [clNames,List.mem_cons,List.not_mem_nil,or_false] at h
 rcases h with rfl | rfl | rfl | rfl | rfl <;> kernel_rfl
theorem kit_dict (K:PySem.W.Frag) (c:String) (h:c∈clNames):PySem.W.kitOne K (.type "dict") (.type c)=some (subT "dict" c):=by
 simp only [clNames,List.mem_cons,List.not_mem_nil,or_false] at h
 rcases h with rfl | rfl | rfl | rfl | rfl <;> kernel_rfl
theorem kit_all (K:PySem.W.Frag) (t c:String) (ht:t∈tyNames) (h:c∈clNames):PySem.W.kitOne K (.type t) (.type c)=some (subT t c):=by
 simp only [tyNames,List.mem_cons,List.not_mem_nil,or_false] at ht
 rcases ht with rfl | rfl | rfl | rfl | rfl | rfl | rfl
 ·exact kit_str K c h
 ·exact kit_int K c h
 ·exact kit_bool K c h
 ·exact kit_list K c h
 ·exact kit_tuple K c h
 ·exact kit_none K c h
 ·exact kit_dict K c h
section
variable {X:Cx}
inductive BTy (K:PySem.W.Frag) (H:Hp):V→String→Prop where
 | non:BTy K H .non "NoneType"
 | bl (x:Bool):BTy K H (.bl x) "bool"
 | int (i:Int):BTy K H (.int i) "int"
 | str (x:Str):BTy K H (.str x) "str"
 | lst {a:Addr} {xs:List V} (e:SqL K H a xs):BTy K H (.ref a) "list"
 | tup {a:Addr} {xs:List V} (e:SqT K H a xs):BTy K H (.ref a) "tuple"
theorem BTy.mem {K:PySem.W.Frag} {H:Hp} {x:V} {t:String} (h:BTy K H x t):t∈tyNames:=by cases h <;> decide
theorem isi_one {pins:List (Addr×Obj)} {σ:St} {H:Hp} {s:Shared} {A:Around} {E:Value→Shared→Prop} {Q:Value→Shared→Prop} {x:V} {u:Value} {t c:String} (I:Inv X pins σ H s) (rx:RelV x u) (ty:BTy X.K H x t) (hc:c∈clNames)
  (h:∀ tk,Q (.bool (subT t c)) { s with toks:=tk }):wpAny (model X.prog X.w) A (call (.builtin "isinstance") [u,.type c]) Q E s:=by
 have e:=kit_all X.K t c ty.mem hc
 cases ty with
 | non=>cases (show u=Value.none from rx);exact PySem.W.kia_one PySem.W.kitx_none I.kIn True.intro e (fun z=>nomatch z) h
 | bl y=>cases (show u=Value.bool y from rx);exact PySem.W.kia_one PySem.W.kitx_bool I.kIn True.intro e (fun z=>nomatch z) h
 | int i=>obtain ⟨t,q⟩:=(show ∃ t,u=Value.int i t from rx);cases q;exact PySem.W.kia_one PySem.W.kitx_int I.kIn True.intro e (fun z=>nomatch z) h
 | str y=>obtain ⟨t,q⟩:=(show ∃ t,u=Value.str y t from rx);cases q;exact PySem.W.kia_one PySem.W.kitx_str I.kIn True.intro e (fun z=>nomatch z) h
 | @lst a xs ea =>
  cases (show u=Value.ref a from rx)
  obtain ⟨its,_,⟨o,n,h1,h2,_⟩,_⟩:=I.list ea
  exact PySem.W.kia_one PySem.W.kitx_list I.kIn ⟨o,h1,h2⟩ e (fun z=>nomatch z) h
 | @tup a xs ea =>
  cases (show u=Value.ref a from rx)
  obtain ⟨its,_,⟨o,h1,h2,_⟩,_⟩:=I.tuple ea
  exact PySem.W.kia_one PySem.W.kitx_tuple I.kIn ⟨o,h1,h2⟩ e (fun z=>nomatch z) h
theorem kitAny_two {K:PySem.W.Frag} {t c d:String} (ht:t∈tyNames) (hc:c∈clNames) (hd:d∈clNames):PySem.W.kitAny K (.type t) [.type c,.type d]=some (subT t c || subT t d):=by
 unfold PySem.W.kitAny
 rw [kit_all K t c ht hc]
 cases subT t c with
 | true=>rfl
 | false =>
  dsimp only
  unfold PySem.W.kitAny
  rw [kit_all K t d ht hd]
  cases subT t d <;> rfl
theorem isi_two {pins:List (Addr×Obj)} {σ:St} {H:Hp} {s:Shared} {A:Around} {E:Value→Shared→Prop} {Q:Value→Shared→Prop} {x:V} {u:Value} {t c d:String} {p:Addr} (I:Inv X pins σ H s) (rx:RelV x u) (ty:BTy X.K H x t) (hp:H p=some (.tup [.ty c,.ty d])) (hc:c∈clNames) (hd:d∈clNames)
  (h:∀ tk,Q (.bool (subT t c || subT t d)) { s with toks:=tk }):wpAny (model X.prog X.w) A (call (.builtin "isinstance") [u,.ref p]) Q E s:=by
 have e:=kitAny_two (K:=X.K) ty.mem hc hd
 obtain ⟨_,its,r,ot,h1,h2,n,h3⟩:=I.hok p _ hp
 obtain ⟨u1,u2,rfl,r1,r2⟩:=r.two
 cases (show u1=Value.type c from r1)
 cases (show u2=Value.type d from r2)
 obtain ⟨cl,dd,dt,sl⟩:=ot
 have h2':cl=.type "tuple":=h2
 have h3':dt=.seq [Value.type c,Value.type d].toArray n:=h3
 subst h2' h3'
 cases ty with
 | non=>cases (show u=Value.none from rx);exact PySem.W.kia_tup PySem.W.kitx_none I.kIn True.intro h1 e (fun z=>nomatch z) h
 | bl y=>cases (show u=Value.bool y from rx);exact PySem.W.kia_tup PySem.W.kitx_bool I.kIn True.intro h1 e (fun z=>nomatch z) h
 | int i=>obtain ⟨t,q⟩:=(show ∃ t,u=Value.int i t from rx);cases q;exact PySem.W.kia_tup PySem.W.kitx_int I.kIn True.intro h1 e (fun z=>nomatch z) h
 | str y=>obtain ⟨t,q⟩:=(show ∃ t,u=Value.str y t from rx);cases q;exact PySem.W.kia_tup PySem.W.kitx_str I.kIn True.intro h1 e (fun z=>nomatch z) h
 | @lst a xs ea =>
  cases (show u=Value.ref a from rx)
  obtain ⟨its,_,⟨o,n,g1,g2,_⟩,_⟩:=I.list ea
  exact PySem.W.kia_tup PySem.W.kitx_list I.kIn ⟨o,g1,g2⟩ h1 e (fun z=>nomatch z) h
 | @tup a xs ea =>
  cases (show u=Value.ref a from rx)
  obtain ⟨its,_,⟨o,g1,g2,_⟩,_⟩:=I.tuple ea
  exact PySem.W.kia_tup PySem.W.kitx_tuple I.kIn ⟨o,g1,g2⟩ h1 e (fun z=>nomatch z) h
def rIsi (K:PySem.W.Frag):List V→Hp→VK→Prop:=fun xs H Q=>∃ x t,BTy K H x t ∧
 ((∃ c,xs=[x,.ty c]∧c∈clNames∧Q (.bl (subT t c)) H)∨∃ c d p,xs=[x,.ref p]∧H p=some (.tup [.ty c,.ty d])∧c∈clNames∧d∈clNames∧Q (.bl (subT t c || subT t d)) H)
theorem call_isi:CallR X (.builtin "isinstance") (rIsi X.K):=by
 intro pins s σ H xs us Q I r h
 obtain ⟨x,t,ty,⟨c,rfl,hc,q⟩ | ⟨c,d,p,rfl,hp,hc,hd,q⟩⟩:=h
 ·obtain ⟨u,v,rfl,r1,r2⟩:=r.two
  cases (show v=Value.type c from r2)
  exact isi_one I r1 ty hc fun tk=>⟨.bl _,H,I.tok _,rfl,q⟩
 ·obtain ⟨u,v,rfl,r1,r2⟩:=r.two
  cases (show v=Value.ref p from r2)
  exact isi_two I r1 ty hp hc hd fun tk=>⟨.bl _,H,I.tok _,rfl,q⟩
theorem pe_ty {x:Str} {T:String} {pos:Pos} (hg:Gl X x) (hm:X.mg x=none) (hv:bootBuiltins x=some (.type T)) (hn:x≠"__name__":=by decide) (hd:(x == ("__debug__":Str))=false:=by decide):PE X (.Name x pos) (tC (.ty T)):=pe_bltn hg hm hv rfl hn hd
theorem boolsAre_of:∀ {bs:List Bool} {us:List Value},Vals (bs.map V.bl) us→LSm.BoolsAre us bs
 | [],_,r=>by
  cases r
  exact .nil
 | b::bs,_,r=>by
  rw [List.map_cons] at r
  cases r with
  | cons r1 r2 =>
   cases (show _=Value.bool b from r1)
   exact .cons b (boolsAre_of r2)
theorem call_allB (hc:X.calm=true):CallR X (.builtin "all") (fun xs H Q=>∃ (a:Addr) (bs:List Bool),xs=[.ref a]∧SqL X.K H a (bs.map V.bl)∧Q (.bl (bs.all id)) H):=by
 intro pins s σ H xs us Q I r h
 obtain ⟨a,bs,rfl,hq,q⟩:=h
 obtain ⟨u,rfl,ru⟩:=r.one
 cases ru
 obtain ⟨its,rv,pl,_⟩:=I.list hq
 have hl:=pl.isList
 have hb:=boolsAre_of rv
 have hlt:a<s.heap.objs.size:=by obtain ⟨_,e,_⟩:=hl;exact Heap.lt_size e
 refine call_all_walk (wpAny_pyIter_list hl ?_)
 refine ⟨s.heap.objs.size,[s.heap.objs.size,a],[s.heap.objs.size],its.toArray.size,_,_,fun i=>(bs[i]?).getD true,rfl,Walks.list (A:=X.A.in1) (I.ok.hd hc) _ a (Nat.ne_of_lt hlt) its.toArray,
  ⟨⟨_,Heap.get?_push_size _ rfl,rfl,rfl⟩,hl.push _⟩,fun i v s' Q' E' hP hQ=>?_,fun h' tk hk=>?_⟩
 ·obtain ⟨b,e,rfl⟩:=hb.get i v (by simpa using hP)
  simp only [e,Option.getD_some] at hQ
  exact wpAny_truthy_bool hQ
 ·have e:((List.range its.toArray.size).all fun i=>(bs[i]?).getD true)=bs.all id:=by
   rw [List.size_toArray,hb.length];exact LSm.range_all bs
  rw [e]
  exact ⟨.bl _,H,I.kept (t':=tk) (LSm.kept_iter hk),rfl,q⟩
end
end L2
namespace PySem
open Sem (wp)
namespace F
theorem owner_rvd:Manifest.owners.lookup (String.ofList ['d','e','s','r','e','v','e','r'].reverse)=some Manifest.sig_reversed:=by kernel_rfl
theorem slot_rvd_next:Slot "reversed" "__next__" "reversed.__next__" :=
 .of (owner:="reversed") (n:="__next__") (by rw [typeLookup_type,builtinLookup_eq_fast];kernel_rfl) (by decide +kernel) (by decide +kernel) (by decide +kernel)
  (by first | exact .inl (by decide +kernel) | exact .inr (by decide +kernel)) (by rw [isSubtype_type];kernel_rfl)
theorem entry_rvd_next:entryFor table "reversed.__next__"=some Builtin.«reversed.__next__»:=entryFor_of_tree (by kernel_rfl)
theorem args_rvd_next_1 (a:Value):argsOk "reversed.__next__" ⟨[a],[]⟩:=by
 unfold argsOk;rw [signature?_of (id:="reversed.__next__") (n:=['_','_','t','x','e','n','_','_']) (o:=['d','e','s','r','e','v','e','r']) (by kernel_rfl) owner_rvd];kernel_rfl
theorem slot_rvd_iter:Slot "reversed" "__iter__" "reversed.__iter__" :=
 .of (owner:="reversed") (n:="__iter__") (by rw [typeLookup_type,builtinLookup_eq_fast];kernel_rfl) (by decide +kernel) (by decide +kernel) (by decide +kernel)
  (by first | exact .inl (by decide +kernel) | exact .inr (by decide +kernel)) (by rw [isSubtype_type];kernel_rfl)
theorem args_rvd_iter_1 (a:Value):argsOk "reversed.__iter__" ⟨[a],[]⟩:=by
 unfold argsOk;rw [signature?_of (id:="reversed.__iter__") (n:=['_','_','r','e','t','i','_','_']) (o:=['d','e','s','r','e','v','e','r']) (by kernel_rfl) owner_rvd];kernel_rfl
theorem entry_rvd_iter:entryFor table "reversed.__iter__"=some Builtin.«dict_keyiterator.__iter__» :=
 entryFor_alias (id':="dict_keyiterator.__iter__") (by kernel_rfl) (by first | rfl | decide +kernel | (unfold String.splitOn;simp +decide [String.splitOnAux])) (by decide +kernel) (by kernel_rfl)
theorem slot_rvd_init:Slot "reversed" "__init__" "object.__init__" :=
 .of (owner:="object") (n:="__init__") (by rw [typeLookup_type,builtinLookup_eq_fast];kernel_rfl) (by decide +kernel) (by decide +kernel) (by decide +kernel)
  (by first | exact .inl (by decide +kernel) | exact .inr (by decide +kernel)) (by rw [isSubtype_type];kernel_rfl)
theorem called_reversed:TypeCalled "reversed" "reversed.__new__" "object.__init__" :=
 ⟨by decide +kernel,by decide +kernel,⟨_,_,mro_reversed⟩,madeBy_type mro_reversed lookup_reversed_new (by decide +kernel),by decide +kernel,by rw [isSubtype_type];kernel_rfl,slot_rvd_init⟩
theorem str_norev:typeLookup (.type "str") "__reversed__"=pure none:=by rw [typeLookup_type,builtinLookup_eq_fast];kernel_rfl
end F
theorem meets_reversed_newS (x:Str) (t:Tok) (hx:¬ (x.length:Int) ≥ 2 ^ 63) :
  Meets (Builtin.«reversed.__new__» ⟨[.type "reversed",.str x t],[]⟩) (fun _ R s=>∀ tk,
   R (.ok (.ret (.ref s.heap.objs.size))) { s with heap:=s.heap.push { cls:=.type "reversed",data:=.fields #[.str x t,rawInt ((x.length:Int) - 1)] },toks:=tk }) :=
 .of_wp fun prog w A R s h=>by
  obtain ⟨hp,g,d,tk,os⟩:=s
  have hsub:=F.sub_reversed_self
  have hnr:=F.str_norev
  have hsd:isSubtype (.type "str") (.type "dict")=pure false:=by rw [isSubtype_type];kernel_rfl
  have hgi:=F.slot_str_getitem.lookup
  unfold Builtin.«reversed.__new__»
  refine wpAny_bind (wpAny_of_eq (newClass_reversed _) ?_)
  dsimp only
  refine wpAny_bind (wpAny_of_eq (a:=()) (by first | rfl | kernel_rfl) ?_)
  refine wpAny_bind (wpAny_of_eq (a:=()) (by first | rfl | kernel_rfl) ?_)
  try dsimp only
  wp_walk using P.len_str
  case hfit=>exact hx
  all_goals
   refine wpAny_bind (m:=asInt? _) (wpAny_of_eq (a:=some (x.length:Int)) rfl ?_)
   dsimp only
   refine wpAny_bind ?_
   show wpAny _ _ (newObj (.type "reversed") (.fields #[Value.str x t,rawInt ((x.length:Int) - 1)])) _ _ _
   exact wpAny_newObj_type (wpAny_pure ⟨_,rfl,h _⟩)
def Heap.IsRvd (h:Heap) (a:Addr) (x:Str) (t:Tok) (i:Int):Prop:=∃ o,h.get? a=some o∧o.cls=.type "reversed"∧o.data=.fields #[.str x t,rawInt i]
section
variable {prog:Program} {w:World} {A:Around} {E:Value→Shared→Prop} {s:Shared}
theorem Heap.IsRvd.typeIs {a:Addr} {x:Str} {t:Tok} {i:Int} (h:s.heap.IsRvd a x t i):s.TypeIs (.ref a) "reversed":=let ⟨o,ho,hc,_⟩:=h;⟨o,ho,hc⟩
theorem call_reversed_str {x:Str} {t:Tok} {Q:Value→Shared→Prop} (hx:¬ (x.length:Int) ≥ 2 ^ 63)
  (h:∀ tk,Q (.ref s.heap.objs.size) { s with heap:=s.heap.push { cls:=.type "reversed",data:=.fields #[.str x t,rawInt ((x.length:Int) - 1)] },toks:=tk }):wpAny (model prog w) A (call (.type "reversed") [.str x t]) Q E s :=
 callType_new F.called_reversed (by decide) (F.typeCall_reversed_1 _) (F.newCall_reversed_1 _) (fun obj=>F.args_object_init_2 obj _) F.entry_reversed_new (meets_reversed_newS x t hx) fun tk=>⟨⟨_,Heap.get?_push_size _ rfl,rfl⟩,h tk⟩
theorem wpAny_pyIter_rvd {it:Addr} {x:Str} {t:Tok} {i:Int} {Q:Value→Shared→Prop} (hit:s.heap.IsRvd it x t i) (h:Q (.ref it) s):wpAny (model prog w) A (pyIter (.ref it)) Q E s:=by
 refine wpAny_pyIter_slot hit.typeIs F.slot_rvd_iter (wpAny_call_entry F.slot_rvd_iter hit.typeIs F.entry_rvd_iter ?_ (F.args_rvd_iter_1 _))
 show wpAny _ _ (ret (.ref it)) _ _ s
 exact wpAny_pure ⟨_,rfl,"reversed",_,hit.typeIs,F.slot_rvd_next.lookup,h⟩
theorem wpAny_pyNext_rvd_item {it:Addr} {x:Str} {t:Tok} {i c:Nat} {Q:Option Value→Shared→Prop} (hit:s.heap.IsRvd it x t (i:Int)) (hc:x.cps[i]?=some c) (hx:(x.length:Int)<2 ^ 63)
  (hQ:∀ h' tk u,h'.IsRvd it x t ((i:Int) - 1)→Heap.SameBut it s.heap h'→Q (some (.str ⟨#[c]⟩ u)) { s with heap:=h',toks:=tk }):wpAny (model prog w) A (pyNext (.ref it)) Q E s:=by
 obtain ⟨o,ho,hcl,hd⟩:=id hit
 have hi:i<x.length:=by
  have:=(Array.getElem?_eq_some_iff.mp hc).1
  exact this
 unfold pyNext
 refine wpAny_bind (wpAny_attempt (wpAny_callSpecial?_slot (name:=Str.ofString "__next__") hit.typeIs F.slot_rvd_next
  (wpAny_call_entry F.slot_rvd_next hit.typeIs F.entry_rvd_next ?_ (F.args_rvd_next_1 _))))
 unfold Builtin.«reversed.__next__»
 refine wpAny_bind (wpAny_of_eq (a:=(Value.ref it,[])) rfl ?_)
 try dsimp only
 refine wpAny_bind (wpAny_field ho hd (x:=.str x t) rfl ?_)
 refine wpAny_bind (wpAny_field ho hd (x:=rawInt (i:Int)) rfl ?_)
 show wpAny _ _ (if (i:Int)<0 then _ else _) _ _ s
 rw [if_neg (by omega)]
 have hgi:=F.slot_str_getitem.lookup
 refine wpAny_bind (wpAny_specialOf (T:="str") (typeIs_str _ _ _) hgi ?_)
 show wpAny _ _ (if (some (Value.builtin "str.__getitem__")).isNone=true then _ else _) _ _ _
 rw [if_neg (by simp)]
 refine wpAny_bind (m:=mkInt _) (wpAny_mkInt ?_)
 refine wpAny_bind (wpAny_attempt (P.getItem_str (c:=c) (by
  have e1:decide ((i:Int) < -(2 ^ 63:Int))=false:=decide_eq_false (by omega)
  have e2:decide ((i:Int) ≥ 2 ^ 63)=false:=decide_eq_false (by omega)
  rw [e1,e2,Bool.or_false]) (by rw [seqIndex_of (by omega) (by omega)];simpa using hc) ?_))
 dsimp only
 refine wpAny_bind (wpAny_field ho hd (x:=rawInt (i:Int)) rfl ?_)
 refine wpAny_bind (wpAny_setField ho hd (by simp) ?_)
 refine wpAny_pure ⟨_,rfl,wpAny_pure (hQ _ _ _ ?_ (Heap.SameBut.update ..))⟩
 exact ⟨_,Heap.get?_update_self _ ho (Obj.isFreed_of_fields (Obj.data_mapFields hd _)),(Obj.cls_mapFields ..).trans hcl,by
  rw [Obj.data_mapFields hd];simp⟩
theorem wpAny_pyNext_rvd_end {it:Addr} {x:Str} {t:Tok} {Q:Option Value→Shared→Prop} (hh:A.handled=none) (hit:s.heap.IsRvd it x t (-1))
  (hQ:∀ h',Heap.ExtBut it s.heap h'→Q none { s with heap:=h' }):wpAny (model prog w) A (pyNext (.ref it)) Q E s:=by
 obtain ⟨o,ho,hcl,hd⟩:=id hit
 unfold pyNext
 refine wpAny_bind (wpAny_attempt (wpAny_callSpecial?_slot (name:=Str.ofString "__next__") hit.typeIs F.slot_rvd_next
  (wpAny_call_entry F.slot_rvd_next hit.typeIs F.entry_rvd_next ?_ (F.args_rvd_next_1 _))))
 unfold Builtin.«reversed.__next__»
 refine wpAny_bind (wpAny_of_eq (a:=(Value.ref it,[])) rfl ?_)
 try dsimp only
 refine wpAny_bind (wpAny_field ho hd (x:=.str x t) rfl ?_)
 refine wpAny_bind (wpAny_field ho hd (x:=rawInt (-1)) rfl ?_)
 show wpAny _ _ (if (-1:Int)<0 then _ else _) _ _ s
 rw [if_pos (by decide)]
 refine wpAny_bind (wpAny_rule ?_)
 refine wpAny_bind ?_
 show wpAny _ _ (setField (.ref it) 1 (rawInt (-1)) >>= fun _=>setField (.ref it) 0 .none) _ _ _
 refine wpAny_bind (wpAny_setField ho hd (by simp) ?_)
 have ho':(s.heap.update it (Obj.mapFields fun xs=>xs.setIfInBounds 1 (rawInt (-1)))).get? it=some _:=Heap.get?_update_self _ ho (Obj.isFreed_of_fields (Obj.data_mapFields hd (fun xs=>xs.setIfInBounds 1 (rawInt (-1)))))
 have hd':=Obj.data_mapFields hd (fun xs=>xs.setIfInBounds 1 (rawInt (-1)))
 refine wpAny_setField (s:={ s with heap:=s.heap.update it (Obj.mapFields fun xs=>xs.setIfInBounds 1 (rawInt (-1))) }) ho' hd' (by simp) ?_
 have eb:Heap.ExtBut it s.heap ((s.heap.update it (Obj.mapFields fun xs=>xs.setIfInBounds 1 (rawInt (-1)))).update it (Obj.mapFields fun xs=>xs.setIfInBounds 0 .none)):=fun b ob hb e =>
  (Heap.get?_update_other _ _ (Ne.symm hb)).trans ((Heap.get?_update_other _ _ (Ne.symm hb)).trans e)
 refine wpAny_bind ?_
 show wpAny _ _ (newExc (.type "StopIteration") [] >>= _) _ _ _
 refine wpAny_bind ?_
 simp only [newExc,newTuple]
 refine wpAny_bind (wpAny_newObj_type ?_ (by size_fits))
 refine wpAny_bind (m:=firstArgMember _ _) (wpAny_of_eq (a:=Value.none) (by first | rfl | (simp only [firstArgMember];rfl)) ?_)
 refine wpAny_newObj_type ?_ (by size_fits)
 simp only [raiseNew]
 refine wpAny_bind (wpAny_handled ?_)
 first | rw [show A.in1.handled=none from hh] | rw [hh]
 refine wpAny_bind (wpAny_pure (wpAny_throw ?_))
 refine wpAny_bind (wpAny_isInstance (T:="StopIteration") (b:=true) ⟨_,Heap.get?_push_size _ rfl,rfl⟩ isSubtype_stop ?_)
 exact wpAny_pure (hQ _ ((eb.push _).push _))
end
end PySem
namespace L2
open PySem PySem.Spec PyProof.Rows
def Itv (x:Str):It:=⟨fun i _=>i<x.cps.size,fun i H v H'=>H'=H∧∃ c,x.cps[x.cps.size - 1 - i]?=some c∧v=.str ⟨#[c]⟩,fun i _=>i=x.cps.size⟩
theorem turn_rvd {P:Program} {w:World} {K:PySem.W.Frag} {tg:Expr} (x:Str) (t:Tok) (it:Addr) (hx:(x.length:Int)<2 ^ 63):Turn P w K tg (Itv x) [it] it (fun i h=>i≤x.cps.size∧h.IsRvd it x t ((x.cps.size:Int) - 1 - (i:Int))) where
 mem:=by simp
 obj:=fun i h st b hb=>by
  have e:b=it:=by simpa using hb
  subst e
  obtain ⟨_,o,e,c,d⟩:=st
  exact ⟨o,e,fun v z=>by rw [d] at z;cases z⟩
 keep:=fun i h h' st k=>by
  obtain ⟨hi,o,e,r⟩:=st
  exact ⟨hi,o,k it (by simp) o e,r⟩
 item:=by
  intro X hP hw hK hc i pins s σ H E I hf st hg
  subst hP hw hK
  obtain ⟨f0,f1,f2,f3,f4,f5⟩:=hf it (by simp)
  obtain ⟨hi,st⟩:=st
  have hg':i<x.cps.size:=hg
  have e1:(x.cps.size:Int) - 1 - (i:Int)=((x.cps.size - 1 - i:Nat):Int):=by omega
  rw [e1] at st
  have hcx:x.cps[x.cps.size - 1 - i]?=some (x.cps[x.cps.size - 1 - i]'(by omega)):=Array.getElem?_eq_getElem (by omega)
  refine wpAny_pyNext_rvd_item st hcx hx fun h' tk u st' sb=>?_
  have e2:((x.cps.size - 1 - i:Nat):Int) - 1=(x.cps.size:Int) - 1 - ((i+1:Nat):Int):=by omega
  rw [e2] at st'
  have I1:Inv X pins σ H { s with heap:=h',toks:=tk }:=I.turned (fun b o hb e=>(sb.2 b hb).trans e) f0 f1 f3 f4 f5
  obtain ⟨o,e,c,d⟩:=id st'
  exact ⟨_,rfl,go_of (s:={ s with heap:=h',toks:=tk }) e c d (by decide) ⟨.str ⟨#[_]⟩,H,I1,⟨u,rfl⟩,⟨rfl,_,hcx,rfl⟩,⟨hg',st'⟩,fun b hb=>(hf b hb).1⟩⟩
 done:=by
  intro X hP hw hK hc i pins s σ H E I hf st hg
  subst hP hw hK
  obtain ⟨f0,f1,f2,f3,f4,f5⟩:=hf it (by simp)
  have hi:i=x.cps.size:=hg
  subst hi
  have e1:(x.cps.size:Int) - 1 - ((x.cps.size:Nat):Int)=-1:=by omega
  have st':=st.2
  rw [e1] at st'
  exact wpAny_pyNext_rvd_end (I.ok.hd hc) st' fun h' eb=>⟨rfl,I.turned (t':=s.toks) (fun b o hb e=>eb b o hb e) f0 f1 f3 f4 f5⟩
 self:=fun A i s Q E st h=>wpAny_pyIter_rvd st.2 h
section
variable {X:Cx} {tg:Expr}
def iRev (ta:TA):TI:=fun σ H R=>ta σ H fun vs H1=>∃ z:Str,vs=[.str z]∧z.length≤1000∧R (Itv z) H1
theorem pi_rev {a:Expr} {ta:TA} {p pos:Pos} (hg:Gl X "reversed") (hm:X.mg "reversed"=none) (ha:PA X [a] ta) (hs:starEach [a] X.env=[(false,eval a X.env)]:=by rfl):PI X tg (.Call (.Name "reversed" p) [a] [] pos) (iRev ta):=by
 intro pins s σ H R I h
 refine Call_ (ld_blt I hg hm boot_reversed (PyProof.Rows.callWith_type1 (thn (ha pos pins s σ H _ I h) fun us s1 ⟨vs,H1,I1,r1,q1⟩=>?_) hs rfl))
 obtain ⟨z,e,hz,q⟩:=q1
 subst e
 obtain ⟨u,rfl,ru⟩:=r1.one
 obtain ⟨t,rfl⟩:=ru
 refine call_reversed_str (by omega) fun tk=>?_
 have I2:Inv X pins σ H1 { s1 with heap:=s1.heap.push { cls:=.type "reversed",data:=.fields #[.str z t,rawInt ((z.length:Int) - 1)] },toks:=tk }:=I1.kept fun b o e=>Heap.get?_push_of_some _ e
 have st:(s1.heap.push { cls:=.type "reversed",data:=.fields #[.str z t,rawInt ((z.length:Int) - 1)] }).IsRvd s1.heap.objs.size z t ((z.length:Int) - 1):=⟨_,Heap.get?_push_size _ rfl,rfl,rfl⟩
 refine wpAny_pyIter_rvd st ?_
 refine ⟨s1.heap.objs.size,[s1.heap.objs.size],_,_,H1,rfl,I2,turn_rvd z t _ (by omega),⟨Nat.zero_le _,?_⟩,fun b hb=>?_,q⟩
 ·have e0:(z.cps.size:Int) - 1 - ((0:Nat):Int)=(z.length:Int) - 1:=by show (z.cps.size:Int) - 1 - ((0:Nat):Int)=(z.cps.size:Int) - 1;omega
  rw [e0];exact st
 ·have e:b=s1.heap.objs.size:=by simpa using hb
  subst e
  exact I1.fpOk (Nat.le_refl _) (I1.hok.fresh (Nat.le_refl _))
end
theorem comp_revIf {w:List Nat} {D:Addr} {Q:VK} {ti:TT} {te:TE} {c:St} {H0:Hp} (Pv:Nat→Hp→Prop) (h0:Pv 0 H0)
  (hs:∀ i k H,w.reverse[i]?=some k→Pv i H→ti (some (.str (S [k]))::c) H fun b H1=>if b=true then te (some (.str (S [k]))::c) H1 fun y H2=>∃ ys,H2 D=some (.lst ys)∧ys.length<sizeLine∧Pv (i+1) (upd H2 D (.lst (ys++[y]))) else Pv (i+1) H1) (hd:∀ H,Pv w.length H→Q (.ref D) H) :
  compGo (Itv (S w)) D Q ti te c H0:=by
 refine ⟨fun i m H'=>m=w.length - i∧i≤w.length∧Pv i H',⟨w.length,by simp,Nat.zero_le _,h0⟩,?_⟩
 rintro i m H' ⟨rfl,hi,p⟩
 by_cases hlt:i<w.length
 ·refine .inr ⟨by simpa [Itv] using hlt,Pv (i+1),fun H'' p=>⟨w.length - (i+1),by omega,rfl,hlt,p⟩,fun v H2 y=>?_⟩
  obtain ⟨e,k,hk,rfl⟩:=y
  subst e
  refine hs i k H2 ?_ p
  rw [List.getElem?_reverse hlt]
  simpa using hk
 ·have e:i=w.length:=by omega
  subst e
  exact .inl ⟨by simp [Itv],hd H' p⟩
def eqVs:List V→List V→Bool
 | [],[]=>true
 | x::xs,y::ys=>eqV x y && eqVs xs ys
 | _,_=>false
theorem eqVs_len:∀ {xs ys:List V},xs.length≠ys.length→eqVs xs ys=false
 | [],[],h=>absurd rfl h
 | [],_::_,_=>rfl
 | _::_,[],_=>rfl
 | x::xs,y::ys,h=>by unfold eqVs;rw [eqVs_len (by simpa using h),Bool.and_false]
theorem range_succ_all (n:Nat) (e:Nat→Bool):(List.range (n+1)).all e=(e 0 && (List.range n).all fun i=>e (i+1)):=by
 rw [List.range_succ_eq_map,List.all_cons,List.all_map];rfl
theorem eqVs_range:∀ {xs ys:List V},xs.length=ys.length→(List.range xs.length).all (fun i=>match xs[i]?,ys[i]? with | some x,some y=>eqV x y | _,_=>true)=eqVs xs ys
 | [],[],_=>rfl
 | [],_::_,h=>by simp at h
 | _::_,[],h=>by simp at h
 | x::xs,y::ys,h=>by
  have h':xs.length=ys.length:=by simpa using h
  rw [List.length_cons,range_succ_all]
  unfold eqVs
  rw [← eqVs_range h']
  simp
section
variable {X:Cx}
theorem pairs_eq {A:Around} {s:Shared} {xs ys:List V} {us vs:List Value} (rx:Vals xs us) (ry:Vals ys vs) (fx:xs.all flatV=true) (fy:ys.all flatV=true) :
  ∀ (j:Nat) (h1:j<us.toArray.size) (h2:j<vs.toArray.size),SeqAt.EqAt A s us.toArray[j] vs.toArray[j] (match xs[j]?,ys[j]? with | some x,some y=>eqV x y | _,_=>true):=fun j h1 h2=>by
 have hx:j<xs.length:=by rw [rx.length];simpa using h1
 have hy:j<ys.length:=by rw [ry.length];simpa using h2
 obtain ⟨u,hu,ru⟩:=rx.get (List.getElem?_eq_getElem hx)
 obtain ⟨v,hv,rv⟩:=ry.get (List.getElem?_eq_getElem hy)
 have eu:us.toArray[j]=u:=by
  have:us[j]?=some us.toArray[j]:=by rw [List.getElem?_eq_getElem (by simpa using h1)];simp
  rw [hu] at this;exact (Option.some.inj this).symm
 have ev:vs.toArray[j]=v:=by
  have:vs[j]?=some vs.toArray[j]:=by rw [List.getElem?_eq_getElem (by simpa using h2)];simp
  rw [hv] at this;exact (Option.some.inj this).symm
 rw [eu,ev,List.getElem?_eq_getElem hx,List.getElem?_eq_getElem hy]
 exact eqAt_V ru rv (List.all_eq_true.mp fx _ (List.getElem_mem hx)) (List.all_eq_true.mp fy _ (List.getElem_mem hy))
def rEqL (K:PySem.W.Frag) (neg:Bool):R2:=fun x y H Q=>∃ a b xs ys,x=.ref a∧y=.ref b∧((SqL K H a xs∧SqL K H b ys)∨(SqT K H a xs∧SqT K H b ys))∧xs.all flatV=true∧ys.all flatV=true∧Q (.bl (if neg then !eqVs xs ys else eqVs xs ys)) H
theorem op_eqL (hu:X.A.units<cLine):OpR X (compareOp .Eq) (rEqL X.K false):=by
 intro pins s σ H x y v u Q I rx ry h
 obtain ⟨a,b,xs,ys,rfl,rfl,hq,fx,fy,q⟩:=h
 cases rx
 cases ry
 rcases hq with ⟨ha,hb⟩ | ⟨ha,hb⟩
 ·obtain ⟨us,r1,p1,_⟩:=I.list ha
  obtain ⟨vs,r2,p2,_⟩:=I.list hb
  by_cases hl:xs.length=ys.length
  ·refine SeqAt.eq_listAt p1.isList p2.isList (by simp;rw [← r1.length,← r2.length];exact hl) hu (pairs_eq r1 r2 fx fy) ?_
   rw [List.size_toArray,← r1.length,eqVs_range hl]
   exact ⟨.bl _,H,I,rfl,q⟩
  ·refine SeqAt.eq_list_lengthsAt p1.isList p2.isList (by simp;rw [← r1.length,← r2.length];exact hl) hu ?_
   rw [eqVs_len hl] at q
   exact ⟨.bl _,H,I,rfl,q⟩
 ·obtain ⟨us,r1,p1,_⟩:=I.tuple ha
  obtain ⟨vs,r2,p2,_⟩:=I.tuple hb
  refine SeqAt.eq_tupleAt (show s.heap.IsTuple a us.toArray from p1) (show s.heap.IsTuple b vs.toArray from p2) hu (pairs_eq r1 r2 fx fy) ?_
  refine ⟨.bl _,H,I,rfl,?_⟩
  have e:((List.range (min us.toArray.size vs.toArray.size)).all (fun i=>match xs[i]?,ys[i]? with | some x,some y=>eqV x y | _,_=>true) && us.toArray.size == vs.toArray.size)=eqVs xs ys:=by
   rw [List.size_toArray,List.size_toArray,← r1.length,← r2.length]
   by_cases hl:xs.length=ys.length
   ·rw [← hl,Nat.min_self,eqVs_range hl];simp
   ·rw [eqVs_len hl];simp [hl]
  rw [e]
  exact q
theorem call_listStr (hc:X.calm=true):CallR X (.type "list") (fun xs H Q=>∃ w:List Nat,xs=[.str (S w)]∧w.length≤1000∧∀ l,H l=none→Q (.ref l) (upd H l (.lst (w.map fun c=>V.str (S [c]))))):=by
 intro pins s σ H xs us Q I r h
 obtain ⟨w,rfl,hz,q⟩:=h
 obtain ⟨u,rfl,ru⟩:=r.one
 obtain ⟨t,rfl⟩:=ru
 have hz2:w.length≤sizeLine:=Nat.le_of_lt (small1000 hz)
 refine call_list_str (I.ok.hd hc) (S w) t (fun h' tk acc c hk hl hit=>?_) (by simpa using hz2)
 have hv:Vals (w.map fun c=>V.str (S [c])) acc.toList:=by
  have hn:acc.size=w.length:=by simpa using hit.1
  have:∀ (n:Nat) (w:List Nat) (l:List Value),w.length=n→l.length=n→(∀ (j:Nat) (v:Value),l[j]?=some v→∃ (c:Nat) (u:Tok),w[j]?=some c∧v=Value.str ⟨#[c]⟩ u)→Vals (w.map fun c=>V.str (S [c])) l:=by
   intro n
   induction n with
   | zero =>
    intro w l h1 h2 _
    have e1:=List.length_eq_zero_iff.mp h1
    have e2:=List.length_eq_zero_iff.mp h2
    subst e1 e2
    exact .nil
   | succ n ih =>
    intro w l h1 h2 h3
    cases w with
    | nil=>simp at h1
    | cons c w =>
     cases l with
     | nil=>simp at h2
     | cons v l =>
      obtain ⟨c',u,hc',rfl⟩:=h3 0 v rfl
      have hc'':c=c':=by simpa using hc'
      subst hc''
      exact .cons ⟨u,rfl⟩ (ih w l (by simpa using h1) (by simpa using h2) fun j v hv=>by simpa using h3 (j+1) v (by simpa using hv))
  refine this w.length w acc.toList rfl (by simpa using hn) fun j v hv=>?_
  obtain ⟨c,u,hc,hv'⟩:=hit.2 j v (by simpa using hv)
  exact ⟨c,u,by simpa using hc,hv'⟩
 refine ⟨.ref s.heap.objs.size,_,I.laid (t':=tk) (o:=.lst (w.map fun c=>V.str (S [c]))) hk (Nat.le_refl _) ⟨by rw [List.length_map];exact hz2,acc.toList,c,hv,?_⟩,rfl,q _ I.fresh⟩
 simpa using hl
end
def compChk (sc0 scope:Scope) (N:List Str) (x:Str) (ix:List Nat):Bool :=
 decide (scope.kind=.function) && scope.names.all (fun y=>decide (y.2≠.cell)) && scope.names.all (fun y=>decide (y.2=.local→scope.names.lookup y.1=some .local)) && decide (scope.names.lookup x=some .local) &&
 scope.names.all (fun y=>decide (y.2=.free→sc0.names.lookup y.1=some .cell∨sc0.names.lookup y.1=some .free)) && ix.all (fun i=>decide (i<N.length) && decide (scope.names.lookup (N.getD i "")=some .free)) && decide ((x::ix.map fun i=>N.getD i "").Nodup)
theorem compSc_of {X:Cx} {sc0 scope:Scope} {N:List Str} {x:Str} {ix:List Nat} (h:compChk sc0 scope N x ix=true) (e1:X.env.scope=sc0) (e2:X.N=N):CompSc X scope x ix∧(compN X x ix).Nodup:=by
 subst e1 e2
 simp only [compChk,Bool.and_eq_true,List.all_eq_true,decide_eq_true_eq] at h
 obtain ⟨⟨⟨⟨⟨⟨h1,h2⟩,h3⟩,h4⟩,h5⟩,h6⟩,h7⟩:=h
 exact ⟨⟨h1,h2,h3,h4,h5,h6⟩,h7⟩
section
variable {prog:Program} {w:World} {A:Around} {E:Value→Shared→Prop} {s:Shared}
theorem draw_list {it t:Addr} {items:Array Value} (hne:t≠it):∀ (n i:Nat) (s:Shared) (Q:List Value→Shared→Prop),s.heap.IsListIter it t i→s.heap.IsList t items→i+n≤items.size →
  (∀ h',h'.IsListIter it t (i+n)→Heap.SameBut it s.heap h'→Q ((items.toList.drop i).take n) { s with heap:=h' })→wpAny (model prog w) A (draw (.ref it) n) Q E s
 | 0,i,s,Q,hit,_,_,hQ=>by
  show wpAny _ _ (pure []) Q E s
  exact wpAny_pure (by simpa using hQ s.heap hit (Heap.SameBut.refl ..))
 | n+1,i,s,Q,hit,ht,hle,hQ=>by
  have hlt:i<items.size:=by omega
  show wpAny _ _ (pyNext (.ref it) >>= _) Q E s
  refine wpAny_bind (wpAny_pyNext_list_item hit ht (x:=items[i]) (by simp [hlt]) fun h₁ hit₁ hs₁=>?_)
  refine wpAny_bind (wpAny_holding (draw_list hne n (i+1) _ _ hit₁ (ht.extBut hs₁.extBut hne) (by omega) fun h₂ hit₂ hs₂=>wpAny_pure ?_))
  have hd:items.toList.drop i=items[i]::items.toList.drop (i+1):=by simp [List.drop_eq_getElem_cons,hlt]
  have:=hQ h₂ (by rw [show i+(n+1)=i+1+n by omega];exact hit₂) (hs₁.trans hs₂)
  rw [hd,List.take_succ_cons] at this
  exact this
theorem unpackItems_list {t:Addr} {items:Array Value} {Q:List Value→Shared→Prop} (hh:A.handled=none) (ht:s.heap.IsList t items)
  (hQ:∀ h',Heap.ExtBut s.heap.objs.size s.heap h'→Q items.toList { s with heap:=h' }):wpAny (model prog w) A (unpackItems (.ref t) items.size none) Q E s:=by
 have hlt:t≠s.heap.objs.size:=by obtain ⟨o,ho,_⟩:=ht;exact Nat.ne_of_lt (Heap.lt_size ho)
 unfold unpackItems
 refine wpAny_bind ?_
 ·unfold notIterableAtAll
  refine wpAny_bind (wpAny_specialOf ht.typeIs slot_list_iter.lookup ?_)
  refine wpAny_pure ?_
  simp only [Bool.false_eq_true,if_false]
  refine wpAny_bind (wpAny_holding (wpAny_pyIter_list ht ?_))
  refine wpAny_bind (wpAny_holding (draw_list hlt items.size 0 _ _ ⟨_,Heap.get?_push_size _ rfl,rfl,rfl⟩ (ht.push _) (by omega) fun h₁ hit₁ hs₁=>?_))
  have hall:List.take items.size (List.drop 0 items.toList)=items.toList:=by
   rw [List.drop_zero];exact List.take_of_length_le (by simp)
  rw [hall]
  rw [if_neg (by simp)]
  have ht₁:h₁.IsList t items:=(ht.push _).extBut hs₁.extBut hlt
  refine wpAny_bind (wpAny_holding (wpAny_pyNext_list_end hh hit₁ ht₁ (by simp) fun h₂ he₂=>?_))
  simp only [Option.isSome_none,Bool.false_eq_true,if_false]
  refine wpAny_pure (hQ h₂ fun b o hb e=>he₂ b o hb (hs₁.extBut b o hb (Heap.get?_push_of_some _ e)))
theorem assign_Tuple_list {env:Env} {elts:List Expr} {x1} {pos:Pos} {t:Addr} {items:Array Value} {Q:Unit→Shared→Prop} (hh:A.handled=none) (ht:s.heap.IsList t items)
  (hn:(assignEach elts env).length=items.size) (hstar:(assignEach elts env).findIdx? (·.1)=none)
  (h:∀ h',Heap.ExtBut s.heap.objs.size s.heap h'→wpAny (model prog w) A (assignInOrder ((assignEach elts env).map (·.2)) items.toList) Q E { s with heap:=h' }) :
  wpAny (model prog w) A (assign (.Tuple elts x1 pos) env (.ref t)) Q E s:=by
 rw [assign_Tuple]
 refine wpAny_bind (wpAny_standAt ?_)
 unfold unpack
 rw [hn,hstar]
 exact wpAny_bind (wpAny_holding (unpackItems_list hh ht h))
end
section
variable {X:Cx} {pos:Pos} {K:PySem.W.Frag}
def gSeq (K:PySem.W.Frag) (n:Nat) (t:TGs):TG:=fun v σ H Q=>∃ a xs,v=.ref a∧(SqL K H a xs∨SqT K H a xs)∧xs.length=n∧t xs σ H Q
theorem pg_seq {es:List Expr} {k:Nat} {t:TGs} {n:Nat} (hK:X.K=K) (hc:X.calm=true) (h:PGs X es t)
  (hn:(assignEach es X.env).length=n:=by rfl) (hst:(assignEach es X.env).findIdx? (·.1)=none:=by rfl):PG X (.Tuple es k pos) (gSeq K n t):=by
 subst hK
 intro pins s σ H v u Q I r hw
 obtain ⟨a,xs,e1,hq,hl,hw⟩:=hw
 subst e1
 cases r
 rcases hq with hq | hq
 ·obtain ⟨its,rv,ht,hz⟩:=I.list hq
  refine assign_Tuple_list (I.ok.hd hc) ht.isList (by simp [hn,← hl,rv.length]) hst fun h' hx=>?_
  have I1:Inv X pins σ H { s with heap:=h' }:=I.kept (t':=s.toks) fun b o e=>hx b o (Nat.ne_of_lt (Heap.lt_size e)) e
  exact h pins _ σ H xs _ Q I1 (by simpa using rv) hw
 ·obtain ⟨its,rv,ht,hz⟩:=I.tuple hq
  refine assign_Tuple_tuple (I.ok.hd hc) ht (by simp [hn,← hl,rv.length]) hst fun h' hx=>?_
  have I1:Inv X pins σ H { s with heap:=h' }:=I.kept (t':=s.toks) fun b o e=>hx b o (Nat.ne_of_lt (Heap.lt_size e)) e
  exact h pins _ σ H xs _ Q I1 (by simpa using rv) hw
end
end L2
namespace Ma
def con (c:Nat):Nat:=if 96<c then c - 32 else c+32
def isL (c:Nat):Prop:=(97≤c∧c≤100)∨(65≤c∧c≤68)
instance (c:Nat):Decidable (isL c):=by unfold isL;infer_instance
theorem con_con {c:Nat} (h:isL c):con (con c)=c:=by unfold con;unfold isL at h;split <;> split <;> omega
theorem isL_con {c:Nat} (h:isL c):isL (con c):=by unfold con;unfold isL at *;split <;> omega
theorem con_inj {a b:Nat} (ha:isL a) (hb:isL b) (h:con a=con b):a=b:=by rw [← con_con ha,← con_con hb,h]
theorem con_ne {c:Nat} (h:isL c):con c≠c:=by unfold con;unfold isL at h;split <;> omega
def push (k:List Nat) (c:Nat):List Nat:=match k with
 | []=>[c]
 | x::r=>if x=con c then r else c::x::r
def PlainR:List Nat→Prop
 | []=>True
 | [_]=>True
 | a::b::r=>b≠con a∧PlainR (b::r)
def AllL (w:List Nat):Prop:=∀ c∈w,isL c
def act (k:List Nat) (w:List Nat):List Nat:=w.foldl push k
def lay (w:List Nat):List Nat:=(act [] w).reverse
def Plain (w:List Nat):Prop:=PlainR w.reverse
def back (w:List Nat):List Nat:=(w.map con).reverse
theorem AllL.cons {c:Nat} {w:List Nat}:AllL (c::w)↔isL c∧AllL w:=by unfold AllL;simp
theorem AllL.nil:AllL []:=by unfold AllL;simp
theorem AllL.app {u w:List Nat}:AllL (u++w)↔AllL u∧AllL w:=by
 unfold AllL;constructor
 ·intro h;exact ⟨fun c hc=>h c (List.mem_append_left _ hc),fun c hc=>h c (List.mem_append_right _ hc)⟩
 ·rintro ⟨h1,h2⟩ c hc;rcases List.mem_append.mp hc with h | h;exact h1 c h;exact h2 c h
theorem AllL.rev {w:List Nat}:AllL w.reverse↔AllL w:=by unfold AllL;simp
theorem PlainR.tail {a:Nat} {r:List Nat} (h:PlainR (a::r)):PlainR r:=by
 cases r with
 | nil=>trivial
 | cons b r=>exact h.2
theorem push_plain {k:List Nat} {c:Nat} (hk:PlainR k):PlainR (push k c):=by
 cases k with
 | nil=>trivial
 | cons x r =>
  unfold push
  dsimp only
  split
  ·exact hk.tail
  ·rename_i h;exact ⟨h,hk⟩
theorem push_all {k:List Nat} {c:Nat} (hk:AllL k) (hc:isL c):AllL (push k c):=by
 cases k with
 | nil=>exact AllL.cons.mpr ⟨hc,hk⟩
 | cons x r =>
  unfold push
  dsimp only
  split
  ·exact (AllL.cons.mp hk).2
  ·exact AllL.cons.mpr ⟨hc,hk⟩
theorem act_plain:∀ {w k:List Nat},PlainR k→PlainR (act k w)
 | [],_,h=>h
 | c::w,k,h=>act_plain (w:=w) (push_plain h)
theorem act_all:∀ {w k:List Nat},AllL k→AllL w→AllL (act k w)
 | [],_,h,_=>h
 | c::w,k,h,hw=>act_all (w:=w) (push_all h (AllL.cons.mp hw).1) (AllL.cons.mp hw).2
theorem act_app (k u w:List Nat):act k (u++w)=act (act k u) w:=by unfold act;rw [List.foldl_append]
theorem act_snoc (k u:List Nat) (c:Nat):act k (u++[c])=push (act k u) c:=by rw [act_app];rfl
theorem act_cons (k w:List Nat) (c:Nat):act k (c::w)=act (push k c) w:=rfl
theorem push_push {k:List Nat} {c:Nat} (hk:PlainR k) (ha:AllL k) (hc:isL c):push (push k c) (con c)=k:=by
 cases k with
 | nil =>
  show (if c=con (con c) then [] else _)=[]
  rw [if_pos (con_con hc).symm]
 | cons x r =>
  have hx:isL x:=(AllL.cons.mp ha).1
  by_cases e:x=con c
  ·have e1:push (x::r) c=r:=by unfold push;dsimp only;rw [if_pos e]
   rw [e1]
   cases r with
   | nil=>unfold push;dsimp only;rw [e]
   | cons y r =>
    have h1:y≠con x:=hk.1
    unfold push
    dsimp only
    rw [if_neg (by rw [← e];exact h1),e]
  ·have e1:push (x::r) c=c::x::r:=by unfold push;dsimp only;rw [if_neg e]
   rw [e1]
   unfold push
   dsimp only
   rw [if_pos (con_con hc).symm]
theorem lay_all {w:List Nat} (h:AllL w):AllL (lay w):=AllL.rev.mpr (act_all AllL.nil h)
theorem lay_plain (w:List Nat):Plain (lay w):=by unfold Plain lay;rw [List.reverse_reverse];exact act_plain trivial
theorem push_len (k:List Nat) (c:Nat):(push k c).length≤k.length+1:=by
 cases k with
 | nil=>simp [push]
 | cons x r =>
  unfold push
  dsimp only
  split
  ·simp;omega
  ·simp
theorem act_len:∀ (w k:List Nat),(act k w).length≤k.length+w.length
 | [],k=>by simp [act]
 | c::w,k=>by
  have h1:=act_len w (push k c)
  have h2:=push_len k c
  rw [act_cons,List.length_cons]
  omega
theorem lay_len (w:List Nat):(lay w).length≤w.length:=by
 unfold lay;rw [List.length_reverse];have:=act_len w [];simpa using this
theorem lay_cut (u v:List Nat) {a b:Nat} (hu:AllL u) (hb:isL b) (e:a=con b):lay (u++a::b::v)=lay (u++v):=by
 unfold lay
 have ha:isL a:=by rw [e];exact isL_con hb
 rw [act_app,act_cons,act_cons,act_app]
 have e2:b=con a:=by rw [e,con_con hb]
 rw [e2,push_push (act_plain (k:=[]) trivial) (act_all AllL.nil hu) ha]
theorem act_plain_id:∀ (w k:List Nat),PlainR (w.reverse++k)→act k w=w.reverse++k
 | [],k,_=>rfl
 | c::w,k,h=>by
  have h0:PlainR (w.reverse++(c::k)):=by simpa using h
  have e:push k c=c::k:=by
   cases k with
   | nil=>rfl
   | cons x r =>
    have h1:x≠con c:=by
     have:∀ (l:List Nat),PlainR (l++(c::x::r))→x≠con c:=by
      intro l
      induction l with
      | nil=>intro h;exact h.1
      | cons y l ih =>
       intro h
       exact ih (PlainR.tail h)
     exact this _ h0
    unfold push
    dsimp only
    rw [if_neg h1]
  rw [act_cons,e,act_plain_id w (c::k) h0]
  simp
theorem lay_id {w:List Nat} (h:Plain w):lay w=w:=by
 unfold lay
 rw [act_plain_id w [] (by rw [List.append_nil];exact h)]
 simp
theorem act_lay:∀ (n:Nat) (w k:List Nat),w.length=n→PlainR k→AllL k→AllL w→act k (lay w)=act k w:=by
 intro n
 induction n with
 | zero =>
  intro w k hn _ _ _
  have:w=[]:=List.length_eq_zero_iff.mp hn
  subst this;rfl
 | succ n ih =>
  intro w k hn hk ha hw
  have hne:w≠[]:=by intro h;subst h;simp at hn
  obtain ⟨u,c,rfl⟩:∃ u c,w=u++[c]:=⟨w.dropLast,w.getLast hne,(List.dropLast_concat_getLast hne).symm⟩
  have hu:u.length=n:=by simpa using hn
  obtain ⟨hau,hac⟩:=AllL.app.mp hw
  have hc:isL c:=(AllL.cons.mp hac).1
  have ihu:=ih u k hu hk ha hau
  have hal:=act_all (k:=[]) AllL.nil hau
  unfold lay at ihu ⊢
  rw [act_snoc,act_snoc,← ihu]
  cases e:act [] u with
  | nil=>simp [push,act]
  | cons x r =>
   rw [e] at hal
   have hx:isL x:=(AllL.cons.mp hal).1
   have har:AllL r:=(AllL.cons.mp hal).2
   by_cases h:x=con c
   ·have e1:push (x::r) c=r:=by unfold push;dsimp only;rw [if_pos h]
    rw [e1,List.reverse_cons,act_snoc]
    have e2:c=con x:=by rw [h,con_con hc]
    rw [e2,push_push (act_plain hk) (act_all ha (AllL.rev.mpr har)) hx]
   ·have e1:push (x::r) c=c::x::r:=by unfold push;dsimp only;rw [if_neg h]
    rw [e1,List.reverse_cons,act_snoc]
theorem lay_right (u w:List Nat) (hu:AllL u) (hw:AllL w):lay (u++lay w)=lay (u++w):=by
 unfold lay
 rw [act_app,act_app]
 have:=act_lay w.length w (act [] u) rfl (act_plain trivial) (act_all AllL.nil hu) hw
 unfold lay at this
 rw [this]
theorem lay_left (u w:List Nat) (hu:AllL u):lay (lay u++w)=lay (u++w):=by
 unfold lay
 rw [act_app,act_app]
 have e:=act_plain_id (lay u) [] (by rw [List.append_nil];exact lay_plain u)
 unfold lay at e
 rw [e]
 simp
theorem back_app (u w:List Nat):back (u++w)=back w++back u:=by unfold back;simp
theorem back_len (w:List Nat):(back w).length=w.length:=by unfold back;simp
theorem back_all {w:List Nat} (h:AllL w):AllL (back w):=by
 unfold back AllL
 intro c hc
 simp only [List.mem_reverse,List.mem_map] at hc
 obtain ⟨a,ha,rfl⟩:=hc
 exact isL_con (h a ha)
theorem lay_back_cancel:∀ (n:Nat) (w:List Nat),w.length=n→AllL w→lay (w++back w)=[]:=by
 intro n
 induction n with
 | zero =>
  intro w hn _
  have:w=[]:=List.length_eq_zero_iff.mp hn
  subst this;rfl
 | succ n ih =>
  intro w hn hw
  have hne:w≠[]:=by intro h;subst h;simp at hn
  obtain ⟨u,c,rfl⟩:∃ u c,w=u++[c]:=⟨w.dropLast,w.getLast hne,(List.dropLast_concat_getLast hne).symm⟩
  obtain ⟨hau,hac⟩:=AllL.app.mp hw
  have hc:isL c:=(AllL.cons.mp hac).1
  have e:u++[c]++back (u++[c])=u++c::con c::back u:=by rw [back_app];simp [back]
  rw [e,lay_cut u (back u) hau (isL_con hc) (con_con hc).symm]
  exact ih u (by simpa using hn) hau
theorem joined_back {w:List Nat} (h:AllL w):lay (w++back w)=[]:=lay_back_cancel _ w rfl h
end Ma
namespace Lw
open PySem PySem.Spec PyProof.Rows L2 Ma
theorem S_len (w:List Nat):(S w).length=w.length:=by simp [Str.length]
theorem S_app (u w:List Nat):(S u++S w:Str)=S (u++w):=by
 show Str.append (S u) (S w)=S (u++w)
 unfold Str.append;simp
theorem S_inj {u w:List Nat} (h:S u=S w):u=w:=by
 have h':u.toArray=w.toArray:=congrArg Str.cps h
 simpa using congrArg Array.toList h'
theorem VS_dec (u w:List Nat):decide (V.str (S u)=V.str (S w))=decide (u=w):=by
 by_cases h:u=w
 ·subst h;simp
 ·rw [decide_eq_false h,decide_eq_false fun e=>h (S_inj (V.str.inj e))]
theorem S_nil:(Str.ofString "":Str)=S []:=by decide +kernel
theorem S_at (w:List Nat):(S w).cps.toList=w:=by simp
theorem len_1000 {n:Nat} (h:n≤100000):n≤sizeLine:=Nat.le_trans h (by decide)
theorem slice_to (w:List Nat) {j:Int} (h0:0≤j) (h2:j≤w.length):Txt.slice (S w) none (some j)=S (w.take j.toNat):=by
 have:=slice_closes_toL (x:=S w) h0 (by rw [S_len];exact h2)
 rw [beq_iff_eq.mp this]
 simp
theorem slice_from (w:List Nat) {i:Int} (h0:0≤i) (h2:i≤w.length):Txt.slice (S w) (some i) none=S (w.drop i.toNat):=by
 have:=slice_closes_fromL (x:=S w) (b:=(S w).length) h0 (by rw [S_len];exact h2) rfl
 rw [beq_iff_eq.mp this]
 congr 1
 rw [S_at,S_len,List.take_of_length_le (by rw [List.length_drop];omega)]
theorem join_S:∀ (zs:List (List Nat)),Txt.join (S []) (zs.map S)=S zs.flatten
 | []=>by unfold Txt.join;rw [StrLaws.glued_eq_join];rfl
 | [z]=>by unfold Txt.join;rw [StrLaws.glued_eq_join];simp [Str.join]
 | z::y::r=>by
  have ih:=join_S (y::r)
  unfold Txt.join at ih ⊢
  rw [StrLaws.glued_eq_join] at ih ⊢
  rw [List.map_cons,List.map_cons]
  show (S z++S [])++Str.join (S []) (S y::r.map S)=_
  rw [List.map_cons] at ih
  rw [ih,S_app,S_app]
  simp
theorem sum_len (zs:List (List Nat)):((zs.map S).map (·.length)).sum=zs.flatten.length:=by
 induction zs with
 | nil=>rfl
 | cons z zs ih=>simp only [List.map_cons,List.sum_cons,List.flatten_cons,List.length_append,ih,S_len]
def isLow (c:Nat):Bool:=decide (96<c)
theorem isL_cases {c:Nat} (h:isL c):c=97∨c=98∨c=99∨c=100∨c=65∨c=66∨c=67∨c=68:=by unfold isL at h;omega
theorem islower_S {c:Nat} (h:isL c):Txt.islower (S [c])=isLow c:=by
 rcases isL_cases h with rfl | rfl | rfl | rfl | rfl | rfl | rfl | rfl <;> decide +kernel
theorem isupper_S {c:Nat} (h:isL c):Txt.isupper (S [c])=!isLow c:=by
 rcases isL_cases h with rfl | rfl | rfl | rfl | rfl | rfl | rfl | rfl <;> decide +kernel
theorem upper_S {c:Nat} (h:isL c) (hl:isLow c=true):Txt.upper (S [c])=S [con c]:=by
 rcases isL_cases h with rfl | rfl | rfl | rfl | rfl | rfl | rfl | rfl <;> first | (decide +kernel) | (exact absurd hl (by decide))
theorem lower_S {c:Nat} (h:isL c) (hl:isLow c=false):Txt.lower (S [c])=S [con c]:=by
 rcases isL_cases h with rfl | rfl | rfl | rfl | rfl | rfl | rfl | rfl <;> first | (decide +kernel) | (exact absurd hl (by decide))
theorem short1 (c:Nat):Builtin.Str.tooLong (S [c]).length=false:=by rw [S_len];show Builtin.Str.tooLong 1=false;decide +kernel
def conTab_rows:List (Str×PyData):=[("a",.str "A"),("A",.str "a"),("b",.str "B"),("B",.str "b"),("c",.str "C"),("C",.str "c"),("d",.str "D"),("D",.str "d")]
def conTab:List (PyData×PyData):=conTab_rows.map fun p=>(PyData.str p.1,p.2)
theorem conTab_look {c:Nat} (h:isL c):lookup (.str (S [c])) conTab=some (.str (S [con c])):=by
 rcases isL_cases h with rfl | rfl | rfl | rfl | rfl | rfl | rfl | rfl <;> kernel_rfl
def Kp (fl:Addr) (H H':Hp):Prop:=∀ b o,H b=some o→b≠fl→H' b=some o
theorem Kp.refl (fl:Addr) (H:Hp):Kp fl H H:=fun _ _ h _=>h
theorem Kp.trans {fl:Addr} {H H1 H2:Hp} (a:Kp fl H H1) (b:Kp fl H1 H2):Kp fl H H2:=fun c o h n=>b c o (a c o h n) n
theorem _root_.L2.Same.kp {fl:Addr} {H H':Hp} (h:Same H H'):Kp fl H H':=fun b o e _=>h b o e
theorem _root_.L2.Same.new {H:Hp} {l:Addr} {o:HO} (h:H l=none):Same H (upd H l o):=fun b u e=>by rw [upd_ne (ne_of_none e h)];exact e
theorem _root_.L2.Same.upd {H H':Hp} {l:Addr} {o:HO} (s:Same H H') (h:H l=none):Same H (upd H' l o):=fun b u e=>by rw [upd_ne (ne_of_none e h)];exact s b u e
theorem _root_.L2.Same.upd' {H H':Hp} {l:Addr} {o:HO} (s:Same H H') (h:H' l=none):Same H (upd H' l o):=s.trans (Same.new h)
theorem Kp.upd {fl:Addr} {H H':Hp} {l:Addr} {o:HO} (s:Kp fl H H') (h:H l=none):Kp fl H (upd H' l o):=fun b u e n=>by rw [upd_ne (ne_of_none e h)];exact s b u e n
theorem Kp.self {fl:Addr} {H H':Hp} {o:HO} (s:Kp fl H H'):Kp fl H (L2.upd H' fl o):=fun b u e n=>by rw [upd_ne n];exact s b u e n
theorem Kp.free {fl:Addr} {H H':Hp} (k:Kp fl H H') {l:Addr} (h:H' l=none) (n:l≠fl):H l=none:=by
 cases q:H l with
 | none=>rfl
 | some o=>rw [k l o q n] at h;cases h
def IsFl (H:Hp) (fl sc:Addr):Prop:=∃ (ns:List Int) (i a b c:Int),H fl=some (.lst [.ref sc,.int i,.int a,.int b,.int c])∧H sc=some (.lst (ns.map V.int))∧ns.length≤63∧0≤i∧0≤a∧0≤b
theorem IsFl.same {H H':Hp} {fl sc:Addr} (s:Same H H') (h:IsFl H fl sc):IsFl H' fl sc:=by
 obtain ⟨ns,i,a,b,c,h1,h2,r⟩:=h
 exact ⟨ns,i,a,b,c,s _ _ h1,s _ _ h2,r⟩
theorem IsFl.some {H:Hp} {fl sc:Addr} (h:IsFl H fl sc):(∃ o,H fl=some o)∧∃ o,H sc=some o:=by
 obtain ⟨ns,i,a,b,c,h1,h2,r⟩:=h
 exact ⟨⟨_,h1⟩,⟨_,h2⟩⟩
theorem IsFl.ne {H:Hp} {fl sc l:Addr} (h:IsFl H fl sc) (n:H l=none):l≠fl:=by
 obtain ⟨⟨o,e⟩,_⟩:=h.some
 exact (ne_of_none e n).symm
theorem IsFl.ne2 {H:Hp} {fl sc l:Addr} (h:IsFl H fl sc) (n:H l=none):l≠sc:=by
 obtain ⟨_,⟨o,e⟩⟩:=h.some
 exact (ne_of_none e n).symm
theorem IsFl.upd {H:Hp} {fl sc l:Addr} {o:HO} (h:IsFl H fl sc) (n:H l=none):IsFl (L2.upd H l o) fl sc:=h.same (Same.new n)
theorem IsFl.set {H:Hp} {fl sc l:Addr} {o:HO} (h:IsFl H fl sc) (n:l≠fl) (n2:l≠sc):IsFl (L2.upd H l o) fl sc:=by
 obtain ⟨ns,i,a,b,c,h1,h2,r⟩:=h
 exact ⟨ns,i,a,b,c,by rw [upd_ne n.symm];exact h1,by rw [upd_ne n2.symm];exact h2,r⟩
structure Df (K:PySem.W.Frag) (mg:Str→Option Value) (x:Str) (st:Stmt) (ps:List Str) (f:Addr) (fd:FuncData):Prop where
 F:Fun K x x st f fd
 b:Binds K fd ps []
 m:mg x=some (.ref f)
def Cl (P:Program) (w:World) (K:PySem.W.Frag) (mg:Str→Option Value) (base:Heap) (x:Str) (ps:List Str) (n:Nat) (sp:Sp):Prop :=
 ∃ f fd,FnOk P w K mg base CX0 n f fd ps sp∧mg x=some (.ref f)∧PySem.W.keepIn K (.ref f)=true∧Binds K fd ps []
theorem Df.cl {P:Program} {w:World} {K:PySem.W.Frag} {mg:Str→Option Value} {base:Heap} {x:Str} {st:Stmt} {ps:List Str} {f:Addr} {fd:FuncData} {n:Nat} {sp:Sp} (D:Df K mg x st ps f fd) (h:FnOk P w K mg base CX0 n f fd ps sp):Cl P w K mg base x ps n sp :=
 ⟨f,fd,h,D.m,D.F.kp,D.b⟩
def lets:List Nat:=[97,65,98,66,99,67,100,68]
def letsN (n:Int):List Nat:=lets.take (2 * n).toNat
def OfN (n:Int) (w:List Nat):Prop:=∀ c∈w,c∈letsN n
theorem letsN_isL {n:Int} {c:Nat} (h:c∈letsN n):isL c:=by
 have h2:c∈lets:=List.mem_of_mem_take h
 unfold lets at h2
 simp only [List.mem_cons,List.not_mem_nil,or_false] at h2
 unfold isL
 omega
theorem OfN.all {n:Int} {w:List Nat} (h:OfN n w):AllL w:=fun c hc=>letsN_isL (h c hc)
theorem letsN_len {n:Int} (h1:1≤n) (h4:n≤4):(letsN n).length=(2 * n).toNat:=by
 unfold letsN lets
 rw [List.length_take]
 simp
 omega
def lstC (w:List Nat):List V:=w.map fun c=>V.str (S [c])
theorem lstC_eq (w:List Nat):lstC w=(w.map fun c=>S [c]).map V.str:=by unfold lstC;rw [List.map_map];rfl
theorem flat_ones:∀ (w:List Nat),(w.map fun c=>[c]).flatten=w
 | []=>rfl
 | c::w=>by rw [List.map_cons,List.flatten_cons,flat_ones w];rfl
theorem ones_S (w:List Nat):(w.map fun c=>[c]).map S=w.map fun c=>S [c]:=by rw [List.map_map];rfl
theorem join_lets (w:List Nat):Txt.join (Str.ofString "") (w.map fun c=>S [c])=S w:=by
 have h:=join_S (w.map fun c=>[c])
 rw [ones_S,flat_ones] at h
 rw [S_nil]
 exact h
theorem join_letsB (w:List Nat) (hw:w.length≤100000):((w.map fun c=>S [c]).map (·.length)).sum+(w.map fun c=>S [c]).length * (Str.ofString "").length≤16777216:=by
 have h:=sum_len (w.map fun c=>[c])
 rw [ones_S,flat_ones] at h
 have e2:(Str.ofString "").length=0:=by decide +kernel
 rw [e2,Nat.mul_zero,Nat.add_zero,h]
 omega
theorem lstC_snoc (w:List Nat) (c:Nat):lstC (w++[c])=lstC w++[V.str (S [c])]:=by unfold lstC;simp
theorem lstC_len (w:List Nat):(lstC w).length=w.length:=by unfold lstC;simp
theorem lstC_get {w:List Nat} {i:Nat} {c:Nat} (h:w[i]?=some c):(lstC w)[i]?=some (.str (S [c])):=by unfold lstC;rw [List.getElem?_map,h];rfl
theorem atI_S {w:List Nat} {i:Int} {c:Nat} (h0:0≤i) (h:w[i.toNat]?=some c):atI (S w).cps.toList i=some c:=by
 rw [S_at]
 have:=atI_nat h
 rwa [Int.toNat_of_nonneg h0] at this
theorem atI_of {α:Type} {xs:List α} {i:Int} {v:α} (h0:0≤i) (h:xs[i.toNat]?=some v):atI xs i=some v:=by
 have:=atI_nat h
 rwa [Int.toNat_of_nonneg h0] at this
theorem take_snoc {w:List Nat} {i c:Nat} (h:w[i]?=some c):w.take (i+1)=w.take i++[c]:=by rw [List.take_add_one,h];rfl
def spFlow (K:PySem.W.Frag):Sp:=fun vs H Q _=>∃ (a:Addr) (ns:List Int),vs=[.ref a]∧SqL K H a (ns.map V.int)∧ns.length≤63∧∀ (fl sc:Addr) (H':Hp),H fl=none→Same H H'→IsFl H' fl sc→Q (.ref fl) H'
def spPick:Sp:=fun vs H Q _=>∃ (fl sc:Addr) (m:Int),vs=[.ref fl,.int m]∧IsFl H fl sc∧0<m∧m<1073741824∧∀ (d:Int) (H':Hp),0≤d→d<m→IsFl H' fl sc→Kp fl H H'→Q (.int d) H'
def spCon:Sp:=fun vs H Q _=>∃ c:Nat,vs=[.str (S [c])]∧isL c∧∀ H',Same H H'→Q (.str (S [con c])) H'
def spLay:Sp:=fun vs H Q _=>∃ w:List Nat,vs=[.str (S w)]∧AllL w∧w.length≤10000∧∀ H',Same H H'→Q (.str (S (lay w))) H'
def spBack:Sp:=fun vs H Q _=>∃ w:List Nat,vs=[.str (S w)]∧AllL w∧w.length≤1000∧∀ H',Same H H'→Q (.str (S (back w))) H'
def spLetters:Sp:=fun vs H Q _=>∃ n:Int,vs=[.int n]∧1≤n∧n≤4∧∀ (l:Addr) (H':Hp),H l=none→Same H H'→H' l=some (.lst (lstC (letsN n)))→Q (.ref l) H'
def spWord:Sp:=fun vs H Q _=>∃ (fl sc:Addr) (n most:Int),vs=[.ref fl,.int n,.int most]∧IsFl H fl sc∧1≤n∧n≤4∧0≤most∧most≤900 ∧
 ∀ (w:List Nat) (H':Hp),OfN n w→Plain w→(w.length:Int)≤most→IsFl H' fl sc→Kp fl H H'→Q (.str (S w)) H'
end Lw
namespace L2
open PySem PySem.Spec PyProof.Rows
def tMid (t u:TS):TS:=fun D σ H=>∃ M:St→Hp→Prop,t { D with nx:=M } σ H∧∀ σ' H',M σ' H'→u D σ' H'
theorem pss_mid {X:Cx} {st:Stmt} {rest:List Stmt} {t u:TS} (h1:PS X st t) (h2:PSs X rest u):PSs X (st::rest) (tMid t u):=by
 intro pins s σ H D I ⟨M,q1,q2⟩
 refine wpAny_execs_cons (thn (h1 pins s σ H { D with nx:=M } I q1) fun f s1 q=>?_)
 cases f with
 | next =>
  obtain ⟨σ',H',I',q⟩:=q
  exact h2 pins s1 σ' H' D I' (q2 σ' H' q)
 | ret v=>exact q
 | brk=>exact q
 | cont=>exact q
end L2
namespace Lw
open PySem PySem.Spec PyProof.Rows L2 Ma
def okc (x:List Nat) (c:Nat):Bool:=match x.getLast? with
 | none=>true
 | some z=>!decide ([c]=[con z])
theorem okc_pos {n:Int} {x:List Nat} (h1:1≤n) (h4:n≤4):0<((letsN n).filter (okc x)).length:=by
 have m1:97∈letsN n∧65∈letsN n:=by
  have:n=1∨n=2∨n=3∨n=4:=by omega
  rcases this with rfl | rfl | rfl | rfl <;> decide
 have:okc x 97=true∨okc x 65=true:=by
  unfold okc
  cases x.getLast? with
  | none=>exact .inl rfl
  | some z =>
   by_cases e:con z=97
   ·right;dsimp only;rw [e];rfl
   ·left;dsimp only;simp;omega
 rcases this with h | h
 ·exact List.length_pos_of_mem (List.mem_filter.mpr ⟨m1.1,h⟩)
 ·exact List.length_pos_of_mem (List.mem_filter.mpr ⟨m1.2,h⟩)
theorem okc_plain {x:List Nat} {c:Nat} (hx:AllL x) (hc:isL c) (hp:Plain x) (h:okc x c=true):Plain (x++[c]):=by
 unfold Plain at *
 rw [List.reverse_append]
 show PlainR (c::x.reverse)
 cases hq:x.reverse with
 | nil=>trivial
 | cons z r =>
  rw [hq] at hp
  refine ⟨?_,hp⟩
  intro e
  have hz:x.getLast?=some z:=by
   rw [List.getLast?_eq_head?_reverse,hq];rfl
  unfold okc at h
  rw [hz] at h
  have h':¬ c=con z:=by simpa using h
  exact h' (by rw [e,con_con hc])
end Lw
namespace L2
open PySem PySem.Spec PyProof.Rows
section
variable {X:Cx} {K:PySem.W.Frag}
theorem ix_listK (h:X.K=K):IxR X (rIxL K):=by subst h;exact ix_list
theorem ix_tupK (h:X.K=K):IxR X (rIxT K):=by subst h;exact ix_tup
theorem call_lenK (h:X.K=K):CallR X (.builtin "len") (fun xs H Q=>∃ p ys,xs=[.ref p]∧(SqL K H p ys∨SqT K H p ys)∧Q (.int ys.length) H):=by subst h;exact call_len_seq
theorem call_isiK (h:X.K=K):CallR X (.builtin "isinstance") (rIsi K):=by subst h;exact call_isi
theorem call_listK (h:X.K=K):CallR X (.type "list") (fun xs H Q=>∃ p ys,xs=[.ref p]∧(SqL K H p ys∨SqT K H p ys)∧∀ l,H l=none→Q (.ref l) (upd H l (.lst ys))):=by subst h;exact call_list_of
theorem call_tupleK (h:X.K=K):CallR X (.type "tuple") (fun xs H Q=>∃ p ys,xs=[.ref p]∧((SqL K H p ys∧∀ l,H l=none→Q (.ref l) (upd H l (.tup ys)))∨(SqT K H p ys∧Q (.ref p) H))):=by subst h;exact call_tuple_of
theorem call_allK (h:X.K=K) (hc:X.calm=true):CallR X (.builtin "all") (fun xs H Q=>∃ (a:Addr) (bs:List Bool),xs=[.ref a]∧SqL K H a (bs.map V.bl)∧Q (.bl (bs.all id)) H):=by subst h;exact call_allB hc
theorem mt_joinK (h:X.K=K):MtR X "str.join" (fun x xs H Q=>∃ z a zs,x=.str z∧xs=[.ref a]∧SqL K H a (zs.map V.str)∧(zs.map (·.length)).sum+zs.length * z.length≤16777216∧Q (.str (Txt.join z zs)) H):=by subst h;exact mt_join
theorem op_eqLK (h:X.K=K) (hu:X.A.units<cLine):OpR X (compareOp .Eq) (rEqL K false):=by subst h;exact op_eqL hu
theorem op_inK (h:X.K=K):OpR X (compareOp .In) (rIn K false):=by subst h;exact op_in_seq
theorem pi_listK {tg l:Expr} {tl:TE} (h:X.K=K) (hl:PE X l tl):PI X tg l (iList K tl):=by subst h;exact pi_list hl
theorem pi_tupK {tg l:Expr} {tl:TE} (h:X.K=K) (hl:PE X l tl):PI X tg l (iTup K tl):=by subst h;exact pi_tup hl
variable {o e:Expr} {es:List Expr} {to:TE} {t:TA} {name:Str} {apos cpos:Pos} {T id:String} {r:V→List V→Hp→VK→Prop}
theorem pe_bm0K (h:X.K=K) (pa:PlainAttrs T) (slot:Slot T name id) (hty:typeOf (.builtin id)=pure (.type "method_descriptor")) (hm:MtR X id r) (ho:PE X o to)
  (hbase:attributeBase o name X.env (eval o X.env)=eval o X.env:=by rfl) (hline:(apos.endLine == cpos.line)=true:=by rfl):PE X (.Call (.Attribute o name apos) [] [] cpos) (tBM0 K T r to):=by subst h;exact pe_bm0 pa slot hty hm ho hbase hline
theorem pe_bmK (h:X.K=K) (pa:PlainAttrs T) (slot:Slot T name id) (hty:typeOf (.builtin id)=pure (.type "method_descriptor")) (hm:MtR X id r) (ho:PE X o to) (ha:PA X (e::es) t)
  (hbase:attributeBase o name X.env (eval o X.env)=eval o X.env:=by rfl)
  (hfew:((backTo cpos (starEach (e::es) X.env)).all (fun x=>!x.1) && (backToKw cpos (keywordEach [] X.env)).all (fun x=>x.1.isSome)
   && decide ((e::es).length+([]:List Keyword).length+(if ([]:List Keyword).isEmpty then 0 else 1)<30))=true:=by rfl)
  (hline:(apos.endLine == cpos.line)=true:=by rfl) (hs:starEach (e::es) X.env=(false,eval e X.env)::starEach es X.env:=by rfl) (hplain:(backTo cpos (starEach es X.env)).any (·.1)=false:=by rfl) :
  PE X (.Call (.Attribute o name apos) (e::es) [] cpos) (tBM K T r to t):=by subst h;exact pe_bm pa slot hty hm ho ha hbase hfew hline hs hplain
end
section
variable {X:Cx} {scope:Scope} {x:Str} {px pos:Pos} {ix:List Nat} {elt iter:Expr} {ifs:List Expr} {wi:TI} {ti:TT} {te:TE}
theorem pe_compc {sc0:Scope} {N:List Str} (h:compChk sc0 scope N x ix=true) (e1:X.env.scope=sc0) (e2:X.N=N) (hc:X.calm=true) (hi:PI X (.Name x px) iter wi) (hif:∀ fp s H,PIfs (compCx X scope x ix fp s H) ifs ti) (he:∀ fp s H,PE (compCx X scope x ix fp s H) elt te)
  (hs:∀ z,foldedSetIterable iter X.env z=pure z:=by intro _;rfl):PE X (.ListComp elt [⟨.Name x px,iter,ifs,0⟩] scope pos) (tComp wi ix ti te) :=
 pe_comp (compSc_of h e1 e2).1 (compSc_of h e1 e2).2 hc hi hif he hs
theorem ps_setcc {i:Nat} {y:Str} {py spos:Pos} {sc0:Scope} {N:List Str} (hN:X.N.Nodup) (hy:X.N[i]?=some y) (hyl:X.env.scope.names.lookup y=some .local) (h:compChk sc0 scope N x ix=true) (e1:X.env.scope=sc0) (e2:X.N=N) (hc:X.calm=true) (hi:PI X (.Name x px) iter wi)
  (hif:∀ fp s H,PIfs (compCx X scope x ix fp s H) ifs ti) (he:∀ fp s H,PE (compCx X scope x ix fp s H) elt te)
  (hsw:swapsWith (.ListComp elt [⟨.Name x px,iter,ifs,0⟩] scope pos) (some (.Name y py)) spos.line X.env=pure true:=by rfl)
  (hs:∀ z,foldedSetIterable iter X.env z=pure z:=by intro _;rfl):PS X (.Assign [.Name y py] (.ListComp elt [⟨.Name x px,iter,ifs,0⟩] scope pos) spos) (tSetC i wi ix ti te) :=
 ps_setc hN hy hyl (compSc_of h e1 e2).1 (compSc_of h e1 e2).2 hc hi hif he hsw hs
end
end L2
namespace Lw
open PySem PySem.Spec PyProof.Rows L2 Ma
def Adj (x:List Nat) (k:Nat):Prop:=∃ a b,x[k]?=some a∧x[k+1]?=some b∧a=con b
theorem plainR_of:∀ (k:List Nat),(∀ i a b,k[i]?=some a→k[i+1]?=some b→b≠con a)→PlainR k
 | [],_=>trivial
 | [_],_=>trivial
 | a::b::r,h=>⟨h 0 a b rfl rfl,plainR_of (b::r) fun i x y h1 h2=>h (i+1) x y (by simpa using h1) (by simpa using h2)⟩
theorem plain_of_noadj {x:List Nat} (h:∀ k,¬ Adj x k):Plain x:=by
 unfold Plain
 refine plainR_of _ fun i a b h1 h2 e=>?_
 have l2:i+1<x.length:=by
  have:=(List.getElem?_eq_some_iff.mp h2).1
  simpa using this
 rw [List.getElem?_reverse (by omega)] at h1 h2
 refine h (x.length - 1 - (i+1)) ⟨b,a,h2,?_,e⟩
 rw [show x.length - 1 - (i+1)+1=x.length - 1 - i by omega]
 exact h1
end Lw
namespace Lw
open PySem PySem.Spec PyProof.Rows L2 Ma
theorem letsN_con {n:Int} {c:Nat} (h1:1≤n) (h4:n≤4) (h:c∈letsN n):con c∈letsN n:=by
 have:n=1∨n=2∨n=3∨n=4:=by omega
 have hL:=isL_cases (letsN_isL h)
 rcases this with rfl | rfl | rfl | rfl <;> rcases hL with rfl | rfl | rfl | rfl | rfl | rfl | rfl | rfl <;> revert h <;> decide
end Lw
namespace Lw
open PySem PySem.Spec PyProof.Rows L2 Ma
theorem push_sub {k:List Nat} {c d:Nat} (h:d∈push k c):d∈k∨d=c:=by
 cases k with
 | nil=>right;simpa [push] using h
 | cons x r =>
  unfold push at h
  dsimp only at h
  split at h
  ·left;exact List.mem_cons_of_mem _ h
  ·rcases List.mem_cons.mp h with q | q
   ·exact .inr q
   ·exact .inl q
theorem act_sub:∀ {w k:List Nat} {d:Nat},d∈act k w→d∈k∨d∈w
 | [],_,_,h=>.inl h
 | c::w,k,d,h=>by
  rcases act_sub (w:=w) (k:=push k c) h with q | q
  ·rcases push_sub q with q | q
   ·exact .inl q
   ·exact .inr (by rw [q];exact List.mem_cons_self)
  ·exact .inr (List.mem_cons_of_mem _ q)
theorem lay_sub {w:List Nat} {c:Nat} (h:c∈lay w):c∈w:=by
 rcases act_sub (w:=w) (k:=[]) (List.mem_reverse.mp h) with q | q
 ·exact nomatch q
 ·exact q
theorem OfN.back {n:Int} {w:List Nat} (h:OfN n w) (h1:1≤n) (h4:n≤4):OfN n (Ma.back w):=fun c hc=>by
 unfold Ma.back at hc
 simp only [List.mem_reverse,List.mem_map] at hc
 obtain ⟨a,ha,rfl⟩:=hc
 exact letsN_con h1 h4 (h a ha)
theorem OfN.lay {n:Int} {w:List Nat} (h:OfN n w):OfN n (Ma.lay w):=fun c hc=>h c (lay_sub hc)
theorem OfN.app {n:Int} {u w:List Nat} (h:OfN n u) (h2:OfN n w):OfN n (u++w):=fun c hc=>(List.mem_append.mp hc).elim (h c) (h2 c)
theorem OfN.nil {n:Int}:OfN n []:=fun c hc=>nomatch hc
theorem plainR_append_left:∀ (k l:List Nat),PlainR (k++l)→PlainR k
 | [],_,_=>trivial
 | [_],_,_=>trivial
 | a::b::r,l,h=>⟨h.1,plainR_append_left (b::r) l h.2⟩
theorem plainR_append_right:∀ (k l:List Nat),PlainR (k++l)→PlainR l
 | [],_,h=>h
 | a::r,l,h=>plainR_append_right r l (PlainR.tail h)
theorem plain_drop {x:List Nat} (h:Plain x) (i:Nat):Plain (x.drop i):=by
 unfold Plain at *
 have e:x=x.take i++x.drop i:=(List.take_append_drop i x).symm
 rw [e,List.reverse_append] at h
 exact plainR_append_left _ _ h
theorem plain_take {x:List Nat} (h:Plain x) (i:Nat):Plain (x.take i):=by
 unfold Plain at *
 have e:x=x.take i++x.drop i:=(List.take_append_drop i x).symm
 rw [e,List.reverse_append] at h
 exact plainR_append_right _ _ h
end Lw
namespace LtL
open PySem PyProof.Rows HT
open PySem.SeqAt
open PySem.AutoSeq1 (wpAny_loadPart')
open PySem.MeetsSeq PySem.MeetsSeq2 PySem.MeetsSeq3
theorem ints_at:∀ {us:List Value} {ns:List Int},IntsAre us ns→∀ i,i<us.length→∃ a t,us[i]?=some (.int a t)∧ns[i]?=some a
 | _,_,.nil,i,h=>by simp at h
 | _,_,.cons a t r,0,_=>⟨a,t,rfl,rfl⟩
 | _,_,.cons a t r,i+1,h=>by
  obtain ⟨c,u,h1,h2⟩:=ints_at r i (by simpa using h)
  exact ⟨c,u,by simpa using h1,by simpa using h2⟩
theorem drop_at {ns:List Int} {i:Nat} {a:Int} (h:ns[i]?=some a):ns.drop i=a::ns.drop (i+1):=by
 obtain ⟨hl,e⟩:=List.getElem?_eq_some_iff.mp h
 rw [List.drop_eq_getElem_cons hl,e]
theorem lt_loop (l b:Addr) (us vs:List Value) (n n2:Nat) (ns ms:List Int) (hi:IntsAre us ns) (hj:IntsAre vs ms) (k:Nat) :
  ∀ i:Nat,us.length - i=k→us.length=vs.length→Meets (Builtin.«list.__eq__.loop» ⟨[.ref l,.ref b,rawInt i,rawInt 0],[]⟩)
   (fun A R s=>s.heap.get? l=some { cls:=.type "list",data:=.seq us.toArray n }∧s.heap.get? b=some { cls:=.type "list",data:=.seq vs.toArray n2 }∧R (.ok (.ret (.bool (lexLt (ns.drop i) (ms.drop i))))) s):=by
 have ln:us.length=ns.length:=hi.length
 have lm:vs.length=ms.length:=hj.length
 induction k with
 | zero =>
  intro i hk hlen prog w A R s h
  obtain ⟨hp,g,d,tk,os⟩:=s;obtain ⟨hl,hb,h⟩:=h
  wp_walk using wpAny_loadPart' hl,wpAny_loadPart' hb
  have n1:us.toArray[((i:Nat):Int).toNat]?=none:=by simp;omega
  have n2':vs.toArray[((i:Nat):Int).toNat]?=none:=by simp;omega
  rw [n1,n2']
  wp_walk using wpAny_loadPart' hl,wpAny_loadPart' hb
  have d1:ns.drop i=[]:=by simp;omega
  have d2:ms.drop i=[]:=by simp;omega
  rw [d1,d2] at h
  have e:(decide (us.toArray.size<vs.toArray.size))=HT.lexLt [] []:=by rw [List.size_toArray,List.size_toArray,hlen];simp [HT.lexLt]
  show R (.ok (.ret (.bool (decide (us.toArray.size<vs.toArray.size))))) _
  rw [e]
  exact h
 | succ k ih =>
  intro i hk hlen prog w A R s h
  obtain ⟨hp,g,d,tk,os⟩:=s;obtain ⟨hl,hb,h⟩:=h
  obtain ⟨a,t,ha,ha'⟩:=ints_at hi i (by omega)
  obtain ⟨c,u,hc,hc'⟩:=ints_at hj i (by omega)
  have n1:us.toArray[((i:Nat):Int).toNat]?=some (.int a t):=by simpa using ha
  have n2':vs.toArray[((i:Nat):Int).toNat]?=some (.int c u):=by simpa using hc
  rw [drop_at ha',drop_at hc',lexLt_cons] at h
  wp_walk using wpAny_loadPart' hl,wpAny_loadPart' hb
  rw [n1,n2']
  have he:=SeqAt.EqAt.int_int (A:=A.in1) (s:=⟨hp,g,d,tk,os⟩) a t c u
  refine wpAny_bind (he prog w _ _ ?_)
  cases q:(a == c) with
  | true =>
   have q':a=c:=by simpa using q
   rw [if_pos q'] at h
   wp_walk
   refine ⟨plainId_quiet plain_eq_loop _,codeAny_builtin entry_eq_loop ?_⟩
   rw [Around.under_plainId plain_eq_loop _]
   exact ih (i+1) (by omega) hlen prog w A R _ ⟨hl,hb,h⟩
  | false =>
   have q':¬ a=c:=by simpa using q
   rw [if_neg q'] at h
   have hri:=rcLt_int A.in1 ⟨hp,g,d,tk,os⟩ a t c u prog w
   wp_walk using wpAny_loadPart' hl,wpAny_loadPart' hb
   rw [n1,n2']
   wp_walk using hri
   exact h
theorem list_lt (l b:Addr) (us vs:List Value) (n n2:Nat) (ns ms:List Int) (hi:IntsAre us ns) (hj:IntsAre vs ms) (hlen:us.length=vs.length) :
  Meets (Builtin.«list.__lt__» ⟨[.ref l,.ref b],[]⟩)
   (fun A R s=>s.heap.get? l=some { cls:=.type "list",data:=.seq us.toArray n }∧s.heap.get? b=some { cls:=.type "list",data:=.seq vs.toArray n2 }∧R (.ok (.ret (.bool (lexLt ns ms)))) s):=by
 intro prog w A R s h
 obtain ⟨hp,g,d,tk,os⟩:=s;obtain ⟨hl,hb,h⟩:=h
 have f3:=AutoSeq1.sub_list_list
 wp_walk using wpAny_loadPart' hl,wpAny_loadPart' hb
 refine ⟨plainId_quiet plain_eq_loop _,codeAny_builtin entry_eq_loop ?_⟩
 rw [Around.under_plainId plain_eq_loop _]
 exact lt_loop l b us vs n n2 ns ms hi hj _ 0 rfl hlen prog w A R _ ⟨hl,hb,h⟩
theorem pair_lt (l b a c:Addr) (L:Int) (t u:Tok) (n n2:Nat) (dd dd2:Option Addr) (sl sl2:Array (Option Value)) (e r:Bool) :
  Meets (Builtin.«tuple.__lt__» ⟨[.ref l,.ref b],[]⟩)
   (fun A R s=>s.heap.get? l=some { cls:=.type "tuple",dict:=dd,data:=.seq #[.int L t,.ref a] n,slots:=sl }∧s.heap.get? b=some { cls:=.type "tuple",dict:=dd2,data:=.seq #[.int L u,.ref c] n2,slots:=sl2 } ∧
    SeqAt.EqAt A.in1 s (.ref a) (.ref c) e∧(e=false→∀ (prog:Program) (w:World) (E:Value→Shared→Prop) (Q:Value→Shared→Prop),Q (.bool r) s→wpAny (model prog w) A.in1 (richCompare .Lt (.ref a) (.ref c)) Q E s)∧(e=true→r=false)∧R (.ok (.ret (.bool r))) s) :=
 .of_wp fun prog w A R s h=>by
  obtain ⟨hp,g,d,tk,os⟩:=s;obtain ⟨hl,hb,he,hr,her,h⟩:=h
  have f2:=AutoSeq1.sub_tuple_tuple
  have e1:=SeqAt.EqAt.int_int (A:=A.in1) (s:=⟨hp,g,d,tk,os⟩) L t L u
  rw [show (L == L)=true by simp] at e1
  have hE1:=e1 prog w
  have hE2:=he prog w
  cases e with
  | true =>
   have hr0:r=false:=her rfl
   subst hr0
   wp_walk using wpAny_loadPart' hl,wpAny_loadPart' hb,hE1,hE2
   exact ⟨_,rfl,h⟩
  | false =>
   have hr1:=hr rfl prog w
   wp_walk using wpAny_loadPart' hl,wpAny_loadPart' hb,hE1,hE2,hr1
   exact ⟨_,rfl,h⟩
end LtL
namespace L2
open PySem PySem.Spec PyProof.Rows
def rLtKey:R2:=fun x y H Q=>∃ (p q a c:Addr) (L:Int) (ns ms:List Int),x=.ref p∧y=.ref q∧H p=some (.tup [.int L,.ref a])∧H q=some (.tup [.int L,.ref c])∧H a=some (.lst (ns.map V.int))∧H c=some (.lst (ms.map V.int))∧ns.length=ms.length∧a≠c∧Q (.bl (HT.lexLt ns ms)) H
theorem lexLt_self:∀ ns:List Int,HT.lexLt ns ns=false
 | []=>rfl
 | n::ns=>by rw [HT.lexLt_cons,if_pos rfl];exact lexLt_self ns
theorem eqVs_int:∀ (a b:List Int),eqVs (a.map V.int) (b.map V.int)=decide (a=b)
 | [],[]=>by simp [eqVs]
 | [],_::_=>by simp [eqVs]
 | _::_,[]=>by simp [eqVs]
 | x::xs,y::ys=>by
  have e:eqV (V.int x) (V.int y)=decide (x=y):=by
   unfold eqV;by_cases h:x=y <;> simp [h]
  rw [List.map_cons,List.map_cons]
  unfold eqVs
  rw [eqVs_int xs ys,e]
  by_cases h:x=y <;> by_cases h2:xs=ys <;> simp [h,h2]
theorem op_ltKey {X:Cx} (hu:X.A.units+8<cLine):OpR X (compareOp .Lt) rLtKey:=by
 intro pins s σ H x y v u Q I rx ry h
 obtain ⟨p,q,a,c,L,ns,ms,rfl,rfl,hp,hq,ha,hc,hlen,hne,k⟩:=h
 cases rx
 cases ry
 obtain ⟨_,ip,rp,op,gp1,gp2,np,gp3⟩:=I.hok p _ hp
 obtain ⟨_,iq,rq,oq,gq1,gq2,nq,gq3⟩:=I.hok q _ hq
 obtain ⟨u1,u2,rfl,r1,r2⟩:=rp.two
 obtain ⟨w1,w2,rfl,r3,r4⟩:=rq.two
 obtain ⟨t1,rfl⟩:=r1
 obtain ⟨t3,rfl⟩:=r3
 cases r2
 cases r4
 obtain ⟨_,us,n1,ru,gu⟩:=I.hok a _ ha
 obtain ⟨_,vs,n2,rv,gv⟩:=I.hok c _ hc
 have lus:us.length=ns.length:=by rw [← ru.length,List.length_map]
 have lvs:vs.length=ms.length:=by rw [← rv.length,List.length_map]
 have hla:s.heap.IsList a us.toArray:=⟨_,gu,rfl,n1,rfl⟩
 have hlc:s.heap.IsList c vs.toArray:=⟨_,gv,rfl,n2,rfl⟩
 have fl:∀ zs:List Int,(zs.map V.int).all flatV=true:=fun zs=>by rw [List.all_map];exact List.all_eq_true.mpr fun _ _=>rfl
 have hu1:X.A.in1.units<cLine:=by show X.A.in1.units<cLine;unfold Around.in1;show X.A.units+1<cLine;omega
 have hu2:X.A.in1.in1.units<cLine:=by unfold Around.in1;show X.A.units+1+1<cLine;omega
 have hu0:X.A.units<cLine:=by omega
 have hiu:=intsAre_of ru
 have hiv:=intsAre_of rv
 have heq:SeqAt.EqAt X.A.in1 s (.ref a) (.ref c) (decide (ns=ms)):=by
  have z:=SeqAt.RcAt.lists (A:=X.A.in1) hla hlc (by simp;omega) hu1 (pairs_eq (A:=X.A.in1.in1) (s:=s) ru rv (fl ns) (fl ms))
  rw [List.size_toArray,← ru.length,eqVs_range (by rw [List.length_map,List.length_map];exact hlen),eqVs_int] at z
  exact SeqAt.EqAt.of_refs hne z
 obtain ⟨cl1,dd1,dt1,sl1⟩:=op
 obtain ⟨cl2,dd2,dt2,sl2⟩:=oq
 simp only at gp2 gp3 gq2 gq3
 subst gp2 gp3 gq2 gq3
 refine richCompare_meets_room (op:=.Lt) ⟨_,gp1,rfl⟩ ⟨_,gq1,rfl⟩ PySem.F.slot_tuple_lt PySem.F.entry_tuple_lt (PySem.F.args_tuple_lt_2 _ _) (LtL.pair_lt p q a c L t1 t3 np nq dd1 dd2 sl1 sl2 (decide (ns=ms)) (HT.lexLt ns ms))
  ⟨gp1,gq1,heq,fun _ prog w E Q' hq'=>?_,fun e=>?_,show Value.bool (HT.lexLt ns ms)≠Value.notImplemented∧EP X pins σ Q (.bool (HT.lexLt ns ms)) s from ⟨(fun x=>nomatch x),⟨.bl _,H,I,rfl,k⟩⟩⟩ hu0
 ·exact richCompare_meets_room (op:=.Lt) ⟨_,gu,rfl⟩ ⟨_,gv,rfl⟩ PySem.F.slot_list_lt PySem.F.entry_list_lt (PySem.F.args_list_lt_2 _ _) (LtL.list_lt a c us vs n1 n2 ns ms hiu hiv (by omega))
   ⟨gu,gv,show Value.bool (HT.lexLt ns ms)≠Value.notImplemented∧Q' (.bool (HT.lexLt ns ms)) s from ⟨(fun x=>nomatch x),hq'⟩⟩ hu1
 ·have e':ns=ms:=of_decide_eq_true e
  rw [e'];exact lexLt_self ms
section
variable {X:Cx}
theorem mt_index (hc:X.calm=true):MtR X "str.index" (fun x xs H Q=>∃ z y,x=.str z∧xs=[.str y]∧(Builtin.Str.occurrences z y 0 z.length 1).isEmpty=false∧Q (.int (Txt.find z y)) H):=by
 intro pins s σ H x xs v us Q I rx rs h
 obtain ⟨z,y,rfl,rfl,ho,q⟩:=h
 obtain ⟨t,rfl⟩:=rx
 obtain ⟨u,rfl,ru⟩:=rs.one
 obtain ⟨t',rfl⟩:=ru
 exact index_or (I.ok.hd hc) (fun _ e=>by rw [e] at ho;cases ho) fun _ _=>⟨.int _,H,I.tok _,⟨_,rfl⟩,q⟩
theorem op_mul_str:OpR X (binaryOp .Mult) (fun x y H Q=>∃ z n,x=.str z∧y=.int n∧MulOk z n∧Q (.str (Txt.mul z n)) H):=by
 intro pins s σ H x y v u Q I rx ry h
 obtain ⟨z,n,rfl,rfl,hok,q⟩:=h
 obtain ⟨t,rfl⟩:=rx
 obtain ⟨t',rfl⟩:=ry
 exact SB.mul hok fun t' k=>⟨.str _,H,I.tok _,⟨t',rfl⟩,q⟩
end
end L2
namespace MaR
section
variable {g:Nat→Nat} {n:Nat}
def Lt (g:Nat→Nat) (n i j:Nat):Prop:=∃ l,l<n∧(∀ t,t<l→g (i+t)=g (j+t))∧g (i+l)<g (j+l)
theorem Lt.irrefl (i:Nat):¬ Lt g n i i:=fun ⟨l,_,_,h⟩=>Nat.lt_irrefl _ h
theorem Lt.trans {i j k:Nat} (a:Lt g n i j) (b:Lt g n j k):Lt g n i k:=by
 obtain ⟨l1,h1,e1,q1⟩:=a
 obtain ⟨l2,h2,e2,q2⟩:=b
 by_cases h:l1<l2
 ·refine ⟨l1,h1,fun t ht=>(e1 t ht).trans (e2 t (by omega)),?_⟩
  rw [← e2 l1 h];exact q1
 ·by_cases h':l2<l1
  ·refine ⟨l2,h2,fun t ht=>(e1 t (by omega)).trans (e2 t ht),?_⟩
   rw [e1 l2 h'];exact q2
  ·have e:l1=l2:=by omega
   subst e
   exact ⟨l1,h1,fun t ht=>(e1 t ht).trans (e2 t ht),Nat.lt_trans q1 q2⟩
theorem lt_mod (hg:∀ t,g (t % n)=g t) {i j:Nat} (h:Lt g n i j):Lt g n (i % n) j:=by
 have e:∀ t,g (i % n+t)=g (i+t):=fun t=>by
  rw [← hg (i % n+t),← hg (i+t)]
  congr 1
  simp [Nat.add_mod]
 obtain ⟨l,h1,h2,h3⟩:=h
 exact ⟨l,h1,fun t ht=>by rw [e];exact h2 t ht,by rw [e];exact h3⟩
end
end MaR
namespace Lw
open PySem PySem.Spec PyProof.Rows L2 Ma MaR
def rk (c:Nat):Nat:=if 96<c then 2 * (c - 97) else 2 * (c - 65)+1
def rankTab_rows:List (Str×PyData):=[("a",.int 0),("A",.int 1),("b",.int 2),("B",.int 3),("c",.int 4),("C",.int 5),("d",.int 6),("D",.int 7)]
def rankTab:List (PyData×PyData):=rankTab_rows.map fun p=>(PyData.str p.1,p.2)
theorem rankTab_look {c:Nat} (h:isL c):lookup (.str (S [c])) rankTab=some (.int (rk c:Nat)):=by
 rcases isL_cases h with rfl | rfl | rfl | rfl | rfl | rfl | rfl | rfl <;> kernel_rfl
theorem rk_inj {a b:Nat} (ha:isL a) (hb:isL b) (h:rk a=rk b):a=b:=by unfold rk at h;unfold isL at *;split at h <;> split at h <;> omega
def gr (x:List Nat) (t:Nat):Nat:=rk (x.getD (t % x.length) 0)
theorem gr_mod (x:List Nat):∀ t,gr x (t % x.length)=gr x t:=fun t=>by unfold gr;rw [Nat.mod_mod]
def LeastAt (x:List Nat) (b:Nat):Prop:=(x=[]∧b=0)∨(b<x.length∧∀ j,j<x.length→¬ Lt (gr x) x.length j b)
def Ends (x:List Nat) (m:Nat):Prop:=(∀ j,j<m→2 * j+1<x.length∧x.getD j 0=con (x.getD (x.length - 1 - j) 0))∧¬ (2 * m+1<x.length∧x.getD m 0=con (x.getD (x.length - 1 - m) 0))
def mid (x:List Nat) (m:Nat):List Nat:=(x.drop m).take (x.length - 2 * m)
def rot (x:List Nat) (b:Nat):List Nat:=x.drop b++x.take b
def RingR (x r:List Nat):Prop:=∃ m b,Ends x m∧LeastAt (mid x m) b∧r=rot (mid x m) b
theorem Ends.le {x:List Nat} {m:Nat} (h:Ends x m):2 * m≤x.length:=by
 cases m with
 | zero=>omega
 | succ m=>have:=(h.1 m (Nat.lt_succ_self _)).1;omega
theorem Ends.inj {x:List Nat} {m m':Nat} (h:Ends x m) (h':Ends x m'):m=m':=by
 by_cases c:m<m'
 ·exact absurd (h'.1 m c) h.2
 ·by_cases c2:m' < m
  ·exact absurd (h.1 m' c2) h'.2
  ·omega
theorem mid_len {x:List Nat} {m:Nat} (h:2 * m≤x.length):(mid x m).length=x.length - 2 * m:=by unfold mid;rw [List.length_take,List.length_drop];omega
theorem mid_all {x:List Nat} {m:Nat} (h:AllL x):AllL (mid x m):=fun c hc=>h c (List.mem_of_mem_drop (List.mem_of_mem_take hc))
theorem LeastAt.le {x:List Nat} {b:Nat} (h:LeastAt x b):b≤x.length:=by
 rcases h with ⟨e,rfl⟩ | ⟨h,_⟩
 ·exact Nat.zero_le _
 ·omega
theorem slice_ss (w:List Nat) {i j:Int} (h0:0≤i) (h1:i≤j) (h2:j≤w.length):Txt.slice (S w) (some i) (some j)=S ((w.drop i.toNat).take (j - i).toNat):=by
 have:=slice_closesL (x:=S w) h0 h1 (by rw [S_len];exact h2)
 rw [beq_iff_eq.mp this]
def spRank:Sp:=fun vs H Q _=>∃ c:Nat,vs=[.str (S [c])]∧isL c∧∀ H',Same H H'→Q (.int (rk c:Nat)) H'
def spRingOf:Sp:=fun vs H Q _=>∃ x:List Nat,vs=[.str (S x)]∧AllL x∧x.length≤900∧∀ (r:List Nat) (H':Hp),RingR x r→Same H H'→Q (.str (S r)) H'
end Lw
namespace Lw
open PySem PySem.Spec PyProof.Rows L2 Ma MaR
theorem rot_len {x:List Nat} {b:Nat} (h:b≤x.length):(rot x b).length=x.length:=by unfold rot;rw [List.length_append,List.length_drop,List.length_take];omega
theorem rot_get {x:List Nat} {b t:Nat} (h:b<x.length) (ht:t<x.length):(rot x b)[t]?=some (x.getD ((b+t) % x.length) 0):=by
 unfold rot
 by_cases c:t<x.length - b
 ·rw [List.getElem?_append_left (by rw [List.length_drop];omega),List.getElem?_drop,Nat.mod_eq_of_lt (by omega),List.getD_eq_getElem?_getD,List.getElem?_eq_getElem (by omega)]
  rfl
 ·rw [List.getElem?_append_right (by rw [List.length_drop];omega),List.length_drop,List.getElem?_take_of_lt (by omega)]
  have e:(b+t) % x.length=t - (x.length - b):=by
   rw [show b+t=(t - (x.length - b))+x.length by omega,Nat.add_mod_right,Nat.mod_eq_of_lt (by omega)]
  rw [e,List.getD_eq_getElem?_getD,List.getElem?_eq_getElem (by omega)]
  rfl
theorem rot_eq {x:List Nat} (hx:AllL x) {b c:Nat} (hb:b<x.length) (hc:c<x.length) (h:∀ t,t<x.length→gr x (b+t)=gr x (c+t)):rot x b=rot x c:=by
 have isx:∀ i:Nat,i<x.length→isL (x.getD i 0):=fun i hi=>by
  rw [List.getD_eq_getElem?_getD,List.getElem?_eq_getElem hi];exact hx _ (List.getElem_mem hi)
 refine List.ext_getElem? fun t=>?_
 by_cases ht:t<x.length
 ·rw [rot_get hb ht,rot_get hc ht]
  have:=h t ht
  unfold gr at this
  rw [rk_inj (isx _ (Nat.mod_lt _ (by omega))) (isx _ (Nat.mod_lt _ (by omega))) this]
 ·rw [List.getElem?_eq_none (by rw [rot_len (by omega)];omega),List.getElem?_eq_none (by rw [rot_len (by omega)];omega)]
end Lw
namespace Lw
open PySem PySem.Spec PyProof.Rows L2 Ma MaR
def rks (x:List Nat):List Int:=x.map fun c=>((rk c:Nat):Int)
theorem rks_len (x:List Nat):(rks x).length=x.length:=by unfold rks;rw [List.length_map]
theorem idx_S {c:Nat} (h:isL c):(Builtin.Str.occurrences (Str.ofString "aAbBcCdD") (S [c]) 0 (Str.ofString "aAbBcCdD").length 1).isEmpty=false∧Txt.find (Str.ofString "aAbBcCdD") (S [c])=((rk c:Nat):Int):=by
 rcases isL_cases h with rfl | rfl | rfl | rfl | rfl | rfl | rfl | rfl <;> exact ⟨by decide +kernel,by decide +kernel⟩
def spKey:Sp:=fun vs H Q _=>∃ x:List Nat,vs=[.str (S x)]∧AllL x∧x.length≤900∧∀ (p a:Addr) (H':Hp),H p=none→H a=none→Same H H'→H' p=some (.tup [.int (x.length:Nat),.ref a])→H' a=some (.lst ((rks x).map V.int))→Q (.ref p) H'
theorem lexLt_iff:∀ (as bs:List Int),as.length=bs.length→(HT.lexLt as bs=true↔∃ l,l<as.length∧(∀ t,t<l→as[t]?=bs[t]?)∧∃ u v,as[l]?=some u∧bs[l]?=some v∧u<v)
 | [],[],_=>by simp [HT.lexLt]
 | [],_::_,h=>by simp at h
 | _::_,[],h=>by simp at h
 | a::as,b::bs,h=>by
  have ih:=lexLt_iff as bs (by simpa using h)
  rw [HT.lexLt_cons]
  by_cases e:a=b
  ·rw [if_pos e,ih]
   constructor
   ·rintro ⟨l,h1,h2,u,v,h3,h4,h5⟩
    refine ⟨l+1,by simpa using h1,fun t ht=>?_,u,v,by simpa using h3,by simpa using h4,h5⟩
    cases t with
    | zero=>simp [e]
    | succ t=>simpa using h2 t (by omega)
   ·rintro ⟨l,h1,h2,u,v,h3,h4,h5⟩
    cases l with
    | zero =>
     simp at h3 h4
     omega
    | succ l=>exact ⟨l,by simpa using h1,fun t ht=>by simpa using h2 (t+1) (by omega),u,v,by simpa using h3,by simpa using h4,h5⟩
  ·rw [if_neg e,decide_eq_true_iff]
   constructor
   ·intro q
    exact ⟨0,by simp,fun t ht=>absurd ht (Nat.not_lt_zero _),a,b,rfl,rfl,q⟩
   ·rintro ⟨l,h1,h2,u,v,h3,h4,h5⟩
    cases l with
    | zero=>simp at h3 h4;omega
    | succ l =>
     have:=h2 0 (by omega)
     simp at this
     exact absurd this e
theorem key_lt {x:List Nat} {i j:Nat} (hi:i<x.length) (hj:j<x.length):HT.lexLt (rks (rot x i)) (rks (rot x j))=true↔Lt (gr x) x.length i j:=by
 rw [lexLt_iff _ _ (by rw [rks_len,rks_len,rot_len (by omega),rot_len (by omega)])]
 have g:∀ b t,b<x.length→t<x.length→(rks (rot x b))[t]?=some ((gr x (b+t):Nat):Int):=fun b t hb ht=>by
  unfold rks gr
  rw [List.getElem?_map,rot_get hb ht];rfl
 constructor
 ·rintro ⟨l,h1,h2,u,v,h3,h4,h5⟩
  rw [rks_len,rot_len (by omega)] at h1
  rw [g i l hi h1] at h3
  rw [g j l hj h1] at h4
  cases h3;cases h4
  refine ⟨l,h1,fun t ht=>?_,by omega⟩
  have:=h2 t ht
  rw [g i t hi (by omega),g j t hj (by omega)] at this
  have:=Option.some.inj this
  omega
 ·rintro ⟨l,h1,h2,h3⟩
  exact ⟨l,by rw [rks_len,rot_len (by omega)];exact h1,fun t ht=>by rw [g i t hi (by omega),g j t hj (by omega),h2 t ht],_,_,g i l hi h1,g j l hj h1,by omega⟩
end Lw
namespace Lw
open PySem PySem.Spec PyProof.Rows L2 Ma MaR
theorem mid_get {x:List Nat} {t i:Nat} (h:i<x.length - 2 * t):(mid x t)[i]?=some (x.getD (t+i) 0):=by
 unfold mid
 rw [List.getElem?_take_of_lt h,List.getElem?_drop,List.getD_eq_getElem?_getD,List.getElem?_eq_getElem (by omega)]
 rfl
theorem mid_zero (x:List Nat):mid x 0=x:=by unfold mid;simp
theorem mid_succ {x:List Nat} {t:Nat} (h:2 * t+1<x.length):((mid x t).drop 1).take ((x.length - 2 * t) - 2)=mid x (t+1):=by
 unfold mid
 rw [List.drop_take,List.drop_drop,List.take_take]
 congr 1
 omega
theorem rot_zero (x:List Nat):rot x 0=x:=by unfold rot;simp
theorem rot_all {x:List Nat} {b:Nat} (h:AllL x):AllL (rot x b):=AllL.app.mpr ⟨fun c hc=>h c (List.mem_of_mem_drop hc),fun c hc=>h c (List.mem_of_mem_take hc)⟩
theorem atI_end {ys:List Nat} {z:Nat} (h:ys[ys.length - 1]?=some z):atI ys (-1)=some z:=by
 have hne:ys≠[]:=by intro e;subst e;simp at h
 have e:ys=ys.dropLast++[ys.getLast hne]:=(List.dropLast_concat_getLast hne).symm
 have hz:ys.getLast hne=z:=by
  rw [List.getLast_eq_getElem]
  have hl:ys.length - 1<ys.length:=by have:=List.length_pos_iff.mpr hne;omega
  rw [List.getElem?_eq_getElem hl] at h
  exact Option.some.inj h
 rw [e,hz]
 exact atI_last _ _
end Lw
namespace Lw
open PySem PySem.Spec PyProof.Rows L2 Ma MaR
def Cyc (y:List Nat):Prop:=∀ k,k<y.length→y.getD k 0≠con (y.getD ((k+1) % y.length) 0)
theorem plainR_get:∀ (k:List Nat),PlainR k→∀ i a b,k[i]?=some a→k[i+1]?=some b→b≠con a
 | [],_,i,a,b,h,_=>by simp at h
 | [_],_,i,a,b,_,h=>by simp at h
 | c::d::r,h,0,a,b,h1,h2=>by
  simp at h1 h2
  subst h1 h2
  exact h.1
 | c::d::r,h,i+1,a,b,h1,h2=>plainR_get (d::r) h.2 i a b (by simpa using h1) (by simpa using h2)
theorem plain_get {x:List Nat} (h:Plain x) {k a b:Nat} (h1:x[k]?=some a) (h2:x[k+1]?=some b):a≠con b:=by
 have l2:=(List.getElem?_eq_some_iff.mp h2).1
 refine plainR_get x.reverse h (x.length - 1 - (k+1)) b a ?_ ?_
 ·rw [List.getElem?_reverse (by omega),show x.length - 1 - (x.length - 1 - (k+1))=k+1 by omega];exact h2
 ·rw [List.getElem?_reverse (by omega),show x.length - 1 - (x.length - 1 - (k+1)+1)=k by omega];exact h1
theorem get_getD {x:List Nat} {i:Nat} (h:i<x.length):x[i]?=some (x.getD i 0):=by rw [List.getD_eq_getElem?_getD,List.getElem?_eq_getElem h];rfl
theorem getD_isL {x:List Nat} (hx:AllL x) {i:Nat} (h:i<x.length):isL (x.getD i 0):=hx _ (List.mem_of_getElem? (get_getD h))
theorem mid_getD {x:List Nat} {t i:Nat} (h:i<x.length - 2 * t):(mid x t).getD i 0=x.getD (t+i) 0:=by
 rw [List.getD_eq_getElem?_getD,mid_get h];rfl
theorem mid_cyc {x:List Nat} (hx:AllL x) (hp:Plain x) {t:Nat} (he:Ends x t):Cyc (mid x t):=fun k hk=>by
 have ml:=mid_len he.le
 rw [ml] at hk ⊢
 by_cases c:k+1<x.length - 2 * t
 ·rw [Nat.mod_eq_of_lt c,mid_getD hk,mid_getD c]
  exact plain_get hp (get_getD (by omega)) (by rw [show t+k+1=t+(k+1) by omega];exact get_getD (by omega))
 ·have e:k+1=x.length - 2 * t:=by omega
  rw [← e,Nat.mod_self,mid_getD hk,mid_getD (by omega)]
  by_cases c2:k=0
  ·subst c2;exact (con_ne (getD_isL hx (by omega))).symm
  ·intro q
   refine he.2 ⟨by omega,?_⟩
   rw [show x.length - 1 - t=t+k by omega,q,Nat.add_zero,con_con (getD_isL hx (by omega))]
theorem rot_getD {x:List Nat} {b t:Nat} (h:b<x.length) (ht:t<x.length):(rot x b).getD t 0=x.getD ((b+t) % x.length) 0:=by
 rw [List.getD_eq_getElem?_getD,rot_get h ht];rfl
theorem gr_rot {x:List Nat} {a:Nat} (h:a<x.length) (t:Nat):gr (rot x a) t=gr x (a+t):=by
 unfold gr
 rw [rot_len (by omega),rot_getD h (Nat.mod_lt _ (by omega)),Nat.add_mod_mod]
theorem rot_ends {x:List Nat} (hx:AllL x) (hc:Cyc x) {a:Nat} (h:a<x.length):Ends (rot x a) 0:=by
 refine ⟨fun j hj=>absurd hj (Nat.not_lt_zero _),fun ⟨h1,h2⟩=>?_⟩
 rw [rot_len (by omega)] at h1 h2
 rw [rot_getD h (by omega),rot_getD h (by omega)] at h2
 have q:=hc ((a+(x.length - 1 - 0)) % x.length) (Nat.mod_lt _ (by omega))
 apply q
 have e:((a+(x.length - 1 - 0)) % x.length+1) % x.length=(a+0) % x.length:=by
  rw [Nat.mod_add_mod,show a+(x.length - 1 - 0)+1=a+0+x.length by omega,Nat.add_mod_right]
 rw [e,h2,con_con (getD_isL hx (Nat.mod_lt _ (by omega)))]
theorem lt_rot {x:List Nat} {a i j:Nat} (h:a<x.length):Lt (gr (rot x a)) x.length i j↔Lt (gr x) x.length (a+i) (a+j):=by
 have e:∀ i t,gr (rot x a) (i+t)=gr x (a+i+t):=fun i t=>by rw [gr_rot h,Nat.add_assoc]
 constructor
 ·rintro ⟨l,h1,h2,h3⟩;exact ⟨l,h1,fun t ht=>by rw [← e,← e];exact h2 t ht,by rw [← e,← e];exact h3⟩
 ·rintro ⟨l,h1,h2,h3⟩;exact ⟨l,h1,fun t ht=>by rw [e,e];exact h2 t ht,by rw [e,e];exact h3⟩
theorem lt_modR {g:Nat→Nat} {n i j:Nat} (hg:∀ t,g (t % n)=g t) (h:Lt g n i j):Lt g n i (j % n):=by
 have e:∀ t,g (j % n+t)=g (j+t):=fun t=>by rw [← hg (j % n+t),← hg (j+t),Nat.mod_add_mod]
 obtain ⟨l,h1,h2,h3⟩:=h
 exact ⟨l,h1,fun t ht=>by rw [e];exact h2 t ht,by rw [e];exact h3⟩
theorem least_rot {x:List Nat} {a b c:Nat} (ha:a<x.length) (hb:LeastAt x b) (hc:c<x.length) (e:(a+c) % x.length=b):LeastAt (rot x a) c:=by
 rcases hb with ⟨h0,_⟩ | ⟨hb,hm⟩
 ·subst h0;simp at ha
 ·refine .inr ⟨by rw [rot_len (by omega)];exact hc,fun j hj q=>?_⟩
  rw [rot_len (by omega)] at hj q
  have q1:=lt_modR (gr_mod x) (lt_mod (gr_mod x) ((lt_rot ha).mp q))
  rw [e] at q1
  exact hm _ (Nat.mod_lt _ (by omega)) q1
theorem rot_rot {x:List Nat} {a c b:Nat} (ha:a<x.length) (hc:c<x.length) (hb:b<x.length) (e:(a+c) % x.length=b):rot (rot x a) c=rot x b:=by
 have l1:(rot x a).length=x.length:=rot_len (by omega)
 refine List.ext_getElem? fun t=>?_
 by_cases ht:t<x.length
 ·rw [rot_get (by omega) (by omega),rot_get hb ht,l1,rot_getD ha (Nat.mod_lt _ (by omega)),Nat.add_mod_mod,← e,Nat.mod_add_mod,Nat.add_assoc]
 ·rw [List.getElem?_eq_none (by rw [rot_len (by omega)];omega),List.getElem?_eq_none (by rw [rot_len (by omega)];omega)]
end Lw
namespace Lw
open PySem PySem.Spec PyProof.Rows L2 Ma MaR
theorem ring_nil:RingR [] []:=⟨0,0,⟨fun j hj=>absurd hj (Nat.not_lt_zero _),fun h=>by simp at h⟩,.inl ⟨rfl,rfl⟩,rfl⟩
theorem rot_end (x:List Nat):rot x x.length=x:=by unfold rot;simp
theorem ring_rot {x r:List Nat} (hx:AllL x) (hp:Plain x) (h:RingR x r) {a:Nat} (ha:a≤r.length):RingR (rot r a) r:=by
 obtain ⟨m,b,he,hb,rfl⟩:=h
 have hy:=mid_all (m:=m) hx
 have hc:=mid_cyc hx hp he
 generalize mid x m=y at hb hy hc ha
 rcases id hb with ⟨rfl,rfl⟩ | ⟨hbl,hm⟩
 ·have:a=0:=by simpa [rot] using ha
  subst this
  exact ring_nil
 ·have lr:(rot y b).length=y.length:=rot_len (by omega)
  have key:∀ a,a<y.length→RingR (rot (rot y b) a) (rot y b):=fun a ha=>by
   rw [rot_rot hbl ha (Nat.mod_lt _ (by omega)) rfl]
   have ha':(b+a) % y.length<y.length:=Nat.mod_lt _ (by omega)
   generalize (b+a) % y.length=a' at ha'
   have e:(a' + (b+y.length - a') % y.length) % y.length=b:=by
    rw [Nat.add_mod_mod,show a' + (b+y.length - a')=b+y.length by omega,Nat.add_mod_right,Nat.mod_eq_of_lt hbl]
   have hcl:(b+y.length - a') % y.length<y.length:=Nat.mod_lt _ (by omega)
   refine ⟨0,(b+y.length - a') % y.length,rot_ends hy hc ha',?_,?_⟩
   ·rw [mid_zero];exact least_rot ha' hb hcl e
   ·rw [mid_zero,rot_rot ha' hcl hbl e]
  by_cases c:a<y.length
  ·exact key a c
  ·have:a=(rot y b).length:=by omega
   rw [this,rot_end]
   have:=key 0 (by omega)
   rwa [rot_zero] at this
theorem RingR.sub {x r:List Nat} (h:RingR x r):∀ c∈r,c∈x:=by
 obtain ⟨m,b,he,hb,rfl⟩:=h
 intro c hc
 unfold rot at hc
 have:c∈mid x m:=by rcases List.mem_append.mp hc with q | q;exact List.mem_of_mem_drop q;exact List.mem_of_mem_take q
 exact List.mem_of_mem_drop (List.mem_of_mem_take this)
theorem RingR.len {x r:List Nat} (h:RingR x r):r.length≤x.length:=by
 obtain ⟨m,b,he,hb,rfl⟩:=h
 rw [rot_len hb.le,mid_len he.le];omega
theorem mul_ok (w:List Nat) (n:Nat) (h1:1≤n) (h2:n≤10) (hw:w.length≤100):MulOk (S w) (n:Int):=by
 refine ⟨?_,fun _ _=>?_,fun _ _=>?_⟩
 ·have e1:decide ((n:Int) < -(2 ^ 63:Int))=false:=decide_eq_false (by omega)
  have e2:decide ((n:Int) ≥ 2 ^ 63)=false:=decide_eq_false (by omega)
  rw [e1,e2];rfl
 ·rw [S_len]
  have:(n=1∨n=2∨n=3∨n=4∨n=5∨n=6∨n=7∨n=8∨n=9∨n=10):=by omega
  rcases this with rfl | rfl | rfl | rfl | rfl | rfl | rfl | rfl | rfl | rfl <;> omega
 ·rw [S_len,show ((n:Nat):Int).toNat=n by omega]
  have h9:w.length * n≤1000:=Nat.le_trans (Nat.mul_le_mul hw h2) (by decide)
  unfold Builtin.Str.tooLong
  have h10:(1000:Nat)≤sizeLine:=len_1000 (by decide)
  exact decide_eq_false (by omega)
end Lw
namespace L2
open PySem PySem.Spec PyProof.Rows
section
variable {X:Cx} {e:Expr} {te:TE} {lo hi:Option Expr} {stp:Expr} {tl th tk:TO} {pos p2:Pos}
end
abbrev Cx.one (X:Cx):Cx:={ X with A:=X.A.in1,xe:=fun _ _=>False }
theorem Cx.Ok.one {X:Cx} (o:X.Ok):X.one.Ok :=
 ⟨o.mod,o.kind,o.glob,o.blt,o.above,o.inj,o.has,o.cab,o.hd,o.frames,o.stk,o.exf,o.bs,o.bsz,o.noex,o.exfs,o.funs,o.frf⟩
section
variable {X:Cx} {pins:List (Addr×Obj)} {σ:St} {H:Hp} {s:Shared}
theorem Inv.one (I:Inv X pins σ H s):Inv X.one pins σ H s:=⟨I.ok.one,I.os,I.bare,I.base,I.loc,I.cell,I.free,I.freeC,I.pin,I.hok,I.len⟩
theorem Inv.unone (o:X.Ok) (I:Inv X.one pins σ H s):Inv X pins σ H s:=⟨o,I.os,I.bare,I.base,I.loc,I.cell,I.free,I.freeC,I.pin,I.hok,I.len⟩
end
def tMinK (K:PySem.W.Frag) (sp:Sp) (rlt:R2) (ta:TA):TE:=fun σ H Q=>ta σ H fun vs H1=>∃ (l:Addr) (xs:List V) (Pv:Nat→V→V→Hp→Prop),vs=[.ref l]∧SqL K H1 l xs ∧
 (∀ i b kb H,Pv i b kb H→SqL K H l xs)∧(∃ x0,xs[0]?=some x0∧sp [x0] H1 (fun v H2=>Pv 1 x0 v H2) E0) ∧
 (∀ i b kb H,Pv i b kb H→∀ y,xs[i]?=some y→sp [y] H (fun v H2=>rlt v kb H2 fun c H3=>∃ t,c=.bl t∧Pv (i+1) (if t=true then y else b) (if t=true then v else kb) H3) E0) ∧
 ∀ b kb H,Pv xs.length b kb H→Q b H
section
variable {X:Cx} {k:Nat} {f:Addr} {fd:FuncData} {ps:List Str} {sp:Sp} {rlt:R2}
theorem minName:(toString "min"++toString ".loop":String)="min.loop":=by decide
abbrev MinR (X:Cx) (pins:List (Addr×Obj)) (σ:St) (Q:VK):Result→Shared→Prop:=fun r s'=>match r with | .ok (.ret v)=>EP X pins σ Q v s' | .ok _=>False | .error e=>X.xe e s'
theorem min_go {pins:List (Addr×Obj)} {σ:St} {Q:VK} {l it bs:Addr} {xs:List V} {Pv:Nat→V→V→Hp→Prop}
  (F:FnOk X.prog X.w X.K X.mg X.base CX0 k f fd ps sp) (hr:Room (k+1) X.A) (hb:Binds X.K fd ps []) (hlt:OpR X.one (compareOp .Lt) rlt) (hc:X.calm=true) (ok:X.Ok) (hne:bs≠it)
  (hsq:∀ i b kb H,Pv i b kb H→SqL X.K H l xs)
  (hst:∀ i b kb H,Pv i b kb H→∀ y,xs[i]?=some y→sp [y] H (fun v H2=>rlt v kb H2 fun c H3=>∃ t,c=.bl t∧Pv (i+1) (if t=true then y else b) (if t=true then v else kb) H3) E0)
  (hend:∀ b kb H,Pv xs.length b kb H→Q b H) :
  ∀ (r i:Nat) (s:Shared) (H:Hp) (b kb:V) (ub uk:Value) (c:Nat),xs.length - i=r→i≤xs.length→Inv X.one pins σ H s→(∀ a∈[it,bs],FpOk X.one pins H a)→s.heap.IsListIter it l i→s.heap.get? bs=some (seqObj "list" #[ub,uk] c)→RelV b ub→RelV kb uk→Pv i b kb H →
   codeAny (model X.prog X.w) X.A (.builtin "min.loop" ⟨[.ref it,.ref f,.ref bs],[]⟩) (MinR X pins σ Q) s:=by
 intro r
 induction r with
 | zero =>
  intro i s H b kb ub uk c hri hi I hf st gb rb rk pv
  have hin:i=xs.length:=by omega
  subst hin
  obtain ⟨its,rv,pl,hz⟩:=I.list (hsq _ _ _ _ pv)
  have hlen:=rv.length
  obtain ⟨f0,f1,f2,f3,f4,f5⟩:=hf it (by simp)
  obtain ⟨g0,g1,g2,g3,g4,g5⟩:=hf bs (by simp)
  refine codeAny_builtin PySem.F.entry_min_loop ?_
  rw [Around.under_plainId PySem.F.plain_min_loop _]
  show wpAny _ X.A.in1 (seqItems? (.ref bs) >>= _) _ _ _
  refine wpAny_bind (wpAny_seqItems gb rfl ?_)
  show wpAny _ X.A.in1 (tryCatch (pyNext (.ref it)) _ >>= _) _ _ _
  refine wpAny_bind (wpAny_tryCatch (wpAny_pyNext_list_end (I.ok.hd hc) st pl.isList (by simp;omega) fun h' eb=>?_))
  have I1:Inv X.one pins σ H { s with heap:=h' }:=I.turned (t':=s.toks) (fun a o ha e=>eb a o ha e) f0 f1 f3 f4 f5
  have gb1:=eb bs _ hne gb
  show wpAny _ X.A.in1 (updateSeq bs (fun _=>#[]) >>= _) _ _ _
  refine wpAny_bind (wpAny_updateSeq gb1 rfl (wpAny_bind (wpAny_letGo (wpAny_pure ?_))))
  have sb:=Heap.SameBut.update h' bs (Obj.mapSeq fun _=>(#[]:Array Value))
  have I2:=I1.turned (t':=s.toks) (h':=h'.update bs (Obj.mapSeq fun _=>(#[]:Array Value))) (fun a o ha e=>(sb.2 a ha).trans e) g0 g1 g3 g4 g5
  exact ⟨b,H,I2.unone ok,rb,hend _ _ _ pv⟩
 | succ r ih =>
  intro i s H b kb ub uk c hri hi I hf st gb rb rk pv
  have hlt':i<xs.length:=by omega
  obtain ⟨y,hy⟩:∃ y,xs[i]?=some y:=⟨_,List.getElem?_eq_getElem hlt'⟩
  obtain ⟨its,rv,pl,hz⟩:=I.list (hsq _ _ _ _ pv)
  obtain ⟨u,hu,ru⟩:=rv.get hy
  obtain ⟨f0,f1,f2,f3,f4,f5⟩:=hf it (by simp)
  obtain ⟨g0,g1,g2,g3,g4,g5⟩:=hf bs (by simp)
  refine codeAny_builtin PySem.F.entry_min_loop ?_
  rw [Around.under_plainId PySem.F.plain_min_loop _]
  show wpAny _ X.A.in1 (seqItems? (.ref bs) >>= _) _ _ _
  refine wpAny_bind (wpAny_seqItems gb rfl ?_)
  show wpAny _ X.A.in1 (tryCatch (pyNext (.ref it)) _ >>= _) _ _ _
  refine wpAny_bind (wpAny_tryCatch (wpAny_pyNext_list_item st pl.isList (x:=u) (by simpa using hu) fun h' st' sb=>?_))
  have I1:Inv X.one pins σ H { s with heap:=h' }:=I.turned (t':=s.toks) (fun a o ha e=>(sb.2 a ha).trans e) f0 f1 f3 f4 f5
  have gb1:h'.get? bs=some (seqObj "list" #[ub,uk] c):=(sb.2 bs hne).trans gb
  obtain ⟨oi,goi,goc,god⟩:=id st'
  have hob:∀ a∈[it,bs],∃ o,h'.get? a=some o∧∀ v,o.data≠.cell v:=fun a ha=>by
   rcases List.mem_cons.mp ha with rfl | ha
   ·exact ⟨oi,goi,fun v z=>by rw [god] at z;cases z⟩
   ·rw [List.mem_singleton.mp ha];exact ⟨_,gb1,fun v z=>by cases z⟩
  have I2:=I1.pinned hf hob
  show wpAny _ X.A.in1 (tryCatch (holding [u] (call (.ref f) [u])) _ >>= _) _ _ _
  refine wpAny_bind (wpAny_tryCatch (wpAny_holding (wpAny_mono (run_fn (X:=X.one) F hr.in1 hb .nil pass0 I2 (.cons ru .nil) (hst i b kb H pv y hy)) (fun z s2 he=>?_) fun _ _ hF=>hF.elim)))
  obtain ⟨v,H2,I3,rz,q2⟩:=he
  show wpAny _ X.A.in1 (tryCatch (holding [u,z] (richCompare .Lt z uk >>= _)) _ >>= _) _ _ _
  refine wpAny_bind (wpAny_tryCatch (wpAny_holding (wpAny_bind (wpAny_mono (hlt _ s2 σ H2 v kb z uk _ I3 rz rk q2) (fun cv s3 hq=>?_) fun _ _ hF=>hF.elim))))
  obtain ⟨cc,H3,I4,rc,t,rfl,pv'⟩:=hq
  obtain rfl:cv=.bool t:=rc
  refine wpAny_bind (wpAny_holding (wpAny_truthy_bool (wpAny_bind (wpAny_letGo (wpAny_pure ?_)))))
  have pin4:∀ a∈[it,bs],∀ o,h'.get? a=some o→s3.heap.get? a=some o∧H3 a=none:=fun a ha o e=>by
   have:=I4.pin (a,o) (List.mem_append_right _ (List.mem_append_right _ (mem_pinsAt ha e)))
   exact ⟨this.1,this.2.1⟩
  obtain ⟨gi4,ni4⟩:=pin4 it (by simp) oi goi
  obtain ⟨gb4,nb4⟩:=pin4 bs (by simp) _ gb1
  have hf4:∀ a∈[it,bs],FpOk X.one pins H3 a:=fun a ha=>by
   refine ⟨?_,(hf a ha).2⟩
   rcases List.mem_cons.mp ha with rfl | ha
   ·exact ni4
   ·rw [List.mem_singleton.mp ha];exact nb4
  have I5:=I4.unpinned
  cases t with
  | true =>
   show wpAny _ X.A.in1 (updateSeq bs (fun _=>#[u,z]) >>= _) _ _ _
   refine wpAny_bind (wpAny_updateSeq gb4 rfl (wpAny_bind (wpAny_letGo ?_)))
   rw [minName]
   have sb2:=Heap.SameBut.update s3.heap bs (Obj.mapSeq fun _=>#[u,z])
   obtain ⟨n0,n1,n2,n3,n4,n5⟩:=hf4 bs (by simp)
   have I6:=I5.turned (t':=s3.toks) (h':=s3.heap.update bs (Obj.mapSeq fun _=>#[u,z])) (fun a o ha e=>(sb2.2 a ha).trans e) n0 n1 n3 n4 n5
   exact wpAny_pure ⟨plainId_quiet PySem.F.plain_min_loop _,ih (i+1) _ H3 y v u z _ (by omega) (by omega) I6 hf4 ⟨oi,(sb2.2 it hne.symm).trans gi4,goc,god⟩ (get?_update_seq gb4 fun _=>#[u,z]) ru rz (by simpa using pv')⟩
  | false =>
   refine wpAny_bind (wpAny_letGo ?_)
   rw [minName]
   exact wpAny_pure ⟨plainId_quiet PySem.F.plain_min_loop _,ih (i+1) _ H3 b kb ub uk c (by omega) (by omega) I5 hf4 ⟨oi,gi4,goc,god⟩ gb4 rb rk (by simpa using pv')⟩
theorem min_run {pins:List (Addr×Obj)} {σ:St} {Q:VK} {l:Addr} {xs:List V} {Pv:Nat→V→V→Hp→Prop} {s:Shared} {H:Hp}
  (F:FnOk X.prog X.w X.K X.mg X.base CX0 k f fd ps sp) (hr:Room (k+1) X.A) (hb:Binds X.K fd ps []) (hlt:OpR X.one (compareOp .Lt) rlt) (hc:X.calm=true) (I:Inv X pins σ H s) (hq:SqL X.K H l xs)
  (hsq:∀ i b kb H,Pv i b kb H→SqL X.K H l xs) {x0:V} (hx0:xs[0]?=some x0) (h0:sp [x0] H (fun v H2=>Pv 1 x0 v H2) E0)
  (hst:∀ i b kb H,Pv i b kb H→∀ y,xs[i]?=some y→sp [y] H (fun v H2=>rlt v kb H2 fun c H3=>∃ t,c=.bl t∧Pv (i+1) (if t=true then y else b) (if t=true then v else kb) H3) E0)
  (hend:∀ b kb H,Pv xs.length b kb H→Q b H) :
  wpAny (model X.prog X.w) X.A (call (.builtin "min") [.ref l] [(Str.ofString "key",.ref f)]) (EP X pins σ Q) X.xe s:=by
 obtain ⟨its,rv,pl,hz⟩:=I.list hq
 obtain ⟨u,hu,ru⟩:=rv.get hx0
 obtain ⟨ol,hol,_⟩:=id pl.isList
 have hll:=Heap.lt_size hol
 refine kmk_tree PySem.F.kind_min PySem.F.plain_min PySem.F.entry_min (kmk_min_key _ _) ?_
 show wpAny _ X.A.in1 (Builtin.Builtins.bindParams "min" ["key","default"] 0 ⟨[],[(Str.ofString "key",.ref f)]⟩ >>= _) _ _ s
 have ebp:Builtin.Builtins.bindParams "min" ["key","default"] 0 ⟨[],[(Str.ofString "key",.ref f)]⟩=pure [some (.ref f),none]:=rfl
 refine wpAny_bind (wpAny_of_eq ebp (wpAny_bind (wpAny_pure (wpAny_bind (wpAny_pyIter_list pl.isList (wpAny_bind (wpAny_newList ?_ (Nat.zero_le _))))))))
 rw [minName]
 obtain ⟨h1,e1⟩:∃ h1,h1=s.heap.push { cls:=.type "list_iterator",data:=.fields #[.ref l,.int 0 0] }:=⟨_,rfl⟩
 rw [← e1]
 have z1:h1.objs.size=s.heap.objs.size+1:=by rw [e1];exact size_push' ..
 obtain ⟨h2,e2⟩:∃ h2,h2=h1.push (seqObj "list" #[] 0):=⟨_,rfl⟩
 have kp1:∀ b o,s.heap.get? b=some o→h1.get? b=some o:=fun b o e=>by rw [e1];exact Heap.get?_push_of_some _ e
 have kp2:∀ b o,h1.get? b=some o→h2.get? b=some o:=fun b o e=>by rw [e2];exact Heap.get?_push_of_some _ e
 have gi:h1.get? s.heap.objs.size=some { cls:=.type "list_iterator",data:=.fields #[.ref l,.int 0 0] }:=by rw [e1];exact Heap.get?_push_size _ rfl
 have gs:h2.get? h1.objs.size=some (seqObj "list" #[] 0):=by rw [e2];exact Heap.get?_push_size _ rfl
 have I0:Inv X.one pins σ H { s with heap:=h2 }:=I.one.kept (t':=s.toks) fun b o e=>kp2 b o (kp1 b o e)
 have hne:h1.objs.size≠s.heap.objs.size:=by omega
 have hf:∀ a∈[s.heap.objs.size,h1.objs.size],FpOk X.one pins H a:=fun a ha=>by
  have:s.heap.objs.size≤a:=by
   rcases List.mem_cons.mp ha with rfl | ha
   ·exact Nat.le_refl _
   ·rw [List.mem_singleton.mp ha];omega
  exact I.one.fpOk this (I.hok.fresh this)
 refine wpAny_pure ⟨plainId_quiet PySem.F.plain_min_loop _,?_⟩
 refine codeAny_builtin PySem.F.entry_min_loop ?_
 rw [Around.under_plainId PySem.F.plain_min_loop _]
 show wpAny _ X.A.in1 (seqItems? (.ref h1.objs.size) >>= _) _ _ { s with heap:=h1.push (seqObj "list" #[] 0) }
 rw [← e2]
 refine wpAny_bind (wpAny_seqItems gs rfl ?_)
 show wpAny _ X.A.in1 (tryCatch (pyNext (.ref s.heap.objs.size)) _ >>= _) _ _ _
 obtain ⟨its2,rv2,pl2,_⟩:=I0.list hq
 obtain ⟨u2,hu2,ru2⟩:=rv2.get hx0
 refine wpAny_bind (wpAny_tryCatch (wpAny_pyNext_list_item (i:=0) ⟨_,kp2 _ _ gi,rfl,rfl⟩ pl2.isList (x:=u2) (by simpa using hu2) fun h' st' sb=>?_))
 obtain ⟨f0,f1,f2,f3,f4,f5⟩:=hf s.heap.objs.size (by simp)
 have I1:Inv X.one pins σ H { s with heap:=h' }:=I0.turned (t':=s.toks) (fun a o ha e=>(sb.2 a ha).trans e) f0 f1 f3 f4 f5
 have gb1:h'.get? h1.objs.size=some (seqObj "list" #[] 0):=(sb.2 _ hne).trans gs
 obtain ⟨oi,goi,goc,god⟩:=id st'
 have hob:∀ a∈[s.heap.objs.size,h1.objs.size],∃ o,h'.get? a=some o∧∀ v,o.data≠.cell v:=fun a ha=>by
  rcases List.mem_cons.mp ha with rfl | ha
  ·exact ⟨oi,goi,fun v z=>by rw [god] at z;cases z⟩
  ·rw [List.mem_singleton.mp ha];exact ⟨_,gb1,fun v z=>by cases z⟩
 have I2:=I1.pinned hf hob
 show wpAny _ X.A.in1 (tryCatch (holding [u2] (call (.ref f) [u2])) _ >>= _) _ _ _
 refine wpAny_bind (wpAny_tryCatch (wpAny_holding (wpAny_mono (run_fn (X:=X.one) F hr.in1 hb .nil pass0 I2 (.cons ru2 .nil) h0) (fun z s2 he=>?_) fun _ _ hF=>hF.elim)))
 obtain ⟨v,H2,I3,rz,pv⟩:=he
 have pin3:∀ a∈[s.heap.objs.size,h1.objs.size],∀ o,h'.get? a=some o→s2.heap.get? a=some o∧H2 a=none:=fun a ha o e=>by
  have:=I3.pin (a,o) (List.mem_append_right _ (List.mem_append_right _ (mem_pinsAt ha e)))
  exact ⟨this.1,this.2.1⟩
 obtain ⟨gi4,ni4⟩:=pin3 s.heap.objs.size (by simp) oi goi
 obtain ⟨gb4,nb4⟩:=pin3 h1.objs.size (by simp) _ gb1
 have hf4:∀ a∈[s.heap.objs.size,h1.objs.size],FpOk X.one pins H2 a:=fun a ha=>by
  refine ⟨?_,(hf a ha).2⟩
  rcases List.mem_cons.mp ha with rfl | ha
  ·exact ni4
  ·rw [List.mem_singleton.mp ha];exact nb4
 show wpAny _ X.A.in1 (updateSeq h1.objs.size (fun _=>#[u2,z]) >>= _) _ _ _
 refine wpAny_bind (wpAny_updateSeq gb4 rfl ?_)
 rw [minName]
 have sb2:=Heap.SameBut.update s2.heap h1.objs.size (Obj.mapSeq fun _=>#[u2,z])
 obtain ⟨n0,n1,n2,n3,n4,n5⟩:=hf4 h1.objs.size (by simp)
 have I6:=I3.unpinned.turned (t':=s2.toks) (h':=s2.heap.update h1.objs.size (Obj.mapSeq fun _=>#[u2,z])) (fun a o ha e=>(sb2.2 a ha).trans e) n0 n1 n3 n4 n5
 have hx1:0<xs.length:=(List.getElem?_eq_some_iff.mp hx0).1
 exact wpAny_pure ⟨plainId_quiet PySem.F.plain_min_loop _,min_go F hr hb hlt hc I.ok hne hsq hst hend _ 1 _ H2 x0 v u2 z _ rfl (by omega) I6 hf4 ⟨oi,(sb2.2 _ hne.symm).trans gi4,goc,god⟩ (get?_update_seq gb4 fun _=>#[u2,z]) ru2 rz pv⟩
theorem pe_minK {e:Expr} {ta:TA} {kn:Str} {p kp kpos pos:Pos} (F:FnOk X.prog X.w X.K X.mg X.base CX0 k f fd ps sp) (hr:Room (k+1) X.A) (hb:Binds X.K fd ps []) (hlt:OpR X.one (compareOp .Lt) rlt) (hc:X.calm=true)
  (hg:Gl X "min") (hm:X.mg "min"=none) (hgk:Gl X kn) (hmk:X.mg kn=some (.ref f)) (ha:PA X [e] ta) (hkd:(kn == ("__debug__":Str))=false:=by decide)
  (hall:(backToKw pos (keywordEach [⟨some (Str.ofString "key"),.Name kn kp,kpos⟩] X.env)).all (·.1.isSome)=true:=by rfl) (hks:(backToKw pos (keywordEach [⟨some (Str.ofString "key"),.Name kn kp,kpos⟩] X.env)).filterMap (·.1)=[Str.ofString "key"]:=by rfl)
  (hs:backTo pos (starEach [e] X.env)=[(false,eval e X.env)]:=by rfl) (hkw:(backToKw pos (keywordEach [⟨some (Str.ofString "key"),.Name kn kp,kpos⟩] X.env)).any (·.1.isNone)=false:=by rfl) :
  PE X (.Call (.Name "min" p) [e] [⟨some (Str.ofString "key"),.Name kn kp,kpos⟩] pos) (tMinK X.K sp rlt ta):=by
 intro pins s σ H Q I h
 refine wpAny_Call_Name_kw (ld_blt I hg hm boot_min ?_ (by decide) (by decide))
 refine callWith_kw (thn (ha pos pins s σ H _ I h) fun us s1 ⟨vs,H1,I1,r1,q1⟩=>?_) (by rw [hs];rfl) (by rw [hs];rfl) hall hkw
 obtain ⟨l,xs,Pv,rfl,hq,hsq,⟨x0,hx0,h0⟩,hst,hend⟩:=q1
 have hpk:PK X [⟨some (Str.ofString "key"),.Name kn kp,kpos⟩] (tCons (tC (.ref f)) tNil):=pk_cons (pe_glob (v:=.ref f) hgk hmk rfl hkd) pk_nil
 refine thn (hpk pos pins s1 σ H1 (fun zs H2=>zs=[.ref f]∧H2=H1) I1 ⟨rfl,rfl⟩) fun ks s2 ⟨zs,H2,I2,r2,e2,e3⟩=>?_
 subst e2 e3
 obtain ⟨u,rfl,ru⟩:=vals1 r1
 obtain ⟨kf,rfl,rk⟩:=vals1 r2
 cases ru
 cases rk
 rw [hks]
 exact min_run F hr hb hlt hc I2 hq hsq hx0 h0 hst hend
end
theorem op_ltKey1 {X:Cx} {k:Nat} (hr:Room k X.A):OpR X.one (compareOp .Lt) rLtKey:=op_ltKey (by
 have:=hr.units
 show X.A.units+1+8<cLine
 omega)
theorem pe_minKK {X:Cx} {K:PySem.W.Frag} {k:Nat} {f:Addr} {fd:FuncData} {ps:List Str} {sp:Sp} {rlt:R2} {e:Expr} {ta:TA} {kn:Str} {p kp kpos pos:Pos} (hK:X.K=K) (F:FnOk X.prog X.w X.K X.mg X.base CX0 k f fd ps sp) (hr:Room (k+1) X.A) (hb:Binds X.K fd ps []) (hlt:OpR X.one (compareOp .Lt) rlt) (hc:X.calm=true)
  (hg:Gl X "min") (hm:X.mg "min"=none) (hgk:Gl X kn) (hmk:X.mg kn=some (.ref f)) (ha:PA X [e] ta) (hkd:(kn == ("__debug__":Str))=false:=by decide)
  (hall:(backToKw pos (keywordEach [⟨some (Str.ofString "key"),.Name kn kp,kpos⟩] X.env)).all (·.1.isSome)=true:=by rfl) (hks:(backToKw pos (keywordEach [⟨some (Str.ofString "key"),.Name kn kp,kpos⟩] X.env)).filterMap (·.1)=[Str.ofString "key"]:=by rfl)
  (hs:backTo pos (starEach [e] X.env)=[(false,eval e X.env)]:=by rfl) (hkw:(backToKw pos (keywordEach [⟨some (Str.ofString "key"),.Name kn kp,kpos⟩] X.env)).any (·.1.isNone)=false:=by rfl) :
  PE X (.Call (.Name "min" p) [e] [⟨some (Str.ofString "key"),.Name kn kp,kpos⟩] pos) (tMinK K sp rlt ta):=by
 subst hK
 exact pe_minK F hr hb hlt hc hg hm hgk hmk ha hkd hall hks hs hkw
end L2
namespace Lw
open PySem PySem.Spec PyProof.Rows L2 Ma MaR
theorem lay_mid (u v w:List Nat) (hu:AllL u) (hv:AllL v) (hw:AllL w):lay (u++lay v++w)=lay (u++v++w):=by
 rw [← lay_left (u++lay v) w (AllL.app.mpr ⟨hu,lay_all hv⟩),lay_right u v hu hv,lay_left (u++v) w (AllL.app.mpr ⟨hu,hv⟩)]
theorem mid_rot {x r:List Nat} {m:Nat} (hx:AllL x) (he:Ends x m) (hr:RingR x r):∃ a,a≤r.length∧mid x m=rot r a:=by
 obtain ⟨m',b,he',hb,rfl⟩:=hr
 obtain rfl:=he.inj he'
 have hbl:=hb.le
 generalize mid x m=y at *
 have hl:(rot y b).length=y.length:=rot_len hbl
 refine ⟨y.length - b,by omega,?_⟩
 have h1:(y.drop b).length=y.length - b:=List.length_drop
 have e:rot y b=y.drop b++y.take b:=rfl
 generalize y.length - b=a at *
 rw [e]
 subst h1
 show y=(y.drop b++y.take b).drop (y.drop b).length++(y.drop b++y.take b).take (y.drop b).length
 rw [List.drop_left,List.take_left,List.take_append_drop]
end Lw
namespace Lw
open PySem PySem.Spec PyProof.Rows L2 Ma MaR
theorem slice_1m (w:List Nat) (h:2≤w.length):Txt.slice (S w) (some 1) (some (-1))=S ((w.drop 1).take (w.length - 2)):=by
 have e:Txt.slice (S w) (some 1) (some (-1))=Txt.slice (S w) (some 1) (some (-1+((S w).length:Int))):=by
  unfold Txt.slice
  rw [StrLaws.sliceIdx_neg_hi (some 1) (j:=-1) (S w).length (by decide) (by rw [S_len];omega)]
 rw [e,S_len,slice_ss w (by decide) (by omega) (by omega)]
 congr 2
 omega
end Lw
namespace Lw
open PySem PySem.Spec PyProof.Rows L2 Ma MaR
def lo (c:Nat):Nat:=if 96<c then c else c+32
theorem lowerOf_L {c:Nat} (h:isL c):Unicode.lowerOf c=[lo c]:=by
 rcases isL_cases h with rfl | rfl | rfl | rfl | rfl | rfl | rfl | rfl <;> decide +kernel
theorem lowerAt_L {w:List Nat} {i c:Nat} (h:isL c) (e:w[i]?=some c):Unicode.lowerAt w.toArray i=[lo c]:=by
 unfold Unicode.lowerAt
 have e2:w.toArray[i]?=some c:=by simpa using e
 rw [e2]
 have e3:((c == 0x3A3 && Unicode.endsWord w.toArray i))=false:=by
  have:(c == 0x3A3)=false:=by unfold isL at h;simp;omega
  rw [this];rfl
 simp only [e3]
 exact lowerOf_L h
theorem ones_flat {α:Type} (f:Nat→α) (w:List Nat):(w.map fun c=>[f c]).flatten=w.map f:=by
 induction w with
 | nil=>rfl
 | cons a w ih=>rw [List.map_cons,List.flatten_cons,ih];rfl
theorem lower_all {w:List Nat} (h:AllL w):Txt.lower (S w)=S (w.map lo):=by
 unfold Txt.lower placed
 show Str.mk _=Str.mk _
 congr 1
 apply Array.toList_inj.mp
 rw [Array.toList_flatten,Array.toList_mapIdx]
 have e:(List.mapIdx (fun i c=>(Unicode.lowerAt (S w).cps i).toArray) (S w).cps.toList)=w.map fun c=>#[lo c]:=by
  refine List.ext_getElem? fun i=>?_
  have e1:(S w).cps.toList=w:=by simp
  have e2:(S w).cps=w.toArray:=rfl
  rw [e1,e2,List.getElem?_mapIdx,List.getElem?_map]
  cases hq:w[i]? with
  | none=>rfl
  | some c =>
   show some _=some _
   rw [lowerAt_L (h c (List.mem_of_getElem? hq)) hq]
 rw [e,List.map_map]
 show (w.map fun c=>[lo c]).flatten=w.map lo
 exact ones_flat lo w
theorem lower_fit (w:List Nat) (h:AllL w) (hl:w.length≤1000):Builtin.Str.tooLong (Txt.lower (S w)).length=false:=by
 rw [lower_all h,S_len,List.length_map]
 unfold Builtin.Str.tooLong
 have h10:(1000:Nat)≤sizeLine:=len_1000 (by decide)
 exact decide_eq_false (by omega)
theorem in_one (w:List Nat) (c:Nat):(!(Builtin.Str.occurrences (S w) (S [c]) 0 (S w).length 1).isEmpty)=decide (c∈w):=by
 have:=StrLaws.found_one (S w) c
 simpa using this
theorem rot_plainC {y:List Nat} (hc:Cyc y) {c:Nat} (h:c<y.length):Plain (rot y c):=by
 refine plain_of_noadj fun k=>?_
 rintro ⟨a,b,h1,h2,e⟩
 have l2:=(List.getElem?_eq_some_iff.mp h2).1
 rw [rot_len (by omega)] at l2
 rw [rot_get h (by omega)] at h1
 rw [rot_get h (by omega)] at h2
 have q:=hc ((c+k) % y.length) (Nat.mod_lt _ (by omega))
 rw [Nat.mod_add_mod,Nat.add_assoc,Option.some.inj h1,Option.some.inj h2] at q
 exact q e
end Lw
namespace PySem
open Sem (wp)
section
variable {prog:Program} {w:World} {A:Around} {E:Value→Shared→Prop} {s:Shared}
end
end PySem
namespace L2
open PySem PySem.Spec PyProof.Rows
section
variable {X:Cx} {pins:List (Addr×Obj)} {σ:St} {H:Hp} {s:Shared} {h':Heap}
theorem Inv.turnedN {t':Nat} {ch:List Addr} {a:Addr} {xs:List V} (I:Inv X pins σ H s) (k:∀ b o,b ∉ ch→s.heap.get? b=some o→h'.get? b=some o) (hf:∀ b∈ch,FpOk X pins H b) (ha:s.heap.objs.size≤a)
  (new:ObjOk X.prog X.w (upd H a (.tup xs)) h' a (.tup xs)):Inv X pins σ (upd H a (.tup xs)) { s with heap:=h',toks:=t' }:=by
 have hn:H a=none:=I.hok.fresh ha
 have un:∀ {b u},H b=some u→upd H a (.tup xs) b=some u:=fun e=>by rw [upd_ne (ne_of_none e hn)];exact e
 have nch:∀ {b u},H b=some u→b ∉ ch:=fun e hb=>by rw [(hf _ hb).1] at e;cases e
 refine I.step (g':=s.gens) (d':=s.drawn) (ch:=ch) (fun b hb=>?_) (fun b o _ _ hc e _=>k b o hc e) (fun b o _ _ hc e _=>⟨o.slots,k b o hc e⟩) (fun b o _ e n=>?_) (fun b o hc e=>⟨o,k b o hc e⟩) (fun _ _ e=>un e) (fun _ _ _ e=>un e)
  (fun b ps e=>⟨#[],by rw [un e];simp⟩) (fun m hm=>?_) (fun b u e=>?_) I.bare
 ·obtain ⟨f0,f1,f2,f3,f4,f5⟩:=hf b hb
  exact ⟨f3,f1,f4,f5⟩
 ·rw [upd_ne (Nat.ne_of_lt (Nat.lt_of_lt_of_le (Heap.lt_size e) ha))]
  exact n
 ·obtain ⟨o,es,ep,ho,r⟩:=hm
  exact ⟨o,es,ep,k _ o (fun hb=>(hf _ hb).2.1 rfl) ho,r⟩
 ·by_cases hb:b=a
  ·subst hb
   rw [upd_same] at e
   cases e
   exact new
  ·rw [upd_ne hb] at e
   refine (I.hok b u e).stay (fun c v hc q=>k c v ?_ q) (fun c q=>un q) fun c ys q=>un q
   rcases hc with z | z
   ·rw [z];exact nch e
   ·exact nch z
theorem Inv.turnedM {t':Nat} {ch:List Addr} (I:Inv X pins σ H s) (k:∀ b o,b ∉ ch→s.heap.get? b=some o→h'.get? b=some o) (hf:∀ b∈ch,FpOk X pins H b):Inv X pins σ H { s with heap:=h',toks:=t' }:=by
 have nch:∀ {b u},H b=some u→b ∉ ch:=fun e hb=>by rw [(hf _ hb).1] at e;cases e
 refine I.step (g':=s.gens) (d':=s.drawn) (ch:=ch) (fun b hb=>?_) (fun b o _ _ hc e _=>k b o hc e) (fun b o _ _ hc e _=>⟨o.slots,k b o hc e⟩) (fun b o _ e n=>n) (fun b o hc e=>⟨o,k b o hc e⟩) (fun _ _ e=>e) (fun _ _ _ e=>e)
  (fun b ps e=>⟨#[],by rw [e];simp⟩) (fun m hm=>?_) (fun b u e=>?_) I.bare
 ·obtain ⟨f0,f1,f2,f3,f4,f5⟩:=hf b hb
  exact ⟨f3,f1,f4,f5⟩
 ·obtain ⟨o,es,ep,ho,r⟩:=hm
  exact ⟨o,es,ep,k _ o (fun hb=>(hf _ hb).2.1 rfl) ho,r⟩
 ·refine (I.hok b u e).stay (fun c v hc q=>k c v ?_ q) (fun c q=>q) fun c ys q=>q
  rcases hc with z | z
  ·rw [z];exact nch e
  ·exact nch z
end
section
variable {X:Cx}
end
section
variable {κ:Type} [DecidableEq κ]
def valV (kvs:List (κ×V)) (k:κ):Option V:=(kvs.find? fun kv=>decide (kv.1=k)).map (·.2)
def putK (kvs:List (κ×V)) (k:κ) (v:V):List (κ×V) :=
 if (kvs.any fun kv=>decide (kv.1=k))=true then kvs.map (fun kv=>if kv.1=k then (kv.1,v) else kv) else kvs++[(k,v)]
theorem valV_pos {p:κ×V} {r:List (κ×V)} {k:κ} (e:p.1=k):valV (p::r) k=some p.2:=by simp [valV,List.find?_cons,e]
theorem valV_neg {p:κ×V} {r:List (κ×V)} {k:κ} (e:¬ p.1=k):valV (p::r) k=valV r k:=by simp [valV,List.find?_cons,e]
theorem valV_any (k:κ):∀ kvs:List (κ×V),(kvs.any fun kv=>decide (kv.1=k))=(valV kvs k).isSome
 | []=>rfl
 | p::r=>by
  rw [List.any_cons]
  by_cases e:p.1=k
  ·simp only [valV_pos e,decide_eq_true e,Bool.true_or,Option.isSome_some]
  ·rw [valV_neg e,decide_eq_false e,Bool.false_or];exact valV_any k r
theorem valV_map (k j:κ) (y:V):∀ kvs:List (κ×V),valV (kvs.map fun kv=>if kv.1=k then (kv.1,y) else kv) j=(valV kvs j).map fun x=>if j=k then y else x
 | []=>rfl
 | p::r=>by
  have ih:=valV_map k j y r
  rw [List.map_cons]
  by_cases h:p.1=k
  ·rw [if_pos h]
   by_cases e:p.1=j
   ·rw [valV_pos (p:=(p.1,y)) e,valV_pos e,Option.map_some,if_pos (e.symm.trans h)]
   ·rw [valV_neg (p:=(p.1,y)) e,valV_neg e,ih]
  ·rw [if_neg h]
   by_cases e:p.1=j
   ·rw [valV_pos (p:=p) e,valV_pos e,Option.map_some,if_neg (fun z=>h (e.trans z))]
   ·rw [valV_neg (p:=p) e,valV_neg e,ih]
theorem valV_snoc (k j:κ) (y:V):∀ kvs:List (κ×V),valV kvs k=none→valV (kvs++[(k,y)]) j=if j=k then some y else valV kvs j
 | [],_=>by
  by_cases e:k=j
  ·rw [if_pos e.symm];exact valV_pos (p:=(k,y)) e
  ·rw [if_neg (fun z=>e z.symm)];exact valV_neg (p:=(k,y)) e
 | p::r,hn=>by
  rw [List.cons_append]
  have hk:¬ p.1=k:=fun z=>by rw [valV_pos z] at hn;cases hn
  rw [valV_neg hk] at hn
  have ih:=valV_snoc k j y r hn
  by_cases e:p.1=j
  ·rw [valV_pos e,valV_pos e,if_neg (fun z=>hk (e.trans z))]
  ·rw [valV_neg e,valV_neg e,ih]
theorem valV_put (kvs:List (κ×V)) (k j:κ) (y:V):valV (putK kvs k y) j=if j=k then some y else valV kvs j:=by
 unfold putK
 by_cases a:(kvs.any fun kv=>decide (kv.1=k))=true
 ·rw [if_pos a,valV_map]
  rw [valV_any] at a
  by_cases e:j=k
  ·obtain ⟨x,hx⟩:=Option.isSome_iff_exists.mp a
   rw [if_pos e,e,hx,Option.map_some,if_pos rfl]
  ·rw [if_neg e]
   cases valV kvs j with
   | none=>rfl
   | some x=>rw [Option.map_some,if_neg e]
 ·rw [if_neg a]
  refine valV_snoc k j y kvs ?_
  rw [valV_any] at a
  cases q:valV kvs k with
  | none=>rfl
  | some x=>rw [q] at a;exact (a rfl).elim
theorem length_putK (kvs:List (κ×V)) (k:κ) (v:V):(putK kvs k v).length≤kvs.length+1:=by
 unfold putK
 split
 ·rw [List.length_map];omega
 ·rw [List.length_append,List.length_cons,List.length_nil];omega
theorem RelO.isSome_eq {o:Option V} {u:Option Value} (r:RelO o u):o.isSome=u.isSome:=by
 cases o with
 | none=>cases u with
  | none=>rfl
  | some _=>exact (show False from r).elim
 | some _=>cases u with
  | none=>exact (show False from r).elim
  | some _=>rfl
theorem RelO.getD {o:Option V} {u:Option Value} {d:V} {d':Value} (r:RelO o u) (rd:RelV d d'):RelV (o.getD d) (u.getD d'):=by
 cases o with
 | none=>cases u with
  | none=>exact rd
  | some _=>exact (show False from r).elim
 | some _=>cases u with
  | none=>exact (show False from r).elim
  | some _=>exact r
theorem KV.val {kvs:List (κ×V)} {vs:List (κ×Value)} (r:KV kvs vs) (k:κ):RelO (valV kvs k) (valueAt vs k):=by
 unfold KV at r
 induction r with
 | nil=>exact True.intro
 | @cons p q ps qs h t ih =>
  obtain ⟨h1,h2⟩:=h
  by_cases e:p.1=k
  ·have e':q.1=k:=h1.symm.trans e
   have b:valueAt (q::qs) k=some q.2:=by simp [valueAt,List.find?_cons,e']
   rw [valV_pos e,b];exact h2
  ·have e':¬ q.1=k:=fun z=>e (h1.trans z)
   have b:valueAt (q::qs) k=valueAt qs k:=by simp [valueAt,List.find?_cons,e']
   rw [valV_neg e,b];exact ih
theorem KV.any {kvs:List (κ×V)} {vs:List (κ×Value)} (r:KV kvs vs) (k:κ):(kvs.any fun kv=>decide (kv.1=k))=vs.any fun kv=>decide (kv.1=k):=by
 unfold KV at r
 induction r with
 | nil=>rfl
 | cons h t ih=>rw [List.any_cons,List.any_cons,ih,h.1]
theorem KV.repl {kvs:List (κ×V)} {vs:List (κ×Value)} (r:KV kvs vs) (k:κ) {y:V} {u:Value} (ry:RelV y u) :
  KV (kvs.map fun kv=>if kv.1=k then (kv.1,y) else kv) (vs.map fun kv=>if kv.1=k then (kv.1,u) else kv):=by
 unfold KV at r ⊢
 induction r with
 | nil=>exact .nil
 | @cons p q ps qs h t ih =>
  rw [List.map_cons,List.map_cons]
  refine .cons ?_ ih
  obtain ⟨h1,h2⟩:=h
  by_cases e:p.1=k
  ·rw [if_pos e,if_pos (h1.symm.trans e)];exact ⟨h1,ry⟩
  ·rw [if_neg e,if_neg (fun z=>e (h1.trans z))];exact ⟨h1,h2⟩
theorem KV.put {kvs:List (κ×V)} {vs:List (κ×Value)} (r:KV kvs vs) (k:κ) {y:V} {u:Value} (ry:RelV y u):KV (putK kvs k y) (stored vs k u):=by
 unfold putK stored
 rw [r.any k]
 by_cases e:(vs.any fun kv=>decide (kv.1=k))=true
 ·rw [if_pos e,if_pos e];exact r.repl k ry
 ·rw [if_neg e,if_neg e];exact Paired.snoc r ⟨rfl,ry⟩
theorem KV.length {kvs:List (κ×V)} {vs:List (κ×Value)} (r:KV kvs vs):kvs.length=vs.length:=Paired.length r
end
theorem kV_is {P:Program} {w:World} {k:Key} {u:Value} (r:RelV (kV k) u):(mixKind P w).is k u=true:=by
 cases k with
 | inl i=>obtain ⟨t,e⟩:=(show ∃ t,u=Value.int i t from r);subst e;exact mixKind_int P w i t
 | inr x=>obtain ⟨t,e⟩:=(show ∃ t,u=Value.str x t from r);subst e;exact mixKind_str P w x t
theorem items_are {P:Program} {w:World}:∀ {ks:List Key} {us:List Value},Vals (ks.map kV) us→ItemsAre (mixKind P w) ks us
 | [],_,r=>by rw [List.map_nil] at r;cases r;exact .nil
 | k::ks,_,r=>by
  rw [List.map_cons] at r
  cases r with
  | cons h t=>exact .cons (kV_is h) (items_are t)
abbrev KT (H:Hp):List (List Key×V)→List (List Key×Addr×Value)→Prop:=Paired fun p q=>p.1=q.1∧H q.2.1=some (.tup (p.1.map kV))∧RelV p.2 q.2.2
theorem KT.val {H:Hp} {kvs:List (List Key×V)} {xs:List (List Key×Addr×Value)} (r:KT H kvs xs) (k:List Key):RelO (valV kvs k) ((atKey xs k).map (·.2)):=by
 induction r with
 | nil=>exact True.intro
 | @cons p q ps qs h t ih =>
  obtain ⟨h1,_,h2⟩:=h
  by_cases e:p.1=k
  ·have e':q.1=k:=h1.symm.trans e
   have b:atKey (q::qs) k=some q.2:=by simp [atKey,List.find?_cons,e']
   rw [valV_pos e,b];exact h2
  ·have e':¬ q.1=k:=fun z=>e (h1.trans z)
   have b:atKey (q::qs) k=atKey qs k:=by simp [atKey,List.find?_cons,e']
   rw [valV_neg e,b];exact ih
theorem KT.repl {H:Hp} {kvs:List (List Key×V)} {xs:List (List Key×Addr×Value)} (r:KT H kvs xs) (k:List Key) {y:V} {u:Value} (ry:RelV y u) :
  KT H (kvs.map fun kv=>if kv.1=k then (kv.1,y) else kv) (xs.map (putAt k u)):=by
 induction r with
 | nil=>exact .nil
 | @cons p q ps qs h t ih =>
  rw [List.map_cons,List.map_cons]
  refine .cons ?_ ih
  obtain ⟨h1,h2,h3⟩:=h
  unfold putAt
  by_cases e:p.1=k
  ·rw [if_pos e,if_pos (h1.symm.trans e)];exact ⟨h1,h2,ry⟩
  ·rw [if_neg e,if_neg (fun z=>e (h1.trans z))];exact ⟨h1,h2,h3⟩
theorem KT.put {H:Hp} {kvs:List (List Key×V)} {xs:List (List Key×Addr×Value)} (r:KT H kvs xs) (k:List Key) {b:Addr} {y:V} {u:Value} (hb:H b=some (.tup (k.map kV))) (ry:RelV y u) :
  KT H (putK kvs k y) (storedH xs k b u):=by
 have e:(kvs.any fun kv=>decide (kv.1=k))=(atKey xs k).isSome:=by
  rw [valV_any,(r.val k).isSome_eq,Option.isSome_map]
 unfold putK storedH
 rw [e]
 by_cases q:(atKey xs k).isSome=true
 ·rw [if_pos q,if_pos q];exact r.repl k ry
 ·rw [if_neg q,if_neg q];exact Paired.snoc r ⟨rfl,hb,ry⟩
theorem KT.keeps {H H':Hp} {kvs:List (List Key×V)} {xs:List (List Key×Addr×Value)} (r:KT H kvs xs) (ht:∀ b ys,H b=some (.tup ys)→H' b=some (.tup ys)):KT H' kvs xs :=
 Paired.mapP r fun _ _ z=>⟨z.1,ht _ _ z.2.1,z.2.2⟩
section
variable {P:Program} {w:World} {H:Hp} {h:Heap} {a:Addr}
theorem rd_of {u:HO} (ok:HOk P w H h) (e:Rd H a u):ObjOk P w H h a u:=e.ok ok
theorem dk_rd {kvs:List (Key×V)} (ok:HOk P w H h) (e:Rd H a (.dK kvs)):kvs.length≤sizeLine∧(a == sysModules)=false∧∃ vs,KV kvs vs∧h.DictOf (mixKind P w) a vs :=
 show ObjOk P w H h a (.dK kvs) from rd_of ok e
theorem dk_of {kvs:List (Key×V)} (ok:HOk P w H h) (e:H a=some (.dK kvs)):kvs.length≤sizeLine∧(a == sysModules)=false∧∃ vs,KV kvs vs∧h.DictOf (mixKind P w) a vs:=dk_rd ok (.inl e)
theorem key_of {ks:List Key} (ok:HOk P w H h) (e:H a=some (.tup (ks.map kV))):(tupleKind (mixKind P w)).is h ks a:=by
 obtain ⟨_,its,r,o,h1,h2,n,h3⟩:=(show ObjOk P w H h a (.tup (ks.map kV)) from ok a _ e)
 exact ⟨o,its.toArray,n,h1,h2,h3,by simpa using items_are r⟩
theorem dt_rd {kvs:List (List Key×V)} (ok:HOk P w H h) (e:Rd H a (.dT kvs)):kvs.length≤sizeLine∧(a == sysModules)=false ∧
  ∃ xs,KT H kvs xs∧h.DictOfH (tupleKind (mixKind P w)) a xs:=by
 obtain ⟨z,y,xs,r,o,es,ep,h1,h2,h3,h4,h5⟩:=(show ObjOk P w H h a (.dT kvs) from rd_of ok e)
 refine ⟨z,y,xs,r,o,es,ep,h1,h2,h3,h4,fun x hx=>?_,h5⟩
 have all:∀ {l:List (List Key×V)} {m:List (List Key×Addr×Value)},KT H l m→∀ x∈m,(tupleKind (mixKind P w)).is h x.1 x.2.1:=by
  intro l m q
  induction q with
  | nil=>intro x hx;exact nomatch hx
  | @cons p q ps qs hq t ih =>
   intro x hx
   rcases List.mem_cons.mp hx with e | hx
   ·subst e
    exact key_of ok (by rw [← hq.1];exact hq.2.1)
   ·exact ih x hx
 exact all r x hx
theorem dt_of {kvs:List (List Key×V)} (ok:HOk P w H h) (e:H a=some (.dT kvs)):kvs.length≤sizeLine∧(a == sysModules)=false ∧
  ∃ xs,KT H kvs xs∧h.DictOfH (tupleKind (mixKind P w)) a xs:=dt_rd ok (.inl e)
end
def DGet (H:Hp) (a:Addr) (y:V) (r:Option V):Prop :=
 (∃ kvs k,Rd H a (.dK kvs)∧y=kV k∧r=valV kvs k)∨∃ kvs k b,Rd H a (.dT kvs)∧y=.ref b∧H b=some (.tup (k.map kV))∧r=valV kvs k
def DPut (H:Hp) (a:Addr) (y v:V) (H':Hp):Prop :=
 (∃ kvs k,H a=some (.dK kvs)∧y=kV k∧kvs.length<sizeLine∧H'=upd H a (.dK (putK kvs k v))) ∨
 ∃ kvs k b,H a=some (.dT kvs)∧y=.ref b∧H b=some (.tup (k.map kV))∧kvs.length<sizeLine∧H'=upd H a (.dT (putK kvs k v))
theorem DGet.t {H:Hp} {a b:Addr} {kvs:List (List Key×V)} {k:List Key} (e:H a=some (.dT kvs)) (eb:H b=some (.tup (k.map kV))):DGet H a (.ref b) (valV kvs k):=.inr ⟨kvs,k,b,.inl e,rfl,eb,rfl⟩
theorem DPut.t {H:Hp} {a b:Addr} {kvs:List (List Key×V)} {k:List Key} {v:V} (e:H a=some (.dT kvs)) (eb:H b=some (.tup (k.map kV))) (hl:kvs.length<sizeLine) :
  DPut H a (.ref b) v (upd H a (.dT (putK kvs k v))):=.inr ⟨kvs,k,b,e,rfl,eb,hl,rfl⟩
section
variable {X:Cx} {pins:List (Addr×Obj)} {σ:St} {H:Hp} {s:Shared} {a:Addr} {y v:V} {u r:Value} {o:Option V} {A:Around} {E:Value→Shared→Prop}
theorem Inv.big (I:Inv X pins σ H s):sysModules<s.heap.objs.size:=by
 have h:mainGlobals<s.heap.objs.size:=(I.mod.glob.keeps I.bk).lt
 exact Nat.lt_trans (by decide) h
theorem d_getItem {Q:Value→Shared→Prop} (hu:A.units+1<cLine) (I:Inv X pins σ H s) (g:DGet H a y (some v)) (ry:RelV y u) (h:∀ w' s',Inv X pins σ H s'→RelV v w'→Q w' s') :
  wpAny (model X.prog X.w) A (getItem (.ref a) u) Q E s:=by
 rcases g with ⟨kvs,k,e,ey,l⟩ | ⟨kvs,k,b,e,ey,eb,l⟩
 ·subst ey
  obtain ⟨z,hd,vs,rel,dd⟩:=dk_rd I.hok e
  obtain ⟨w',hw,rw'⟩:=RelO.some_of (v:=v) (o:=valueAt vs k) (by rw [l];exact rel.val k)
  exact wpAny_getItem_of (kV_is ry) dd.mapOf hw (h w' _ (I.tok _) rw')
 ·subst ey
  cases (show u=Value.ref b from ry)
  obtain ⟨z,hd,xs,rel,dd⟩:=dt_rd I.hok e
  obtain ⟨w',hw,rw'⟩:=RelO.some_of (v:=v) (o:=(atKey xs k).map (·.2)) (by rw [l];exact rel.val k)
  obtain ⟨p,hp,hp2⟩:=Option.map_eq_some_iff.mp hw
  refine wpAny_getItem_heap (tupleKind_room_in1 hu) (key_of I.hok eb) dd hp ?_
  rw [hp2]
  exact h w' _ (I.tok _) rw'
theorem d_write {h':Heap} {t':Nat} {ob:HO} (I:Inv X pins σ H s) (mu:Mut (H a)) (hs:Heap.SameBut a s.heap h') (he:∃ q,h'.get? a=some q) (new:ObjOk X.prog X.w (upd H a ob) h' a ob) :
  Inv X pins σ (upd H a ob) { s with heap:=h',toks:=t' } :=
 I.write (x:=a) (e:=a) mu (.inl rfl) (fun b q hb z=>(hs.2 b hb).trans z) he new
theorem dk_new {P:Program} {w:World} {H':Hp} {h':Heap} {kvs:List (Key×V)} {vs:List (Key×Value)} (z:kvs.length≤sizeLine) (hd:(a == sysModules)=false) (rel:KV kvs vs) (dd:h'.DictOf (mixKind P w) a vs) :
  ObjOk P w H' h' a (.dK kvs):=⟨z,hd,vs,rel,dd⟩
theorem d_setItem {H':Hp} {Q:Unit→Shared→Prop} (hu:A.units+1<cLine) (I:Inv X pins σ H s) (g:DPut H a y v H') (ry:RelV y u) (rv:RelV v r) (h:∀ s',Inv X pins σ H' s'→Q () s') :
  wpAny (model X.prog X.w) A (setItem (.ref a) u r) Q E s:=by
 rcases g with ⟨kvs,k,e,ey,l,eH⟩ | ⟨kvs,k,b,e,ey,eb,l,eH⟩
 ·subst ey eH
  obtain ⟨z,hd,vs,rel,dd⟩:=dk_of I.hok e
  have hz:vs.length≤sizeLine:=by rw [← rel.length];exact z
  have hl:(putK kvs k v).length≤sizeLine:=by have:=length_putK kvs k v;omega
  refine wpAny_setItem_pairs (hsz:=hz) (kV_is ry) dd fun h' dd' hs=>h _ ?_
  have he:∃ q,h'.get? a=some q:=let ⟨q,_,_,hq,_⟩:=dd';⟨q,hq⟩
  exact d_write I (by rw [e];exact True.intro) hs he (dk_new hl hd (rel.put k rv) dd')
 ·subst ey eH
  cases (show u=Value.ref b from ry)
  obtain ⟨z,hd,xs,rel,dd⟩:=dt_of I.hok e
  have hz:xs.length≤sizeLine:=by rw [← Paired.length rel];exact z
  have hl:(putK kvs k v).length≤sizeLine:=by have:=length_putK kvs k v;omega
  refine wpAny_setItem_heap (hsz:=hz) (tupleKind_room_in1 hu) (key_of I.hok eb) dd fun h' dd' hs=>h _ ?_
  obtain ⟨q,es,ep,hq,h2,h3,h4,_,h5⟩:=dd'
  refine d_write I (by rw [e];exact True.intro) hs ⟨q,hq⟩ ⟨hl,hd,_,(rel.put k eb rv).keeps fun c ys ec=>?_,q,es,ep,hq,h2,h3,h4,h5⟩
  rw [upd_ne (ne_of ec e (fun z=>nomatch z))]
  exact ec
end
section
variable {X:Cx} {pins:List (Addr×Obj)} {σ:St} {H:Hp} {s:Shared} {a:Addr} {kvs:List (Key×V)} {k:Key} {u:Value} {A:Around} {E:Value→Shared→Prop}
end
def NoSl (i:Expr):Prop:=∀ ov iv,subscripted i false ov iv=operate [ov,iv] (getItem ov iv)
theorem subD_of {prog:Program} {w:World} {A:Around} {E:Value→Shared→Prop} {s:Shared} {env:Env} {value slice:Expr} {pos:Pos} {T id:String} {Q:Value→Shared→Prop}
  (hl:typeLookup (.type T) "__getitem__"=pure (some (.builtin id))) (hs:NoSl slice)
  (h:wpAny (model prog w) A (eval value env) (fun o s₁=>wpAny (model prog w) A (eval slice env) (fun i s₂=>s₂.TypeIs o T∧wpAny (model prog w) A (getItem o i) Q E s₂) E s₁) E s) :
  wpAny (model prog w) A (eval (.Subscript value slice pos) env) Q E s:=by
 refine Subscript_ (wpAny_mono h (fun o s₁ h₁=>wpAny_mono h₁ (fun i s₂ h₂=>?_) fun _ _ x=>x) fun _ _ x=>x)
 obtain ⟨hT,h₂⟩:=h₂
 unfold subscriptTail
 refine wpAny_bind ?_
 rw [getitemInPython_of_ne hT.not_modules]
 refine wpAny_bind (wpAny_specialOf hT hl ?_)
 have fin:wpAny (model prog w) A (subscripted slice false o i) (fun r s₃=>wpAny (model prog w) A (letTemporaryGo value o r >>= fun _=>pure r) Q E s₃) E s₂:=by
  rw [hs o i]
  exact wpAny_operating (wpAny_mono h₂ (fun r s₃ h₃=>wpAny_bind (wpAny_letTemporaryGo (wpAny_pure h₃))) fun _ _ x=>x)
 first
  | exact wpAny_pure (wpAny_bind fin)
  | exact wpAny_bind (wpAny_pure (wpAny_bind fin))
  | exact wpAny_bind fin
theorem dict_typeIs {X:Cx} {pins:List (Addr×Obj)} {σ:St} {H:Hp} {s:Shared} {a:Addr} {y:V} {o:Option V} (I:Inv X pins σ H s) (g:DGet H a y o):s.TypeIs (.ref a) "dict":=by
 rcases g with ⟨kvs,k,e,_,_⟩ | ⟨kvs,k,b,e,_,_,_⟩
 ·obtain ⟨_,_,vs,_,dd⟩:=dk_rd I.hok e
  exact dd.typeIs
 ·obtain ⟨_,_,xs,_,dd⟩:=dt_rd I.hok e
  exact dd.typeIs
def tDGet (td ty:TE):TE:=fun σ H Q=>td σ H fun x H1=>ty σ H1 fun y H2=>∃ a v,x=.ref a∧DGet H2 a y (some v)∧Q v H2
def sDPut (td ty tv:TE):TS:=fun D σ H=>tv σ H fun v H1=>td σ H1 fun x H2=>ty σ H2 fun y H3=>∃ a H4,x=.ref a∧DPut H3 a y v H4∧D.nx σ H4
section
variable {X:Cx} {o i e value:Expr} {pos pos' tpos:Pos} {td ty tv:TE}
theorem pe_dget (hu:X.A.units+1<cLine) (ho:PE X o td) (hi:PE X i ty) (hs:NoSl i):PE X (.Subscript o i pos) (tDGet td ty):=by
 intro pins s σ H Q I h
 refine subD_of PySem.F.slot_dict_getitem.lookup hs (thn (ho pins s σ H _ I h) fun u s1 ⟨x,H1,I1,rx,q1⟩=>thn (hi pins s1 σ H1 _ I1 q1) fun iv s2 ⟨y,H2,I2,ry,a,v,ex,g,q2⟩=>?_)
 subst ex
 obtain rfl:u=Value.ref a:=rx
 exact ⟨dict_typeIs I2 g,d_getItem hu I2 g ry fun w' s3 I3 rw'=>⟨v,H2,I3,rw',q2⟩⟩
theorem ps_dput (hu:X.A.units+1<cLine) (ho:PE X o td) (hi:PE X i ty) (hv:PE X value tv) (hs:swapsWith value (some (.Subscript o i pos')) pos.line X.env=pure false) :
  PS X (.Assign [.Subscript o i pos'] value pos) (sDPut td ty tv):=by
 intro pins s σ H D I h
 refine wpAny_Assign_Subscript (thn (hv pins s σ H _ I h) fun r s1 ⟨v,H1,I1,rv,q1⟩=>thn (ho pins s1 σ H1 _ I1 q1) fun u s2 ⟨x,H2,I2,rx,q2⟩=>thn (hi pins s2 σ H2 _ I2 q2) fun iv s3 ⟨y,H3,I3,ry,a,H4,ex,g,q3⟩=>?_) hs
 subst ex
 obtain rfl:u=Value.ref a:=rx
 exact d_setItem hu I3 g ry rv fun s4 I4=>⟨σ,H4,I4,q3⟩
end
theorem dt_empty {P:Program} {w:World} {H:Hp} (h:Heap) (hb:sysModules<h.objs.size):ObjOk P w H (h.push { cls:=.type "dict",data:=.dict #[] }) h.objs.size (.dT []) :=
 ⟨Nat.zero_le _,beq_eq_false_iff_ne.mpr (Ne.symm (Nat.ne_of_lt hb)),[],.nil,_,#[],0,Heap.get?_push_size _ rfl,⟨rfl,rfl,rfl⟩,rfl,rfl,List.nodup_nil⟩
def tDNewT:TE:=fun _ H Q=>∀ p,H p=none→Q (.ref p) (upd H p (.dT []))
section
variable {X:Cx} {pos:Pos}
theorem pe_dnewT:PE X (.Dict [] [] pos) tDNewT:=fun pins s σ H Q I h =>
 wpAny_Dict_empty ⟨.ref s.heap.objs.size,_,I.laid (a:=s.heap.objs.size) (o:=.dT []) (t':=s.toks) (fun _ _ q=>Heap.get?_push_of_some _ q) (Nat.le_refl _) (dt_empty s.heap I.big),rfl,h _ (I.hok.fresh (Nat.le_refl _))⟩
end
structure M2 (X:Cx) (o:Expr) (m:Str) (apos:Pos) (e f:Expr) (cpos:Pos):Prop where
 base:attributeBase o m X.env (eval o X.env)=eval o X.env
 few:((backTo cpos (starEach [e,f] X.env)).all (fun x=>!x.1) && (backToKw cpos (keywordEach [] X.env)).all (fun x=>x.1.isSome)
  && decide (([e,f]:List Expr).length+([]:List Keyword).length+(if ([]:List Keyword).isEmpty then 0 else 1)<30))=true
 line:(apos.endLine == cpos.line)=true
 trees:backTo cpos (starEach [e,f] X.env)=[(false,eval e X.env),(false,eval f X.env)]
def IsD (H:Hp) (a:Addr):Prop:=(∃ kvs,Rd H a (.dK kvs))∨∃ kvs,Rd H a (.dT kvs)
theorem isD_at {X:Cx} {pins:List (Addr×Obj)} {σ:St} {H:Hp} {s:Shared} {a:Addr} (I:Inv X pins σ H s) (d:IsD H a) :
  s.TypeIs (.ref a) "dict"∧(∀ b,Value.ref a=.ref b→∃ ob,s.heap.get? b=some ob∧ob.dict=none)∧(a == sysModules)=false:=by
 rcases d with ⟨kvs,e⟩ | ⟨kvs,e⟩
 ·obtain ⟨_,hd,vs,_,dd⟩:=dk_rd I.hok e
  refine ⟨dd.typeIs,fun b q=>?_,hd⟩
  cases q
  obtain ⟨ob,_,_,h1,h2,_⟩:=dd
  exact ⟨ob,h1,h2.2.1⟩
 ·obtain ⟨_,hd,xs,_,dd⟩:=dt_rd I.hok e
  refine ⟨dd.typeIs,fun b q=>?_,hd⟩
  cases q
  obtain ⟨ob,_,_,h1,h2,_⟩:=dd
  exact ⟨ob,h1,h2.2.1⟩
section
variable {X:Cx} {pins:List (Addr×Obj)} {σ:St} {H:Hp} {s:Shared} {a:Addr} {y d:V} {u r:Value} {o:Option V} {A:Around} {E:Value→Shared→Prop}
theorem d_get2 {Q:Value→Shared→Prop} (hu:A.units+1<cLine) (I:Inv X pins σ H s) (g:DGet H a y o) (ry:RelV y u) (rd:RelV d r) (h:∀ w' s',Inv X pins σ H s'→RelV (o.getD d) w'→Q w' s') :
  wpAny (model X.prog X.w) A (call (.builtin "dict.get") [.ref a,u,r]) Q E s:=by
 rcases g with ⟨kvs,k,e,ey,l⟩ | ⟨kvs,k,b,e,ey,eb,l⟩
 ·subst ey
  obtain ⟨z,hd,vs,rel,dd⟩:=dk_rd I.hok e
  refine call_meetsIn PySem.F.slot_dict_get dd.typeIs PySem.F.entry_dict_get (PySem.F.args_dict_get_3 _ _ _) (meets_dict_get_default (mixKind X.prog X.w) a (kV_is ry) hd r) ⟨_,dd.mapOf,h _ _ (I.tok _) ?_⟩
  rw [l]
  exact (rel.val k).getD rd
 ·subst ey
  cases (show u=Value.ref b from ry)
  obtain ⟨z,hd,xs,rel,dd⟩:=dt_rd I.hok e
  refine call_meetsIn PySem.F.slot_dict_get dd.typeIs PySem.F.entry_dict_get (PySem.F.args_dict_get_3 _ _ _) (meetsH_dict_get_default (tupleKind (mixKind X.prog X.w)) a b hd r) ⟨tupleKind_room_in1 hu,k,xs,key_of I.hok eb,dd,h _ _ (I.tok _) ?_⟩
  rw [l]
  exact (rel.val k).getD rd
end
def tDGet2 (td ty tx:TE):TE:=fun σ H Q=>td σ H fun x H1=>∃ a,x=.ref a∧IsD H1 a∧ty σ H1 fun y H2=>tx σ H2 fun z H3=>∃ o,DGet H3 a y o∧Q (o.getD z) H3
section
variable {X:Cx} {o e f:Expr} {apos cpos:Pos} {td ty tx:TE}
theorem pe_dget2 (hu:X.A.units+1<cLine) (ho:PE X o td) (he:PE X e ty) (hf:PE X f tx) (m:M2 X o "get" apos e f cpos):PE X (.Call (.Attribute o "get" apos) [e,f] [] cpos) (tDGet2 td ty tx):=by
 intro pins s σ H Q I h
 refine wpAny_Call_method m.base m.few m.line PySem.F.plainAttrs_dict PySem.F.slot_dict_get PySem.F.type_dict_get (thn (ho pins s σ H _ I h) fun u s1 ⟨x,H1,I1,rx,a,ex,d,q1⟩=>?_)
 subst ex
 obtain rfl:u=Value.ref a:=rx
 obtain ⟨t1,t2,_⟩:=isD_at I1 d
 refine ⟨t1,t2,?_⟩
 rw [m.trees]
 refine Calls.callWith_builtin rfl (Calls.evalArgs_plain (Calls.spliced_cons (thn (he pins s1 σ H1 _ I1 q1) fun iv s2 ⟨y,H2,I2,ry,q2⟩ =>
  Calls.spliced_cons (thn (hf pins s2 σ H2 _ I2 q2) fun fv s3 ⟨z,H3,I3,rz,ov,g,q3⟩=>Calls.spliced_nil ?_))))
 exact d_get2 hu I3 g ry rz fun w' s4 I4 rw'=>⟨_,H3,I4,rw',q3⟩
end
section
variable {X:Cx} {pins:List (Addr×Obj)} {σ:St} {H:Hp} {s:Shared} {a:Addr} {kvs:List (Key×V)} {A:Around} {E:Value→Shared→Prop}
end
section
variable {X:Cx} {pins:List (Addr×Obj)} {σ:St} {H:Hp} {s:Shared} {a:Addr} {y:V} {u:Value} {A:Around} {E:Value→Shared→Prop}
end
section
variable {prog:Program} {w:World} {A:Around} {E:Value→Shared→Prop} {s:Shared}
end
end L2
namespace Lw
open PySem PySem.Spec PyProof.Rows L2 Ma MaR
def wds (rs:List (List Nat)):List V:=rs.map fun x=>V.str (S x)
theorem wds_len (rs:List (List Nat)):(wds rs).length=rs.length:=by unfold wds;rw [List.length_map]
theorem wds_get {rs:List (List Nat)} {i:Nat} {v:V} (h:(wds rs)[i]?=some v):∃ x,rs[i]?=some x∧v=.str (S x):=by
 unfold wds at h
 rw [List.getElem?_map] at h
 cases hq:rs[i]? with
 | none=>rw [hq] at h;cases h
 | some x=>rw [hq] at h;exact ⟨x,rfl,(Option.some.inj h).symm⟩
theorem wds_at {rs:List (List Nat)} {i:Nat} {x:List Nat} (h:rs[i]?=some x):(wds rs)[i]?=some (.str (S x)):=by unfold wds;rw [List.getElem?_map,h];rfl
structure RT (rs:List (List Nat)) (n M:Nat):Prop where
 len:rs.length=n
 all:∀ x∈rs,AllL x
 le:∀ x∈rs,x.length≤M
def tell (rs:List (List Nat)) (c:Nat):List Nat:=if isLow c=true then rs.getD (c - 97) [] else back (rs.getD (c - 65) [])
def told (rs:List (List Nat)) (w:List Nat):List Nat:=w.flatMap (tell rs)
def retl (rs:List (List Nat)) (w:List Nat):List Nat:=lay (told rs w)
theorem getD_mem {rs:List (List Nat)} {P:List Nat→Prop} (h0:P []) (h:∀ x∈rs,P x) (i:Nat):P (rs.getD i []):=by
 rw [List.getD_eq_getElem?_getD]
 cases hq:rs[i]? with
 | none=>exact h0
 | some x=>exact h x (List.mem_of_getElem? hq)
section
variable {rs:List (List Nat)} {n M:Nat}
theorem RT.getA (r:RT rs n M) (i:Nat):AllL (rs.getD i []):=getD_mem AllL.nil r.all i
theorem RT.getL (r:RT rs n M) (i:Nat):(rs.getD i []).length≤M:=getD_mem (P:=fun x=>x.length≤M) (Nat.zero_le _) r.le i
theorem tell_all (r:RT rs n M) (c:Nat):AllL (tell rs c):=by
 unfold tell
 split
 ·exact r.getA _
 ·exact back_all (r.getA _)
theorem tell_len (r:RT rs n M) (c:Nat):(tell rs c).length≤M:=by
 unfold tell
 split
 ·exact r.getL _
 ·rw [back_len];exact r.getL _
theorem told_app (u v:List Nat):told rs (u++v)=told rs u++told rs v:=by unfold told;rw [List.flatMap_append]
theorem told_cons (c:Nat) (w:List Nat):told rs (c::w)=tell rs c++told rs w:=by unfold told;rw [List.flatMap_cons]
theorem told_nil:told rs []=[]:=rfl
theorem told_all (r:RT rs n M) (w:List Nat):AllL (told rs w):=by
 induction w with
 | nil=>exact AllL.nil
 | cons c w ih=>rw [told_cons];exact AllL.app.mpr ⟨tell_all r c,ih⟩
theorem told_len (r:RT rs n M) (w:List Nat):(told rs w).length≤w.length * M:=by
 induction w with
 | nil=>simp [told]
 | cons c w ih =>
  rw [told_cons,List.length_append,List.length_cons,Nat.succ_mul]
  have:=tell_len r c
  omega
theorem retl_all (r:RT rs n M) (w:List Nat):AllL (retl rs w):=lay_all (told_all r w)
theorem retl_len (r:RT rs n M) (w:List Nat):(retl rs w).length≤w.length * M:=Nat.le_trans (lay_len _) (told_len r w)
end
def lowN (n:Nat):List Nat:=[97,98,99,100].take n
def lowW (n:Nat):List (List Nat):=(lowN n).map fun c=>[c]
theorem n14 {n:Nat} (h1:1≤n) (h4:n≤4):n=1∨n=2∨n=3∨n=4:=by omega
theorem _root_.L2.SqT.same {K:PySem.W.Frag} {H H':Hp} {a:Addr} {xs:List V} (s:Same H H') (h:SqT K H a xs):SqT K H' a xs:=by
 rcases h with (h | ⟨o,h⟩) | h
 ·exact .inl (.inl (s _ _ h))
 ·exact .inl (.inr ⟨o,s _ _ h⟩)
 ·exact .inr h
theorem SqT.new {K:PySem.W.Frag} {H:Hp} {a p:Addr} {xs:List V} {o:HO} (h:SqT K H a xs) (hp:H p=none):SqT K (upd H p o) a xs:=h.same (Same.new hp)
def spRetold (K:PySem.W.Frag):Sp:=fun vs H Q _=>∃ (a:Addr) (rs:List (List Nat)) (n M:Nat) (w:List Nat),vs=[.ref a,.str (S w)]∧SqT K H a (wds rs)∧RT rs n M∧1≤n∧n≤4∧M≤1000∧OfN n w∧w.length≤9000∧w.length * M≤9000∧∀ H',Same H H'→Q (.str (S (retl rs w))) H'
def letV:List V:=lstC lets
theorem letV_len:letV.length=8:=rfl
theorem tab_fit {xs:List V} {i:Array Value} (h:Vals xs i.toList) (hl:xs.length≤1000):i.size≤sizeLine:=by
 have h2:xs.length=i.toList.length:=h.length
 have h3:i.toList.length=i.size:=Array.length_toList
 exact len_1000 (by omega)
theorem abcd_S:(Str.ofString "abcd":Str)=S [97,98,99,100]:=by decide +kernel
theorem abcd_ix {c:Nat} (h:isL c):(Builtin.Str.occurrences (Str.ofString "abcd") (S [lo c]) 0 (Str.ofString "abcd").length 1).isEmpty=false∧Txt.find (Str.ofString "abcd") (S [lo c])=((lo c - 97:Nat):Int):=by
 rcases isL_cases h with rfl | rfl | rfl | rfl | rfl | rfl | rfl | rfl <;> exact ⟨by decide +kernel,by decide +kernel⟩
theorem lo_lt {n c:Nat} (h:c∈letsN n) {l:Nat} (hl:l=n) (h1:1≤n) (h4:n≤4):lo c - 97<l:=by
 subst hl
 have hL:=isL_cases (letsN_isL h)
 rcases n14 h1 h4 with rfl | rfl | rfl | rfl <;> rcases hL with rfl | rfl | rfl | rfl | rfl | rfl | rfl | rfl <;> revert h <;> decide
theorem tell_ofn {rs:List (List Nat)} {n:Nat} (h1:1≤n) (h4:n≤4) (h:∀ x∈rs,OfN n x) (c:Nat):OfN n (tell rs c):=by
 unfold tell
 split
 ·exact getD_mem (P:=OfN n) OfN.nil h _
 ·exact (getD_mem (P:=OfN n) OfN.nil h _).back (by omega) (by omega)
theorem retl_ofn {rs:List (List Nat)} {n:Nat} (h1:1≤n) (h4:n≤4) (h:∀ x∈rs,OfN n x) (w:List Nat):OfN n (retl rs w):=by
 refine OfN.lay ?_
 intro d hd
 obtain ⟨c,_,hc⟩:=List.mem_flatMap.mp hd
 exact tell_ofn h1 h4 h c d hc
theorem low_ofn {n:Nat} (h1:1≤n) (h4:n≤4):∀ x∈lowW n,OfN n x:=by
 intro x hx c hc
 obtain ⟨d,hd,rfl⟩:=List.mem_map.mp hx
 rw [List.mem_singleton.mp hc]
 rcases n14 h1 h4 with rfl | rfl | rfl | rfl <;> (unfold lowN at hd;simp at hd;revert hd;first | (rintro rfl;decide) | (rintro (rfl | rfl) <;> decide) | (rintro (rfl | rfl | rfl) <;> decide) | (rintro (rfl | rfl | rfl | rfl) <;> decide))
end Lw
namespace PySem
section
variable {prog:Program} {w:World} {A:Around} {R:Result→Shared→Prop} {s:Shared}
theorem compLoop_go {elt target iter:Expr} {ifs:List Expr} {scope:Scope} {pos:Pos} {it acc:Value} {env:Env} (I:Nat→Shared→Prop)
  (turn:∀ n s,I n s→wpAny (model prog w) A (pyNext it) (fun r s₁=>match r with
   | none=>R (.ok .next) s₁
   | some v=>wpAny (model prog w) A (letOwnedTupleGo target it v) (fun _ s₂=>wpAny (model prog w) A (assign target env v) (fun _ s₂ =>
     wpAny (model prog w) A (forIn ifs true fun c r=>if r=true then do let ok ← isTrue c env (eval c env);pure (ForInStep.yield ok) else pure (ForInStep.yield r)) (fun ok s₃ =>
      if ok=true then wpAny (model prog w) A (eval elt env) (fun x s₄=>wpAny (model prog w) A (call (.builtin "list.append") [acc,x]) (fun _ s₅=>∃ m,m<n∧I m s₅) (fun _ _=>False) s₄) (fun _ _=>False) s₃
      else ∃ m,m<n∧I m s₃) (fun _ _=>False) s₂) (fun _ _=>False) s₂) (fun _ _=>False) s₁) (fun _ _=>False) s)
  (n:Nat) (h:I n s):codeAny (model prog w) A (.compLoop (.ListComp elt [⟨target,iter,ifs,0⟩] scope pos) 0 it acc env) R s:=by
 refine codeAny_loop rfl I (fun n s hI=>?_) n h
 show wpAny _ A ((compTurn (.ListComp elt [⟨target,iter,ifs,0⟩] scope pos) 0 it acc env).onRaise (fun x=>do noteFrame x env;theTreesLotGoes x)) _ _ s
 refine wpAny_noted ?_
 rw [compTurn_list]
 refine wpAny_bind (wpAny_standAt (wpAny_bind (wpAny_mono (turn n s hI) (fun r s₁ h₁=>?_) fun _ _ f=>f.elim)))
 cases r with
 | none=>exact wpAny_pure h₁
 | some v =>
  refine wpAny_bind (wpAny_mono h₁ (fun _ s₁ h₁=>?_) fun _ _ f=>f.elim)
  refine wpAny_bind (wpAny_mono h₁ (fun _ s₂ h₂=>wpAny_bind (wpAny_mono h₂ (fun ok s₃ h₃=>?_) fun _ _ f=>f.elim)) fun _ _ f=>f.elim)
  cases ok with
  | false=>exact wpAny_pure ⟨rfl,h₃⟩
  | true=>exact wpAny_bind (wpAny_bind (wpAny_mono h₃ (fun x s₄ h₄=>wpAny_bind (wpAny_mono h₄ (fun _ s₅ h₅=>wpAny_pure (wpAny_pure ⟨rfl,h₅⟩)) fun _ _ f=>f.elim)) fun _ _ f=>f.elim))
end
end PySem
namespace L2
open PySem PySem.Spec PyProof.Rows
def compN2 (X:Cx) (x y:Str) (ix:List Nat):List Str:=x::y::ix.map fun i=>X.N.getD i ""
def compCx2 (X:Cx) (scope:Scope) (x y:Str) (ix:List Nat) (ex:List Addr) (s:Shared) (H:Hp):Cx:={ compCx X scope x ix ex s H with N:=compN2 X x y ix }
section
variable {X:Cx} {scope:Scope} {x y:Str} {ix:List Nat}
theorem inv_two {σ:St} {H H':Hp} {s s':Shared} {fp:List Addr} (J:Inv (compCx X scope x ix fp s H) [] (compσ σ ix) H' s'):Inv (compCx2 X scope x y ix fp s H) [] (none::none::capσ σ ix) H' s':=by
 refine ⟨⟨J.ok.mod,J.ok.kind,J.ok.glob,J.ok.blt,J.ok.above,J.ok.inj,J.ok.has,J.ok.cab,J.ok.hd,J.ok.frames,J.ok.stk,J.ok.exf,J.ok.bs,J.ok.bsz,J.ok.noex,J.ok.exfs,J.ok.funs,J.ok.frf⟩,J.os,J.bare,J.base,?_,J.cell,J.free,J.freeC,J.pin,J.hok,?_⟩
 ·obtain ⟨m,hn,hl⟩:=J.loc
  refine ⟨m,hn,fun i z v h1 h2 h3=>?_⟩
  cases i with
  | zero=>simp at h2
  | succ i =>
   cases i with
   | zero=>simp at h2
   | succ i=>exact hl (i+1) z v (by simpa [compCx,compN,compCx2,compN2] using h1) (by simpa [compσ,capσ] using h2) h3
 ·simp [compCx2,compN2,capσ]
theorem comp_out2 {pins:List (Addr×Obj)} {σ σ':St} {H H':Hp} {s s':Shared} {fp:List Addr} {h'':Heap} (I:Inv X pins σ H s) (hf:∀ b∈fp,FpOk X pins H b) (J:Inv (compCx2 X scope x y ix fp s H) [] σ' H' s')
  (sb:Heap.SameBut s.heap.objs.size s'.heap h''):Inv X pins σ H' { s' with heap:=h'' }:=by
 have neC:∀ b o,s.heap.get? b=some o→b≠s.heap.objs.size:=fun b o e=>Nat.ne_of_lt (Heap.lt_size e)
 have B:Un (frs X.stack) fp H H' s.heap s'.heap:=J.base
 have hC:H' s.heap.objs.size=none:=J.free
 refine I.call' (ch:=fp) J.os ?_ ?_ J.bare fun b hb=>⟨(hf b hb).2.2.2.1,(hf b hb).2.1,(hf b hb).2.2.2.2.1,(hf b hb).2.2.2.2.2⟩
 ·refine ⟨fun b o e n hb hx=>(sb.2 b (neC b o e)).trans (B.keep b o e n hb hx),fun b o e n hb hx=>?_,B.free,fun b o e hx=>?_,B.tups,B.frzs,B.tbls⟩
  ·obtain ⟨sl,q⟩:=B.slot b o e n hb hx
   exact ⟨sl,(sb.2 b (neC b o e)).trans q⟩
  ·obtain ⟨o',q⟩:=B.there b o e hx
   exact ⟨o',(sb.2 b (neC b o e)).trans q⟩
 ·intro b ob e
  refine (J.hok b ob e).stay (fun c w' hc q=>(sb.2 c ?_).trans q) (fun _ q=>q) fun _ _ q=>q
  rintro rfl
  rcases hc with hc | hc
  ·rw [← hc,hC] at e;cases e
  ·rw [hC] at hc;cases hc
end
def compGo2 (K:PySem.W.Frag) (J:It) (D:Addr) (Q:VK) (ti:TT) (te:TE) (c:St) (H0:Hp):Prop :=
 ∃ W:Nat→Nat→Hp→Prop,(∃ m,W 0 m H0)∧∀ i m H,W i m H →
  (J.stop i H∧Q (.ref D) H)∨(J.go i H∧∃ N:Hp→Prop,(∀ H',N H'→∃ m',m' < m∧W (i+1) m' H')∧∀ v H',J.yld i H v H'→∃ p a b,v=.ref p∧SqT K H' p [a,b] ∧
   ti (some a::some b::c) H' fun t H2=>if t=true then te (some a::some b::c) H2 fun y H3=>∃ ys,H3 D=some (.lst ys)∧ys.length<sizeLine∧N (upd H3 D (.lst (ys++[y]))) else N H2)
def tComp2 (K:PySem.W.Frag) (wi:TI) (ix:List Nat) (ti:TT) (te:TE):TE:=fun σ H Q=>wi σ H fun J H1=>∀ D,H1 D=none→compGo2 K J D Q ti te (capσ σ ix) (upd H1 D (.lst []))
section
variable {X:Cx} {scope:Scope} {x y:Str} {px py tp pos:Pos} {k1:Nat} {ix:List Nat} {elt iter:Expr} {ifs:List Expr} {wi:TI} {ti:TT} {te:TE}
theorem comp_block2 {pins:List (Addr×Obj)} {σ:St} {H:Hp} {s:Shared} {fp:List Addr} {it D:Addr} {tn:Nat→Heap→Prop} {J:It} {Q:VK} {E:Value→Shared→Prop} {RR:Result→Shared→Prop} (S:CompSc X scope x ix) (hy:scope.names.lookup y=some .local) (hc:X.calm=true)
  (he:∀ s H,PE (compCx2 X scope x y ix fp s H) elt te) (hi:∀ s H,PIfs (compCx2 X scope x y ix fp s H) ifs ti)
  (I:Inv X pins σ H s) (T:Turn X.prog X.w X.K (.Tuple [.Name x px,.Name y py] k1 tp) J fp it tn) (st:tn 0 s.heap) (hf:∀ b∈fp,FpOk X pins H b) (go:compGo2 X.K J D Q ti te (capσ σ ix) H)
  (nd:(compN2 X x y ix).Nodup)
  (hR:∀ σ' H' s',Inv (compCx2 X scope x y ix fp s H) [] σ' H' s'→Q (.ref D) H'→RR (.ok .next) s') :
  wpAny (model X.prog X.w) X.A (newFunctionEnv scope X.env.globals (clOf scope.names X.env.cells) [] X.env.qual none .none (some X.env)) (fun cenv s₄=>cenv.locals=s.heap.objs.size ∧
   codeAny (model X.prog X.w) X.A (.compStart (.ListComp elt [⟨.Tuple [.Name x px,.Name y py] k1 tp,iter,ifs,0⟩] scope pos) 0 (.ref it) (.ref D) { cenv with scope:=relabel scope X.env }) RR s₄) E s:=by
 refine wpAny_newFunctionEnv S.nocell (by intro y hy;simp at hy) (fun h' ns sb=>⟨rfl,?_⟩) S.kind
 have hlt:∀ b∈fp,b<s.heap.objs.size:=fun b hb=>by
  obtain ⟨o,e,_⟩:=T.obj 0 _ st b hb
  exact Heap.lt_size e
 have I0:Inv (compCx2 X scope x y ix fp s H) [] (none::none::capσ σ ix) H { s with heap:=h',toks:=s.toks+([]:List (Str×Value)).length }:=inv_two (inv_comp S I hf hlt ns sb)
 have st0:tn 0 h':=T.keep 0 _ _ st fun b hb o e=>(sb.2 b (Nat.ne_of_lt (Heap.lt_size e))).trans (Heap.get?_push_of_some _ e)
 obtain ⟨W,⟨m0,w0⟩,turn⟩:=go
 have stat:∀ {H':Hp},(∀ b∈fp,H' b=none)→∀ b∈fp,FpOk (compCx2 X scope x y ix fp s H) [] H' b:=fun hn b hb=>by
  refine ⟨hn b hb,Nat.ne_of_lt (hlt b hb),fun z=>?_,.inl hb,fun y c e=>(I0.ok.exf b hb).2 y c e,fun p hp=>absurd (show p∈([]:List (Addr×Obj)) from hp) (by simp)⟩
  exact I0.ok.exfs b hb z
 have loop:codeAny (model X.prog X.w) X.A (.compLoop (.ListComp elt [⟨.Tuple [.Name x px,.Name y py] k1 tp,iter,ifs,0⟩] scope pos) 0 (.ref it) (.ref D) (compCx2 X scope x y ix fp s H).env) RR { s with heap:=h',toks:=s.toks+([]:List (Str×Value)).length }:=by
  refine compLoop_go (fun n s'=>∃ i o o' H',Inv (compCx2 X scope x y ix fp s H) [] (o::o'::capσ σ ix) H' s'∧tn i s'.heap∧(∀ b∈fp,H' b=none)∧W i n H') ?_ m0 ⟨0,none,none,H,I0,st0,fun b hb=>(hf b hb).1,w0⟩
  rintro n s3 ⟨i,o3,o3',H3,I3,st3,fr3,w3⟩
  rcases turn i n H3 w3 with ⟨stop,qn⟩ | ⟨gone,N,hN,step⟩
  ·refine thn (T.done (compCx2 X scope x y ix fp s H) rfl rfl rfl hc i [] s3 _ H3 _ I3 (stat fr3) st3 stop) fun r s4 ⟨hr,I4⟩=>?_
   subst hr
   exact hR _ H3 s4 I4 qn
  ·refine thn (T.item (compCx2 X scope x y ix fp s H) rfl rfl rfl hc i [] s3 _ H3 (fun _ _=>False) I3 (stat fr3) st3 gone) fun r s4 ⟨u,hr,h4⟩=>?_
   subst hr
   refine thn h4 fun _ s5 ⟨v5,H5,I5,r5,y5,st5,fr5⟩=>?_
   obtain ⟨p,a,b,rfl,hq,hstep⟩:=step v5 H5 y5
   cases r5
   have I5':=I5.pinned (stat fr5) (T.obj _ _ st5)
   obtain ⟨its,rv,ht,hz⟩:=I5'.tuple hq
   obtain ⟨ua,ub,rfl,ra,rb⟩:=vals2 rv
   refine assign_Tuple_tuple (I5'.ok.hd hc) ht (by rfl) (by rfl) fun h6 hx6=>?_
   have I6:=I5'.kept (h':=h6) (t':=s5.toks) fun b o e=>hx6 b o (Nat.ne_of_lt (Heap.lt_size e)) e
   show wpAny _ _ (assignInOrder [assign (.Name x px) (compCx2 X scope x y ix fp s H).env,assign (.Name y py) (compCx2 X scope x y ix fp s H).env] [ua,ub]) _ _ _
   have hx0:(compCx2 X scope x y ix fp s H).N[0]?=some x:=rfl
   have hy0:(compCx2 X scope x y ix fp s H).N[1]?=some y:=rfl
   refine assignInOrder_cons (wpAny_assign_Name (store_ok I6 nd hx0 (.inl (lookup_relabel_local S.x)) ra (fun s7 I7=>?_) (.inr (lookup_relabel_local S.x))))
   refine assignInOrder_cons (wpAny_assign_Name (store_ok I7 nd hy0 (.inl (lookup_relabel_local hy)) rb (fun s8 I8=>assignInOrder_nil ?_) (.inr (lookup_relabel_local hy))))
   refine thn (hi s H _ s8 _ H5 _ I8 hstep) fun ok s9 ⟨H9,I9,q9⟩=>?_
   have again:∀ {o7 o8:Option V} {H7:Hp} {s7:Shared},Inv (compCx2 X scope x y ix fp s H) ([]++pinsAt fp s5.heap) (o7::o8::capσ σ ix) H7 s7→N H7→∃ m,m<n∧∃ i o o' H',Inv (compCx2 X scope x y ix fp s H) [] (o::o'::capσ σ ix) H' s7∧tn i s7.heap∧(∀ b∈fp,H' b=none)∧W i m H':=fun {o7 o8 H7 s7} I7 n7=>by
    obtain ⟨m',hm,w7⟩:=hN H7 n7
    refine ⟨m',hm,i+1,o7,o8,H7,I7.unpinned,T.keep _ _ _ st5 fun b hb o e=>(I7.pin (b,o) (List.mem_append_right _ (List.mem_append_right _ (mem_pinsAt hb e)))).1,fun b hb=>?_,w7⟩
    obtain ⟨o,e,d⟩:=T.obj _ _ st5 b hb
    exact (I7.pin (b,o) (List.mem_append_right _ (List.mem_append_right _ (mem_pinsAt hb e)))).2.1
   cases ok with
   | false =>
    rw [if_neg (by simp)] at q9
    exact again I9 q9
   | true =>
    rw [if_pos rfl] at q9
    refine thn (he s H _ s9 _ H9 _ I9 q9) fun v s10 ⟨y10,H10,I10,r10,ys,hD,hz,n10⟩=>?_
    exact mt_append _ s10 _ H10 (.ref D) [y10] (.ref D) [v] _ I10 rfl (.cons r10 .nil) ⟨D,ys,y10,rfl,rfl,hD,hz,n10⟩ |> fun z=>wpAny_mono z (fun _ s11 ⟨_,H11,I11,_,q11⟩=>again I11 q11) fun _ _ f=>f.elim
 exact codeAny_compStart_list loop (T.self _ 0 _ _ _ st0 loop)
theorem pe_comp2 (S:CompSc X scope x ix) (hy:scope.names.lookup y=some .local) (nd:(compN2 X x y ix).Nodup) (hc:X.calm=true) (hi:PI X (.Tuple [.Name x px,.Name y py] k1 tp) iter wi) (hif:∀ fp s H,PIfs (compCx2 X scope x y ix fp s H) ifs ti) (he:∀ fp s H,PE (compCx2 X scope x y ix fp s H) elt te)
  (hs:∀ z,foldedSetIterable iter X.env z=pure z:=by intro _;rfl):PE X (.ListComp elt [⟨.Tuple [.Name x px,.Name y py] k1 tp,iter,ifs,0⟩] scope pos) (tComp2 X.K wi ix ti te):=by
 intro pins s σ H Q I h
 rw [eval_ListComp]
 refine wpAny_comprehension_free (use:=none) rfl hs (closureFor_of (S.cells I.ok)) S.kind S.loc (thn (hi pins s σ H _ I h) fun v s1 h1=>thn h1 fun itv s2 h2=>?_)
 obtain ⟨it,fp,tn,J,H2,rfl,I2,T,st2,f2,q⟩:=h2
 refine wpAny_newObj_type ?_
 have fr:=I2.fresh
 have I3:Inv X pins σ (upd H2 s2.heap.objs.size (.lst [])) { s2 with heap:=s2.heap.push { cls:=.type "list",data:=.seq ([]:List Value).toArray } }:=I2.lnew (t':=s2.toks) .nil (Nat.zero_le _)
 have hD:∀ b∈fp,b≠s2.heap.objs.size:=fun b hb=>by
  obtain ⟨o,e,_⟩:=T.obj 0 _ st2 b hb
  exact Nat.ne_of_lt (Heap.lt_size e)
 have f3:=Inv.fp_upd (o:=.lst []) f2 hD
 have st3:tn 0 (s2.heap.push { cls:=.type "list",data:=.seq ([]:List Value).toArray }):=T.keep 0 _ _ st2 fun b hb o e=>Heap.get?_push_of_some _ e
 refine thn (comp_block2 (px:=px) (py:=py) (tp:=tp) (k1:=k1) (pos:=pos) (iter:=iter) (E:=X.xe) (RR:=compPost (model X.prog X.w) X.A X.xe none (EP X pins σ Q) (.ref s2.heap.objs.size) (s2.heap.push { cls:=.type "list",data:=.seq ([]:List Value).toArray }).objs.size) S hy hc (he fp) (hif fp) I3 T st3 f3 (q _ fr) nd ?_) fun cenv s4 ⟨e,z⟩=>?_
 ·intro σ' H' s' J' q'
  obtain ⟨m,hn,_⟩:=J'.loc
  exact ⟨m,hn,fun h'' sb=>⟨_,H',comp_out2 I3 f3 J' sb,(show RelV (.ref s2.heap.objs.size) _ from rfl),q'⟩⟩
 ·rw [← show cenv.locals=(s2.heap.push { cls:=.type "list",data:=.seq ([]:List Value).toArray }).objs.size from e] at z;exact z
end
def compChk2 (sc0 scope:Scope) (N:List Str) (x y:Str) (ix:List Nat):Bool:=compChk sc0 scope N x ix && decide (scope.names.lookup y=some .local) && decide ((x::y::ix.map fun i=>N.getD i "").Nodup)
theorem pe_compc2 {X:Cx} {K:PySem.W.Frag} {sc0 scope:Scope} {N:List Str} {x y:Str} {px py tp pos:Pos} {k1:Nat} {ix:List Nat} {elt iter:Expr} {ifs:List Expr} {wi:TI} {ti:TT} {te:TE} (h:compChk2 sc0 scope N x y ix=true) (hK:X.K=K) (e1:X.env.scope=sc0) (e2:X.N=N) (hc:X.calm=true)
  (hi:PI X (.Tuple [.Name x px,.Name y py] k1 tp) iter wi) (hif:∀ fp s H,PIfs (compCx2 X scope x y ix fp s H) ifs ti) (he:∀ fp s H,PE (compCx2 X scope x y ix fp s H) elt te)
  (hs:∀ z,foldedSetIterable iter X.env z=pure z:=by intro _;rfl):PE X (.ListComp elt [⟨.Tuple [.Name x px,.Name y py] k1 tp,iter,ifs,0⟩] scope pos) (tComp2 K wi ix ti te):=by
 subst hK
 unfold compChk2 at h
 rw [Bool.and_eq_true,Bool.and_eq_true,decide_eq_true_iff,decide_eq_true_iff] at h
 refine pe_comp2 (compSc_of h.1.1 e1 e2).1 h.1.2 ?_ hc hi hif he hs
 subst e2
 exact h.2
end L2
namespace L2
open PySem PySem.Spec PyProof.Rows PySem.Calls
section
variable {X:Cx}
end
end L2
namespace PySem
open Sem (wp)
section
variable {prog:Program} {w:World} {A:Around} {E:Value→Shared→Prop} {s:Shared}
end
end PySem
namespace L2
open PySem PySem.Spec PyProof.Rows
section
variable {X:Cx}
end
def Itn (x:Str):It :=
 ⟨fun i _=>i<x.cps.size,fun i H v H'=>∃ p c,v=.ref p∧H p=none∧H'=upd H p (.tup [.int (i:Nat),.str ⟨#[c]⟩])∧x.cps[i]?=some c,fun i _=>i=x.cps.size⟩
theorem draws_str {prog:Program} {w:World} {A:Around} (hh:A.handled=none) (it:Addr) (x:Str) (t:Tok) (T:String) (hT:T="str_ascii_iterator"∨T="str_iterator") :
  Draws prog w A it [it] x.cps.size (fun i v=>∃ c u,x.cps[i]?=some c∧v=.str ⟨#[c]⟩ u) (fun i h=>h.IsStrIter it T x t i):=by
 rcases hT with rfl | rfl
 ·exact Draws.strAscii hh it x t
 ·exact Draws.strWide hh it x t
theorem turn_enum {P:Program} {w:World} {K:PySem.W.Frag} {es:List Expr} {x1} {pos:Pos} (x:Str) (t:Tok) (T:String) (e it:Addr) (hne:e≠it) (hT:T="str_ascii_iterator"∨T="str_iterator") :
  Turn P w K (.Tuple es x1 pos) (Itn x) [e,it] e (fun i h=>(∃ old,IsEnum h e it ((i:Nat):Int) old)∧h.IsStrIter it T x t i) where
 mem:=by simp
 obj:=fun i h st b hb=>by
  obtain ⟨⟨old,he⟩,o,g,c,d⟩:=st
  simp only [List.mem_cons,List.not_mem_nil,or_false] at hb
  rcases hb with rfl | rfl
  ·exact ⟨_,he,fun v z=>by cases z⟩
  ·exact ⟨o,g,fun v z=>by rw [d] at z;cases z⟩
 keep:=fun i h h' st k=>by
  obtain ⟨⟨old,he⟩,o,g,r⟩:=st
  exact ⟨⟨old,k e (by simp) _ he⟩,o,k it (by simp) o g,r⟩
 item:=by
  intro X hP hw hK hc i pins s σ H E I hf st hg
  subst hP hw hK
  obtain ⟨⟨old,he⟩,hs⟩:=st
  have hei:e ∉ [it]:=by simpa using hne
  have DD:=draws_str (prog:=X.prog) (w:=X.w) (A:=X.A.in1) (I.ok.hd hc) it x t T hT
  refine wpAny_pyNext_enum_itemD DD he hs hg hne hei fun v h1 tk hv ho hs1 hT1 hz1 kp=>⟨_,rfl,?_⟩
  obtain ⟨c,u,hc',rfl⟩:=hv
  refine wpAny_letOwnedTupleGo_enum ho fun h2 he2 e2=>?_
  have ne:s.heap.objs.size≠e:=Nat.ne_of_gt (Heap.lt_size he)
  have hT2:h2.get? s.heap.objs.size=some { cls:=.type "tuple",data:=.seq #[.int i tk,.str ⟨#[c]⟩ u] }:=(e2.2 _ ne).trans hT1
  have hHn:H s.heap.objs.size=none:=I.hok.fresh (Nat.le_refl _)
  have kpn:∀ b o,b ∉ [e,it]→s.heap.get? b=some o→h2.get? b=some o:=fun b o hn q=>(e2.2 b fun z=>hn (by simp [z])).trans (kp b o (fun z=>hn (by simp [z])) (fun z=>hn (by simp [z])) q)
  refine ⟨.ref s.heap.objs.size,upd H s.heap.objs.size (.tup [.int (i:Nat),.str ⟨#[c]⟩]),?_,rfl,⟨_,c,rfl,hHn,rfl,hc'⟩,⟨⟨_,by simpa using he2⟩,?_⟩,fun b hb=>?_⟩
  ·exact I.turnedN (t':=tk+1) (h':=h2) kpn hf (Nat.le_refl _) ⟨by show 2≤sizeLine;decide,[.int i tk,.str ⟨#[c]⟩ u],.cons ⟨_,rfl⟩ (.cons ⟨_,rfl⟩ .nil),_,hT2,rfl,0,rfl⟩
  ·obtain ⟨o,g,r⟩:=hs1
   exact ⟨o,(e2.2 it hne.symm).trans g,r⟩
  ·have hce:b≠s.heap.objs.size:=by
    obtain ⟨o1,g1,_⟩:=hs
    simp only [List.mem_cons,List.not_mem_nil,or_false] at hb
    rcases hb with rfl | rfl
    ·exact Nat.ne_of_lt (Heap.lt_size he)
    ·exact Nat.ne_of_lt (Heap.lt_size g1)
   rw [upd_ne hce]
   exact (hf b hb).1
 done:=by
  intro X hP hw hK hc i pins s σ H E I hf st hg
  subst hP hw hK
  obtain ⟨⟨old,he⟩,hs⟩:=st
  have hi:i=x.cps.size:=hg
  subst hi
  have DD:=draws_str (prog:=X.prog) (w:=X.w) (A:=X.A.in1) (I.ok.hd hc) it x t T hT
  refine wpAny_pyNext_enum_endD DD he hs fun h1 e1=>⟨rfl,?_⟩
  exact I.turnedM (t':=s.toks) (ch:=[e,it]) (fun b o hn q=>e1 b o (fun z=>hn (by simp [z])) q) hf
 self:=fun A i s Q E st h=>by
  obtain ⟨⟨old,he⟩,_⟩:=st
  exact wpAny_pyIter_enum he h
section
variable {X:Cx}
def iEnum (ta:TA):TI:=fun σ H R=>ta σ H fun vs H1=>∃ z,vs=[.str z]∧R (Itn z) H1
theorem pi_enum {es:List Expr} {x1} {tpos:Pos} {a:Expr} {ta:TA} {p pos:Pos} (hg:Gl X "enumerate") (hm:X.mg "enumerate"=none) (ha:PA X [a] ta) (hs:starEach [a] X.env=[(false,eval a X.env)]:=by rfl) :
  PI X (.Tuple es x1 tpos) (.Call (.Name "enumerate" p) [a] [] pos) (iEnum ta):=by
 intro pins s σ H R I h
 refine Call_ (ld_blt I hg hm boot_enumerate (PyProof.Rows.callWith_type1 (thn (ha pos pins s σ H _ I h) fun us s1 ⟨vs,H1,I1,r1,q1⟩=>?_) hs rfl))
 obtain ⟨z,e,q⟩:=q1
 subst e
 obtain ⟨u,rfl,ru⟩:=r1.one
 obtain ⟨t,rfl⟩:=ru
 refine call_enumerate_str fun h' he hit hz kp=>?_
 have I2:Inv X pins σ H1 { s1 with heap:=h' }:=I1.kept (t':=s1.toks) kp
 have hne:s1.heap.objs.size+1≠s1.heap.objs.size:=by omega
 refine wpAny_pyIter_enum he ⟨s1.heap.objs.size+1,[s1.heap.objs.size+1,s1.heap.objs.size],_,_,H1,rfl,I2,turn_enum z t (strIterType z) _ _ hne (by unfold strIterType;split <;> simp),⟨⟨_,he⟩,hit⟩,fun b hb=>?_,q⟩
 have hle:s1.heap.objs.size≤b:=by
  simp only [List.mem_cons,List.not_mem_nil,or_false] at hb
  rcases hb with h | h <;> rw [h]
  ·exact Nat.le_add_right _ _
  ·exact Nat.le_refl _
 exact I1.fpOk hle (I1.hok.fresh hle)
end
theorem for_enum {w:List Nat} {g:TG} {tb:TS} {D:Ends} {σ:St} {H:Hp} (Pv:Nat→St→Hp→Prop) (h0:Pv 0 σ H)
  (hs:∀ i c p σ H,w[i]?=some c→H p=none→Pv i σ H→g (.ref p) σ (upd H p (.tup [.int (i:Nat),.str (S [c])])) fun σ2 H2=>tb { D with nx:=Pv (i+1),ct:=Pv (i+1),bk:=D.nx } σ2 H2) (hd:∀ σ H,Pv w.length σ H→D.nx σ H) :
  ∃ W:Nat→Nat→St→Hp→Prop,(∃ m,W 0 m σ H)∧∀ i m σ H,W i m σ H →
   ((Itn (S w)).stop i H∧D.nx σ H)∨((Itn (S w)).go i H∧∃ N:St→Hp→Prop,(∀ σ' H',N σ' H'→∃ m',m' < m∧W (i+1) m' σ' H')∧∀ x H',(Itn (S w)).yld i H x H'→g x σ H' fun σ2 H2=>tb { D with nx:=N,ct:=N,bk:=D.nx } σ2 H2):=by
 refine ⟨fun i m σ H=>m=w.length - i∧i≤w.length∧Pv i σ H,⟨w.length,by simp,Nat.zero_le _,h0⟩,?_⟩
 rintro i m σ H ⟨rfl,hi,p⟩
 by_cases hlt:i<w.length
 ·refine .inr ⟨by simpa [Itn] using hlt,Pv (i+1),fun σ' H' p'=>⟨w.length - (i+1),by omega,rfl,hlt,p'⟩,fun x H' y=>?_⟩
  obtain ⟨pp,c,rfl,hn,rfl,hc⟩:=y
  exact hs i c pp σ H (by simpa using hc) hn p
 ·have e:i=w.length:=by omega
  subst e
  exact .inl ⟨by simp [Itn],hd σ H p⟩
section
variable {prog:Program} {w:World} {A:Around} {E:Value→Shared→Prop} {s:Shared}
theorem item_whole {t sl:Addr} {items:Array Value} {vl vu:Value} {lo hi:Option Int} {Q:Value→Shared→Prop} (ht:IsTup s.heap t items) (hs:s.heap.IsSliceOf sl vl vu .none) (pl:IsPart vl lo) (pu:IsPart vu hi)
  (h1:HT.sIx items.size 0 lo=0) (h2:HT.sIx items.size items.size hi=items.size)
  (h:Q (.ref t) s):wpAny (model prog w) A (getItem (.ref t) (.ref sl)) Q E s:=by
 obtain ⟨os,hos,hcs,hds⟩:=id hs
 have hTs:s.TypeIs (.ref sl) "slice":=⟨os,hos,hcs⟩
 unfold getItem
 try with_reducible refine wpAny_holding ?_
 first | refine wpAny_bind (wpAny_pure ?_) | skip
 refine wpAny_bind (wpAny_sequenceKey ht.typeIs (by decide) ?_)
 refine wpAny_bind (wpAny_callSpecial?_slot (name:=Str.ofString "__getitem__") ht.typeIs PyProof.Rows.slot_tuple_getitem
  (wpAny_call_entry PyProof.Rows.slot_tuple_getitem ht.typeIs entry_tuple_getitem ?_ (args_tuple_getitem _ _)))
 show wpAny _ _ (Builtin.Tuple.tupleItemsOf (.ref t) >>= _) _ _ s
 refine wpAny_bind (tupleItemsOf_ ht ?_)
 refine wpAny_bind (wpAny_typeOf hTs ?_)
 rw [if_pos (by decide)]
 refine wpAny_bind (HT.sliceApplied_gen hs pl pu ?_)
 rw [h1,h2]
 show wpAny _ _ (if (((0:Nat):Int) == 0 && (1:Int) == 1 && (items.size - 0) == items.size)=true then _ else _) _ _ s
 rw [if_pos (by simp)]
 refine wpAny_bind ?_
 unfold Builtin.Tuple.tupleIsExact
 refine wpAny_bind (wpAny_typeOf ht.typeIs (wpAny_pure ?_))
 rw [if_pos (by decide)]
 exact wpAny_bind (wpAny_rule (wpAny_pure ⟨_,rfl,wpAny_pure h⟩))
end
def rSlB (K:PySem.W.Frag):V→Option Int→Option Int→Hp→VK→Prop:=fun x lo hi H Q=>∃ (a:Addr) (xs:List V) (j:Nat),x=.ref a∧SqT K H a xs∧lo=none∧hi=some (j:Int)∧j≤xs.length ∧
 (j<xs.length→∀ p,H p=none→Q (.ref p) (upd H p (.tup (xs.take j))))∧(j=xs.length→Q (.ref a) H)
theorem sl_tupB {X:Cx} {K:PySem.W.Frag} (hK:X.K=K):SlR X (rSlB K):=by
 subst hK
 intro pins s σ H x v vl vu lo hi sl Q I rx hs pl pu h
 obtain ⟨a,xs,j,rfl,hx,rfl,rfl,hj,q1,q2⟩:=h
 have e0:HT.sIx xs.length 0 none=0:=rfl
 have e1:HT.sIx xs.length xs.length (some (j:Int))=j:=by
  unfold HT.sIx
  simp only
  rw [if_neg (by omega)]
  simp
  omega
 rcases Nat.lt_or_ge j xs.length with hlt | hge
 ·refine sl_tup pins s σ H _ v vl vu _ _ sl Q I rx hs pl pu ⟨a,xs,rfl,hx,fun z=>?_,?_⟩
  ·rw [e1] at z;omega
  ·have e:cutV xs none (some (j:Int))=xs.take j:=by
    unfold cutV
    rw [e1,e0]
    simp
   rw [e]
   exact q1 hlt
 ·have ej:j=xs.length:=by omega
  cases rx
  obtain ⟨its,r,ht,hz⟩:=I.tuple hx
  have hlen:its.toArray.size=xs.length:=by rw [List.size_toArray];exact r.length.symm
  refine ⟨"tuple",_,PyProof.Rows.slot_tuple_getitem.lookup,ht.typeIs,?_⟩
  exact item_whole ht hs pl pu (by rw [hlen];exact e0) (by rw [hlen,e1];exact ej) ⟨.ref a,H,I,rfl,q2 ej⟩
end L2
namespace L2
open PySem PySem.W PyProof.Rows
def KTr (lt:Nat→Nat→Bool) (n:Nat) {α:Type}:KasT α→(α→Prop)→Prop
 | .ret a,Q=>Q a
 | .ask i j k,Q=>i<n∧j<n∧KTr lt n (k (lt i j)) Q
theorem KTr.bind {lt:Nat→Nat→Bool} {n:Nat} {α β:Type} {f:α→KasT β} {Q:β→Prop}:∀ {t:KasT α},KTr lt n t (fun a=>KTr lt n (f a) Q)→KTr lt n (t.bind f) Q
 | .ret a,h=>h
 | .ask i j k,h=>⟨h.1,h.2.1,KTr.bind h.2.2⟩
theorem KTr.wp {lt:Nat→Nat→Bool} {n:Nat} {α:Type} {cmp:Nat→Nat→(Bool→Shared→Prop)→Shared→Prop} {Ok:Shared→Prop}
  (hc:∀ i j C s,i<n→j<n→Ok s→(∀ s',Ok s'→C (lt i j) s')→cmp i j C s) {Q:α→Prop} {R:α→Shared→Prop} (hq:∀ a s,Q a→Ok s→R a s):∀ {t:KasT α} {s:Shared},KTr lt n t Q→Ok s→t.kasWp cmp R s
 | .ret a,s,h,o=>hq a s h o
 | .ask i j k,s,h,o=>hc i j _ s h.1 h.2.1 o fun s' o'=>KTr.wp hc hq h.2.2 o'
structure TotLt (lt:Nat→Nat→Bool):Prop where
 asym:∀ i j,lt i j=true→lt j i=false
 tr:∀ i j k,lt j i=false→lt k j=false→lt k i=false
section
variable {lt:Nat→Nat→Bool} {n:Nat}
theorem TotLt.irr (T:TotLt lt) (i:Nat):lt i i=false:=by
 cases h:lt i i with
 | false=>rfl
 | true=>have:=T.asym i i h;rw [h] at this;cases this
def PermN (n:Nat) (p:Array Nat):Prop:=p.Perm (List.toArray (List.range n))
theorem PermN.size {p:Array Nat} (h:PermN n p):p.size=n:=by
 have:=(Array.perm_iff_toList_perm.mp h).length_eq
 simpa using this
theorem PermN.below {p:Array Nat} (h:PermN n p) {i:Nat} (hi:i<n):p.getD i 0<n:=by
 have hs:=h.size
 have e:p.getD i 0=p[i]'(by omega):=by simp [Array.getD,show i<p.size by omega]
 rw [e]
 have hm:p[i]'(by omega)∈p:=Array.getElem_mem _
 have:p[i]'(by omega)∈(List.toArray (List.range n)):=h.mem_iff.mp hm
 simpa using this
theorem getD_of {p q:Array Nat} {i j:Nat} (h:p[i]?=q[j]?):p.getD i 0=q.getD j 0:=by
 rw [Array.getD_eq_getD_getElem?,Array.getD_eq_getD_getElem?,h]
theorem rev_get {p:Array Nat} {i j:Nat} (hj:j≤p.size) (k:Nat):(kas_rev p i j).getD k 0=if i≤k∧k<j then p.getD (i+j - 1 - k) 0 else p.getD k 0:=by
 have:=getElem?_mirror_all (i:=i) hj k
 unfold kas_rev
 split
 ·rename_i h;rw [if_pos h] at this;exact getD_of this
 ·rename_i h;rw [if_neg h] at this;exact getD_of this
theorem PermN.rev {p:Array Nat} (h:PermN n p) (i j:Nat):PermN n (kas_rev p i j):=(mirror_perm p i j _).trans h
theorem PermN.bub {p:Array Nat} (h:PermN n p) (k d:Nat):PermN n (bubble p k d):=(bubble_perm p k d).trans h
def SoTo (lt:Nat→Nat→Bool) (p:Array Nat) (m:Nat):Prop:=∀ i j,i≤j→j<m→lt (p.getD j 0) (p.getD i 0)=false
def NoInc (lt:Nat→Nat→Bool) (p:Array Nat) (m:Nat):Prop:=∀ i j,i≤j→j<m→lt (p.getD i 0) (p.getD j 0)=false
def EqT (lt:Nat→Nat→Bool) (p:Array Nat) (m q:Nat):Prop:=∀ i j,m≤i+q+1→i<m→m≤j+q+1→j<m→lt (p.getD i 0) (p.getD j 0)=false
theorem asc_tr (T:TotLt lt) {p:Array Nat} (g:PermN n p) {Q:Nat→Prop}:∀ (f m:Nat),1≤m→m+f=n→SoTo lt p m →
  (∀ m',m≤m'→m'≤n→SoTo lt p m'→(m'=n∨lt (p.getD m' 0) (p.getD (m' - 1) 0)=true)→Q m')→KTr lt n (kas_asc p f m) Q
 | 0,m,h1,h2,hs,hq=>hq m (Nat.le_refl _) (by omega) hs (.inl (by omega))
 | f+1,m,h1,h2,hs,hq=>by
  refine ⟨g.below (by omega),g.below (by omega),?_⟩
  cases hc:lt (p.getD m 0) (p.getD (m - 1) 0) with
  | true=>exact hq m (Nat.le_refl _) (by omega) hs (.inr hc)
  | false =>
   refine asc_tr T g f (m+1) (by omega) (by omega) (fun i j hij hj=>?_) fun m' hm=>hq m' (by omega)
   by_cases e:j=m
   ·subst e
    by_cases e2:i=j
    ·subst e2;exact T.irr _
    ·exact T.tr _ _ _ (hs i (j - 1) (by omega) (by omega)) hc
   ·exact hs i j hij (by omega)
theorem noinc_eqv (T:TotLt lt) {p q:Array Nat} {m:Nat} (h:NoInc lt p m) (e1:∀ i,i<m→lt (q.getD i 0) (p.getD i 0)=false) (e2:∀ i,i<m→lt (p.getD i 0) (q.getD i 0)=false):NoInc lt q m:=fun i j hij hj =>
 T.tr _ _ _ (e2 j hj) (T.tr _ _ _ (h i j hij hj) (e1 i (by omega)))
theorem noinc_rev (T:TotLt lt) {p:Array Nat} (g:PermN n p) {m q k:Nat} (hm:m≤n) (hq:q+1≤m) (hmk:m≤k) (h:NoInc lt p k) (e:EqT lt p m q):NoInc lt (kas_rev p (m - (q+1)) m) k:=by
 have hs:=g.size
 have rd:=rev_get (p:=p) (i:=m - (q+1)) (j:=m) (by omega)
 refine noinc_eqv T h (fun i hi=>?_) fun i hi=>?_
 ·rw [rd]
  split
  ·exact e _ _ (by omega) (by omega) (by omega) (by omega)
  ·exact T.irr _
 ·rw [rd]
  split
  ·exact e _ _ (by omega) (by omega) (by omega) (by omega)
  ·exact T.irr _
theorem desc_tr (T:TotLt lt) {Q:Array Nat×Nat×Nat→Prop}:∀ (f:Nat) (p:Array Nat) (m q:Nat),PermN n p→1≤m→q+1≤m→m+f=n→NoInc lt p m→EqT lt p m q →
  (∀ p' m' q',PermN n p'→1≤m'→m'≤n→q' + 1≤m'→NoInc lt p' m'→EqT lt p' m' q'→Q (p',m',q'))→KTr lt n (kas_desc f p m q) Q
 | 0,p,m,q,g,h1,hq,h2,hn,he,k=>k p m q g h1 (by omega) hq hn he
 | f+1,p,m,q,g,h1,hq,h2,hn,he,k=>by
  refine ⟨g.below (by omega),g.below (by omega),?_⟩
  cases hc:lt (p.getD m 0) (p.getD (m - 1) 0) with
  | true =>
   have hn1:NoInc lt p (m+1):=fun i j hij hj=>by
    by_cases e:j=m
    ·subst e
     by_cases e2:i=j
     ·subst e2;exact T.irr _
     ·exact T.tr _ _ _ (T.asym _ _ hc) (hn i (j - 1) (by omega) (by omega))
    ·exact hn i j hij (by omega)
   have z0:∀ (p:Array Nat) (m:Nat),EqT lt p (m+1) 0:=fun p m i j hi hi2 hj hj2=>by
    have e1:i=m:=by omega
    have e2:j=m:=by omega
    rw [e1,e2];exact T.irr _
   show KTr lt n (if q > 0 then _ else _) Q
   split
   ·exact desc_tr T f _ (m+1) 0 (g.rev _ _) (by omega) (by omega) (by omega) (noinc_rev T g (by omega) hq (by omega) hn1 he) (z0 _ _) k
   ·exact desc_tr T f p (m+1) 0 g (by omega) (by omega) (by omega) hn1 (z0 _ _) k
  | false =>
   refine ⟨g.below (by omega),g.below (by omega),?_⟩
   cases hd:lt (p.getD (m - 1) 0) (p.getD m 0) with
   | true=>exact k p m q g h1 (by omega) hq hn he
   | false =>
    refine desc_tr T f p (m+1) (q+1) g (by omega) (by omega) (by omega) (fun i j hij hj=>?_) (fun i j hi hi2 hj hj2=>?_) k
    ·by_cases e:j=m
     ·subst e
      by_cases e2:i=j
      ·subst e2;exact T.irr _
      ·exact T.tr _ _ _ hd (hn i (j - 1) (by omega) (by omega)) |> fun z=>by
        first | exact z | exact T.tr _ _ _ hc (hn i (j - 1) (by omega) (by omega))
     ·exact hn i j hij (by omega)
    ·by_cases e:i=m
     ·subst e
      by_cases e2:j=i
      ·subst e2;exact T.irr _
      ·exact T.tr _ _ _ (he j (i - 1) (by omega) (by omega) (by omega) (by omega) |> fun z=>he (i - 1) j (by omega) (by omega) (by omega) (by omega)) hc
     ·by_cases e2:j=m
      ·subst e2
       exact T.tr _ _ _ hd (he i (j - 1) (by omega) (by omega) (by omega) (by omega))
      ·exact he i j (by omega) (by omega) (by omega) (by omega)
theorem tail3_tr (T:TotLt lt) {p:Array Nat} (g:PermN n p) {m:Nat} (h1:1≤m) (hm:m≤n) (hn:NoInc lt p m) {Q:Nat×Array Nat→Prop}
  (k:∀ p' m',PermN n p'→1≤m'→m'≤n→SoTo lt p' m'→Q (m',p')):KTr lt n (kas_tail3 m n p) Q:=by
 unfold kas_tail3
 have hs:=g.size
 have rd:=rev_get (p:=p) (i:=0) (j:=m) (by omega)
 refine KTr.bind (asc_tr T (g.rev 0 m) (n - m) m h1 (by omega) (fun i j hij hj=>?_) fun m' hm' hn' so _=>k _ m' (g.rev 0 m) (by omega) hn' so)
 rw [rd,rd,if_pos ⟨by omega,by omega⟩,if_pos ⟨by omega,by omega⟩]
 exact hn _ _ (by omega) (by omega)
theorem descPart_tr (T:TotLt lt) {p:Array Nat} (g:PermN n p) {m:Nat} (hm:m+1≤n) (hn:NoInc lt p (m+1)) {Q:Nat×Array Nat→Prop}
  (k:∀ p' m',PermN n p'→1≤m'→m'≤n→SoTo lt p' m'→Q (m',p')):KTr lt n (kas_descPart m n p) Q:=by
 unfold kas_descPart
 refine KTr.bind (desc_tr T (n - (m+1)) p (m+1) 0 g (by omega) (by omega) (by omega) hn (fun i j hi hi2 hj hj2=>?_) fun p' m' q' g' h1 h2 hq hn' he=>?_)
 ·have e1:i=m:=by omega
  have e2:j=m:=by omega
  rw [e1,e2];exact T.irr _
 ·show KTr lt n (if q' > 0 then _ else _) Q
  split
  ·exact tail3_tr T (g'.rev _ _) h1 h2 (noinc_rev T g' h2 hq (Nat.le_refl _) hn' he) k
  ·exact tail3_tr T g' h1 h2 hn' k
theorem count_tr (T:TotLt lt) {p:Array Nat} (g:PermN n p) (h1:1≤n) {Q:Nat×Array Nat→Prop}
  (k:∀ p' m',PermN n p'→1≤m'→m'≤n→SoTo lt p' m'→Q (m',p')):KTr lt n (kas_count n p) Q:=by
 unfold kas_count
 have hs:=g.size
 refine KTr.bind (asc_tr T g (n - 1) 1 (Nat.le_refl _) (by omega) (fun i j hij hj=>?_) fun m hm hn so hor=>?_)
 ·have e1:i=j:=by omega
  rw [e1];exact T.irr _
 ·split
  ·exact k p m g hm hn so
  ·rename_i hne
   have hne':m≠n:=fun e=>hne (by rw [e];simp)
   have hlt:lt (p.getD m 0) (p.getD (m - 1) 0)=true:=by
    rcases hor with e | e
    ·exact absurd e hne'
    ·exact e
   split
   ·rename_i hm1
    refine ⟨g.below (by omega),g.below (by omega),?_⟩
    cases hc:lt (p.getD 0 0) (p.getD (m - 1) 0) with
    | true=>exact k p m g hm hn so
    | false =>
     have all:∀ i j,i<m→j<m→lt (p.getD i 0) (p.getD j 0)=false:=fun i j hi hj =>
      T.tr _ _ _ (so j (m - 1) (by omega) (by omega)) (T.tr _ _ _ hc (so 0 i (by omega) hi))
     have hn1:NoInc lt p (m+1):=fun i j hij hj=>by
      by_cases e:j=m
      ·subst e
       by_cases e2:i=j
       ·subst e2;exact T.irr _
       ·exact T.tr _ _ _ (T.asym _ _ hlt) (all i (j - 1) (by omega) (by omega))
      ·exact all i j (by omega) (by omega)
     have hr:=noinc_rev T g (q:=m - 1) hn (by omega) (Nat.le_succ m) hn1 (fun i j _ hi _ hj=>all i j hi hj)
     rw [show m - (m - 1+1)=0 by omega] at hr
     exact descPart_tr T (g.rev 0 m) (by omega) hr k
   ·rename_i hm1
    have e1:m=1:=by omega
    subst e1
    refine descPart_tr T g (by omega) (fun i j hij hj=>?_) k
    by_cases e:i=j
    ·subst e;exact T.irr _
    ·have e1:i=0:=by omega
     have e2:j=1:=by omega
     rw [e1,e2]
     exact T.asym _ _ hlt
theorem place_tr (T:TotLt lt) {p:Array Nat} (g:PermN n p) {k:Nat} (hk:k<n) (so:SoTo lt p k) {Q:Nat→Prop}:∀ (f l r:Nat),l≤r→r≤k→r - l≤f→(∀ i,i<l→lt (p.getD k 0) (p.getD i 0)=false)→(∀ i,r≤i→i<k→lt (p.getD k 0) (p.getD i 0)=true) →
  (∀ l',l'≤k→(∀ i,i<l'→lt (p.getD k 0) (p.getD i 0)=false)→(∀ i,l'≤i→i<k→lt (p.getD k 0) (p.getD i 0)=true)→Q l')→KTr lt n (kas_place p k f l r) Q
 | 0,l,r,h1,h2,h3,ha,hb,q=>q l (by omega) ha fun i hi=>hb i (by omega)
 | f+1,l,r,h1,h2,h3,ha,hb,q=>by
  show KTr lt n (if l ≥ r then _ else _) Q
  split
  ·exact q l (by omega) ha fun i hi=>hb i (by omega)
  ·refine ⟨g.below hk,g.below (by omega),?_⟩
   cases hc:lt (p.getD k 0) (p.getD ((l+r) / 2) 0) with
   | true =>
    refine place_tr T g hk so f l ((l+r) / 2) (by omega) (by omega) (by omega) ha (fun i hi hik=>?_) q
    cases hz:lt (p.getD k 0) (p.getD i 0) with
    | true=>rfl
    | false =>
     have:=T.tr _ _ _ (so ((l+r) / 2) i hi hik) hz
     rw [hc] at this;cases this
   | false =>
    refine place_tr T g hk so f ((l+r) / 2+1) r (by omega) h2 (by omega) (fun i hi=>?_) hb q
    exact T.tr _ _ _ (so i ((l+r) / 2) (by omega) (by omega)) hc
theorem bub_get {p:Array Nat} {k l:Nat} (hk:k<p.size) (hl:l≤k) (i:Nat):(bubble p k (k - l)).getD i 0=if i=l then p.getD k 0 else if l<i∧i≤k then p.getD (i - 1) 0 else p.getD i 0:=by
 have:=getElem?_bubble hk (k - l) (by omega) i
 rw [show k - (k - l)=l by omega] at this
 by_cases h:i=l
 ·rw [if_pos h] at this ⊢;exact getD_of this
 ·rw [if_neg h] at this ⊢
  by_cases h2:l<i∧i≤k
  ·rw [if_pos h2] at this ⊢;exact getD_of this
  ·rw [if_neg h2] at this ⊢;exact getD_of this
theorem bin_tr (T:TotLt lt) {Q:Array Nat→Prop}:∀ (f:Nat) (p:Array Nat) (k:Nat),PermN n p→k+f=n→SoTo lt p k→(∀ p',PermN n p'→SoTo lt p' n→Q p')→KTr lt n (kas_bin f p k) Q
 | 0,p,k,g,h,so,q=>q p g (by rw [← h];exact so)
 | f+1,p,k,g,h,so,q=>by
  have hs:=g.size
  refine KTr.bind (place_tr T g (by omega) so k 0 k (by omega) (Nat.le_refl _) (by omega) (fun i hi=>absurd hi (Nat.not_lt_zero _)) (fun i h1 h2=>absurd h2 (by omega)) fun l hl ha hb=>?_)
  refine bin_tr T f _ (k+1) (g.bub _ _) (by omega) (fun i j hij hj=>?_) q
  have rd:=bub_get (p:=p) (k:=k) (l:=l) (by omega) hl
  rw [rd,rd]
  by_cases e1:i=j
  ·subst e1;exact T.irr _
  ·by_cases cj:j=l
   ·rw [if_pos cj,if_neg (by omega),if_neg (by omega)]
    exact ha i (by omega)
   ·rw [if_neg cj]
    by_cases ci:i=l
    ·rw [if_pos ci,if_pos (by omega)]
     exact T.asym _ _ (hb (j - 1) (by omega) (by omega))
    ·rw [if_neg ci]
     split <;> split
     ·exact so _ _ (by omega) (by omega)
     ·exact so _ _ (by omega) (by omega)
     ·exact so _ _ (by omega) (by omega)
     ·exact so _ _ (by omega) (by omega)
theorem sort_tr (T:TotLt lt) (h1:1≤n):KTr lt n (kas_sort n) fun p=>PermN n p∧SoTo lt p n:=by
 unfold kas_sort
 refine KTr.bind (count_tr T (Array.Perm.refl _) h1 fun p m g h2 h3 so=>?_)
 show KTr lt n (if m<n then _ else _) _
 split
 ·rw [show max m 1=m by omega]
  exact bin_tr T (n - m) p m g (by omega) so fun p' g' so'=>⟨g',so'⟩
 ·rename_i h
  have e:m=n:=by omega
  subst e
  exact ⟨g,so⟩
end
end L2
namespace L2
open PySem PySem.W PySem.Spec PyProof.Rows
def ltK (x y:Int×List Int):Bool:=if x.1=y.1 then HT.lexLt x.2 y.2 else decide (x.1<y.1)
def KeyAt (H:Hp) (v:V) (k:Int×List Int):Prop:=∃ (p a:Addr),v=.ref p∧H p=some (.tup [.int k.1,.ref a])∧H a=some (.lst (k.2.map V.int))
theorem key_cmp {X:Cx} {pins:List (Addr×Obj)} {σ:St} {H:Hp} {s:Shared} (hu:X.A.units+8<cLine) (I:Inv X pins σ H s) {v y:V} {u z:Value} {k m:Int×List Int} (hv:KeyAt H v k) (hw:KeyAt H y m) (ru:RelV v u) (rz:RelV y z)
  (hl:k.1=m.1→k.2.length=m.2.length) {Q:Bool→Shared→Prop} {E:Value→Shared→Prop} (h:Q (ltK k m) s):wpAny (model X.prog X.w) X.A (keyLt' (tuples' true) u z) Q E s:=by
 obtain ⟨L,ns⟩:=k
 obtain ⟨M,ms⟩:=m
 obtain ⟨p,a,rfl,hp,ha⟩:=hv
 obtain ⟨q,c,rfl,hq,hc⟩:=hw
 cases ru
 cases rz
 obtain ⟨_,ip,rp,op,gp1,gp2,np,gp3⟩:=I.hok p _ hp
 obtain ⟨_,iq,rq,oq,gq1,gq2,nq,gq3⟩:=I.hok q _ hq
 obtain ⟨u1,u2,rfl,r1,r2⟩:=rp.two
 obtain ⟨w1,w2,rfl,r3,r4⟩:=rq.two
 obtain ⟨t1,rfl⟩:=r1
 obtain ⟨t3,rfl⟩:=r3
 cases r2
 cases r4
 obtain ⟨_,us,n1,ru,gu⟩:=I.hok a _ ha
 obtain ⟨_,vs,n2,rv,gv⟩:=I.hok c _ hc
 have lus:us.length=ns.length:=by rw [← ru.length,List.length_map]
 have lvs:vs.length=ms.length:=by rw [← rv.length,List.length_map]
 have hla:s.heap.IsList a us.toArray:=⟨_,gu,rfl,n1,rfl⟩
 have hlc:s.heap.IsList c vs.toArray:=⟨_,gv,rfl,n2,rfl⟩
 have fl:∀ zs:List Int,(zs.map V.int).all flatV=true:=fun zs=>by rw [List.all_map];exact List.all_eq_true.mpr fun _ _=>rfl
 have hu1:X.A.in1.units<cLine:=by unfold Around.in1;show X.A.units+1<cLine;omega
 have hu0:X.A.units<cLine:=by omega
 have hiu:=intsAre_of ru
 have hiv:=intsAre_of rv
 refine kat_lt gp1 gp3 gq1 gq3 ?_
 refine kat_cons ((SeqAt.EqAt.int_int L t1 M t3 (A:=X.A) (s:=s)) X.prog X.w _ _ ?_)
 show KatGo _ _ _ _ _ _ _ _ _ _ (L == M) s
 by_cases e:L=M
 ·subst e
  have hlen:ns.length=ms.length:=hl rfl
  have h':Q (HT.lexLt ns ms) s:=by
   have:ltK (L,ns) (L,ms)=HT.lexLt ns ms:=by unfold ltK;rw [if_pos rfl]
   rw [← this];exact h
  rw [show (L == L)=true from by simp]
  refine kat_yes ?_
  have heq:SeqAt.EqAt X.A s (.ref a) (.ref c) (decide (ns=ms)):=by
   by_cases hac:a=c
   ·subst hac
    rw [ha] at hc
    have e1:ns=ms:=by
     have:=HO.lst.inj (Option.some.inj hc)
     exact (List.map_inj_right (fun x y h=>V.int.inj h)).mp this
    rw [decide_eq_true e1]
    exact SeqAt.EqAt.same _
   ·have z:=SeqAt.RcAt.lists (A:=X.A) hla hlc (by simp;omega) hu0 (pairs_eq (A:=X.A.in1) (s:=s) ru rv (fl ns) (fl ms))
    rw [List.size_toArray,← ru.length,eqVs_range (by rw [List.length_map,List.length_map];exact hlen),eqVs_int] at z
    exact SeqAt.EqAt.of_refs hac z
  refine kat_cons (heq X.prog X.w _ _ ?_)
  show KatGo _ _ _ _ _ _ _ _ _ _ (decide (ns=ms)) s
  by_cases e2:ns=ms
  ·rw [decide_eq_true e2]
   refine kat_yes (kat_nil ?_)
   rw [e2,lexLt_self] at h'
   exact h'
  ·rw [decide_eq_false e2]
   refine kat_no (kat_one _ _ ?_)
   exact richCompare_meets_room (op:=.Lt) ⟨_,gu,rfl⟩ ⟨_,gv,rfl⟩ PySem.F.slot_list_lt PySem.F.entry_list_lt (PySem.F.args_list_lt_2 _ _) (LtL.list_lt a c us vs n1 n2 ns ms hiu hiv (by omega))
    ⟨gu,gv,show Value.bool (HT.lexLt ns ms)≠Value.notImplemented∧PySem.W.BoolBack Q (.bool (HT.lexLt ns ms)) s from ⟨(fun x=>nomatch x),h'⟩⟩ hu0
 ·have h':Q (decide (L<M)) s:=by
   have:ltK (L,ns) (M,ms)=decide (L<M):=by unfold ltK;rw [if_neg e]
   rw [← this];exact h
  rw [show (L == M)=false from by simpa using e]
  exact kat_no (oneLt_int h')
section
variable {X:Cx} {pins:List (Addr×Obj)} {σ:St} {H:Hp} {s:Shared} {h':Heap}
theorem Inv.adopt {t':Nat} {D:Addr} {xs:List V} (I:Inv X pins σ H s) (k:∀ b o,b≠D→s.heap.get? b=some o→h'.get? b=some o) (hf:FpOk X pins H D)
  (new:ObjOk X.prog X.w (upd H D (.lst xs)) h' D (.lst xs)):Inv X pins σ (upd H D (.lst xs)) { s with heap:=h',toks:=t' }:=by
 obtain ⟨f0,f1,f2,f3,f4,f5⟩:=hf
 have un:∀ {b u},H b=some u→upd H D (.lst xs) b=some u:=fun e=>by rw [upd_ne (ne_of_none e f0)];exact e
 have nch:∀ {b u},H b=some u→b≠D:=fun e=>ne_of_none e f0
 refine I.step (g':=s.gens) (d':=s.drawn) (ch:=[D]) (fun b hb=>?_) (fun b o _ _ hc e _=>k b o (by simpa using hc) e) (fun b o _ _ hc e _=>⟨o.slots,k b o (by simpa using hc) e⟩) (fun b o hc e n=>?_) (fun b o hc e=>⟨o,k b o (by simpa using hc) e⟩) (fun _ _ e=>un e) (fun _ _ _ e=>un e)
  (fun b ps e=>⟨#[],by rw [un e];simp⟩) (fun m hm=>?_) (fun b u e=>?_) I.bare
 ·have e:b=D:=by simpa using hb
  subst e
  exact ⟨f3,f1,f4,f5⟩
 ·rw [upd_ne (by simpa using hc)]
  exact n
 ·obtain ⟨o,es,ep,ho,r⟩:=hm
  exact ⟨o,es,ep,k _ o (fun z=>f1 z.symm) ho,r⟩
 ·by_cases hb:b=D
  ·subst hb
   rw [upd_same] at e
   cases e
   exact new
  ·rw [upd_ne hb] at e
   refine (I.hok b u e).stay (fun c v hc q=>k c v ?_ q) (fun c q=>un q) fun c ys q=>un q
   rcases hc with z | z
   ·rw [z];exact hb
   ·exact nch z
end
def tSortK (K:PySem.W.Frag) (sp:Sp) (ta:TA):TE:=fun σ H Q=>ta σ H fun vs H1=>∃ (l:Addr) (xs:List V) (kz:List (Int×List Int)) (Pv:Addr→Nat→List V→Hp→Prop),vs=[.ref l]∧SqL K H1 l xs∧xs.length<64∧kz.length=xs.length ∧
 (∀ (i j:Nat) (a b:Int×List Int),kz[i]?=some a→kz[j]?=some b→a.1=b.1→a.2.length=b.2.length)∧TotLt (fun i j=>ltK (kz.getD i (0,[])) (kz.getD j (0,[]))) ∧
 (∀ S,H1 S=none→Pv S 0 [] (upd H1 S (.lst []))) ∧
 (∀ S i ks H,Pv S i ks H→∀ y,xs[i]?=some y→sp [y] H (fun v H2=>H2 S=some (.lst ks)∧ks.length=i∧Pv S (i+1) (ks++[v]) (upd H2 S (.lst (ks++[v])))) E0) ∧
 (∀ S ks H,Pv S xs.length ks H→H S=some (.lst ks)∧ks.length=xs.length∧(∀ (i:Nat) (v:V) (k:Int×List Int),ks[i]?=some v→kz[i]?=some k→KeyAt H v k) ∧
  ∀ p:Array Nat,PermN xs.length p→SoTo (fun i j=>ltK (kz.getD i (0,[])) (kz.getD j (0,[]))) p xs.length→∀ D,upd H S (.lst []) D=none→Q (.ref D) (upd (upd H S (.lst [])) D (.lst (p.toList.map fun i=>xs.getD i .non))))
section
variable {X:Cx} {k:Nat} {f:Addr} {fd:FuncData} {ps:List Str} {sp:Sp}
theorem keys_go {pins:List (Addr×Obj)} {σ:St} {S:Addr} {xs:List V} {Pv:Nat→List V→Hp→Prop} {body:Value→PUnit→Sem (ForInStep PUnit)} {E:Value→Shared→Prop}
  (F:FnOk X.prog X.w X.K X.mg X.base CX0 k f fd ps sp) (hr:Room k X.one.one.A) (hb:Binds X.K fd ps []) (h64:xs.length<64)
  (hbody:∀ x (s:Shared) (R:ForInStep PUnit→Shared→Prop),wpAny (model X.prog X.w) X.one.one.A (call (.ref f) [x]) (fun kv s'=>wpAny (model X.prog X.w) X.one.one.A (Builtin.List.listUpdate (.ref S) (·.push kv)) (fun _ s''=>R (.yield ⟨⟩) s'') E s') (fun _ _=>False) s→wpAny (model X.prog X.w) X.one.one.A (body x ⟨⟩) R E s)
  (hst:∀ i ks H,Pv i ks H→∀ y,xs[i]?=some y→sp [y] H (fun v H2=>H2 S=some (.lst ks)∧ks.length=i∧Pv (i+1) (ks++[v]) (upd H2 S (.lst (ks++[v])))) E0) :
  ∀ (r:List V) (us:List Value) (i:Nat) (ks:List V) (s:Shared) (H:Hp),Vals r us→xs.drop i=r→i+r.length=xs.length→Inv X.one.one pins σ H s→Pv i ks H →
   wpAny (model X.prog X.w) X.one.one.A (forIn us PUnit.unit body) (fun _ s'=>∃ ks H',Inv X.one.one pins σ H' s'∧Pv xs.length ks H') E s
 | [],us,i,ks,s,H,rv,hd,hl,I,pv=>by
  cases rv
  rw [List.forIn_nil]
  have:i=xs.length:=by simpa using hl
  subst this
  exact wpAny_pure ⟨ks,H,I,pv⟩
 | y::r,us,i,ks,s,H,rv,hd,hl,I,pv=>by
  cases rv with
  | cons ru rr =>
   rename_i u us
   have hy:xs[i]?=some y:=by
    have:=congrArg List.head? hd
    rw [List.head?_drop] at this
    exact this
   rw [List.forIn_cons]
   refine wpAny_bind (hbody _ _ _ (wpAny_mono (run_fn (X:=X.one.one) F hr hb .nil pass0 I (.cons ru .nil) (hst i ks H pv y hy)) (fun kv s1 hq=>?_) fun _ _ e=>e))
   obtain ⟨v,H1,I1,rk,eS,hkl,pv1⟩:=hq
   obtain ⟨z,its,n,rks,hlk,eo⟩:=I1.lstM eS
   rw [List.length_cons] at hl
   have h64':its.length<64:=by omega
   refine listUpdate_at eo rfl ?_ (by rw [List.size_toArray,sizeLine_eq];omega) (Nat.le_trans (Nat.le_of_eq (Array.size_push ..)) (by rw [List.size_toArray,sizeLine_eq];omega))
   have I2:=I1.lset (t':=s1.toks) (its':=its++[kv]) (ys:=ks++[v]) (f:=(·.push kv)) eS eo (by simp) (rks.append (.cons rk .nil)) (by rw [List.length_append,List.length_singleton,sizeLine_eq];omega)
   exact keys_go F hr hb h64 hbody hst r us (i+1) (ks++[v]) _ _ rr (by rw [← List.drop_drop,hd];rfl) (by omega) I2 pv1
theorem kz_get {kz:List (Int×List Int)} {i:Nat} (h:i<kz.length):kz[i]?=some (kz.getD i (0,[])):=by
 rw [List.getD_eq_getElem?_getD,List.getElem?_eq_getElem h];rfl
theorem katTups_of {pins:List (Addr×Obj)} {σ:St} {H:Hp} {s:Shared} (I:Inv X pins σ H s):∀ (ks:List V) (us:List Value),Vals ks us→(∀ v∈ks,∃ q,KeyAt H v q)→∃ fs,PySem.W.KatTups s.heap us fs∧fs.length=us.length∧∀ v∈fs,∃ i t,v=Value.int i t
 | [],us,r,_=>by
  cases r
  exact ⟨[],.nil,rfl,fun v hv=>(nomatch hv)⟩
 | v::ks,us,r,h=>by
  cases r with
  | cons r1 r2 =>
   obtain ⟨fs,t,hl,hi⟩:=katTups_of I ks _ r2 fun y hy=>h y (List.mem_cons_of_mem _ hy)
   obtain ⟨q,p,a,rfl,hp,ha⟩:=h v (List.mem_cons_self ..)
   cases r1
   obtain ⟨_,ip,rp,op,gp1,gp2,np,gp3⟩:=I.hok p _ hp
   obtain ⟨u1,u2,rfl,r1,r2⟩:=rp.two
   obtain ⟨t1,rfl⟩:=r1
   refine ⟨Value.int q.1 t1::fs,.cons gp1 gp2 gp3 (by simp) t,by simp [hl],fun y hy=>?_⟩
   rcases List.mem_cons.mp hy with rfl | hy
   ·exact ⟨_,_,rfl⟩
   ·exact hi y hy
theorem vals_at {xs:List V} {us:List Value} (r:Vals xs us) (i:Nat) (h:i<xs.length):RelV (xs.getD i .non) (us.getD i Value.none):=by
 obtain ⟨u,hu,ru⟩:=r.get (List.getElem?_eq_getElem h)
 rw [List.getD_eq_getElem?_getD,List.getD_eq_getElem?_getD,hu,List.getElem?_eq_getElem h]
 exact ru
theorem vals_perm {xs:List V} {us:List Value} (r:Vals xs us):∀ l:List Nat,(∀ i∈l,i<xs.length)→Vals (l.map fun i=>xs.getD i .non) (l.map fun i=>us.getD i Value.none)
 | [],_=>.nil
 | i::l,h=>.cons (vals_at r i (h i (List.mem_cons_self ..))) (vals_perm r l fun j hj=>h j (List.mem_cons_of_mem _ hj))
theorem zip_snd (us vs:List Value) (h:us.length=vs.length):(us.toArray.zip vs.toArray).map (·.2)=vs.toArray:=by
 apply Array.toList_inj.mp
 rw [Array.toList_map,ksk_zip]
 simp only [List.toList_toArray]
 rw [List.map_snd_zip (by omega)]
theorem range_getD (vs:List Value):List.toArray ((List.toArray (List.range vs.length)).toList.map fun i=>vs.getD i Value.none)=vs.toArray:=by
 congr 1
 refine List.ext_getElem? fun i=>?_
 by_cases h:i<vs.length
 ·simp [h]
 ·simp [h]
theorem sort_end {pins:List (Addr×Obj)} {σ:St} {H:Hp} {s:Shared} {S D:Addr} {e1:Nat} {ks xs:List V} {vs:List Value} {kz:List (Int×List Int)} {P:PySem.Fin→Shared→Prop} {E:Value→Shared→Prop} (hu:X.one.one.A.units+8<cLine)
  (I:Inv X.one.one (pins++[(D,seqObj "list" #[] e1)]) σ H s) (hf:FpOk X.one.one pins H D) (eS:H S=some (.lst ks)) (rx:Vals xs vs) (hl:ks.length=xs.length) (h64:xs.length<64) (hkl:kz.length=xs.length)
  (hk:∀ (i:Nat) (v:V) (q:Int×List Int),ks[i]?=some v→kz[i]?=some q→KeyAt H v q)
  (hlen:∀ (i j:Nat) (a b:Int×List Int),kz[i]?=some a→kz[j]?=some b→a.1=b.1→a.2.length=b.2.length) (T:TotLt (fun i j=>ltK (kz.getD i (0,[])) (kz.getD j (0,[]))))
  (h:∀ (p:Array Nat) (s':Shared),PermN xs.length p→SoTo (fun i j=>ltK (kz.getD i (0,[])) (kz.getD j (0,[]))) p xs.length→Inv X.one.one pins σ (upd (upd H S (.lst [])) D (.lst (p.toList.map fun i=>xs.getD i .non))) s'→P (.done (.ret .none)) s') :
  wpAny (model X.prog X.w) X.one.one.A (Builtin.List.listItems (.ref S) >>= fun keys=>ksk_end D false vs.toArray e1 (.ref S) keys) P E s:=by
 obtain ⟨z,us,n,ru,hlu,eo⟩:=I.lstM eS
 have lx:=rx.length
 have hD:s.heap.get? D=some (seqObj "list" #[] e1):=(I.pin (D,seqObj "list" #[] e1) (List.mem_append_right _ (List.mem_append_right _ (List.mem_singleton_self _)))).1
 refine wpAny_bind (listItems_at eo rfl ?_)
 -- the last steps: the keys' list is emptied,the sorted one is laid
 have tail:∀ (st:SortSt) (p:Array Nat) (s1:Shared),Inv X.one.one (pins++[(D,seqObj "list" #[] e1)]) σ H s1→(arrOf st).map (·.2)=List.toArray (p.toList.map fun i=>vs.getD i Value.none)→failedOf st=none→PermN xs.length p →
   SoTo (fun i j=>ltK (kz.getD i (0,[])) (kz.getD j (0,[]))) p xs.length→wpAny (model X.prog X.w) X.one.one.A (ksk_tail D false e1 (.ref S) st) P E s1:=fun st p s1 I1 hout hfl hp hso=>by
  obtain ⟨z1,us1,n1,ru1,hlu1,eo1⟩:=I1.lstM eS
  have I2:=I1.lset (t':=s1.toks) (its':=[]) (ys:=[]) (f:=fun _=>#[]) eS eo1 rfl .nil (Nat.zero_le _)
  have hD1:s1.heap.get? D=some (seqObj "list" #[] e1):=(I1.pin (D,seqObj "list" #[] e1) (List.mem_append_right _ (List.mem_append_right _ (List.mem_singleton_self _)))).1
  have hD2:(s1.heap.update S (Obj.mapSeq fun _=>(#[]:Array Value))).get? D=some (seqObj "list" #[] e1):=(I2.pin (D,seqObj "list" #[] e1) (List.mem_append_right _ (List.mem_append_right _ (List.mem_singleton_self _)))).1
  have hps:p.toList.length=xs.length:=by rw [Array.length_toList];exact hp.size
  have hpb:∀ i∈p.toList,i<xs.length:=fun i hi=>by
   have:=(Array.perm_iff_toList_perm.mp hp).mem_iff.mp hi
   simpa using this
  unfold ksk_tail
  try dsimp only
  rw [hout]
  refine wpAny_bind (listUpdate_at eo1 rfl ?_ (by rw [List.size_toArray,sizeLine_eq];omega) (Nat.zero_le _))
  refine wpAny_bind (wpAny_letGo ?_)
  refine wpAny_bind (seqEpoch_at hD2 rfl ?_)
  simp only [Bool.false_eq_true,if_false]
  refine wpAny_bind (listUpdate_at hD2 rfl ?_ (Nat.zero_le _) (by show (List.toArray (p.toList.map fun i=>vs.getD i Value.none)).size≤_;rw [List.size_toArray,List.length_map,hps,sizeLine_eq];omega))
  rw [hfl]
  simp only [bne_self_eq_false,Bool.false_eq_true,if_false]
  refine wpAny_pure (h p _ hp hso ?_)
  have rv:=vals_perm rx p.toList hpb
  have I3:=I2.unpinned
  have f2:FpOk X.one.one pins (upd H S (.lst [])) D:=⟨by rw [upd_ne (ne_of_none eS hf.1).symm];exact hf.1,hf.2⟩
  have sb:=Heap.SameBut.update (s1.heap.update S (Obj.mapSeq fun _=>(#[]:Array Value))) D (Obj.mapSeq fun _=>List.toArray (p.toList.map fun i=>vs.getD i Value.none))
  refine I3.adopt (t':=s1.toks) (D:=D) (fun b o hb e=>(sb.2 b hb).trans e) f2 ⟨by rw [List.length_map,hps,sizeLine_eq];omega,_,_,rv,get?_update_seq hD2 fun _=>List.toArray (p.toList.map fun i=>vs.getD i Value.none)⟩
 unfold ksk_end
 try dsimp only
 simp only [Bool.false_eq_true,if_false]
 by_cases h2:xs.length<2
 ·have h2':vs.toArray.size<2:=by rw [List.size_toArray];omega
  rw [if_pos h2',if_pos h2']
  refine wpAny_bind (wpAny_pure ?_)
  show wpAny _ _ (pure ((),SortSt.mk' general' (us.toArray.zip vs.toArray) #[] 7 none) >>= _) _ _ _
  refine wpAny_bind (wpAny_pure ?_)
  refine tail _ (List.toArray (List.range xs.length)) s I ?_ rfl (Array.Perm.refl _) (fun i j hij hj=>?_)
  ·show (us.toArray.zip vs.toArray).map (·.2)=_
   rw [zip_snd us vs (by omega),lx,range_getD]
  ·have e:i=j:=by omega
   rw [e];exact T.irr _
 ·have h2':¬ vs.toArray.size<2:=by rw [List.size_toArray];omega
  rw [if_neg h2',if_neg h2']
  have lu:us.length=vs.length:=by omega
  obtain ⟨fs,ht,hfl,hfi⟩:=katTups_of I ks us ru fun v hv=>by
   obtain ⟨i,hi⟩:=List.getElem?_of_mem hv
   have hi':i<ks.length:=(List.getElem?_eq_some_iff.mp hi).1
   exact ⟨_,hk i v _ hi (kz_get (by omega))⟩
  refine wpAny_bind (PySem.W.kat_kind (T:=.type "int") ht (by omega) (fun v hv=>?_) (by decide) ?_)
  ·obtain ⟨i,t,rfl⟩:=hfi v hv
   exact .now
  ·have hsort:=KTr.wp (cmp:=PySem.W.kas_ask X.prog X.w X.one.one.A (tuples' true) us) (Ok:=Inv X.one.one (pins++[(D,seqObj "list" #[] e1)]) σ H) (fun i j C s' hi hj o k'=>?_) (R:=fun p s'=>(PermN xs.length p∧SoTo (fun i j=>ltK (kz.getD i (0,[])) (kz.getD j (0,[]))) p xs.length)∧Inv X.one.one (pins++[(D,seqObj "list" #[] e1)]) σ H s') (fun a s' q o=>⟨q,o⟩) (sort_tr T (n:=xs.length) (by omega)) I
   ·refine wpAny_bind (wpAny_mono (PySem.W.kat_run (Q:=fun st s'=>∃ p:Array Nat,arrOf st=p.map (PySem.W.kas_item (us.toArray.zip vs.toArray))∧failedOf st=none∧(PermN xs.length p∧SoTo (fun i j=>ltK (kz.getD i (0,[])) (kz.getD j (0,[]))) p xs.length)∧Inv X.one.one (pins++[(D,seqObj "list" #[] e1)]) σ H s')
     lu (by omega) (by omega) (fun p st s' _ a2 a3 a4=>⟨p,a2,a3,a4⟩) (by rw [← lx];exact hsort)) ?_ fun _ _ x=>x)
    rintro ⟨⟨⟩,st⟩ s1 ⟨p,har,hfl1,⟨hp,hso⟩,I1⟩
    exact tail st p s1 I1 (PySem.W.kat_snds lu har) hfl1 hp hso
   ·have e1':ks[i]?=some (ks.getD i .non):=by rw [List.getD_eq_getElem?_getD,List.getElem?_eq_getElem (by omega)];rfl
    have e2':ks[j]?=some (ks.getD j .non):=by rw [List.getD_eq_getElem?_getD,List.getElem?_eq_getElem (by omega)];rfl
    have z1:=kz_get (kz:=kz) (i:=i) (by omega)
    have z2:=kz_get (kz:=kz) (i:=j) (by omega)
    exact key_cmp hu o (hk i _ _ e1' z1) (hk j _ _ e2' z2) (vals_at ru i (by omega)) (vals_at ru j (by omega)) (hlen i j _ _ z1 z2) (k' s' o)
theorem sort_run {pins:List (Addr×Obj)} {σ:St} {Q:VK} {l:Addr} {xs:List V} {kz:List (Int×List Int)} {Pv:Addr→Nat→List V→Hp→Prop} {s:Shared} {H:Hp}
  (F:FnOk X.prog X.w X.K X.mg X.base CX0 k f fd ps sp) (hr:Room (k+2) X.A) (hu:X.one.one.A.units+8<cLine) (hb:Binds X.K fd ps []) (I:Inv X pins σ H s) (hq:SqL X.K H l xs) (h64:xs.length<64) (hkl:kz.length=xs.length)
  (hlen:∀ (i j:Nat) (a b:Int×List Int),kz[i]?=some a→kz[j]?=some b→a.1=b.1→a.2.length=b.2.length) (T:TotLt (fun i j=>ltK (kz.getD i (0,[])) (kz.getD j (0,[]))))
  (h0:∀ S,H S=none→Pv S 0 [] (upd H S (.lst [])))
  (hst:∀ S i ks H,Pv S i ks H→∀ y,xs[i]?=some y→sp [y] H (fun v H2=>H2 S=some (.lst ks)∧ks.length=i∧Pv S (i+1) (ks++[v]) (upd H2 S (.lst (ks++[v])))) E0)
  (hend:∀ S ks H,Pv S xs.length ks H→H S=some (.lst ks)∧ks.length=xs.length∧(∀ (i:Nat) (v:V) (k:Int×List Int),ks[i]?=some v→kz[i]?=some k→KeyAt H v k) ∧
   ∀ p:Array Nat,PermN xs.length p→SoTo (fun i j=>ltK (kz.getD i (0,[])) (kz.getD j (0,[]))) p xs.length→∀ D,upd H S (.lst []) D=none→Q (.ref D) (upd (upd H S (.lst [])) D (.lst (p.toList.map fun i=>xs.getD i .non)))) :
  wpAny (model X.prog X.w) X.A (call (.builtin "sorted") [.ref l] [(Str.ofString "key",.ref f)]) (EP X pins σ Q) X.xe s:=by
 obtain ⟨vs,rx,pl,hz⟩:=I.list hq
 have lx:=rx.length
 refine call_function_entry_kw kind_sorted plain_sorted entry_sorted (ksk_s1 _ _) ?_
 unfold Builtin.«sorted»
 refine wpAny_bind (m:=checkCount "sorted" 1 1 _) (wpAny_pure ?_)
 refine wpAny_bind (collect_list pl.isList ?_ (by rw [sizeLine_eq];omega))
 refine wpAny_bind (wpAny_newList ?_ (by rw [sizeLine_eq];omega))
 have hsz:((s.heap.push (seqObj "list" #[] 0)).update s.heap.objs.size (Obj.mapSeq (·++vs.toArray))).objs.size=s.heap.objs.size+1:=by
  rw [Heap.size_update,size_push']
 have hoL:(((s.heap.push (seqObj "list" #[] 0)).update s.heap.objs.size (Obj.mapSeq (·++vs.toArray))).push (seqObj "list" vs.toArray 0)).get? (s.heap.objs.size+1)=some (seqObj "list" vs.toArray 0):=by
  rw [← hsz];exact Heap.get?_push_size _ rfl
 have keep:∀ b o,s.heap.get? b=some o→(((s.heap.push (seqObj "list" #[] 0)).update s.heap.objs.size (Obj.mapSeq (·++vs.toArray))).push (seqObj "list" vs.toArray 0)).get? b=some o:=fun b o q=>by
  have hlt:b<s.heap.objs.size:=Heap.lt_size q
  rw [Heap.get?_push_ne _ _ _ (by rw [hsz];exact Nat.ne_of_lt (Nat.lt_succ_of_lt hlt)),Heap.get?_update_ne _ _ _ _ (Nat.ne_of_lt hlt),Heap.get?_push_ne _ _ _ (Nat.ne_of_lt hlt)]
  exact q
 show wpAny _ _ _ _ _ { s with heap:=((s.heap.push (seqObj "list" #[] 0)).update s.heap.objs.size (Obj.mapSeq (·++vs.toArray))).push (seqObj "list" vs.toArray 0) }
 rw [hsz]
 have I0:Inv X.one.one pins σ H { s with heap:=((s.heap.push (seqObj "list" #[] 0)).update s.heap.objs.size (Obj.mapSeq (·++vs.toArray))).push (seqObj "list" vs.toArray 0) }:=I.one.one.kept (t':=s.toks) keep
 have fD:FpOk X.one.one pins H (s.heap.objs.size+1):=I.one.one.fpOk (Nat.le_succ _) (I.hok.fresh (Nat.le_succ _))
 generalize ((s.heap.push (seqObj "list" #[] 0)).update s.heap.objs.size (Obj.mapSeq (·++vs.toArray))).push (seqObj "list" vs.toArray 0)=hA at hoL keep I0
 generalize s.heap.objs.size+1=D at hoL fD
 refine wpAny_bind (wpAny_holding (wpAny_call_entry_kw slot_list_sort ⟨_,hoL,rfl⟩ entry_list_sort ?body (ksk_l1 _ _)))
 case body =>
  show wpAny (model X.prog X.w) X.A.in1.in1 (Builtin.«list.sort» ⟨[.ref D],[(Str.ofString "key",.ref f)]⟩) _ _ _
  rw [ksk_t1]
  obtain ⟨f0,f1,f2,f3,f4,f5⟩:=id fD
  have s1:=Heap.SameBut.update hA D (Obj.mapSeq fun _=>(#[]:Array Value))
  obtain ⟨e1,ho1⟩:∃ e1,(hA.update D (Obj.mapSeq fun _=>(#[]:Array Value))).get? D=some (seqObj "list" #[] e1):=⟨_,get?_update_seq hoL fun _=>#[]⟩
  have I1:Inv X.one.one pins σ H { s with heap:=hA.update D (Obj.mapSeq fun _=>(#[]:Array Value)) }:=I0.turned (t':=s.toks) (fun b o hb e=>(s1.2 b hb).trans e) f0 f1 f3 f4 f5
  unfold ksk_tree
  refine wpAny_bind (listItems_at hoL rfl ?_)
  refine wpAny_bind (listUpdate_at hoL rfl ?_ (by rw [List.size_toArray,sizeLine_eq];omega) (Nat.zero_le _))
  refine wpAny_bind (seqEpoch_at ho1 rfl ?_)
  refine wpAny_bind (wpAny_newTuple ?_ (by show vs.length≤_;rw [sizeLine_eq];omega))
  refine wpAny_bind (wpAny_newList ?_ (Nat.zero_le _))
  refine wpAny_holding ?_
  show wpAny (model X.prog X.w) X.one.one.A _ _ _ { s with heap:=((hA.update D (Obj.mapSeq fun _=>(#[]:Array Value))).push (seqObj "tuple" vs.toArray 0)).push (seqObj "list" #[] 0) }
  generalize hA.update D (Obj.mapSeq fun _=>(#[]:Array Value))=hB at ho1 I1
  have I2:Inv X.one.one pins σ H { s with heap:=hB.push (seqObj "tuple" vs.toArray 0) }:=I1.kept (t':=s.toks) fun b o e=>Heap.get?_push_of_some _ e
  have ho2:(hB.push (seqObj "tuple" vs.toArray 0)).get? D=some (seqObj "list" #[] e1):=Heap.get?_push_of_some _ ho1
  generalize hB.push (seqObj "tuple" vs.toArray 0)=hC at ho2 I2
  have fS:H hC.objs.size=none:=I2.hok.fresh (Nat.le_refl _)
  have I3:Inv X.one.one pins σ (upd H hC.objs.size (.lst [])) { s with heap:=hC.push (seqObj "list" #[] 0) }:=I2.lnew (t':=s.toks) (its:=[]) (ys:=[]) .nil (Nat.zero_le _)
  have ho3:(hC.push (seqObj "list" #[] 0)).get? D=some (seqObj "list" #[] e1):=Heap.get?_push_of_some _ ho2
  have hDS:D≠hC.objs.size:=Nat.ne_of_lt (Heap.lt_size ho2)
  have fD3:FpOk X.one.one pins (upd H hC.objs.size (.lst [])) D:=⟨by rw [upd_ne hDS];exact f0,fD.2⟩
  have I4:=I3.pinned (fp:=[D]) (fun b hb=>by rw [List.mem_singleton.mp hb];exact fD3) (fun b hb=>by rw [List.mem_singleton.mp hb];exact ⟨_,ho3,fun v z=>by cases z⟩)
  have epn:pinsAt [D] (hC.push (seqObj "list" #[] 0))=[(D,seqObj "list" #[] e1)]:=by unfold pinsAt;simp [ho3]
  have I5:Inv X.one.one (pins++[(D,seqObj "list" #[] e1)]) σ (upd H hC.objs.size (.lst [])) { s with heap:=hC.push (seqObj "list" #[] 0) }:=by rw [← epn];exact I4
  generalize hC.objs.size=S at fS I5 hDS
  unfold ksk_rest
  refine wpAny_bind (wpAny_rule ?_)
  first
   | rw [List.forIn_toArray]
   | (rw [← Array.forIn_toList];simp only [List.toList_toArray])
   | rw [← Array.forIn_toList]
  refine wpAny_bind (wpAny_mono (keys_go (X:=X) (pins:=pins++[(D,seqObj "list" #[] e1)]) (S:=S) (Pv:=Pv S) F hr.in1.in1 hb h64 (fun x s' R hx=>?_) (hst S) xs vs 0 [] _ _ rx rfl (by simp) I5 (h0 S fS)) (fun _ s' hd=>?_) fun _ _ x=>x)
  ·refine wpAny_bind (wpAny_attempt (wpAny_mono hx (fun kv s'' hk=>?_) fun _ _ hF=>hF.elim))
   try dsimp only
   exact wpAny_bind (wpAny_mono hk (fun _ s3 h3=>wpAny_pure h3) fun _ _ x=>x)
  ·obtain ⟨ks,H',I6,pv⟩:=hd
   obtain ⟨eS,hkl2,hka,hfin⟩:=hend S ks H' pv
   have pD:=(I6.pin (D,seqObj "list" #[] e1) (List.mem_append_right _ (List.mem_append_right _ (List.mem_singleton_self _)))).2.1
   refine sort_end (X:=X) (pins:=pins) (D:=D) (kz:=kz) hu I6 ⟨pD,fD.2⟩ eS rx hkl2 h64 hkl hka hlen T fun p s4 hp hso I7=>?_
   exact ⟨_,rfl,wpAny_pure ⟨_,rfl,⟨.ref D,_,(I7.unone I.ok.one).unone I.ok,rfl,hfin p hp hso D (by rw [upd_ne (ne_of_none eS pD).symm];exact pD)⟩⟩⟩
theorem pe_sortK {K:PySem.W.Frag} {e:Expr} {ta:TA} {kn:Str} {p kp kpos pos:Pos} (hK:X.K=K) (F:FnOk X.prog X.w X.K X.mg X.base CX0 k f fd ps sp) (hr:Room (k+2) X.A) (hb:Binds X.K fd ps [])
  (hg:Gl X "sorted") (hm:X.mg "sorted"=none) (hgk:Gl X kn) (hmk:X.mg kn=some (.ref f)) (ha:PA X [e] ta) (hkd:(kn == ("__debug__":Str))=false:=by decide)
  (hall:(backToKw pos (keywordEach [⟨some (Str.ofString "key"),.Name kn kp,kpos⟩] X.env)).all (·.1.isSome)=true:=by rfl) (hks:(backToKw pos (keywordEach [⟨some (Str.ofString "key"),.Name kn kp,kpos⟩] X.env)).filterMap (·.1)=[Str.ofString "key"]:=by rfl)
  (hs:backTo pos (starEach [e] X.env)=[(false,eval e X.env)]:=by rfl) (hkw:(backToKw pos (keywordEach [⟨some (Str.ofString "key"),.Name kn kp,kpos⟩] X.env)).any (·.1.isNone)=false:=by rfl) :
  PE X (.Call (.Name "sorted" p) [e] [⟨some (Str.ofString "key"),.Name kn kp,kpos⟩] pos) (tSortK K sp ta):=by
 subst hK
 intro pins s σ H Q I h
 refine wpAny_Call_Name_kw (ld_blt I hg hm boot_sorted ?_ (by decide) (by decide))
 refine callWith_kw (thn (ha pos pins s σ H _ I h) fun us s1 ⟨vs,H1,I1,r1,q1⟩=>?_) (by rw [hs];rfl) (by rw [hs];rfl) hall hkw
 obtain ⟨l,xs,kz,Pv,rfl,hq,h64,hkl,hlen,T,h0,hst,hend⟩:=q1
 have hpk:PK X [⟨some (Str.ofString "key"),.Name kn kp,kpos⟩] (tCons (tC (.ref f)) tNil):=pk_cons (pe_glob (v:=.ref f) hgk hmk rfl hkd) pk_nil
 refine thn (hpk pos pins s1 σ H1 (fun zs H2=>zs=[.ref f]∧H2=H1) I1 ⟨rfl,rfl⟩) fun ks s2 ⟨zs,H2,I2,r2,e2,e3⟩=>?_
 subst e2 e3
 obtain ⟨u,rfl,ru⟩:=vals1 r1
 obtain ⟨kf,rfl,rk⟩:=vals1 r2
 cases ru
 cases rk
 rw [hks]
 have hu:X.one.one.A.units+8<cLine:=by
  have:=hr.units
  show X.A.units+1+1+8<cLine
  omega
 exact sort_run F hr hu hb I2 hq h64 hkl hlen T h0 hst hend
end
end L2
namespace PySem
open Sem (wp)
section
variable {prog:Program} {w:World} {A:Around} {E:Value→Shared→Prop} {s:Shared} {P1 P2:Nat→Value→Prop} {St1 St2:Nat→Heap→Prop} {n1 n2:Nat}
end
end PySem
namespace L2
open PySem PySem.Spec PyProof.Rows
section
variable {X:Cx}
end
def isTx (z:Str):Value→Bool
 | .str w _=>w == z
 | _=>false
theorem count_tx (z:Str):∀ {ws:List Str} {us:List Value},Vals (ws.map V.str) us→us.countP (isTx z)=ws.countP (· == z)∧∀ u∈us,∃ w t,u=Value.str w t
 | [],us,r=>by
  cases r
  exact ⟨rfl,fun u hu=>(nomatch hu)⟩
 | w::ws,us,r=>by
  rw [List.map_cons] at r
  cases r with
  | cons r1 r2 =>
   obtain ⟨t,rfl⟩:=r1
   obtain ⟨h1,h2⟩:=count_tx z r2
   refine ⟨?_,fun u hu=>?_⟩
   ·rw [List.countP_cons,List.countP_cons,h1]
    rfl
   ·rcases List.mem_cons.mp hu with rfl | hu
    ·exact ⟨_,_,rfl⟩
    ·exact h2 u hu
end L2
namespace Lw
open PySem PySem.Spec PyProof.Rows L2 Ma MaR
def keyW (x:List Nat):Int×List Int:=((x.length:Nat),rks x)
theorem lex_asym:∀ {a b:List Int},a.length=b.length→HT.lexLt a b=true→HT.lexLt b a=false
 | [],[],_,h=>by cases h
 | x::a,y::b,hl,h=>by
  rw [HT.lexLt_cons] at h ⊢
  by_cases e:x=y
  ·subst e
   rw [if_pos rfl] at h ⊢
   exact lex_asym (by simpa using hl) h
  ·rw [if_neg e] at h
   rw [if_neg (fun z=>e z.symm)]
   have:=of_decide_eq_true h
   exact decide_eq_false (by omega)
theorem lex_tr:∀ {a b c:List Int},a.length=b.length→b.length=c.length→HT.lexLt b a=false→HT.lexLt c b=false→HT.lexLt c a=false
 | [],[],[],_,_,_,h=>h
 | x::a,y::b,z::c,h1,h2,h3,h4=>by
  rw [HT.lexLt_cons] at h3 h4 ⊢
  by_cases e:y=x
  ·subst e
   rw [if_pos rfl] at h3
   by_cases e2:z=y
   ·subst e2
    rw [if_pos rfl] at h4 ⊢
    exact lex_tr (by simpa using h1) (by simpa using h2) h3 h4
   ·rw [if_neg e2] at h4 ⊢
    exact h4
  ·rw [if_neg e] at h3
   have q1:=of_decide_eq_false h3
   by_cases e2:z=y
   ·subst e2
    rw [if_neg e]
    exact h3
   ·rw [if_neg e2] at h4
    have q2:=of_decide_eq_false h4
    rw [if_neg (by omega)]
    exact decide_eq_false (by omega)
def KOk (k:Int×List Int):Prop:=k.1=(k.2.length:Nat)
theorem ltK_asym {a b:Int×List Int} (ha:KOk a) (hb:KOk b) (h:ltK a b=true):ltK b a=false:=by
 unfold ltK at h ⊢
 unfold KOk at ha hb
 by_cases e:a.1=b.1
 ·rw [if_pos e] at h
  rw [if_pos e.symm]
  exact lex_asym (by omega) h
 ·rw [if_neg e] at h
  rw [if_neg (fun z=>e z.symm)]
  have:=of_decide_eq_true h
  exact decide_eq_false (by omega)
theorem ltK_tr {a b c:Int×List Int} (ha:KOk a) (hb:KOk b) (hc:KOk c) (h1:ltK b a=false) (h2:ltK c b=false):ltK c a=false:=by
 unfold ltK at h1 h2 ⊢
 unfold KOk at ha hb hc
 by_cases e:b.1=a.1
 ·rw [if_pos e] at h1
  by_cases e2:c.1=b.1
  ·rw [if_pos e2] at h2
   rw [if_pos (e2.trans e)]
   exact lex_tr (by omega) (by omega) h1 h2
  ·rw [if_neg e2] at h2
   rw [if_neg (by omega)]
   have:=of_decide_eq_false h2
   exact decide_eq_false (by omega)
 ·rw [if_neg e] at h1
  have q1:=of_decide_eq_false h1
  by_cases e2:c.1=b.1
  ·rw [if_neg (by omega)]
   exact decide_eq_false (by omega)
  ·rw [if_neg e2] at h2
   have q2:=of_decide_eq_false h2
   rw [if_neg (by omega)]
   exact decide_eq_false (by omega)
theorem keyW_ok (x:List Nat):KOk (keyW x):=by
 unfold KOk keyW
 rw [rks_len]
theorem keys_getD (ws:List (List Nat)) (i:Nat):(ws.map keyW).getD i (0,[])=keyW (ws.getD i []):=by
 rw [List.getD_eq_getElem?_getD,List.getElem?_map,List.getD_eq_getElem?_getD]
 cases ws[i]? with
 | none=>rfl
 | some x=>rfl
theorem keys_tot (ws:List (List Nat)):TotLt (fun i j=>ltK ((ws.map keyW).getD i (0,[])) ((ws.map keyW).getD j (0,[]))):=by
 refine ⟨fun i j h=>?_,fun i j k h1 h2=>?_⟩
 ·simp only [keys_getD] at h ⊢
  exact ltK_asym (keyW_ok _) (keyW_ok _) h
 ·simp only [keys_getD] at h1 h2 ⊢
  exact ltK_tr (keyW_ok _) (keyW_ok _) (keyW_ok _) h1 h2
def leW (x y:List Nat):Prop:=ltK (keyW y) (keyW x)=false
theorem perm_words {ws:List (List Nat)} {p:Array Nat} (h:PermN ws.length p):(p.toList.map fun i=>ws.getD i []).Perm ws:=by
 have h1:=(Array.perm_iff_toList_perm.mp h).map fun i=>ws.getD i []
 have e:(List.range ws.length).map (fun i=>ws.getD i [])=ws:=by
  refine List.ext_getElem? fun i=>?_
  by_cases hi:i<ws.length
  ·simp [hi]
  ·simp [hi]
 simp only [List.toList_toArray] at h1
 rw [e] at h1
 exact h1
theorem sorted_words {ws:List (List Nat)} {p:Array Nat} {n:Nat} (hn:ws.length=n) (h:PermN n p) (so:SoTo (fun i j=>ltK ((ws.map keyW).getD i (0,[])) ((ws.map keyW).getD j (0,[]))) p n):(p.toList.map fun i=>ws.getD i []).Pairwise leW:=by
 rw [List.pairwise_iff_getElem]
 intro i j hi hj hij
 have hs:=h.size
 rw [List.length_map,Array.length_toList] at hi hj
 have:=so i j (by omega) (by omega)
 simp only [keys_getD] at this
 unfold leW
 rw [List.getElem_map,List.getElem_map]
 have e1:p.getD i 0=p.toList[i]'(by rw [Array.length_toList];exact hi):=by simp [Array.getD,hi]
 have e2:p.getD j 0=p.toList[j]'(by rw [Array.length_toList];exact hj):=by simp [Array.getD,hj]
 rw [← e1,← e2]
 exact this
theorem wds_perm (ws:List (List Nat)) (l:List Nat) (h:∀ i∈l,i<ws.length):(l.map fun i=>(wds ws).getD i .non)=wds (l.map fun i=>ws.getD i []):=by
 unfold wds
 rw [List.map_map]
 refine List.map_congr_left fun i hi=>?_
 have:=h i hi
 simp [List.getD_eq_getElem?_getD,this]
theorem in_lstO (d:Nat) (sd:List Nat):inV (.str (S [d])) (lstC sd)=decide (d∈sd):=by
 unfold inV lstC
 rw [Bool.eq_iff_iff,List.any_eq_true,decide_eq_true_iff]
 constructor
 ·rintro ⟨v,hv,he⟩
  obtain ⟨e,hm,rfl⟩:=List.mem_map.mp hv
  have h2:decide (S [e]=S [d])=true:=he
  have:=S_inj (of_decide_eq_true h2)
  have h3:e=d:=by simpa using this
  rw [← h3];exact hm
 ·intro h
  refine ⟨_,List.mem_map.mpr ⟨d,h,rfl⟩,?_⟩
  show decide (S [d]=S [d])=true
  exact decide_eq_true rfl
theorem rks_inj:∀ {x y:List Nat},AllL x→AllL y→rks x=rks y→x=y
 | [],[],_,_,_=>rfl
 | [],_::_,_,_,h=>by simp [rks] at h
 | _::_,[],_,_,h=>by simp [rks] at h
 | a::x,b::y,hx,hy,h=>by
  obtain ⟨e1,e2⟩:=List.cons.inj (show ((rk a:Nat):Int)::rks x=((rk b:Nat):Int)::rks y from h)
  rw [rk_inj (AllL.cons.mp hx).1 (AllL.cons.mp hy).1 (by omega),rks_inj (AllL.cons.mp hx).2 (AllL.cons.mp hy).2 e2]
theorem lex_eq:∀ {a b:List Int},a.length=b.length→HT.lexLt a b=false→HT.lexLt b a=false→a=b
 | [],[],_,_,_=>rfl
 | x::a,y::b,hl,h1,h2=>by
  rw [HT.lexLt_cons] at h1 h2
  by_cases e:x=y
  ·subst e
   rw [if_pos rfl] at h1 h2
   rw [lex_eq (by simpa using hl) h1 h2]
  ·rw [if_neg e] at h1
   rw [if_neg (fun z=>e z.symm)] at h2
   have:=of_decide_eq_false h1
   have:=of_decide_eq_false h2
   omega
theorem leW_anti {x y:List Nat} (hx:AllL x) (hy:AllL y) (h1:leW x y) (h2:leW y x):x=y:=by
 unfold leW ltK keyW at h1 h2
 dsimp only at h1 h2
 by_cases e:x.length=y.length
 ·rw [if_pos (by omega)] at h1 h2
  exact rks_inj hx hy (lex_eq (by rw [rks_len,rks_len,e]) h2 h1)
 ·rw [if_neg (by omega)] at h1 h2
  have:=of_decide_eq_false h1
  have:=of_decide_eq_false h2
  omega
theorem order_one:∀ {ps qs:List (List Nat)},(∀ x∈ps,AllL x)→ps.Perm qs→ps.Pairwise leW→qs.Pairwise leW→ps=qs
 | [],qs,_,h,_,_=>by rw [List.nil_perm.mp h]
 | x::ps,[],_,h,_,_=>by exact absurd h.length_eq (by simp)
 | x::ps,y::qs,ha,h,h1,h2=>by
  have hy:y∈x::ps:=h.mem_iff.mpr List.mem_cons_self
  have hx:x∈y::qs:=h.mem_iff.mp List.mem_cons_self
  obtain ⟨p1,p2⟩:=List.pairwise_cons.mp h1
  obtain ⟨q1,q2⟩:=List.pairwise_cons.mp h2
  have e:x=y:=by
   rcases List.mem_cons.mp hy with e | m1
   ·exact e.symm
   ·rcases List.mem_cons.mp hx with e | m2
    ·exact e
    ·exact leW_anti (ha x List.mem_cons_self) (ha y hy) (p1 y m1) (q1 x m2)
  subst e
  rw [order_one (fun z hz=>ha z (List.mem_cons_of_mem _ hz)) (List.perm_cons _ |>.mp h) p2 q2]
end Lw
namespace Lw
open PySem PySem.Spec PyProof.Rows L2 Ma MaR
theorem wrap_get {x:List Nat} {d e:Nat} {j:Nat} (h:j<x.length):(d::x++[e]).getD (j+1) 0=x.getD j 0:=by
 rw [List.getD_eq_getElem?_getD,List.getD_eq_getElem?_getD]
 show ((d::(x++[e]))[j+1]?).getD 0=_
 rw [List.getElem?_cons_succ,List.getElem?_append_left h]
theorem wrap_last {x:List Nat} {d e:Nat}:(d::x++[e]).getD (x.length+1) 0=e:=by
 rw [List.getD_eq_getElem?_getD]
 show ((d::(x++[e]))[x.length+1]?).getD 0=_
 rw [List.getElem?_cons_succ,List.getElem?_append_right (Nat.le_refl _)]
 simp
theorem wrap_len (x:List Nat) (d e:Nat):(d::x++[e]).length=x.length+2:=by simp
theorem wrap_pair {x:List Nat} {d:Nat} {j:Nat}:(2 * (j+1)+1<(d::x++[con d]).length∧(d::x++[con d]).getD (j+1) 0=con ((d::x++[con d]).getD ((d::x++[con d]).length - 1 - (j+1)) 0))↔(2 * j+1<x.length∧x.getD j 0=con (x.getD (x.length - 1 - j) 0)):=by
 rw [wrap_len]
 by_cases c:2 * j+1<x.length
 ·rw [wrap_get (by omega),show x.length+2 - 1 - (j+1)=(x.length - 1 - j)+1 by omega,wrap_get (by omega)]
  constructor
  ·rintro ⟨_,h⟩;exact ⟨c,h⟩
  ·rintro ⟨_,h⟩;exact ⟨by omega,h⟩
 ·constructor
  ·rintro ⟨h,_⟩;omega
  ·rintro ⟨h,_⟩;omega
theorem wrap_ends {x:List Nat} {d m:Nat} (hd:isL d):Ends (d::x++[con d]) (m+1)↔Ends x m:=by
 unfold Ends
 constructor
 ·rintro ⟨h1,h2⟩
  exact ⟨fun j hj=>wrap_pair.mp (h1 (j+1) (by omega)),fun h=>h2 (wrap_pair.mpr h)⟩
 ·rintro ⟨h1,h2⟩
  refine ⟨fun j hj=>?_,fun h=>h2 (wrap_pair.mp h)⟩
  cases j with
  | zero =>
   rw [wrap_len,show x.length+2 - 1 - 0=x.length+1 by omega,wrap_last,con_con hd]
   exact ⟨by omega,rfl⟩
  | succ j=>exact wrap_pair.mpr (h1 j (by omega))
theorem wrap_no0 {x:List Nat} {d:Nat} (hd:isL d):¬ Ends (d::x++[con d]) 0:=fun h=>h.2 (by
 rw [wrap_len,show x.length+2 - 1 - 0=x.length+1 by omega,wrap_last,con_con hd]
 exact ⟨by omega,rfl⟩)
theorem wrap_mid {x:List Nat} {d e m:Nat}:mid (d::x++[e]) (m+1)=(x.drop m).take (x.length - 2 * m)∨x.length<2 * m:=by
 by_cases c:x.length<2 * m
 ·exact .inr c
 ·left
  unfold mid
  rw [wrap_len]
  show List.take (x.length+2 - 2 * (m+1)) (List.drop (m+1) (d::(x++[e])))=_
  rw [List.drop_succ_cons,List.drop_append_of_le_length (by omega),List.take_append_of_le_length (by rw [List.length_drop];omega)]
  congr 1
  omega
theorem ring_wrap {x r:List Nat} {d:Nat} (hd:isL d):RingR (d::x++[con d]) r↔RingR x r:=by
 constructor
 ·rintro ⟨m,b,h1,h2,h3⟩
  cases m with
  | zero=>exact absurd h1 (wrap_no0 hd)
  | succ m =>
   have he:=(wrap_ends hd).mp h1
   have hm:mid (d::x++[con d]) (m+1)=mid x m:=by
    rcases wrap_mid (x:=x) (d:=d) (e:=con d) (m:=m) with h | h
    ·exact h
    ·have:=he.le;omega
   rw [hm] at h2 h3
   exact ⟨m,b,he,h2,h3⟩
 ·rintro ⟨m,b,h1,h2,h3⟩
  have hm:mid (d::x++[con d]) (m+1)=mid x m:=by
   rcases wrap_mid (x:=x) (d:=d) (e:=con d) (m:=m) with h | h
   ·exact h
   ·have:=h1.le;omega
  refine ⟨m+1,b,(wrap_ends hd).mpr h1,?_,?_⟩
  ·rw [hm];exact h2
  ·rw [hm];exact h3
theorem plain_cons {x:List Nat} {c:Nat} (hp:Plain x) (h:∀ d t,x=d::t→c≠con d):Plain (c::x):=by
 refine plain_of_noadj fun k=>?_
 rintro ⟨a,b,h1,h2,e⟩
 cases k with
 | zero =>
  cases x with
  | nil=>simp at h2
  | cons d t =>
   simp at h1 h2
   subst h1 h2
   exact h d t rfl e
 | succ k=>exact plain_get hp (by simpa using h1) (by simpa using h2) e
theorem ring_turn {x r:List Nat} (hx:AllL x) (hp:Plain x) (he:Ends x 0) (hr:RingR x r) {a:Nat} (ha:a≤x.length):RingR (rot x a) r:=by
 obtain ⟨b,hb,e⟩:=mid_rot hx he hr
 rw [mid_zero] at e
 have hl:x.length=r.length:=by rw [e,rot_len hb]
 by_cases h0:r.length=0
 ·have e1:r=[]:=List.length_eq_zero_iff.mp h0
  have e2:x=[]:=List.length_eq_zero_iff.mp (by omega)
  have:a=0:=by rw [e2] at ha;simpa using ha
  rw [e1,e2,this]
  exact ring_nil
 ·by_cases hae:a<r.length
  ·by_cases hbe:b<r.length
   ·rw [e,rot_rot hbe hae (Nat.mod_lt _ (by omega)) rfl]
    exact ring_rot hx hp hr (Nat.le_of_lt (Nat.mod_lt _ (by omega)))
   ·have:b=r.length:=by omega
    rw [e,this,rot_end]
    exact ring_rot hx hp hr (by omega)
  ·have:a=x.length:=by omega
   rw [this,rot_end]
   exact hr
theorem conj_one {x r:List Nat} {c:Nat} (hx:AllL x) (hp:Plain x) (hc:isL c) (hr:RingR x r):RingR (lay (c::x++[con c])) r:=by
 have hcc:=isL_con hc
 cases x with
 | nil =>
  have e:lay (c::[]++[con c])=[]:=joined_back (w:=[c]) (fun d hd=>by rw [List.mem_singleton.mp hd];exact hc)
  rw [e];exact hr
 | cons d t =>
  obtain ⟨hd,ht⟩:=AllL.cons.mp hx
  have pt:Plain t:=plain_drop hp 1
  by_cases hdc:d=con c
  ·-- the letter falls away at the begin
   have e1:lay (c::(d::t)++[con c])=lay (t++[con c]):=lay_cut [] (t++[con c]) AllL.nil hd (by rw [hdc,con_con hc])
   rw [e1]
   by_cases hlast:∃ t',t=t'++[c]
   ·obtain ⟨t',rfl⟩:=hlast
    have ht':=(AllL.app.mp ht).1
    have e2:lay (t'++[c]++[con c])=lay (t'++[]):=by
     rw [List.append_assoc]
     exact lay_cut t' [] ht' hcc (by rw [con_con hc])
    rw [e2,List.append_nil,lay_id (by have:=plain_take pt t'.length;rwa [List.take_left] at this)]
    have hr':RingR (con c::t'++[con (con c)]) r:=by rw [con_con hc,← hdc];exact hr
    exact (ring_wrap hcc).mp hr'
   ·have hok:okc t (con c)=true:=by
     unfold okc
     cases hq:t.getLast? with
     | none=>rfl
     | some z =>
      simp only [Bool.not_eq_true',decide_eq_false_iff_not]
      intro hz
      have hz':con c=con z:=by simpa using hz
      obtain ⟨t',ht'⟩:=List.getLast?_eq_some_iff.mp hq
      have hzL:isL z:=ht z (by rw [ht'];simp)
      exact hlast ⟨t',by rw [ht',con_inj hc hzL hz']⟩
    rw [lay_id (okc_plain ht hcc pt hok)]
    have e3:t++[con c]=rot (d::t) 1:=by unfold rot;rw [hdc];rfl
    rw [e3]
    refine ring_turn hx hp ⟨fun j hj=>absurd hj (Nat.not_lt_zero _),?_⟩ hr (by simp)
    rintro ⟨h1,h2⟩
    have hne:t≠[]:=by rintro rfl;simp at h1
    apply hlast
    refine ⟨t.dropLast,?_⟩
    have hl:(d::t).getD ((d::t).length - 1 - 0) 0=t.getLast hne:=by
     rw [List.getD_eq_getElem?_getD,List.getLast_eq_getElem]
     have h3:(d::t).length - 1 - 0=(t.length - 1)+1:=by
      have:=List.length_pos_iff.mpr hne
      simp;omega
     rw [h3,List.getElem?_cons_succ,List.getElem?_eq_getElem (by have:=List.length_pos_iff.mpr hne;omega)]
     rfl
    rw [hl] at h2
    have h4:con c=con (t.getLast hne):=by rw [← hdc];exact h2
    have h5:=con_inj hc (ht _ (List.getLast_mem hne)) h4
    conv=>lhs;rw [← List.dropLast_concat_getLast hne,← h5]
  ·have pz:Plain (c::d::t):=plain_cons hp fun d' t' e=>by
    cases e
    intro h
    exact hdc (by rw [h,con_con hd])
   by_cases hlast:∃ t',d::t=t'++[c]
   ·obtain ⟨t',ht'⟩:=hlast
    have ha':AllL t':=(AllL.app.mp (by rw [← ht'];exact hx)).1
    have e2:lay (c::(d::t)++[con c])=lay (c::t'++[]):=by
     have:c::(d::t)++[con c]=(c::t')++c::con c::[]:=by rw [ht'];simp
     rw [this]
     exact lay_cut (c::t') [] (AllL.cons.mpr ⟨hc,ha'⟩) hcc (by rw [con_con hc])
    have pz':Plain (c::t'):=by
     have:c::t'=(c::d::t).take (t'.length+1):=by rw [ht'];simp
     rw [this];exact plain_take pz _
    rw [e2,List.append_nil,lay_id pz']
    have e3:c::t'=rot (d::t) t'.length:=by unfold rot;rw [ht',List.drop_left,List.take_left];rfl
    rw [e3]
    refine ring_turn hx hp ⟨fun j hj=>absurd hj (Nat.not_lt_zero _),?_⟩ hr (by rw [ht'];simp)
    rintro ⟨h1,h2⟩
    have hl:(d::t).getD ((d::t).length - 1 - 0) 0=c:=by
     rw [ht',List.length_append,List.getD_eq_getElem?_getD,List.getElem?_append_right (by simp)]
     simp
    rw [hl] at h2
    exact hdc h2
   ·have hok:okc (c::d::t) (con c)=true:=by
     unfold okc
     have hq:(c::d::t).getLast?=(d::t).getLast?:=by rw [List.getLast?_cons_cons]
     rw [hq]
     cases hq2:(d::t).getLast? with
     | none=>rfl
     | some z =>
      simp only [Bool.not_eq_true',decide_eq_false_iff_not]
      intro hz
      have hz':con c=con z:=by simpa using hz
      obtain ⟨t',ht'⟩:=List.getLast?_eq_some_iff.mp hq2
      have hzL:isL z:=hx z (by rw [ht'];simp)
      exact hlast ⟨t',by rw [ht',con_inj hc hzL hz']⟩
    have pw:=okc_plain (AllL.cons.mpr ⟨hc,hx⟩) hcc pz hok
    rw [lay_id pw]
    exact (ring_wrap hc).mpr hr
theorem ring_conj {x r:List Nat} (hx:AllL x) (hp:Plain x) (hr:RingR x r):∀ g:List Nat,AllL g→RingR (lay (g++x++back g)) r
 | [],_=>by
  have e:([]:List Nat)++x++back []=x:=by unfold back;simp
  rw [e,lay_id hp];exact hr
 | c::g,h=>by
  obtain ⟨hc,hg⟩:=AllL.cons.mp h
  have ih:=ring_conj hx hp hr g hg
  have hm:AllL (g++x++back g):=AllL.app.mpr ⟨AllL.app.mpr ⟨hg,hx⟩,back_all hg⟩
  have e:c::g++x++back (c::g)=[c]++(g++x++back g)++[con c]:=by
   have:back (c::g)=back g++[con c]:=by unfold back;simp
   rw [this];simp [List.append_assoc]
  have h1:AllL [c]:=fun d hd=>by rw [List.mem_singleton.mp hd];exact hc
  have h2:AllL [con c]:=fun d hd=>by rw [List.mem_singleton.mp hd];exact isL_con hc
  rw [e,← lay_mid _ _ _ h1 hm h2]
  exact conj_one (lay_all hm) (lay_plain _) hc ih
end Lw
namespace Lw
open PySem PySem.Spec PyProof.Rows L2 Ma MaR
theorem one_all {c:Nat} (h:isL c):AllL [c]:=fun d hd=>by rw [List.mem_singleton.mp hd];exact h
theorem low_isL {n c:Nat} (h:c∈lowN n):isL c:=by
 have:c∈[97,98,99,100]:=List.mem_of_mem_take h
 simp only [List.mem_cons,List.not_mem_nil,or_false] at this
 unfold isL
 omega
theorem lowN_len {n:Nat} (h4:n≤4):(lowN n).length=n:=by unfold lowN;rw [List.length_take];simp;omega
theorem lets_low {n c:Nat} (h1:1≤n) (h4:n≤4) (h:c∈letsN n):(isLow c=true∧(lowN n)[c - 97]?=some c)∨(isLow c=false∧(lowN n)[c - 65]?=some (con c)):=by
 have hL:=isL_cases (letsN_isL h)
 rcases n14 h1 h4 with rfl | rfl | rfl | rfl <;> rcases hL with rfl | rfl | rfl | rfl | rfl | rfl | rfl | rfl <;> revert h <;> decide
theorem flat_congr {f g:Nat→List Nat}:∀ {w:List Nat},(∀ c∈w,f c=g c)→w.flatMap f=w.flatMap g
 | [],_=>rfl
 | c::w,h=>by rw [List.flatMap_cons,List.flatMap_cons,h c List.mem_cons_self,flat_congr fun d hd=>h d (List.mem_cons_of_mem _ hd)]
theorem low_lets {n c:Nat} (h1:1≤n) (h4:n≤4) (h:c∈lowN n):c∈letsN n:=low_ofn h1 h4 [c] (List.mem_map.mpr ⟨c,h,rfl⟩) c (List.mem_singleton.mpr rfl)
end Lw
namespace Lw
open PySem PySem.Spec PyProof.Rows L2 Ma MaR
def chg (c:Nat) (sd:List Nat) (d:Nat):List Nat:=if d=lo c then [d] else (if con d∈sd then [con c] else [])++[d]++(if d∈sd then [c] else [])
def chgR (n c:Nat) (sd:List Nat):List (List Nat):=(lowN n).map (chg c sd)
theorem in_lst (d:Nat) (sd:List Nat):inV (.str (S [d])) (lstC sd)=decide (d∈sd):=by
 unfold inV lstC
 rw [Bool.eq_iff_iff,List.any_eq_true,decide_eq_true_iff]
 constructor
 ·rintro ⟨v,hv,he⟩
  obtain ⟨e,hm,rfl⟩:=List.mem_map.mp hv
  have h2:decide (S [e]=S [d])=true:=he
  have:=S_inj (of_decide_eq_true h2)
  have h3:e=d:=by simpa using this
  rw [← h3];exact hm
 ·intro h
  refine ⟨_,List.mem_map.mpr ⟨d,h,rfl⟩,?_⟩
  show decide (S [d]=S [d])=true
  exact decide_eq_true rfl
theorem lstC_flat (sd:List Nat):(lstC sd).all flatV=true:=by
 rw [List.all_eq_true]
 intro v hv
 obtain ⟨x,_,rfl⟩:=List.mem_map.mp hv
 rfl
structure GoodC (n c:Nat) (sd:List Nat):Prop where
 let':c∈letsN n
 side:∀ d∈sd,d∈letsN n
 le:sd.length≤8
def IsChg (H:Hp) (p:Addr) (c:Nat) (sd:List Nat):Prop:=∃ q,H p=some (.tup [.str (S [c]),.ref q])∧H q=some (.tup (lstC sd))
theorem IsChg.same {H H':Hp} {p:Addr} {c:Nat} {sd:List Nat} (h:IsChg H p c sd) (s:Same H H'):IsChg H' p c sd:=by
 obtain ⟨q,h1,h2⟩:=h
 exact ⟨q,s _ _ h1,s _ _ h2⟩
theorem chg_len (c:Nat) (sd:List Nat) (d:Nat):(chg c sd d).length≤3:=by
 unfold chg
 split
 ·simp
 ·rw [List.length_append,List.length_append]
  split <;> split <;> simp
theorem chg_all {c d:Nat} {sd:List Nat} (hc:isL c) (hd:isL d):AllL (chg c sd d):=by
 unfold chg
 split
 ·exact one_all hd
 ·refine AllL.app.mpr ⟨AllL.app.mpr ⟨?_,one_all hd⟩,?_⟩
  ·split
   ·exact one_all (isL_con hc)
   ·exact AllL.nil
  ·split
   ·exact one_all hc
   ·exact AllL.nil
theorem chg_ofn {n c d:Nat} {sd:List Nat} (h1:1≤n) (h4:n≤4) (hc:c∈letsN n) (hd:d∈letsN n):OfN n (chg c sd d):=by
 have one:∀ {e:Nat},e∈letsN n→OfN n [e]:=fun he z hz=>by rw [List.mem_singleton.mp hz];exact he
 unfold chg
 split
 ·exact one hd
 ·refine OfN.app (OfN.app ?_ (one hd)) ?_
  ·split
   ·exact one (letsN_con (by omega) (by omega) hc)
   ·exact OfN.nil
  ·split
   ·exact one hc
   ·exact OfN.nil
theorem chgR_rt {n c:Nat} {sd:List Nat} (h4:n≤4) (hc:isL c):RT (chgR n c sd) n 3:=by
 refine ⟨by unfold chgR;rw [List.length_map,lowN_len h4],fun x hx=>?_,fun x hx=>?_⟩
 ·obtain ⟨d,hd,rfl⟩:=List.mem_map.mp hx
  exact chg_all hc (low_isL hd)
 ·obtain ⟨d,hd,rfl⟩:=List.mem_map.mp hx
  exact chg_len c sd d
theorem chgR_ofn {n c:Nat} {sd:List Nat} (h1:1≤n) (h4:n≤4) (hc:c∈letsN n):∀ x∈chgR n c sd,OfN n x:=fun x hx=>by
 obtain ⟨d,hd,rfl⟩:=List.mem_map.mp hx
 exact chg_ofn h1 h4 hc (low_lets h1 h4 hd)
theorem low_low {n d:Nat} (h:d∈lowN n):isLow d=true:=by
 have:d∈[97,98,99,100]:=List.mem_of_mem_take h
 simp only [List.mem_cons,List.not_mem_nil,or_false] at this
 unfold isLow
 exact decide_eq_true (by omega)
theorem lo_str {c d:Nat}:decide (V.str (S [d])=V.str (S [lo c]))=decide (d=lo c):=by
 rw [VS_dec]
 by_cases h:d=lo c
 ·rw [h,decide_eq_true rfl,decide_eq_true rfl]
 ·rw [decide_eq_false h,decide_eq_false (by simpa using h)]
theorem mul_b (w:List Nat) (b:Bool):Txt.mul (S w) (if b=true then 1 else 0)=S (if b=true then w else []):=by
 cases b with
 | true =>
  show Txt.mul (S w) 1=S w
  unfold Txt.mul
  rw [if_neg (by decide),if_pos (by rfl)]
 | false =>
  show Txt.mul (S w) 0=S []
  unfold Txt.mul
  rw [if_pos (by decide)]
  rfl
theorem mul_bok (c:Nat) (b:Bool):MulOk (S [c]) (if b=true then 1 else 0):=by
 cases b with
 | true=>exact mul_ok [c] 1 (by decide) (by decide) (by simp)
 | false =>
  refine ⟨by decide,fun h=>?_,fun h=>?_⟩
  ·exact absurd h (by decide)
  ·exact absurd h (by decide)
def spChTold:Sp:=fun vs H Q _=>∃ (n:Nat) (p:Addr) (c:Nat) (sd:List Nat),vs=[.int (n:Nat),.ref p]∧1≤n∧n≤4∧IsChg H p c sd∧isL c∧(∀ d∈sd,isL d)∧∀ (t:Addr) (H':Hp),H t=none→Same H H'→H' t=some (.tup (wds (chgR n c sd)))→Q (.ref t) H'
end Lw
namespace L2
open PySem PySem.Spec PyProof.Rows
theorem Paired.at {α β:Type} {F:α→β→Prop}:∀ {l₁:List α} {l₂:List β},Paired F l₁ l₂→∀ {i:Nat} {a:α},l₁[i]?=some a→∃ b,l₂[i]?=some b∧F a b
 | _,_,.nil,i,a,h=>by simp at h
 | _,_,.cons r t,0,a,h=>⟨_,rfl,by cases Option.some.inj h;exact r⟩
 | _,_,.cons r t,i+1,a,h=>by
  obtain ⟨b,h1,h2⟩:=Paired.at t (i:=i) (by simpa using h)
  exact ⟨b,by simpa using h1,h2⟩
section
variable {X:Cx}
end
section
variable {prog:Program} {w:World} {A:Around} {E:Value→Shared→Prop} {s:Shared}
theorem keyT_item {it d:Addr} {i n ep:Nat} {o:Obj} {es:Array DictEntry} {e:DictEntry} {Q:Fin→Shared→Prop} (hit:s.heap.IsKeyIter it d i es.size ep) (hd:s.heap.get? d=some o) (dt:o.data=.dict es ep) (he:es[i]?=some e)
  (hQ:∀ g,g.IsKeyIter it d (i+1) es.size ep→Heap.SameBut it s.heap g→Q (.done (.ret e.key)) { s with heap:=g }) :
  wpAny (model prog w) A (Builtin.«dict_keyiterator.__next__» ⟨[.ref it],[]⟩) Q E s:=by
 obtain ⟨oi,go,co,do'⟩:=id hit
 have hT:s.TypeIs (.ref it) "dict_keyiterator":=⟨_,go,co⟩
 show wpAny _ _ (Builtin.Dict_items.slot0 "__next__" ⟨[.ref it],[]⟩ >>= _) _ _ _
 rw [show Builtin.Dict_items.slot0 "__next__" ⟨[.ref it],[]⟩=pure (.ref it) from rfl]
 refine wpAny_bind (wpAny_pure (wpAny_bind ?_))
 show wpAny _ _ (_ >>= _) _ _ _
 refine wpAny_bind ?_
 refine wpAny_bind (wpAny_typeNameOfWhole_keyiter hT (wpAny_pure ?_))
 rw [show (if Builtin.Dict_items.ownsTuple "dict_keyiterator"=true then 2 else 0)=0 from rfl]
 refine wpAny_bind (wpAny_fieldsOf go do' ?_)
 show wpAny _ _ (if (Value.ref d == Value.none)=true then _ else _) _ _ _
 rw [if_neg (by intro c;cases c)]
 refine wpAny_bind (wpAny_pure (wpAny_bind (wpAny_dictEntries hd dt ?_)))
 dsimp only
 rw [if_neg (by simp)]
 refine wpAny_bind (wpAny_pure (wpAny_bind (wpAny_dictEpoch hd dt ?_)))
 rw [if_neg (by simp)]
 refine wpAny_pure ?_
 dsimp only
 rw [if_neg (by omega),Int.toNat_natCast,he]
 dsimp only
 refine wpAny_bind (wpAny_bind (wpAny_typeNameOfWhole_keyiter hT (wpAny_pure ?_)))
 rw [show (if Builtin.Dict_items.ownsTuple "dict_keyiterator"=true then 2 else 0)=0 from rfl]
 refine wpAny_bind (wpAny_isOneOf_keyiter hT ?_)
 refine wpAny_bind (wpAny_setField go do' (by simp) ?_)
 have gu:(s.heap.update it (Obj.mapFields fun x=>x.setIfInBounds (0+1) (rawInt ((i:Int)+1)))).IsKeyIter it d (i+1) es.size ep:=by
  refine ⟨_,Heap.get?_update_self _ go (Obj.isFreed_of_fields (Obj.data_mapFields do' _)),(Obj.cls_mapFields ..).trans co,?_⟩
  rw [Obj.data_mapFields do' _]
  rfl
 have sb:Heap.SameBut it s.heap (s.heap.update it (Obj.mapFields fun x=>x.setIfInBounds (0+1) (rawInt ((i:Int)+1)))):=Heap.SameBut.update ..
 have hT2:Shared.TypeIs { s with heap:=s.heap.update it (Obj.mapFields fun x=>x.setIfInBounds (0+1) (rawInt ((i:Int)+1))) } (.ref it) "dict_keyiterator":=by
  obtain ⟨o2,g2,c2,_⟩:=gu
  exact ⟨_,g2,c2⟩
 refine wpAny_bind (wpAny_holding (wpAny_bind (wpAny_isOneOf_keyiter hT2 ?_)))
 refine wpAny_pure (wpAny_pure ?_)
 exact hQ _ gu sb
theorem keyT_end {it d:Addr} {i n ep:Nat} {o:Obj} {es:Array DictEntry} {Q:Fin→Shared→Prop} (hh:A.handled=none) (hit:s.heap.IsKeyIter it d i es.size ep) (hd:s.heap.get? d=some o) (dt:o.data=.dict es ep) (he:es[i]?=none)
  (hE:∀ g e,Heap.ExtBut it s.heap g→(∃ o,g.get? e=some o∧o.cls=.type "StopIteration")→E (.ref e) { s with heap:=g }) :
  wpAny (model prog w) A (Builtin.«dict_keyiterator.__next__» ⟨[.ref it],[]⟩) Q E s:=by
 obtain ⟨oi,go,co,do'⟩:=id hit
 have hT:s.TypeIs (.ref it) "dict_keyiterator":=⟨_,go,co⟩
 show wpAny _ _ (Builtin.Dict_items.slot0 "__next__" ⟨[.ref it],[]⟩ >>= _) _ _ _
 rw [show Builtin.Dict_items.slot0 "__next__" ⟨[.ref it],[]⟩=pure (.ref it) from rfl]
 refine wpAny_bind (wpAny_pure (wpAny_bind ?_))
 show wpAny _ _ (_ >>= _) _ _ _
 refine wpAny_bind ?_
 refine wpAny_bind (wpAny_typeNameOfWhole_keyiter hT (wpAny_pure ?_))
 rw [show (if Builtin.Dict_items.ownsTuple "dict_keyiterator"=true then 2 else 0)=0 from rfl]
 refine wpAny_bind (wpAny_fieldsOf go do' ?_)
 show wpAny _ _ (if (Value.ref d == Value.none)=true then _ else _) _ _ _
 rw [if_neg (by intro c;cases c)]
 refine wpAny_bind (wpAny_pure (wpAny_bind (wpAny_dictEntries hd dt ?_)))
 dsimp only
 rw [if_neg (by simp)]
 refine wpAny_bind (wpAny_pure (wpAny_bind (wpAny_dictEpoch hd dt ?_)))
 rw [if_neg (by simp)]
 refine wpAny_pure ?_
 dsimp only
 rw [if_neg (by omega),Int.toNat_natCast,he]
 dsimp only
 refine wpAny_bind (wpAny_bind (wpAny_typeNameOfWhole_keyiter hT (wpAny_pure ?_)))
 rw [show (if Builtin.Dict_items.ownsTuple "dict_keyiterator"=true then 2 else 0)=0 from rfl]
 refine wpAny_bind (wpAny_setField go do' (by simp) ?_)
 refine wpAny_bind ?_
 simp only [newExc,newTuple]
 refine wpAny_bind (wpAny_newObj_type ?_ (by size_fits))
 refine wpAny_bind (m:=firstArgMember _ _) (wpAny_of_eq (a:=Value.none) (by first | rfl | (simp only [firstArgMember];rfl)) ?_)
 refine wpAny_newObj_type ?_ (by size_fits)
 simp only [raiseNew]
 refine wpAny_bind (wpAny_handled ?_)
 first | rw [show A.in1.handled=none from hh] | rw [hh]
 refine wpAny_bind (wpAny_pure (wpAny_throw ?_))
 exact hE _ _ (((Heap.SameBut.update ..).extBut.push _).push _) ⟨_,Heap.get?_push_size _ rfl,rfl⟩
theorem nextK_item {it d:Addr} {i n ep:Nat} {o:Obj} {es:Array DictEntry} {e:DictEntry} {Q:Option Value→Shared→Prop} (hit:s.heap.IsKeyIter it d i es.size ep) (hd:s.heap.get? d=some o) (dt:o.data=.dict es ep) (he:es[i]?=some e)
  (hQ:∀ g,g.IsKeyIter it d (i+1) es.size ep→Heap.SameBut it s.heap g→Q (some e.key) { s with heap:=g }):wpAny (model prog w) A (pyNext (.ref it)) Q E s:=by
 have hT:s.TypeIs (.ref it) "dict_keyiterator":=let ⟨_,go,co,_⟩:=hit;⟨_,go,co⟩
 unfold pyNext
 exact wpAny_bind (wpAny_attempt (wpAny_callSpecial?_slot (name:=Str.ofString "__next__") hT F.slot_dict_keyiterator_next (wpAny_call_entry F.slot_dict_keyiterator_next hT F.entry_dict_keyiterator_next (keyT_item (n:=0) hit hd dt he fun g b1 b2=>⟨_,rfl,wpAny_pure (hQ g b1 b2)⟩) (F.args_dict_keyiterator_next_1 _))))
theorem nextK_end {it d:Addr} {i n ep:Nat} {o:Obj} {es:Array DictEntry} {Q:Option Value→Shared→Prop} (hh:A.handled=none) (hit:s.heap.IsKeyIter it d i es.size ep) (hd:s.heap.get? d=some o) (dt:o.data=.dict es ep) (he:es[i]?=none)
  (hQ:∀ g,Heap.ExtBut it s.heap g→Q none { s with heap:=g }):wpAny (model prog w) A (pyNext (.ref it)) Q E s:=by
 have hT:s.TypeIs (.ref it) "dict_keyiterator":=let ⟨_,go,co,_⟩:=hit;⟨_,go,co⟩
 unfold pyNext
 refine wpAny_bind (wpAny_attempt (wpAny_callSpecial?_slot (name:=Str.ofString "__next__") hT F.slot_dict_keyiterator_next (wpAny_call_entry F.slot_dict_keyiterator_next hT F.entry_dict_keyiterator_next (keyT_end (n:=0) hh hit hd dt he fun g e kp hx=>?_) (F.args_dict_keyiterator_next_1 _))))
 obtain ⟨o,go,co⟩:=hx
 exact wpAny_bind (wpAny_isInstance (T:="StopIteration") (b:=true) ⟨o,go,co⟩ isSubtype_stop (wpAny_pure (hQ _ kp)))
end
section
variable {X:Cx} {pins:List (Addr×Obj)} {σ:St} {H:Hp} {s:Shared}
theorem Inv.swap {d:Addr} {u u':HO} (I:Inv X pins σ H s) (e:H d=some u) (nt:∀ xs,u≠.tup xs) (nf:(∀ o v,u≠.frz o v)∨∀ o v,X.H₀ d≠some (.frz o v)) (nb:∀ ps,u≠.tbl ps) (no:∀ x,u≠.own x)
  (new:ObjOk X.prog X.w (upd H d u') s.heap d u'):Inv X pins σ (upd H d u') s:=by
 have ne:∀ {b:Addr},H b=none→b≠d:=fun h z=>by rw [z,e] at h;cases h
 have tp:∀ b xs,H b=some (.tup xs)→upd H d u' b=some (.tup xs):=fun b xs h=>by
  rw [upd_ne (fun z=>by rw [z,e] at h;exact nt xs (Option.some.inj h))];exact h
 refine ⟨I.ok,I.os,I.bare,⟨I.base.keep,I.base.slot,fun b o h n hx=>?_,I.base.there,fun b xs h=>tp b xs (I.base.tups b xs h),fun b o v h=>?_,fun b ps h=>?_⟩,I.loc,I.cell,?_,fun x c h=>?_,fun p hp=>?_,fun b v h=>?_,I.len⟩
 ·have:=I.base.free b o h n hx
  rw [upd_ne (ne this)];exact this
 ·have h1:=I.base.frzs b o v h
  rw [upd_ne]
  ·exact h1
  ·intro z
   subst z
   rcases nf with nf | nf
   ·rw [e] at h1;exact nf o v (Option.some.inj h1)
   ·exact nf o v h
 ·obtain ⟨more,h1⟩:=I.base.tbls b ps h
  refine ⟨more,?_⟩
  rw [upd_ne]
  ·exact h1
  ·intro z
   subst z
   rw [e] at h1
   exact nb _ (Option.some.inj h1)
 ·rw [upd_ne (ne I.free)];exact I.free
 ·rw [upd_ne (ne (I.freeC x c h))];exact I.freeC x c h
 ·obtain ⟨h1,h2,h3⟩:=I.pin p hp
  exact ⟨h1,by rw [upd_ne (ne h2)];exact h2,h3⟩
 ·by_cases hb:b=d
  ·subst hb
   rw [upd_same] at h
   cases h
   exact new
  ·rw [upd_ne hb] at h
   refine (I.hok b v h).stay (fun _ _ _ q=>q) (fun c q=>?_) tp
   rw [upd_ne (fun z=>by rw [z,e] at q;exact no b (Option.some.inj q))];exact q
theorem Inv.freeze {d:Addr} {kvs:List (List Key×V)} (I:Inv X pins σ H s) (e:H d=some (.dT kvs)):∃ o,s.heap.get? d=some o∧Inv X pins σ (upd H d (.frz o (.dT kvs))) s:=by
 obtain ⟨z,y,xs,r,o,es,ep,h1,h2⟩:=(show ObjOk X.prog X.w H s.heap d (.dT kvs) from I.hok d _ e)
 refine ⟨o,h1,I.swap e (fun _ z=>by cases z) (.inl fun _ _ z=>by cases z) (fun _ z=>by cases z) (fun _ z=>by cases z) ⟨h1,z,y,xs,Paired.mapP r fun p q t=>⟨t.1,?_,t.2.2⟩,o,es,ep,h1,h2⟩⟩
 rw [upd_ne (fun w=>by rw [w] at t;rw [e] at t;cases t.2.1)]
 exact t.2.1
theorem Inv.thaw {d:Addr} {o:Obj} {kvs:List (List Key×V)} (I:Inv X pins σ H s) (e:H d=some (.frz o (.dT kvs))) (h0:∀ o v,X.H₀ d≠some (.frz o v)):Inv X pins σ (upd H d (.dT kvs)) s:=by
 obtain ⟨_,z,y,xs,r,o',es,ep,h1,h2⟩:=(show ObjOk X.prog X.w H s.heap d (.frz o (.dT kvs)) from I.hok d _ e)
 refine I.swap e (fun _ z=>by cases z) (.inr h0) (fun _ z=>by cases z) (fun _ z=>by cases z) ⟨z,y,xs,Paired.mapP r fun p q t=>⟨t.1,?_,t.2.2⟩,o',es,ep,h1,h2⟩
 rw [upd_ne (fun w=>by rw [w] at t;rw [e] at t;cases t.2.1)]
 exact t.2.1
def Thaws (H0 H H':Hp):Prop:=H'=H∨∃ d o kvs,H d=some (.frz o (.dT kvs))∧(∀ o v,H0 d≠some (.frz o v))∧H'=upd H d (.dT kvs)
def tThaw (H0:Hp) (t:TE):TE:=fun σ H Q=>t σ H fun v H'=>∃ H'',Thaws H0 H' H''∧Q v H''
theorem pe_thaw {e:Expr} {t:TE} {H0:Hp} (h0:X.H₀=H0) (h:PE X e t):PE X e (tThaw H0 t):=by
 subst h0
 intro pins s σ H Q I q
 refine thn (h pins s σ H _ I q) fun u s1 ⟨v,H1,I1,rv,H2,th,q2⟩=>?_
 rcases th with rfl | ⟨d,o,kvs,e1,n0,rfl⟩
 ·exact ⟨v,_,I1,rv,q2⟩
 ·exact ⟨v,_,I1.thaw e1 n0,rv,q2⟩
end
def Itd (d:Addr) (o:Obj) (kvs:List (List Key×V)):It :=
 ⟨fun i H=>H d=some (.frz o (.dT kvs))∧i<kvs.length,fun i H x H'=>H'=H∧∃ k v q,kvs[i]?=some (k,v)∧x=.ref q∧H q=some (.tup (k.map kV)),fun i H=>H d=some (.frz o (.dT kvs))∧kvs.length≤i⟩
theorem frz_at {X:Cx} {pins:List (Addr×Obj)} {σ:St} {H:Hp} {s:Shared} {d:Addr} {o:Obj} {kvs:List (List Key×V)} (I:Inv X pins σ H s) (e:H d=some (.frz o (.dT kvs))) :
  s.heap.get? d=some o∧(d == sysModules)=false∧∃ (xs:List (List Key×Addr×Value)) (es:Array DictEntry) (ep:Nat),KT H kvs xs∧o.ExactDict∧o.data=.dict es ep∧es.toList=xs.map (entryOfKey (tupleKind (mixKind X.prog X.w))):=by
 obtain ⟨h0,z,y,xs,r,o',es,ep,h1,h2,h3,h4,h5⟩:=(show ObjOk X.prog X.w H s.heap d (.frz o (.dT kvs)) from I.hok d _ e)
 rw [h0] at h1
 cases h1
 exact ⟨h0,y,xs,es,ep,r,h2,h3,h4⟩
theorem turn_key {P:Program} {w:World} {K:PySem.W.Frag} {tg:Expr} (d it:Addr) (o:Obj) (es:Array DictEntry) (ep:Nat) (kvs:List (List Key×V)) (od:o.data=.dict es ep) (hl:es.size=kvs.length) :
  Turn P w K tg (Itd d o kvs) [it] it (fun i h=>h.IsKeyIter it d i es.size ep) where
 mem:=by simp
 obj:=fun i h st b hb=>by
  have e:b=it:=by simpa using hb
  subst e
  obtain ⟨o,e,c,d⟩:=st
  exact ⟨o,e,fun v z=>by rw [d] at z;cases z⟩
 keep:=fun i h h' st k=>st.at fun o e=>k it (by simp) o e
 item:=by
  intro X hP hw hK hc i pins s σ H E I hf st hg
  subst hP hw hK
  obtain ⟨hd,hi⟩:=hg
  obtain ⟨g0,_,xs,es',ep',r,_,od',he⟩:=frz_at I hd
  rw [od] at od'
  cases od'
  obtain ⟨kv,hkv⟩:∃ kv,kvs[i]?=some kv:=⟨_,List.getElem?_eq_getElem hi⟩
  obtain ⟨⟨k,ad,vl⟩,hx,hk1,hk2,hk3⟩:=Paired.at r hkv
  have hes:es[i]?=some (entryOfKey (tupleKind (mixKind X.prog X.w)) (k,ad,vl)):=by
   rw [← Array.getElem?_toList,he,List.getElem?_map,hx]
   rfl
  obtain ⟨f0,f1,f2,f3,f4,f5⟩:=hf it (by simp)
  refine nextK_item (n:=0) st g0 od hes fun h' st' sb=>?_
  have I1:Inv X pins σ H { s with heap:=h' }:=I.turned (t':=s.toks) (fun b o hb e=>(sb.2 b hb).trans e) f0 f1 f3 f4 f5
  obtain ⟨o2,e2,c2,d2⟩:=id st'
  exact ⟨_,rfl,go_of (s:={ s with heap:=h' }) e2 c2 d2 (by decide) ⟨.ref ad,H,I1,rfl,⟨rfl,kv.1,kv.2,ad,hkv,rfl,hk2⟩,st',fun b hb=>(hf b hb).1⟩⟩
 done:=by
  intro X hP hw hK hc i pins s σ H E I hf st hg
  subst hP hw hK
  obtain ⟨hd,hi⟩:=hg
  obtain ⟨g0,_,xs,es',ep',r,_,od',he⟩:=frz_at I hd
  rw [od] at od'
  cases od'
  obtain ⟨f0,f1,f2,f3,f4,f5⟩:=hf it (by simp)
  exact nextK_end (n:=0) (I.ok.hd hc) st g0 od (by rw [Array.getElem?_eq_none_iff];omega) fun h' eb=>⟨rfl,I.turned (t':=s.toks) (fun b o hb e=>eb b o hb e) f0 f1 f3 f4 f5⟩
 self:=fun _ _ _ _ _ st h=>wpAny_pyIter_keyiter st h
theorem iter_key {prog:Program} {w:World} {A:Around} {E:Value→Shared→Prop} {s:Shared} {d:Addr} {o:Obj} {es:Array DictEntry} {ep:Nat} {Q:Value→Shared→Prop} (hn:(d == sysModules)=false) (hd:s.heap.get? d=some o) (ho:o.ExactDict) (dt:o.data=.dict es ep)
  (h:Q (.ref s.heap.objs.size) { s with heap:=s.heap.push { cls:=.type "dict_keyiterator",data:=.fields #[.ref d,.int 0 0,.int es.size 0,.int ep 0] } }):wpAny (model prog w) A (pyIter (.ref d)) Q E s:=by
 have hT:s.TypeIs (.ref d) "dict":=⟨_,hd,ho.1⟩
 refine wpAny_pyIter_slot hT F.slot_dict_iter (wpAny_call_entry F.slot_dict_iter hT F.entry_dict_iter ?_ (F.args_dict_iter_1 _))
 unfold Builtin.«dict.__iter__» Builtin.Dict.dictSlotNone Builtin.Dict.notOrdered
 rw [if_pos (by decide)]
 refine wpAny_bind (wpAny_bind (wpAny_bind (wpAny_typeOf hT ?_)))
 rw [if_neg (by decide)]
 refine wpAny_pure ?_
 rw [show slotArgs "__iter__" 0 ⟨[.ref d],[]⟩=pure (.ref d,[]) from rfl]
 refine wpAny_bind (wpAny_pure (wpAny_pure (wpAny_bind (wpAny_pure (wpAny_bind ?_)))))
 unfold Builtin.Dict.showsAll
 rw [hn]
 refine wpAny_pure (wpAny_bind (wpAny_dictEntries hd dt (wpAny_bind (wpAny_dictEpoch hd dt (wpAny_bind ?_)))))
 unfold newFields
 refine wpAny_newObj_type (wpAny_pure ⟨_,rfl,"dict_keyiterator",_,⟨_,Heap.get?_push_size _ rfl,rfl⟩,F.slot_dict_keyiterator_next.lookup,?_⟩) (by size_fits)
 exact h
section
variable {X:Cx}
def iDictK (td:TE):TI:=fun σ H R=>td σ H fun x H1=>∃ d kvs,x=.ref d∧((H1 d=some (.dT kvs)∧∀ o,R (Itd d o kvs) (upd H1 d (.frz o (.dT kvs))))∨∃ o,H1 d=some (.frz o (.dT kvs))∧R (Itd d o kvs) H1)
theorem pi_dictK {tg e:Expr} {td:TE} (he:PE X e td):PI X tg e (iDictK td):=by
 intro pins s σ H R I h
 refine thn (he pins s σ H _ I h) fun u s1 ⟨x,H1,I1,rx,d,kvs,ex,hq⟩=>?_
 subst ex
 cases (show u=Value.ref d from rx)
 obtain ⟨o,H2,e2,I2,q2⟩:∃ o H2,H2 d=some (.frz o (.dT kvs))∧Inv X pins σ H2 s1∧R (Itd d o kvs) H2:=by
  rcases hq with ⟨e1,q⟩ | ⟨o,e1,q⟩
  ·obtain ⟨o,_,I2⟩:=I1.freeze e1
   exact ⟨o,_,upd_same,I2,q o⟩
  ·exact ⟨o,H1,e1,I1,q⟩
 obtain ⟨g0,hn,xs,es,ep,r,xo,od,he⟩:=frz_at I2 e2
 have hl:es.size=kvs.length:=by rw [← Array.length_toList,he,List.length_map,← Paired.length r]
 refine iter_key hn g0 xo od ⟨s1.heap.objs.size,[s1.heap.objs.size],_,Itd d o kvs,H2,rfl,I2.kept (t':=s1.toks) (fun b u e=>Heap.get?_push_of_some _ e),turn_key d _ o es ep kvs od hl,⟨_,Heap.get?_push_size _ rfl,rfl,rfl⟩,fun b hb=>?_,q2⟩
 have e:b=s1.heap.objs.size:=by simpa using hb
 subst e
 exact I2.fpOk (Nat.le_refl _) (I2.hok.fresh (Nat.le_refl _))
end
theorem comp_keyIf {d:Addr} {o:Obj} {kvs:List (List Key×V)} {D:Addr} {Q:VK} {ti:TT} {te:TE} {c:St} {H0:Hp} (Pv:Nat→Hp→Prop) (h0:Pv 0 H0) (hl:∀ i H,i≤kvs.length→Pv i H→H d=some (.frz o (.dT kvs)))
  (hs:∀ i k v q H,kvs[i]?=some (k,v)→H q=some (.tup (k.map kV))→Pv i H→ti (some (.ref q)::c) H fun b H1=>if b=true then te (some (.ref q)::c) H1 fun y H2=>∃ ys,H2 D=some (.lst ys)∧ys.length<sizeLine∧Pv (i+1) (upd H2 D (.lst (ys++[y]))) else Pv (i+1) H1)
  (hd:∀ H,Pv kvs.length H→Q (.ref D) H):compGo (Itd d o kvs) D Q ti te c H0:=by
 refine ⟨fun i m H'=>m=kvs.length - i∧i≤kvs.length∧Pv i H',⟨kvs.length,by simp,Nat.zero_le _,h0⟩,?_⟩
 rintro i m H' ⟨rfl,hi,p⟩
 have q:=hl i H' hi p
 by_cases hlt:i<kvs.length
 ·refine .inr ⟨⟨q,hlt⟩,Pv (i+1),fun H'' p=>⟨kvs.length - (i+1),by omega,rfl,hlt,p⟩,fun v H2 y=>?_⟩
  obtain ⟨e,k,v',qq,hk,rfl,hq⟩:=y
  subst e
  exact hs i k v' qq H2 hk hq p
 ·have e:i=kvs.length:=by omega
  subst e
  exact .inl ⟨⟨q,Nat.le_refl _⟩,hd H' p⟩
theorem DGet.f {H:Hp} {a b:Addr} {o:Obj} {kvs:List (List Key×V)} {k:List Key} (e:H a=some (.frz o (.dT kvs))) (eb:H b=some (.tup (k.map kV))):DGet H a (.ref b) (valV kvs k):=.inr ⟨kvs,k,b,.inr ⟨o,e⟩,rfl,eb,rfl⟩
theorem preSum_take (ns:List Int):∀ n,preSum (fun i=>(ns[i]?).getD 0) n=(ns.take n).sum
 | 0=>by simp [preSum]
 | n+1=>by
  show preSum (fun i=>(ns[i]?).getD 0) n+(ns[n]?).getD 0=_
  rw [preSum_take ns n]
  by_cases h:n<ns.length
  ·rw [List.take_add_one,List.getElem?_eq_getElem h,List.sum_append]
   simp
  ·rw [List.getElem?_eq_none (by omega),List.take_of_length_le (by omega),List.take_of_length_le (by omega)]
   simp
theorem ints_of:∀ {ns:List Int} {us:List Value},Vals (ns.map V.int) us→us.length=ns.length∧∀ (i:Nat) (v:Value),us[i]?=some v→∃ t,v=Value.int ((ns[i]?).getD 0) t
 | [],us,r=>by
  cases r
  exact ⟨rfl,fun i v h=>by simp at h⟩
 | n::ns,us,r=>by
  rw [List.map_cons] at r
  cases r with
  | cons r1 r2 =>
   obtain ⟨t,rfl⟩:=r1
   obtain ⟨h1,h2⟩:=ints_of r2
   refine ⟨by rw [List.length_cons,List.length_cons,h1],fun i v h=>?_⟩
   cases i with
   | zero=>exact ⟨t,by simpa using h.symm⟩
   | succ i=>simpa using h2 i v (by simpa using h)
section
variable {X:Cx} {K:PySem.W.Frag}
theorem call_sumK (hK:X.K=K) (hc:X.calm=true):CallR X (.builtin "sum") (fun xs H Q=>∃ (a:Addr) (ns:List Int),xs=[.ref a]∧SqL K H a (ns.map V.int)∧Q (.int ns.sum) H):=by
 subst hK
 intro pins s σ H xs us Q I r h
 obtain ⟨a,ns,rfl,hq,q⟩:=h
 obtain ⟨u,rfl,ru⟩:=r.one
 cases ru
 obtain ⟨its,rv,pl,_⟩:=I.list hq
 have hl:=pl.isList
 obtain ⟨hn,hi⟩:=ints_of rv
 have hlt:a<s.heap.objs.size:=by obtain ⟨_,e,_⟩:=hl;exact Heap.lt_size e
 refine call_sum_walkG (wpAny_pyIter_list hl ?_)
 refine ⟨s.heap.objs.size,[s.heap.objs.size,a],[s.heap.objs.size],its.toArray.size,_,_,fun i=>(ns[i]?).getD 0,rfl,Walks.list (A:=X.A.in1) (I.ok.hd hc) _ a (Nat.ne_of_lt hlt) its.toArray,
  ⟨⟨_,Heap.get?_push_size _ rfl,rfl,rfl⟩,hl.push _⟩,?_,fun i v hP=>hi i v (by simpa using hP),fun h' tk t' hk=>?_⟩
 ·intro b hb
  simp only [List.mem_cons,List.not_mem_nil,or_false] at hb
  rcases hb with rfl | rfl
  ·exact Heap.lt_size (Heap.get?_push_size _ rfl)
  ·exact Nat.lt_of_lt_of_le hlt (by show _≤(s.heap.push _).objs.size;rw [Heap.size_push];exact Nat.le_succ _)
 ·rw [preSum_take,List.size_toArray,hn,List.take_length]
  exact ⟨.int _,H,I.kept (t':=tk) (LSm.kept_iter hk),⟨_,rfl⟩,q⟩
def cntS (z y:Str):Int:=((Builtin.Str.occurrences z y 0 z.length (z.length+1)).length:Nat)
theorem mt_scount:MtR X "str.count" (fun x xs H Q=>∃ z y,x=.str z∧xs=[.str y]∧Q (.int (cntS z y)) H):=by
 intro pins s σ H x xs v us Q I rx rs h
 obtain ⟨z,y,rfl,rfl,q⟩:=h
 obtain ⟨t,rfl⟩:=rx
 obtain ⟨u,rfl,ru⟩:=rs.one
 obtain ⟨t',rfl⟩:=ru
 exact call_gives F.slot_str_count (typeIs_str _ _ _) F.entry_str_count (F.args_str_count_2 _ _) (gives_str_count z y t t') ⟨.int _,H,I.tok _,⟨_,rfl⟩,q⟩
end
section
variable {X:Cx} {pins:List (Addr×Obj)} {σ:St} {H:Hp} {s:Shared} {a b:Addr} {v:V} {A:Around} {E:Value→Shared→Prop}
end
section
variable {X:Cx} {o e:Expr} {apos cpos:Pos} {td ty:TE}
end
section
variable {prog:Program} {w:World} {A:Around} {E:Value→Shared→Prop} {s:Shared}
end
end L2
namespace Lw
open PySem PySem.Spec PyProof.Rows L2 Ma MaR
abbrev KP:=List Key
def num (kvs:List (KP×V)) (k:KP):Int:=match valV kvs k with
 | some (.int i)=>i
 | _=>0
def bump (kvs:List (KP×V)) (k:KP):List (KP×V):=putK kvs k (.int (num kvs k+1))
def ctK (ks:List KP) (k:KP):Nat:=ks.countP fun x=>decide (x=k)
theorem ctK_snoc (ks:List KP) (k' k:KP):ctK (ks++[k']) k=ctK ks k+if k'=k then 1 else 0:=by
 unfold ctK
 rw [List.countP_append,List.countP_cons,List.countP_nil]
 simp
theorem ctK_pos {ks:List KP} {k:KP}:0<ctK ks k↔k∈ks:=by
 unfold ctK
 rw [List.countP_pos_iff]
 constructor
 ·rintro ⟨a,h,e⟩
  rw [← of_decide_eq_true e];exact h
 ·exact fun h=>⟨k,h,decide_eq_true rfl⟩
def Dk (ks:List KP):List (KP×V):=ks.foldl bump []
theorem Dk_snoc (ks:List KP) (k:KP):Dk (ks++[k])=bump (Dk ks) k:=by unfold Dk;rw [List.foldl_append];rfl
theorem snoc_ind {P:List KP→Prop} (h0:P []) (h1:∀ ks k,P ks→P (ks++[k])):∀ ks,P ks:=fun ks=>by
 have:∀ r:List KP,P r.reverse:=fun r=>by
  induction r with
  | nil=>exact h0
  | cons k r ih=>rw [List.reverse_cons];exact h1 _ _ ih
 have:=this ks.reverse
 rwa [List.reverse_reverse] at this
theorem Dk_val (k:KP):∀ ks,valV (Dk ks) k=if ctK ks k=0 then none else some (.int ((ctK ks k:Nat):Int)):=by
 refine snoc_ind ?_ fun ks k' ih=>?_
 ·rfl
 ·rw [Dk_snoc]
  unfold bump
  rw [valV_put]
  by_cases e:k=k'
  ·subst e
   rw [if_pos rfl,ctK_snoc,if_pos rfl,if_neg (by omega)]
   congr 2
   unfold num
   rw [ih]
   by_cases c:ctK ks k=0
   ·rw [if_pos c,c];rfl
   ·rw [if_neg c];dsimp only;omega
  ·rw [if_neg e,ih,ctK_snoc,if_neg (fun z:k'=k=>e z.symm),Nat.add_zero]
theorem Dk_num (ks:List KP) (k:KP):num (Dk ks) k=((ctK ks k:Nat):Int):=by
 unfold num
 rw [Dk_val]
 by_cases c:ctK ks k=0
 ·rw [if_pos c,c];rfl
 ·rw [if_neg c]
theorem Dk_getD (ks:List KP) (k:KP):(valV (Dk ks) k).getD (.int 0)=.int (num (Dk ks) k):=by
 rw [Dk_num,Dk_val]
 by_cases c:ctK ks k=0
 ·rw [if_pos c,c];rfl
 ·rw [if_neg c];rfl
theorem Dk_len:∀ ks:List KP,(Dk ks).length≤ks.length:=by
 refine snoc_ind (Nat.le_refl _) fun ks k ih=>?_
 rw [Dk_snoc,List.length_append,List.length_singleton]
 unfold bump
 have:=length_putK (Dk ks) k (.int (num (Dk ks) k+1))
 omega
theorem keys_map {kvs:List (KP×V)} {k:KP} {v:V}:(kvs.map fun kv=>if kv.1=k then (kv.1,v) else kv).map (·.1)=kvs.map (·.1):=by
 rw [List.map_map]
 refine List.map_congr_left fun kv _=>?_
 show (if kv.1=k then (kv.1,v) else kv).1=kv.1
 split <;> rfl
theorem Dk_nd:∀ ks:List KP,((Dk ks).map (·.1)).Nodup:=by
 refine snoc_ind (by simp [Dk]) fun ks k ih=>?_
 rw [Dk_snoc]
 unfold bump putK
 by_cases h:((Dk ks).any fun kv=>decide (kv.1=k))=true
 ·rw [if_pos h,keys_map]
  exact ih
 ·rw [if_neg h,List.map_append,List.nodup_append]
  refine ⟨ih,by simp,fun a ha b hb=>?_⟩
  have hb':b=k:=by simpa using hb
  subst hb'
  intro e
  subst e
  apply h
  rw [List.any_eq_true]
  obtain ⟨kv,hkv,e⟩:=List.mem_map.mp ha
  exact ⟨kv,hkv,decide_eq_true e⟩
theorem val_mem:∀ {kvs:List (KP×V)} {kv:KP×V},(kvs.map (·.1)).Nodup→kv∈kvs→valV kvs kv.1=some kv.2
 | [],_,_,h=>nomatch h
 | p::r,kv,hn,h=>by
  rw [List.map_cons,List.nodup_cons] at hn
  rcases List.mem_cons.mp h with rfl | h
  ·exact valV_pos rfl
  ·have ne:¬ p.1=kv.1:=fun e=>hn.1 (by rw [e];exact List.mem_map.mpr ⟨kv,h,rfl⟩)
   rw [valV_neg ne]
   exact val_mem hn.2 h
theorem val_key {kvs:List (KP×V)} {k:KP} {v:V} (h:valV kvs k=some v):k∈kvs.map (·.1):=by
 unfold valV at h
 obtain ⟨kv,hkv,_⟩:=Option.map_eq_some_iff.mp h
 exact List.mem_map.mpr ⟨kv,List.mem_of_find?_eq_some hkv,by have:=List.find?_some hkv;exact of_decide_eq_true this⟩
theorem Dk_mem {ks:List KP} {kv:KP×V} (h:kv∈Dk ks):kv.2=.int ((ctK ks kv.1:Nat):Int)∧kv.1∈ks:=by
 have h1:=val_mem (Dk_nd ks) h
 rw [Dk_val] at h1
 by_cases c:ctK ks kv.1=0
 ·rw [if_pos c] at h1;cases h1
 ·rw [if_neg c] at h1
  exact ⟨(Option.some.inj h1).symm,ctK_pos.mp (by omega)⟩
def lk (c:Nat):Key:=.inr (S [c])
def tieK (c d:Nat):KP:=if rk c<rk d then [lk c,lk d] else [lk d,lk c]
def prevL (x:List Nat) (i:Nat):Nat:=if i=0 then x.getD (x.length - 1) 0 else x.getD (i - 1) 0
def tiesW (x:List Nat):List KP:=(List.range x.length).map fun i=>tieK (prevL x i) (con (x.getD i 0))
def tiesR (rs:List (List Nat)):List KP:=(rs.map tiesW).flatten
theorem tiesW_len (x:List Nat):(tiesW x).length=x.length:=by unfold tiesW;simp
theorem tiesW_take {x:List Nat} {i:Nat} (h:i<x.length):(tiesW x).take (i+1)=(tiesW x).take i++[tieK (prevL x i) (con (x.getD i 0))]:=by
 have e:(tiesW x)[i]?=some (tieK (prevL x i) (con (x.getD i 0))):=by
  unfold tiesW
  rw [List.getElem?_map,List.getElem?_range h]
  rfl
 rw [List.take_add_one,e]
 rfl
theorem tiesR_snoc (rs:List (List Nat)) (x:List Nat):tiesR (rs++[x])=tiesR rs++tiesW x:=by unfold tiesR;simp
theorem tiesR_len:∀ rs:List (List Nat),(tiesR rs).length=(rs.map List.length).sum
 | []=>rfl
 | x::rs=>by
  have:=tiesR_len rs
  unfold tiesR at *
  rw [List.map_cons,List.flatten_cons,List.length_append,List.map_cons,List.sum_cons,tiesW_len,this]
theorem sum_take_le (ls:List Nat) (i:Nat):(ls.take i).sum≤ls.sum:=by
 have:=congrArg List.sum (List.take_append_drop i ls)
 rw [List.sum_append] at this
 omega
theorem prev_at {x:List Nat} {i:Nat} (h:i<x.length):atI (S x).cps.toList ((i:Int) - 1)=some (prevL x i):=by
 unfold prevL
 rw [S_at]
 by_cases e:i=0
 ·subst e
  rw [if_pos rfl]
  obtain ⟨u,z,rfl⟩:∃ u z,x=u++[z]:=⟨x.dropLast,x.getLast (by intro c;subst c;simp at h),(List.dropLast_concat_getLast _).symm⟩
  have:=atI_last u z
  simpa using this
 ·rw [if_neg e]
  refine atI_of (by omega) ?_
  rw [show ((i:Int) - 1).toNat=i - 1 by omega,List.getD_eq_getElem?_getD,List.getElem?_eq_getElem (by omega)]
  rfl
theorem prev_isL {x:List Nat} {i:Nat} (hx:AllL x) (h:i<x.length):isL (prevL x i):=by
 unfold prevL
 split
 ·exact getD_isL hx (by omega)
 ·exact getD_isL hx (by omega)
def RgN (n:Nat) (x:List Nat):Prop:=∃ y,OfN n y∧Plain y∧RingR y x
theorem RgN.ofn {n:Nat} {x:List Nat} (h:RgN n x):OfN n x:=by
 obtain ⟨y,h1,_,h3⟩:=h
 exact fun c hc=>h1 c (h3.sub c hc)
def cntR (rs:List (List Nat)) (c:Nat):Int:=(rs.map fun x=>cntS (S x) (S [c])+cntS (S x) (S [con c])).sum
def totL (rs:List (List Nat)):Nat:=(rs.map List.length).sum
def spPair:Sp:=fun vs H Q _=>∃ c d:Nat,vs=[.str (S [c]),.str (S [d])]∧isL c∧isL d∧∀ (p:Addr) (H':Hp),H p=none→Same H H'→H' p=some (.tup ((tieK c d).map kV))→Q (.ref p) H'
def spTies (K:PySem.W.Frag):Sp:=fun vs H Q _=>∃ (a:Addr) (rs:List (List Nat)),vs=[.ref a]∧SqT K H a (wds rs)∧(∀ x∈rs,AllL x)∧totL rs≤900∧∀ (p:Addr) (H':Hp),H p=none→Same H H'→H' p=some (.dT (Dk (tiesR rs)))→Q (.ref p) H'
def spCount (K:PySem.W.Frag):Sp:=fun vs H Q _=>∃ (a:Addr) (rs:List (List Nat)) (c:Nat),vs=[.ref a,.str (S [c])]∧SqT K H a (wds rs)∧rs.length≤900∧isL c∧∀ H',Same H H'→Q (.int (cntR rs c)) H'
abbrev sortAsk (K:PySem.W.Frag) (sp:Sp) (vs:List V) (H1:Hp) (Q:VK):Prop:=∃ (l:Addr) (xs:List V) (kz:List (Int×List Int)) (Pv:Addr→Nat→List V→Hp→Prop),vs=[.ref l]∧SqL K H1 l xs∧xs.length<64∧kz.length=xs.length ∧
 (∀ (i j:Nat) (a b:Int×List Int),kz[i]?=some a→kz[j]?=some b→a.1=b.1→a.2.length=b.2.length)∧TotLt (fun i j=>ltK (kz.getD i (0,[])) (kz.getD j (0,[]))) ∧
 (∀ S,H1 S=none→Pv S 0 [] (upd H1 S (.lst []))) ∧
 (∀ S i ks H,Pv S i ks H→∀ y,xs[i]?=some y→sp [y] H (fun v H2=>H2 S=some (.lst ks)∧ks.length=i∧Pv S (i+1) (ks++[v]) (upd H2 S (.lst (ks++[v])))) E0) ∧
 (∀ S ks H,Pv S xs.length ks H→H S=some (.lst ks)∧ks.length=xs.length∧(∀ (i:Nat) (v:V) (k:Int×List Int),ks[i]?=some v→kz[i]?=some k→KeyAt H v k) ∧
  ∀ p:Array Nat,PermN xs.length p→SoTo (fun i j=>ltK (kz.getD i (0,[])) (kz.getD j (0,[]))) p xs.length→∀ D,upd H S (.lst []) D=none→Q (.ref D) (upd (upd H S (.lst [])) D (.lst (p.toList.map fun i=>xs.getD i .non))))
theorem sort_wds {K:PySem.W.Frag} {H:Hp} {Q:VK} {l:Addr} {ws:List (List Nat)} (hq:SqL K H l (wds ws)) (h64:ws.length<64) (hall:∀ x∈ws,AllL x∧x.length≤900)
  (k:∀ (D:Addr) (ws':List (List Nat)) (H':Hp),H D=none→Same H H'→H' D=some (.lst (wds ws'))→ws'.Perm ws→ws'.Pairwise leW→Q (.ref D) H'):sortAsk K spKey [.ref l] H Q:=by
 refine ⟨l,wds ws,ws.map keyW,fun S i ks H1=>H S=none∧Same H H1∧H1 S=some (.lst ks)∧ks.length=i∧∀ (j:Nat) (v:V) (x:List Nat),ks[j]?=some v→ws[j]?=some x→∃ p a:Addr,v=.ref p∧a≠S∧H1 p=some (.tup [.int (keyW x).1,.ref a])∧H1 a=some (.lst ((keyW x).2.map V.int)),rfl,hq,by rw [wds_len];exact h64,by rw [wds_len,List.length_map],fun i j a b ha hb e=>?_,keys_tot ws,fun S hS=>⟨hS,Same.new hS,upd_same,rfl,fun j v x hv=>by simp at hv⟩,?_,?_⟩
 ·rw [List.getElem?_map] at ha hb
  obtain ⟨x,_,rfl⟩:=Option.map_eq_some_iff.mp ha
  obtain ⟨y,_,rfl⟩:=Option.map_eq_some_iff.mp hb
  have h1:=keyW_ok x
  have h2:=keyW_ok y
  unfold KOk at h1 h2
  omega
 ·rintro S i ks H1 ⟨hS,s1,eS,hkl,hks⟩ y hy
  obtain ⟨x,hx,rfl⟩:=wds_get hy
  obtain ⟨hxa,hxl⟩:=hall x (List.mem_of_getElem? hx)
  refine ⟨x,rfl,hxa,hxl,fun p a H2 hp ha s2 ep ea=>⟨s2 _ _ eS,hkl,hS,(s1.trans s2).upd hS,upd_same,by rw [List.length_append,hkl];rfl,fun j v z hv hz=>?_⟩⟩
  have hpS:p≠S:=(ne_of_none eS hp).symm
  have haS:a≠S:=(ne_of_none eS ha).symm
  by_cases hj:j<ks.length
  ·rw [List.getElem?_append_left hj] at hv
   obtain ⟨p',a',e0,e1,e2,e3⟩:=hks j v z hv hz
   refine ⟨p',a',e0,e1,?_,?_⟩
   ·rw [upd_ne (ne_of e2 eS (by intro z;cases z))];exact s2 _ _ e2
   ·rw [upd_ne e1];exact s2 _ _ e3
  ·have ej:j=ks.length:=by
    have:=(List.getElem?_eq_some_iff.mp hv).1
    rw [List.length_append,List.length_singleton] at this
    omega
   subst ej
   rw [hkl] at hz
   rw [hx] at hz
   cases hz
   have ev:v=.ref p:=by simpa using hv.symm
   subst ev
   exact ⟨p,a,rfl,haS,by rw [upd_ne hpS];exact ep,by rw [upd_ne haS];exact ea⟩
 ·rintro S ks H1 ⟨hS,s1,eS,hkl,hks⟩
  refine ⟨eS,hkl,fun i v q hv hq2=>?_,fun p hp so D hD=>?_⟩
  ·rw [List.getElem?_map] at hq2
   obtain ⟨x,hx,rfl⟩:=Option.map_eq_some_iff.mp hq2
   obtain ⟨p,a,e0,_,e2,e3⟩:=hks i v x hv hx
   exact ⟨p,a,e0,e2,e3⟩
  ·rw [wds_len] at hp so
   have hb:∀ i∈p.toList,i<ws.length:=fun i hi=>by
    have:=(Array.perm_iff_toList_perm.mp hp).mem_iff.mp hi
    simpa using this
   rw [wds_perm ws p.toList hb]
   have sS:Same H (upd H1 S (.lst [])):=s1.upd hS
   exact k D _ _ (sS.free hD) (sS.upd' hD) upd_same (perm_words hp) (sorted_words rfl hp so)
theorem tie_sorted {c d:Nat} (hc:isL c) (hd:isL d) {ws:List (List Nat)} (h1:ws.Perm [[c],[d]]) (h2:ws.Pairwise leW):wds ws=(tieK c d).map kV:=by
 have key:∀ {a b:Nat},¬ rk b<rk a→leW [a] [b]:=fun {a b} h=>by
  show (if ((1:Nat):Int)=((1:Nat):Int) then HT.lexLt [((rk b:Nat):Int)] [((rk a:Nat):Int)] else _)=false
  rw [if_pos rfl,HT.lexLt_cons]
  by_cases e:((rk b:Nat):Int)=((rk a:Nat):Int)
  ·rw [if_pos e];rfl
  ·rw [if_neg e];exact decide_eq_false (by omega)
 have all:∀ x∈ws,AllL x:=fun x hx=>by
  have:=h1.mem_iff.mp hx
  simp only [List.mem_cons,List.not_mem_nil,or_false] at this
  rcases this with rfl | rfl
  ·exact fun y hy=>by rw [List.mem_singleton.mp hy];exact hc
  ·exact fun y hy=>by rw [List.mem_singleton.mp hy];exact hd
 unfold tieK
 by_cases h:rk c<rk d
 ·rw [if_pos h,order_one all h1 h2 (by rw [List.pairwise_pair];exact key (by omega))]
  rfl
 ·rw [if_neg h,order_one all (h1.trans (List.Perm.swap _ _ _)) h2 (by rw [List.pairwise_pair];exact key (by omega))]
  rfl
theorem len_tot:∀ {rs:List (List Nat)} {x:List Nat},x∈rs→x.length≤totL rs
 | y::rs,x,h=>by
  unfold totL
  rw [List.map_cons,List.sum_cons]
  rcases List.mem_cons.mp h with rfl | h
  ·omega
  ·have:=len_tot h
   unfold totL at this
   omega
end Lw
namespace L2
open PySem PySem.Spec PyProof.Rows
theorem entry_iter_items:entryFor table "dict_itemiterator.__iter__"=some Builtin.«dict_keyiterator.__iter__»:=by
 refine entryFor_alias (id':="dict_keyiterator.__iter__") ?_ ?_ ?_ ?_
 ·kernel_rfl
 ·decide +kernel
 ·have e:String.map (fun c=>if (c.isAlphanum || c == '_' || c == '.')=true then c else '_') "dict_itemiterator.__iter__"="dict_itemiterator.__iter__":=by decide +kernel
  rw [e]
  show _="dict_keyiterator.__iter__"
  kernel_rfl
 ·kernel_rfl
section
variable {prog:Program} {w:World} {A:Around} {E:Value→Shared→Prop} {s:Shared}
theorem own2:(if Builtin.Dict_items.ownsTuple "dict_itemiterator"=true then 2 else 0)=2:=by decide
theorem itemT_item {it d:Addr} {i ep:Nat} {ok ov:Value} {o:Obj} {es:Array DictEntry} {e:DictEntry} {Q:Fin→Shared→Prop} (hit:IsItemIter s.heap it d i es.size ep ok ov) (hd:s.heap.get? d=some o) (dt:o.data=.dict es ep) (hne:d≠it) (he:es[i]?=some e)
  (hQ:∀ g,IsItemIterOut g it d (i+1) es.size ep e.key e.val s.heap.objs.size→g.get? s.heap.objs.size=some { cls:=.type "tuple",data:=.seq #[e.key,e.val] }→g.objs.size=s.heap.objs.size+1→(∀ c ob,c≠it→s.heap.get? c=some ob→g.get? c=some ob)→Q (.done (.ret (.ref s.heap.objs.size))) { s with heap:=g }) :
  wpAny (model prog w) A (Builtin.«dict_itemiterator.__next__» ⟨[.ref it],[]⟩) Q E s:=by
 have hT:s.TypeIs (.ref it) "dict_itemiterator":=⟨_,hit,rfl⟩
 show wpAny _ _ (Builtin.Dict_items.slot0 "__next__" ⟨[.ref it],[]⟩ >>= _) _ _ _
 rw [show Builtin.Dict_items.slot0 "__next__" ⟨[.ref it],[]⟩=pure (.ref it) from rfl]
 refine wpAny_bind (wpAny_pure (wpAny_bind ?_))
 show wpAny _ _ (_ >>= _) _ _ _
 refine wpAny_bind ?_
 refine wpAny_bind (wpAny_typeNameOfWhole_itemiter hT (wpAny_pure ?_))
 rw [own2]
 refine wpAny_bind (wpAny_fieldsOf hit rfl ?_)
 show wpAny _ _ (if (Value.ref d == Value.none)=true then _ else _) _ _ _
 rw [if_neg (by intro c;cases c)]
 refine wpAny_bind (wpAny_pure (wpAny_bind (wpAny_dictEntries hd dt ?_)))
 dsimp only
 rw [if_neg (by simp)]
 refine wpAny_bind (wpAny_pure (wpAny_bind (wpAny_dictEpoch hd dt ?_)))
 rw [if_neg (by simp)]
 refine wpAny_pure ?_
 dsimp only
 rw [if_neg (by omega),Int.toNat_natCast,he]
 dsimp only
 refine wpAny_bind (wpAny_bind (wpAny_typeNameOfWhole_itemiter hT (wpAny_pure ?_)))
 rw [own2]
 refine wpAny_bind (wpAny_isOneOf_itemiter hT ?_)
 refine wpAny_bind (wpAny_setField_rec hit (by simp) fun g1 z1 e1=>?_)
 have z1':IsItemIter g1 it d (i+1) es.size ep ok ov:=z1
 have hT1:Shared.TypeIs { s with heap:=g1 } (.ref it) "dict_itemiterator":=⟨_,z1',rfl⟩
 refine wpAny_bind (wpAny_holding ?_)
 show wpAny _ _ (_ >>= _) _ _ _
 refine wpAny_bind (wpAny_isOneOf_itemiter hT1 ?_)
 refine wpAny_bind (wpAny_isOneOf_itemiter hT1 ?_)
 show wpAny _ _ (Builtin.Dict_items.pairFromOwner (.ref it) 6 e.key e.val) _ _ _
 unfold Builtin.Dict_items.pairFromOwner newTuple
 refine wpAny_bind (wpAny_newObj_type ?_ (by size_fits))
 have sz1:g1.objs.size=s.heap.objs.size:=e1.1
 have z2:IsItemIter (g1.push { cls:=.type "tuple",data:=.seq #[e.key,e.val] }) it d (i+1) es.size ep ok ov:=Heap.get?_push_of_some _ z1'
 unfold Builtin.Dict_items.ownedTupleIsFree
 refine wpAny_bind (wpAny_bind (wpAny_field z2 rfl (x:=.none) rfl (wpAny_pure ?_)))
 rw [if_pos rfl]
 refine wpAny_bind (wpAny_field z2 rfl (x:=ok) rfl (wpAny_bind (wpAny_field z2 rfl (x:=ov) rfl ?_)))
 refine wpAny_bind (wpAny_setField_rec z2 (by simp) fun g3 z3 e3=>?_)
 refine wpAny_bind (wpAny_setField_rec z3 (by simp) fun g4 z4 e4=>?_)
 refine wpAny_bind (wpAny_setField_rec z4 (by simp) fun g5 z5 e5=>?_)
 refine wpAny_bind (wpAny_setField_rec z5 (by simp) fun g6 z6 e6=>?_)
 refine wpAny_bind (wpAny_letGo (wpAny_pure (wpAny_pure ?_)))
 have lz:=Heap.lt_size hit
 have up:∀ c ob,c≠it→(g1.push { cls:=.type "tuple",data:=.seq #[e.key,e.val] }).get? c=some ob→g6.get? c=some ob:=fun c ob hc h=>e6.extBut _ _ hc (e5.extBut _ _ hc (e4.extBut _ _ hc (e3.extBut _ _ hc h)))
 have T6:g6.get? g1.objs.size=some { cls:=.type "tuple",data:=.seq #[e.key,e.val] }:=up _ _ (by rw [sz1];exact Nat.ne_of_gt lz) (Heap.get?_push_size _ rfl)
 have n6:g6.objs.size=g1.objs.size+1:=by rw [e6.1,e5.1,e4.1,e3.1,Heap.size_push]
 rw [sz1] at T6 n6 z6 ⊢
 exact hQ g6 z6 T6 n6 fun c ob hc h=>up c ob hc (Heap.get?_push_of_some _ (e1.extBut _ _ hc h))
theorem itemT_end {it d:Addr} {i ep:Nat} {ok ov:Value} {o:Obj} {es:Array DictEntry} {Q:Fin→Shared→Prop} (hh:A.handled=none) (hit:IsItemIter s.heap it d i es.size ep ok ov) (hd:s.heap.get? d=some o) (dt:o.data=.dict es ep) (he:es[i]?=none)
  (hE:∀ g e,Heap.ExtBut it s.heap g→(∃ o,g.get? e=some o∧o.cls=.type "StopIteration")→E (.ref e) { s with heap:=g }) :
  wpAny (model prog w) A (Builtin.«dict_itemiterator.__next__» ⟨[.ref it],[]⟩) Q E s:=by
 have hT:s.TypeIs (.ref it) "dict_itemiterator":=⟨_,hit,rfl⟩
 show wpAny _ _ (Builtin.Dict_items.slot0 "__next__" ⟨[.ref it],[]⟩ >>= _) _ _ _
 rw [show Builtin.Dict_items.slot0 "__next__" ⟨[.ref it],[]⟩=pure (.ref it) from rfl]
 refine wpAny_bind (wpAny_pure (wpAny_bind ?_))
 show wpAny _ _ (_ >>= _) _ _ _
 refine wpAny_bind ?_
 refine wpAny_bind (wpAny_typeNameOfWhole_itemiter hT (wpAny_pure ?_))
 rw [own2]
 refine wpAny_bind (wpAny_fieldsOf hit rfl ?_)
 show wpAny _ _ (if (Value.ref d == Value.none)=true then _ else _) _ _ _
 rw [if_neg (by intro c;cases c)]
 refine wpAny_bind (wpAny_pure (wpAny_bind (wpAny_dictEntries hd dt ?_)))
 dsimp only
 rw [if_neg (by simp)]
 refine wpAny_bind (wpAny_pure (wpAny_bind (wpAny_dictEpoch hd dt ?_)))
 rw [if_neg (by simp)]
 refine wpAny_pure ?_
 dsimp only
 rw [if_neg (by omega),Int.toNat_natCast,he]
 dsimp only
 refine wpAny_bind (wpAny_bind (wpAny_typeNameOfWhole_itemiter hT (wpAny_pure ?_)))
 rw [own2]
 refine wpAny_bind (wpAny_setField_rec hit (by simp) fun g1 z1 e1=>?_)
 refine wpAny_bind ?_
 simp only [newExc,newTuple]
 refine wpAny_bind (wpAny_newObj_type ?_ (by size_fits))
 refine wpAny_bind (m:=firstArgMember _ _) (wpAny_of_eq (a:=Value.none) (by first | rfl | (simp only [firstArgMember];rfl)) ?_)
 refine wpAny_newObj_type ?_ (by size_fits)
 simp only [raiseNew]
 refine wpAny_bind (wpAny_handled ?_)
 first | rw [show A.in1.handled=none from hh] | rw [hh]
 refine wpAny_bind (wpAny_pure (wpAny_throw ?_))
 exact hE _ _ ((e1.extBut.push _).push _) ⟨_,Heap.get?_push_size _ rfl,rfl⟩
theorem nextI_item {it d:Addr} {i ep:Nat} {ok ov:Value} {o:Obj} {es:Array DictEntry} {e:DictEntry} {Q:Option Value→Shared→Prop} (hit:IsItemIter s.heap it d i es.size ep ok ov) (hd:s.heap.get? d=some o) (dt:o.data=.dict es ep) (hne:d≠it) (he:es[i]?=some e)
  (hQ:∀ g,IsItemIterOut g it d (i+1) es.size ep e.key e.val s.heap.objs.size→g.get? s.heap.objs.size=some { cls:=.type "tuple",data:=.seq #[e.key,e.val] }→g.objs.size=s.heap.objs.size+1→(∀ c ob,c≠it→s.heap.get? c=some ob→g.get? c=some ob)→Q (some (.ref s.heap.objs.size)) { s with heap:=g }) :
  wpAny (model prog w) A (pyNext (.ref it)) Q E s:=by
 have hT:s.TypeIs (.ref it) "dict_itemiterator":=⟨_,hit,rfl⟩
 unfold pyNext
 exact wpAny_bind (wpAny_attempt (wpAny_callSpecial?_slot (name:=Str.ofString "__next__") hT F.slot_dict_itemiterator_next (wpAny_call_entry F.slot_dict_itemiterator_next hT F.entry_dict_itemiterator_next (itemT_item hit hd dt hne he fun g b1 b2 b3 b4=>⟨_,rfl,wpAny_pure (hQ g b1 b2 b3 b4)⟩) (F.args_dict_itemiterator_next_1 _))))
theorem nextI_end {it d:Addr} {i ep:Nat} {ok ov:Value} {o:Obj} {es:Array DictEntry} {Q:Option Value→Shared→Prop} (hh:A.handled=none) (hit:IsItemIter s.heap it d i es.size ep ok ov) (hd:s.heap.get? d=some o) (dt:o.data=.dict es ep) (he:es[i]?=none)
  (hQ:∀ g,Heap.ExtBut it s.heap g→Q none { s with heap:=g }):wpAny (model prog w) A (pyNext (.ref it)) Q E s:=by
 have hT:s.TypeIs (.ref it) "dict_itemiterator":=⟨_,hit,rfl⟩
 unfold pyNext
 refine wpAny_bind (wpAny_attempt (wpAny_callSpecial?_slot (name:=Str.ofString "__next__") hT F.slot_dict_itemiterator_next (wpAny_call_entry F.slot_dict_itemiterator_next hT F.entry_dict_itemiterator_next (itemT_end hh hit hd dt he fun g e kp hx=>?_) (F.args_dict_itemiterator_next_1 _))))
 obtain ⟨o,go,co⟩:=hx
 exact wpAny_bind (wpAny_isInstance (T:="StopIteration") (b:=true) ⟨o,go,co⟩ isSubtype_stop (wpAny_pure (hQ _ kp)))
theorem call_items {d:Addr} {o:Obj} {Q:Value→Shared→Prop} (hn:(d == sysModules)=false) (hd:s.heap.get? d=some o) (ho:o.ExactDict)
  (h:Q (.ref s.heap.objs.size) { s with heap:=s.heap.push { cls:=.type "dict_items",data:=.fields #[.ref d] } }):wpAny (model prog w) A (call (.builtin "dict.items") [.ref d]) Q E s:=by
 have hT:s.TypeIs (.ref d) "dict":=⟨_,hd,ho.1⟩
 refine wpAny_call_entry F.slot_dict_items hT F.entry_dict_items ?_ (F.args_dict_items_1 _)
 unfold Builtin.«dict.items» Builtin.Dict.noArgs Builtin.Dict.notOrdered
 rw [if_pos (by decide)]
 refine wpAny_bind (wpAny_bind (wpAny_bind (wpAny_typeOf hT ?_)))
 rw [if_neg (by decide)]
 refine wpAny_pure (wpAny_bind ?_)
 rw [show Builtin.Dict.nameIsSure "items" ⟨[.ref d],[]⟩ (!(⟨[.ref d],[]⟩:Args).kw.isEmpty || (⟨[.ref d],[]⟩:Args).pos.length != 1)=pure () from rfl]
 refine wpAny_pure (wpAny_bind ?_)
 rw [show selfOnly (toString "dict."++toString "items") ⟨[.ref d],[]⟩=pure (.ref d) from rfl]
 refine wpAny_pure (wpAny_pure (wpAny_bind ?_))
 unfold Builtin.Dict.showsAll
 rw [hn]
 refine wpAny_pure (wpAny_bind ?_)
 unfold newFields
 exact wpAny_newObj_type (wpAny_pure ⟨_,rfl,h⟩) (by size_fits)
theorem iter_items {v d:Addr} {o:Obj} {es:Array DictEntry} {ep:Nat} {Q:Value→Shared→Prop} (hv:s.heap.get? v=some { cls:=.type "dict_items",data:=.fields #[.ref d] }) (hd:s.heap.get? d=some o) (dt:o.data=.dict es ep)
  (h:Q (.ref s.heap.objs.size) { s with heap:=s.heap.push { cls:=.type "dict_itemiterator",data:=.fields #[.none,.bool false,.ref d,.int 0 0,.int es.size 0,.int ep 0,.none,.none] } }):wpAny (model prog w) A (pyIter (.ref v)) Q E s:=by
 have hT:s.TypeIs (.ref v) "dict_items":=⟨_,hv,rfl⟩
 refine wpAny_pyIter_slot hT F.slot_dict_items_iter (wpAny_call_entry F.slot_dict_items_iter hT F.entry_dict_items_iter ?_ (F.args_dict_items_iter_1 _))
 unfold Builtin.«dict_items.__iter__» Builtin.Dict_items.dictOf Builtin.Dict_items.newIterator
 rw [show Builtin.Dict_items.slot0 "__iter__" ⟨[.ref v],[]⟩=pure (.ref v) from rfl]
 refine wpAny_bind (wpAny_pure (wpAny_bind (wpAny_bind (wpAny_field hv rfl (x:=.ref d) rfl (wpAny_pure ?_)))))
 refine wpAny_bind (wpAny_bind (wpAny_dictEntries hd dt (wpAny_bind (wpAny_dictEpoch hd dt ?_))))
 unfold newFields
 refine wpAny_newObj_type (wpAny_pure ⟨_,rfl,"dict_itemiterator",_,⟨_,Heap.get?_push_size _ rfl,rfl⟩,F.slot_dict_itemiterator_next.lookup,?_⟩) (by show 8≤sizeLine+2;decide)
 exact h
end
def Iti (d:Addr) (o:Obj) (kvs:List (List Key×V)):It :=
 ⟨fun i H=>H d=some (.frz o (.dT kvs))∧i<kvs.length,fun i H x H'=>∃ p k v q,kvs[i]?=some (k,v)∧x=.ref p∧H p=none∧H q=some (.tup (k.map kV))∧H'=upd H p (.tup [.ref q,v]),fun i H=>H d=some (.frz o (.dT kvs))∧kvs.length≤i⟩
theorem turn_items {P:Program} {w:World} {K:PySem.W.Frag} {els:List Expr} {x1} {pos:Pos} (d it:Addr) (o:Obj) (es:Array DictEntry) (ep:Nat) (kvs:List (List Key×V)) (od:o.data=.dict es ep) (hl:es.size=kvs.length) (hne:d≠it) :
  Turn P w K (.Tuple els x1 pos) (Iti d o kvs) [it] it (fun i h=>∃ ok ov,IsItemIter h it d i es.size ep ok ov) where
 mem:=by simp
 obj:=fun i h st b hb=>by
  have e:b=it:=by simpa using hb
  subst e
  obtain ⟨ok,ov,g⟩:=st
  exact ⟨_,g,fun v z=>by cases z⟩
 keep:=fun i h h' st k=>by
  obtain ⟨ok,ov,g⟩:=st
  exact ⟨ok,ov,k it (by simp) _ g⟩
 item:=by
  intro X hP hw hK hc i pins s σ H E I hf st hg
  subst hP hw hK
  obtain ⟨ok,ov,st⟩:=st
  obtain ⟨hd,hi⟩:=hg
  obtain ⟨g0,_,xs,es',ep',r,_,od',he⟩:=frz_at I hd
  rw [od] at od'
  cases od'
  obtain ⟨kv,hkv⟩:∃ kv,kvs[i]?=some kv:=⟨_,List.getElem?_eq_getElem hi⟩
  obtain ⟨⟨k,ad,vl⟩,hx,hk1,hk2,hk3⟩:=Paired.at r hkv
  have hes:es[i]?=some (entryOfKey (tupleKind (mixKind X.prog X.w)) (k,ad,vl)):=by
   rw [← Array.getElem?_toList,he,List.getElem?_map,hx]
   rfl
  refine nextI_item st g0 od hne hes fun g1 st1 T1 n1 kp1=>⟨_,rfl,?_⟩
  refine wpAny_letOwnedTupleGo_items st1 fun h2 st2 e2=>?_
  have lz:=Heap.lt_size st
  have ne:s.heap.objs.size≠it:=Nat.ne_of_gt lz
  have T2:h2.get? s.heap.objs.size=some { cls:=.type "tuple",data:=.seq #[.ref ad,vl] }:=(e2.2 _ ne).trans T1
  have hHn:H s.heap.objs.size=none:=I.hok.fresh (Nat.le_refl _)
  have kpn:∀ b o,b ∉ [it]→s.heap.get? b=some o→h2.get? b=some o:=fun b o hn q=>(e2.2 b fun z=>hn (by simp [z])).trans (kp1 b o (fun z=>hn (by simp [z])) q)
  refine ⟨.ref s.heap.objs.size,upd H s.heap.objs.size (.tup [.ref ad,kv.2]),?_,rfl,⟨_,kv.1,kv.2,ad,hkv,rfl,hHn,hk2,rfl⟩,⟨_,_,st2⟩,fun b hb=>?_⟩
  ·exact I.turnedN (t':=s.toks) (h':=h2) kpn hf (Nat.le_refl _) ⟨by show 2≤sizeLine;decide,[.ref ad,vl],.cons rfl (.cons hk3 .nil),_,T2,rfl,0,rfl⟩
  ·have e:b=it:=by simpa using hb
   subst e
   rw [upd_ne ne.symm]
   exact (hf b hb).1
 done:=by
  intro X hP hw hK hc i pins s σ H E I hf st hg
  subst hP hw hK
  obtain ⟨ok,ov,st⟩:=st
  obtain ⟨hd,hi⟩:=hg
  obtain ⟨g0,_,xs,es',ep',r,_,od',he⟩:=frz_at I hd
  rw [od] at od'
  cases od'
  obtain ⟨f0,f1,f2,f3,f4,f5⟩:=hf it (by simp)
  exact nextI_end (I.ok.hd hc) st g0 od (by rw [Array.getElem?_eq_none_iff];omega) fun h' eb=>⟨rfl,I.turned (t':=s.toks) (fun b o hb e=>eb b o hb e) f0 f1 f3 f4 f5⟩
 self:=fun A i s Q E st h=>by
  obtain ⟨ok,ov,st⟩:=st
  have hT:s.TypeIs (.ref it) "dict_itemiterator":=⟨_,st,rfl⟩
  refine wpAny_pyIter_slot hT F.slot_dict_itemiterator_iter (wpAny_call_entry F.slot_dict_itemiterator_iter hT entry_iter_items ?_ (F.args_dict_itemiterator_iter_1 _))
  show wpAny _ _ (slotArgs "__iter__" 0 ⟨[.ref it],[]⟩ >>= _) _ _ _
  rw [show slotArgs "__iter__" 0 ⟨[.ref it],[]⟩=pure (.ref it,[]) from rfl]
  exact wpAny_bind (wpAny_pure (wpAny_pure ⟨_,rfl,"dict_itemiterator",_,hT,F.slot_dict_itemiterator_next.lookup,h⟩))
section
variable {X:Cx}
def iItems (td:TE):TI:=fun σ H R=>td σ H fun x H1=>∃ d kvs,x=.ref d∧((H1 d=some (.dT kvs)∧∀ o,R (Iti d o kvs) (upd H1 d (.frz o (.dT kvs))))∨∃ o,H1 d=some (.frz o (.dT kvs))∧R (Iti d o kvs) H1)
theorem pi_items {els:List Expr} {x1} {tpos:Pos} {o:Expr} {apos cpos:Pos} {td:TE} (ho:PE X o td) (hb:attributeBase o "items" X.env (eval o X.env)=eval o X.env:=by rfl) (hline:(apos.endLine == cpos.line)=true:=by rfl) :
  PI X (.Tuple els x1 tpos) (.Call (.Attribute o "items" apos) [] [] cpos) (iItems td):=by
 intro pins s σ H R I h
 refine wpAny_Call_method0_late hb hline (thn (ho pins s σ H _ I h) fun u s1 ⟨x,H1,I1,rx,d,kvs,ex,hq⟩=>?_)
 subst ex
 cases (show u=Value.ref d from rx)
 obtain ⟨ob,H2,e2,I2,q2⟩:∃ o H2,H2 d=some (.frz o (.dT kvs))∧Inv X pins σ H2 s1∧R (Iti d o kvs) H2:=by
  rcases hq with ⟨e1,q⟩ | ⟨o,e1,q⟩
  ·obtain ⟨o,_,I2⟩:=I1.freeze e1
   exact ⟨o,_,upd_same,I2,q o⟩
  ·exact ⟨o,H1,e1,I1,q⟩
 obtain ⟨g0,hn,xs,es,ep,r,xo,od,he⟩:=frz_at I2 e2
 have hl:es.size=kvs.length:=by rw [← Array.length_toList,he,List.length_map,← Paired.length r]
 refine ⟨"dict","dict.items",PySem.F.plainAttrs_dict,PySem.F.slot_dict_items,PySem.F.type_dict_items,⟨_,g0,xo.1⟩,fun b q=>?_,?_⟩
 ·cases q
  exact ⟨ob,g0,xo.2.1⟩
 refine Calls.callWith_builtin rfl (PySem.evalArgs_none ?_)
 refine call_items hn g0 xo ?_
 have n1:(s1.heap.push { cls:=.type "dict_items",data:=.fields #[.ref d] }).objs.size=s1.heap.objs.size+1:=Heap.size_push ..
 have lz:=Heap.lt_size g0
 refine iter_items (Heap.get?_push_size _ rfl) (Heap.get?_push_of_some _ g0) od ?_
 refine ⟨_,[_],_,Iti d ob kvs,H2,rfl,I2.kept (t':=s1.toks) (fun b u e=>Heap.get?_push_of_some _ (Heap.get?_push_of_some _ e)),turn_items d _ ob es ep kvs od hl (by show d≠(s1.heap.push _).objs.size;rw [n1];exact Nat.ne_of_lt (Nat.lt_succ_of_lt lz)),⟨_,_,Heap.get?_push_size _ rfl⟩,fun b hb=>?_,q2⟩
 have e:b=s1.heap.objs.size+1:=by rw [← n1];simpa using hb
 subst e
 exact I2.fpOk (Nat.le_succ _) (I2.hok.fresh (Nat.le_succ _))
end
end L2
namespace Lw
open PySem PySem.Spec PyProof.Rows L2 Ma MaR
theorem subAt_one {x:List Nat} {c i:Nat} (h:i<x.length):Builtin.Str.subAt (S x) (S [c]) i=decide (x[i]?=some c):=by
 unfold Builtin.Str.subAt
 have e:((S x).cps.extract i (i+(S [c]).length))=#[x[i]]:=by
  apply Array.ext'
  rw [S_len]
  show ((x.toArray).extract i (i+1)).toList=[x[i]]
  simp only [Array.toList_extract,List.extract_eq_drop_take]
  rw [show i+1 - i=1 by omega,List.drop_eq_getElem_cons h]
  rfl
 rw [e,List.getElem?_eq_getElem h]
 show (#[x[i]] == #[c])=_
 by_cases q:x[i]=c
 ·rw [q];simp
 ·rw [decide_eq_false (by simpa using q)]
  simpa using q
theorem occ_go {x:List Nat} {c:Nat}:∀ (k i:Nat) (arr:Array Nat) (free:Nat),i+k=x.length+1→free≤i→arr.size≤i →
  (Id.run (forIn (List.range' i k) (arr,free) (StrLaws.occBody (S x) (S [c]) (S x).length ((S x).length+1)))).1.size=arr.size+(x.drop i).countP (fun d=>decide (d=c))
 | 0,i,arr,free,h1,h2,h3=>by
  rw [List.drop_eq_nil_of_le (by omega)]
  rfl
 | k+1,i,arr,free,h1,h2,h3=>by
  rw [List.range'_succ,List.forIn_cons]
  by_cases hi:i<x.length
  ·have hd:x.drop i=x[i]::x.drop (i+1):=List.drop_eq_getElem_cons hi
   by_cases q:x[i]=c
   ·have e:StrLaws.occBody (S x) (S [c]) (S x).length ((S x).length+1) i (arr,free)=pure (ForInStep.yield (arr.push i,i+1)):=by
     unfold StrLaws.occBody
     rw [if_pos]
     ·rfl
     ·refine ⟨⟨⟨by rw [S_len];show arr.size<_;omega,h2⟩,by rw [S_len,S_len];show i+1≤_;omega⟩,by rw [subAt_one hi,List.getElem?_eq_getElem hi,q];simp⟩
    rw [e]
    show (Id.run (forIn (List.range' (i+1) k) (arr.push i,i+1) _)).1.size=_
    rw [occ_go k (i+1) (arr.push i) (i+1) (by omega) (Nat.le_refl _) (by rw [Array.size_push];omega),Array.size_push,hd,List.countP_cons,if_pos (by simpa using q)]
    omega
   ·have e:StrLaws.occBody (S x) (S [c]) (S x).length ((S x).length+1) i (arr,free)=pure (ForInStep.yield (arr,free)):=by
     unfold StrLaws.occBody
     rw [if_neg]
     intro z
     have:=z.2
     rw [subAt_one hi,List.getElem?_eq_getElem hi] at this
     exact q (by simpa using this)
    rw [e]
    show (Id.run (forIn (List.range' (i+1) k) (arr,free) _)).1.size=_
    rw [occ_go k (i+1) arr free (by omega) (by omega) (by omega),hd,List.countP_cons,if_neg (by simpa using q)]
    omega
  ·have e:StrLaws.occBody (S x) (S [c]) (S x).length ((S x).length+1) i (arr,free)=pure (ForInStep.yield (arr,free)):=by
    unfold StrLaws.occBody
    rw [if_neg]
    intro z
    have:=z.1.2
    rw [S_len,S_len] at this
    have:i+1≤x.length:=this
    omega
   rw [e]
   show (Id.run (forIn (List.range' (i+1) k) (arr,free) _)).1.size=_
   rw [occ_go k (i+1) arr free (by omega) (by omega) (by omega),List.drop_eq_nil_of_le (by omega:x.length≤i),List.drop_eq_nil_of_le (by omega)]
def ctN (x:List Nat) (c:Nat):Nat:=x.countP fun d=>decide (d=c)
theorem cntS_one (x:List Nat) (c:Nat):cntS (S x) (S [c])=((ctN x c:Nat):Int):=by
 unfold cntS
 rw [StrLaws.occ_eq,Array.length_toList]
 have:=occ_go (x:=x) (c:=c) (x.length+1) 0 #[] 0 (by omega) (Nat.le_refl _) (Nat.le_refl _)
 rw [S_len] at *
 rw [Nat.sub_zero,this]
 simp [ctN]
section
variable (c:Nat) (sd:List Nat)
def aft (e:Nat):List Nat:=if e∈sd then [c] else []
def bef (e:Nat):List Nat:=if con e∈sd then [con c] else []
def own1 (e:Nat):List Nat:=if e=c∨e=con c then [] else [e]
def tel (e:Nat):List Nat:=bef c sd e++own1 c e++aft c sd e
def jn (p e:Nat):List Nat:=if p∈sd then (if con e∈sd then [] else [c]) else (if con e∈sd then [con c] else [])
def Zf:Nat→List Nat→List Nat
 | _,[]=>[]
 | p,e::r=>jn c sd p e++own1 c e++Zf e r
end
def lastD:Nat→List Nat→Nat
 | p,[]=>p
 | _,e::r=>lastD e r
section
variable {c:Nat} {sd:List Nat}
theorem aft_all (hc:isL c) (e:Nat):AllL (aft c sd e):=by
 unfold aft
 split
 ·exact fun d hd=>by rw [List.mem_singleton.mp hd];exact hc
 ·exact AllL.nil
theorem bef_all (hc:isL c) (e:Nat):AllL (bef c sd e):=by
 unfold bef
 split
 ·exact fun d hd=>by rw [List.mem_singleton.mp hd];exact isL_con hc
 ·exact AllL.nil
theorem own_all {e:Nat} (he:isL e):AllL (own1 c e):=by
 unfold own1
 split
 ·exact AllL.nil
 ·exact fun d hd=>by rw [List.mem_singleton.mp hd];exact he
theorem jn_all (hc:isL c) (p e:Nat):AllL (jn c sd p e):=by
 unfold jn
 split <;> split
 ·exact AllL.nil
 ·exact fun d hd=>by rw [List.mem_singleton.mp hd];exact hc
 ·exact fun d hd=>by rw [List.mem_singleton.mp hd];exact isL_con hc
 ·exact AllL.nil
theorem Zf_all (hc:isL c):∀ (x:List Nat) (p:Nat),AllL x→AllL (Zf c sd p x)
 | [],_,_=>AllL.nil
 | e::r,p,h=>AllL.app.mpr ⟨AllL.app.mpr ⟨jn_all hc p e,own_all (AllL.cons.mp h).1⟩,Zf_all hc r e (AllL.cons.mp h).2⟩
theorem tel_all (hc:isL c):∀ x:List Nat,AllL x→AllL (x.flatMap (tel c sd))
 | [],_=>AllL.nil
 | e::r,h=>by
  rw [List.flatMap_cons]
  exact AllL.app.mpr ⟨AllL.app.mpr ⟨AllL.app.mpr ⟨bef_all hc e,own_all (AllL.cons.mp h).1⟩,aft_all hc e⟩,tel_all hc r (AllL.cons.mp h).2⟩
theorem jn_lay (hc:isL c) {u v:List Nat} (hu:AllL u) (hv:AllL v) (p e:Nat):lay (u++(aft c sd p++bef c sd e)++v)=lay (u++jn c sd p e++v):=by
 unfold aft bef jn
 by_cases h1:p∈sd
 ·by_cases h2:con e∈sd
  ·rw [if_pos h1,if_pos h2,if_pos h1,if_pos h2]
   rw [List.append_nil]
   show lay (u++[c,con c]++v)=_
   rw [List.append_assoc]
   exact lay_cut u v hu (isL_con hc) (con_con hc).symm
  ·rw [if_pos h1,if_neg h2,if_pos h1,if_neg h2,List.append_nil]
 ·by_cases h2:con e∈sd
  ·rw [if_neg h1,if_pos h2,if_neg h1,List.nil_append]
  ·rw [if_neg h1,if_neg h2,if_neg h1,List.nil_append]
theorem tel_lay (hc:isL c):∀ (x:List Nat) (p:Nat) (u:List Nat),AllL u→AllL x→lay (u++aft c sd p++x.flatMap (tel c sd))=lay (u++Zf c sd p x++aft c sd (lastD p x))
 | [],p,u,_,_=>by
  show lay (u++aft c sd p++[])=lay (u++[]++aft c sd p)
  rw [List.append_nil,List.append_nil]
 | e::r,p,u,hu,hx=>by
  obtain ⟨he,hr⟩:=AllL.cons.mp hx
  rw [List.flatMap_cons]
  show lay (u++aft c sd p++(bef c sd e++own1 c e++aft c sd e++r.flatMap (tel c sd)))=lay (u++(jn c sd p e++own1 c e++Zf c sd e r)++aft c sd (lastD e r))
  have h1:=jn_lay hc (sd:=sd) hu (v:=own1 c e++aft c sd e++r.flatMap (tel c sd)) (AllL.app.mpr ⟨AllL.app.mpr ⟨own_all he,aft_all hc e⟩,tel_all hc r hr⟩) p e
  have h2:=tel_lay hc r e (u++jn c sd p e++own1 c e) (AllL.app.mpr ⟨AllL.app.mpr ⟨hu,jn_all hc p e⟩,own_all he⟩) hr
  simp only [List.append_assoc] at h1 h2 ⊢
  rw [h1,h2]
def Ch:Nat→List Nat→Prop
 | _,[]=>True
 | p,e::r=>e≠con p∧Ch e r
def Adm (c:Nat) (sd:List Nat) (p L:Nat):Prop:=(p≠c∧p≠con c∧L=p)∨(p=c∧(L=c∨(L≠c∧L≠con c∧¬ L∈sd)))∨(p=con c∧(L=con c∨(L≠c∧L≠con c∧L∈sd)))
theorem Zf_plain (hc:isL c) (h1:c∈sd) (h2:¬ con c∈sd):∀ (x:List Nat) (p:Nat),isL p→AllL x→Ch p x→Plain (Zf c sd p x)∧∀ L,isL L→Adm c sd p L→∀ f t,Zf c sd p x=f::t→f≠con L
 | [],p,_,_,_=>⟨trivial,fun L _ _ f t h=>by cases h⟩
 | e::r,p,hp,hx,hch=>by
  obtain ⟨he,hr⟩:=AllL.cons.mp hx
  obtain ⟨n1,hch'⟩:=hch
  obtain ⟨ih1,ih2⟩:=Zf_plain hc h1 h2 r e he hr hch'
  have cc:=con_con hc
  have cn:=con_ne hc
  show Plain (jn c sd p e++own1 c e++Zf c sd e r)∧∀ L,isL L→Adm c sd p L→∀ f t,jn c sd p e++own1 c e++Zf c sd e r=f::t→f≠con L
  by_cases e1:e=c
  ·subst e1
   have ho:own1 e e=[]:=by unfold own1;rw [if_pos (.inl rfl)]
   rw [ho,List.append_nil]
   by_cases hps:p∈sd
   ·have hj:jn e sd p e=[e]:=by unfold jn;rw [if_pos hps,if_neg h2]
    rw [hj]
    refine ⟨plain_cons ih1 fun d t ht z=>?_,fun L hL ad f t ht=>?_⟩
    ·have ht:Zf e sd e r=d::t:=ht
     exact ih2 e he (.inr (.inl ⟨rfl,.inl rfl⟩)) d t ht (by rw [z,con_con (by have:=Zf_all (sd:=sd) hc r e hr;rw [ht] at this;exact (AllL.cons.mp this).1)])
    ·have ef:f=e:=by cases ht;rfl
     subst ef
     intro z
     have z2:con f=L:=by rw [z,con_con hL]
     rcases ad with ⟨a1,a2,a3⟩ | ⟨a1,a2 | ⟨a2,a3,a4⟩⟩ | ⟨a1,_⟩
     ·exact a2 (by rw [← a3,z2])
     ·rw [a2] at z;exact cn z.symm
     ·exact a3 z2.symm
     ·exact n1 (by rw [a1,cc])
   ·have hj:jn e sd p e=[]:=by unfold jn;rw [if_neg hps,if_neg h2]
    rw [hj]
    refine ⟨ih1,fun L hL ad f t ht=>ih2 L hL (.inr (.inl ⟨rfl,.inr ?_⟩)) f t ht⟩
    rcases ad with ⟨a1,a2,a3⟩ | ⟨a1,_⟩ | ⟨a1,_⟩
    ·rw [a3];exact ⟨a1,a2,hps⟩
    ·exact absurd (by rw [a1];exact h1) hps
    ·exact absurd (by rw [a1,cc]) n1
  ·by_cases e2:e=con c
   ·subst e2
    have ho:own1 c (con c)=[]:=by unfold own1;rw [if_pos (.inr rfl)]
    rw [ho,List.append_nil]
    have hce:con (con c)∈sd:=by rw [cc];exact h1
    by_cases hps:p∈sd
    ·have hj:jn c sd p (con c)=[]:=by unfold jn;rw [if_pos hps,if_pos hce]
     rw [hj]
     refine ⟨ih1,fun L hL ad f t ht=>ih2 L hL (.inr (.inr ⟨rfl,.inr ?_⟩)) f t ht⟩
     rcases ad with ⟨a1,a2,a3⟩ | ⟨a1,_⟩ | ⟨a1,_⟩
     ·rw [a3];exact ⟨a1,a2,hps⟩
     ·exact absurd (by rw [a1]) n1
     ·exact absurd (by rw [← a1];exact hps) h2
    ·have hj:jn c sd p (con c)=[con c]:=by unfold jn;rw [if_neg hps,if_pos hce]
     rw [hj]
     refine ⟨plain_cons ih1 fun d t ht z=>?_,fun L hL ad f t ht=>?_⟩
     ·have ht:Zf c sd (con c) r=d::t:=ht
      exact ih2 (con c) he (.inr (.inr ⟨rfl,.inl rfl⟩)) d t ht (by rw [z,con_con (by have:=Zf_all (sd:=sd) hc r (con c) hr;rw [ht] at this;exact (AllL.cons.mp this).1)])
     ·have ef:f=con c:=by cases ht;rfl
      subst ef
      intro z
      have z2:c=L:=by rw [← cc,z,con_con hL]
      rcases ad with ⟨a1,a2,a3⟩ | ⟨a1,_⟩ | ⟨a1,a2 | ⟨a2,a3,a4⟩⟩
      ·exact a1 (by rw [← a3,← z2])
      ·exact hps (by rw [a1];exact h1)
      ·rw [a2] at z2;exact cn z2.symm
      ·exact a2 z2.symm
   ·have ho:own1 c e=[e]:=by unfold own1;rw [if_neg (by intro z;rcases z with z | z;exact e1 z;exact e2 z)]
    rw [ho]
    have pe:Plain (e::Zf c sd e r):=plain_cons ih1 fun d t ht z=>ih2 e he (.inl ⟨e1,e2,rfl⟩) d t ht (by rw [z,con_con (by have:=Zf_all (sd:=sd) hc r e hr;rw [ht] at this;exact (AllL.cons.mp this).1)])
    have hcase:(p∈sd∧¬ con e∈sd∧jn c sd p e=[c])∨(¬ p∈sd∧con e∈sd∧jn c sd p e=[con c])∨((p∈sd↔con e∈sd)∧jn c sd p e=[]):=by
     unfold jn
     by_cases q1:p∈sd <;> by_cases q2:con e∈sd <;> simp [q1,q2]
    rcases hcase with ⟨q1,q2,hj⟩ | ⟨q1,q2,hj⟩ | ⟨q,hj⟩
    ·rw [hj]
     refine ⟨plain_cons pe fun d t ht z=>?_,fun L hL ad f t ht=>?_⟩
     ·have ed:d=e:=by cases ht;rfl
      subst ed
      exact e2 (by rw [z,con_con he])
     ·have ef:f=c:=by cases ht;rfl
      subst ef
      intro z
      have z2:con f=L:=by rw [z,con_con hL]
      rcases ad with ⟨a1,a2,a3⟩ | ⟨a1,a2 | ⟨a2,a3,a4⟩⟩ | ⟨a1,_⟩
      ·exact a2 (by rw [← a3,z2])
      ·rw [a2] at z;exact cn z.symm
      ·exact a3 z2.symm
      ·exact h2 (by rw [← a1];exact q1)
    ·rw [hj]
     refine ⟨plain_cons pe fun d t ht z=>?_,fun L hL ad f t ht=>?_⟩
     ·have ed:d=e:=by cases ht;rfl
      subst ed
      exact e1 (by rw [← con_con he,← z,cc])
     ·have ef:f=con c:=by cases ht;rfl
      subst ef
      intro z
      have z2:c=L:=by rw [← cc,z,con_con hL]
      rcases ad with ⟨a1,a2,a3⟩ | ⟨a1,_⟩ | ⟨a1,a2 | ⟨a2,a3,a4⟩⟩
      ·exact a1 (by rw [← a3,← z2])
      ·exact q1 (by rw [a1];exact h1)
      ·rw [a2] at z2;exact cn z2.symm
      ·exact a2 z2.symm
    ·rw [hj]
     refine ⟨pe,fun L hL ad f t ht=>?_⟩
     have ef:f=e:=by cases ht;rfl
     subst ef
     intro z
     have z2:con f=L:=by rw [z,con_con hL]
     rcases ad with ⟨a1,a2,a3⟩ | ⟨a1,a2 | ⟨a2,a3,a4⟩⟩ | ⟨a1,a2 | ⟨a2,a3,a4⟩⟩
     ·exact n1 (by rw [← a3];exact z)
     ·exact e2 (by rw [z,a2])
     ·exact a4 (by rw [← z2];exact q.mp (by rw [a1];exact h1))
     ·exact e1 (by rw [z,a2,cc])
     ·exact h2 (by rw [← a1];exact q.mpr (by rw [z2];exact a4))
def lvK (sd:List Nat) (p q:Nat):Bool:=decide (p∈sd) != decide (q∈sd)
theorem jn_len (p e:Nat):(jn c sd p e).length=if lvK sd p (con e) then 1 else 0:=by
 unfold jn lvK
 by_cases q1:p∈sd <;> by_cases q2:con e∈sd <;> simp [q1,q2]
theorem own_len (e:Nat):(own1 c e).length+((if e=c then 1 else 0)+(if e=con c∧e≠c then 1 else 0))=1:=by
 unfold own1
 by_cases q1:e=c
 ·simp [q1]
 ·by_cases q2:e=con c
  ·rw [if_pos (.inr q2),if_neg q1,if_pos ⟨q2,q1⟩];rfl
  ·rw [if_neg (by intro z;rcases z with z | z;exact q1 z;exact q2 z),if_neg q1,if_neg (fun z=>q2 z.1)];rfl
def lvN (sd:List Nat):Nat→List Nat→Nat
 | _,[]=>0
 | p,e::r=>(if lvK sd p (con e) then 1 else 0)+lvN sd e r
theorem Zf_len (hc:isL c):∀ (x:List Nat) (p:Nat),(Zf c sd p x).length+(ctN x c+ctN x (con c))=x.length+lvN sd p x
 | [],p=>rfl
 | e::r,p=>by
  have ih:=Zf_len hc r e
  have h1:=jn_len (c:=c) (sd:=sd) p e
  have h2:=own_len (c:=c) e
  have cn:=con_ne hc
  show (jn c sd p e++own1 c e++Zf c sd e r).length+_=_
  rw [List.length_append,List.length_append,List.length_cons]
  unfold ctN at *
  rw [List.countP_cons,List.countP_cons]
  show _=r.length+1+((if lvK sd p (con e) then 1 else 0)+lvN sd e r)
  have h3:(if e=con c∧e≠c then 1 else 0)=(if decide (e=con c)=true then 1 else 0):=by
   by_cases q:e=con c
   ·rw [if_pos ⟨q,by rw [q];exact cn⟩,if_pos (by simpa using q)]
   ·rw [if_neg (fun z=>q z.1),if_neg (by simpa using q)]
  have h4:(if e=c then 1 else 0)=(if decide (e=c)=true then 1 else 0):=by
   by_cases q:e=c
   ·rw [if_pos q,if_pos (by simpa using q)]
   ·rw [if_neg q,if_neg (by simpa using q)]
  rw [h3,h4] at h2
  omega
theorem ch_of {x:List Nat}:∀ (y:List Nat) (p:Nat),isL p→AllL y→(∀ k a b,(p::y)[k]?=some a→(p::y)[k+1]?=some b→a≠con b)→Ch p y
 | [],_,_,_,_=>trivial
 | e::r,p,hp,hy,h=>by
  obtain ⟨he,hr⟩:=AllL.cons.mp hy
  refine ⟨fun z=>h 0 p e rfl rfl (by rw [z,con_con hp]),ch_of (x:=x) r e he hr fun k a b h1 h2=>h (k+1) a b (by simpa using h1) (by simpa using h2)⟩
theorem ch_app:∀ {u:List Nat} {p:Nat} {v:List Nat},Ch p u→Ch (lastD p u) v→Ch p (u++v)
 | [],_,_,_,h=>h
 | e::r,_,v,h1,h2=>⟨h1.1,ch_app (u:=r) h1.2 h2⟩
theorem Zf_app:∀ (u:List Nat) (p:Nat) (v:List Nat),Zf c sd p (u++v)=Zf c sd p u++Zf c sd (lastD p u) v
 | [],_,_=>rfl
 | e::r,p,v=>by
  show jn c sd p e++own1 c e++Zf c sd e (r++v)=jn c sd p e++own1 c e++Zf c sd e r++Zf c sd (lastD e r) v
  rw [Zf_app r e v]
  simp only [List.append_assoc]
theorem lastD_get:∀ (x:List Nat) (p:Nat),x≠[]→lastD p x=x.getD (x.length - 1) 0
 | [e],_,_=>rfl
 | e::f::r,p,_=>by
  have:=lastD_get (f::r) e (by simp)
  show lastD e (f::r)=_
  rw [this]
  simp
theorem ring_shape {n:Nat} {x:List Nat} (h:RgN n x):AllL x∧Plain x∧(x≠[]→Ends x 0):=by
 obtain ⟨y,hy,hp,m,b,he,hb,rfl⟩:=h
 have ha:=hy.all
 have hm:=mid_all (m:=m) ha
 have hcy:=mid_cyc ha hp he
 rcases hb with ⟨e0,rfl⟩ | ⟨hb,_⟩
 ·rw [e0]
  exact ⟨AllL.nil,trivial,fun z=>absurd rfl z⟩
 ·refine ⟨?_,rot_plainC hcy hb,fun _=>rot_ends hm hcy hb⟩
  intro d hd
  unfold rot at hd
  rcases List.mem_append.mp hd with z | z
  ·exact hm d (List.mem_of_mem_drop z)
  ·exact hm d (List.mem_of_mem_take z)
theorem ring_ch {n:Nat} {x:List Nat} (h:RgN n x) (hne:x≠[]):Ch (lastD 0 x) x:=by
 obtain ⟨ha,hp,he⟩:=ring_shape h
 have hpos:=List.length_pos_iff.mpr hne
 have el:=lastD_get x 0 hne
 refine ch_of (x:=x) x _ (by rw [el];exact getD_isL ha (by omega)) ha fun k a b h1 h2=>?_
 cases k with
 | succ k=>exact plain_get hp (by simpa using h1) (by simpa using h2)
 | zero =>
  have e1:a=lastD 0 x:=by simpa using h1.symm
  have e2:b=x.getD 0 0:=by
   have:x[0]?=some b:=by simpa using h2
   rw [List.getD_eq_getElem?_getD,this];rfl
  rw [e1,e2,el]
  by_cases hl:1<x.length
  ·intro z
   refine (he hne).2 ⟨by omega,?_⟩
   rw [Nat.sub_zero,z,con_con (getD_isL ha hpos)]
  ·have:x.length - 1=0:=by omega
   rw [this]
   exact (con_ne (getD_isL ha hpos)).symm
theorem ring_len {n:Nat} {f:List (List Nat)} {x r:List Nat} (hc:isL c) (h1:c∈sd) (h2:¬ con c∈sd) (hx:RgN n x) (ht:told f x=x.flatMap (tel c sd)) (hr:RingR (retl f x) r) :
  r.length+(ctN x c+ctN x (con c))=x.length+lvN sd (lastD 0 x) x:=by
 by_cases hne:x=[]
 ·subst hne
  have:=hr.len
  have e:retl f []=[]:=rfl
  rw [e] at this
  have:r.length=0:=by simpa using this
  rw [this];rfl
 ·obtain ⟨ha,hp,he⟩:=ring_shape hx
  have hch:=ring_ch hx hne
  have hpos:=List.length_pos_iff.mpr hne
  have el:=lastD_get x 0 hne
  obtain ⟨p,ep⟩:∃ p,p=lastD 0 x:=⟨_,rfl⟩
  have hpL:isL p:=by rw [ep,el];exact getD_isL ha (by omega)
  have lp:lastD p x=p:=by rw [ep,lastD_get x _ hne,el]
  rw [← ep] at hch ⊢
  have hw:=tel_all (sd:=sd) hc x ha
  have hg:=aft_all (sd:=sd) hc p
  have hZa:=Zf_all (sd:=sd) hc x p ha
  obtain ⟨hZ,_⟩:=Zf_plain hc h1 h2 x p hpL ha hch
  obtain ⟨hZZ,_⟩:=Zf_plain hc h1 h2 (x++x) p hpL (AllL.app.mpr ⟨ha,ha⟩) (ch_app hch (by rw [lp];exact hch))
  rw [Zf_app,lp] at hZZ
  have hl:=Zf_len (sd:=sd) hc x p
  have e1:retl f x=lay (x.flatMap (tel c sd)):=by unfold retl;rw [ht]
  have hra:AllL (retl f x):=by rw [e1];exact lay_all hw
  have hrp:Plain (retl f x):=by unfold retl;exact lay_plain _
  have hq:=ring_conj hra hrp hr (aft c sd p) hg
  have e2:lay (aft c sd p++retl f x++back (aft c sd p))=Zf c sd p x:=by
   rw [e1,← lay_left _ _ (AllL.app.mpr ⟨hg,lay_all hw⟩),lay_right _ _ hg hw]
   have:=tel_lay (sd:=sd) hc x p [] AllL.nil ha
   rw [List.nil_append,List.nil_append,lp] at this
   rw [this,lay_left _ _ (AllL.app.mpr ⟨hZa,hg⟩)]
   unfold aft
   split
   ·show lay (Zf c sd p x++[c]++[con c])=_
    rw [List.append_assoc]
    have:=lay_cut (Zf c sd p x) [] hZa (isL_con hc) (con_con hc).symm
    rw [List.append_nil] at this
    rw [show [c]++[con c]=[c,con c] from rfl,this,lay_id hZ]
   ·show lay (Zf c sd p x++[]++[])=_
    rw [List.append_nil,List.append_nil,lay_id hZ]
  rw [e2] at hq
  have he0:Ends (Zf c sd p x) 0:=by
   refine ⟨fun j hj=>absurd hj (Nat.not_lt_zero _),fun ⟨q1,q2⟩=>?_⟩
   generalize Zf c sd p x=Z at *
   have l1:(Z++Z)[Z.length - 1]?=some (Z.getD (Z.length - 1) 0):=by
    rw [List.getElem?_append_left (by omega)];exact get_getD (by omega)
   have l2:(Z++Z)[Z.length - 1+1]?=some (Z.getD 0 0):=by
    rw [List.getElem?_append_right (by omega),show Z.length - 1+1 - Z.length=0 by omega];exact get_getD (by omega)
   refine plain_get hZZ l1 l2 ?_
   rw [q2,Nat.sub_zero,con_con (getD_isL hZa (by omega))]
  obtain ⟨m,b,hm,hb,rfl⟩:=hq
  have em:=hm.inj he0
  subst em
  rw [mid_zero] at hb ⊢
  rw [rot_len (by rcases hb with ⟨_,rfl⟩ | ⟨hb,_⟩;exact Nat.zero_le _;omega)]
  exact hl
theorem low_of {c e:Nat} (hc:isL c) (he:isL e) (hl:isLow e=true):e=lo c↔e=c∨e=con c:=by
 rcases isL_cases hc with rfl | rfl | rfl | rfl | rfl | rfl | rfl | rfl <;> rcases isL_cases he with rfl | rfl | rfl | rfl | rfl | rfl | rfl | rfl <;> revert hl <;> decide
theorem tel_self {e:Nat} (hcL:isL c) (h1:c∈sd) (h2:¬ con c∈sd) (h:e=c∨e=con c):tel c sd e=[e]:=by
 have cc:=con_con hcL
 unfold tel bef own1 aft
 rw [if_pos h]
 rcases h with rfl | rfl
 ·rw [if_neg h2,if_pos h1];rfl
 ·rw [cc,if_pos h1,if_neg h2];rfl
theorem chg_tel {d:Nat} (hcL:isL c) (hd:isL d) (hl:isLow d=true) (h1:c∈sd) (h2:¬ con c∈sd):chg c sd d=tel c sd d:=by
 by_cases q:d=lo c
 ·rw [tel_self hcL h1 h2 ((low_of hcL hd hl).mp q)]
  unfold chg
  rw [if_pos q]
 ·have q':¬ (d=c∨d=con c):=fun z=>q ((low_of hcL hd hl).mpr z)
  unfold chg tel bef own1 aft
  rw [if_neg q,if_neg q']
theorem back_tel {e:Nat} (hcL:isL c) (he:isL e) (h1:c∈sd) (h2:¬ con c∈sd):back (tel c sd (con e))=tel c sd e:=by
 have cc:=con_con hcL
 have ce:=con_con he
 by_cases q:e=c∨e=con c
 ·have q2:con e=c∨con e=con c:=by
   rcases q with rfl | rfl
   ·exact .inr rfl
   ·exact .inl cc
  rw [tel_self hcL h1 h2 q,tel_self hcL h1 h2 q2]
  show [con (con e)]=[e]
  rw [ce]
 ·have q2:¬ (con e=c∨con e=con c):=by
   intro z
   rcases z with z | z
   ·exact q (.inr (by rw [← ce,z]))
   ·exact q (.inl (con_inj he hcL z))
  unfold tel bef own1 aft back
  rw [if_neg q,if_neg q2,ce]
  by_cases a1:e∈sd <;> by_cases a2:con e∈sd <;> simp [a1,a2,cc,ce]
theorem tel_chg {n:Nat} (n1:1≤n) (n4:n≤4) (hc:c∈letsN n) (h1:c∈sd) (h2:¬ con c∈sd) {e:Nat} (he:e∈letsN n):tell (chgR n c sd) e=tel c sd e:=by
 have hcL:=letsN_isL hc
 have heL:=letsN_isL he
 rcases lets_low n1 n4 he with ⟨hl,hg⟩ | ⟨hl,hg⟩
 ·unfold tell
  rw [if_pos hl]
  unfold chgR
  rw [List.getD_eq_getElem?_getD,List.getElem?_map,hg]
  exact chg_tel hcL heL hl h1 h2
 ·unfold tell
  rw [if_neg (by rw [hl];decide)]
  unfold chgR
  rw [List.getD_eq_getElem?_getD,List.getElem?_map,hg]
  show back (chg c sd (con e))=_
  have hlc:isLow (con e)=true:=by
   revert hl
   rcases isL_cases heL with rfl | rfl | rfl | rfl | rfl | rfl | rfl | rfl <;> decide
  rw [chg_tel hcL (isL_con heL) hlc h1 h2]
  exact back_tel hcL heL h1 h2
theorem told_chg {n:Nat} (n1:1≤n) (n4:n≤4) (hc:c∈letsN n) (h1:c∈sd) (h2:¬ con c∈sd) {x:List Nat} (hx:OfN n x):told (chgR n c sd) x=x.flatMap (tel c sd):=by
 unfold told
 exact flat_congr fun e he=>tel_chg n1 n4 hc h1 h2 (hx e he)
end
def lvP (sd:List Nat) (k:KP):Bool:=match k with
 | [a,b]=>inV (kV a) (lstC sd) != inV (kV b) (lstC sd)
 | _=>false
theorem lv_tie (sd:List Nat) (p q:Nat):lvP sd (tieK p q)=lvK sd p q:=by
 unfold tieK
 split
 ·show (inV (.str (S [p])) (lstC sd) != inV (.str (S [q])) (lstC sd))=_
  rw [in_lstO,in_lstO];rfl
 ·show (inV (.str (S [q])) (lstC sd) != inV (.str (S [p])) (lstC sd))=_
  rw [in_lstO,in_lstO]
  unfold lvK
  cases decide (p∈sd) <;> cases decide (q∈sd) <;> rfl
def tiesF:Nat→List Nat→List KP
 | _,[]=>[]
 | p,e::r=>tieK p (con e)::tiesF e r
theorem tiesF_get:∀ (x:List Nat) (p i:Nat),i<x.length→(tiesF p x)[i]?=some (tieK (if i=0 then p else x.getD (i - 1) 0) (con (x.getD i 0)))
 | e::r,p,0,_=>rfl
 | e::r,p,i+1,h=>by
  show (tiesF e r)[i]?=_
  rw [tiesF_get r e i (by simpa using h)]
  by_cases q:i=0
  ·subst q;rfl
  ·rw [if_neg q,if_neg (by omega)]
   obtain ⟨j,rfl⟩:∃ j,i=j+1:=⟨i - 1,by omega⟩
   rfl
theorem tiesF_len:∀ (x:List Nat) (p:Nat),(tiesF p x).length=x.length
 | [],_=>rfl
 | e::r,p=>by show (tiesF e r).length+1=_;rw [tiesF_len r e];rfl
theorem tiesW_F (x:List Nat):tiesW x=tiesF (lastD 0 x) x:=by
 refine List.ext_getElem? fun i=>?_
 by_cases h:i<x.length
 ·rw [tiesF_get x _ i h]
  unfold tiesW
  rw [List.getElem?_map,List.getElem?_range h]
  have hne:x≠[]:=fun z=>by rw [z] at h;simp at h
  show some (tieK (prevL x i) (con (x.getD i 0)))=_
  unfold prevL
  rw [lastD_get x 0 hne]
 ·rw [List.getElem?_eq_none (by rw [tiesW_len];omega),List.getElem?_eq_none (by rw [tiesF_len];omega)]
theorem lvN_F (sd:List Nat):∀ (x:List Nat) (p:Nat),lvN sd p x=(tiesF p x).countP (lvP sd)
 | [],_=>rfl
 | e::r,p=>by
  show (if lvK sd p (con e) then 1 else 0)+lvN sd e r=(tieK p (con e)::tiesF e r).countP (lvP sd)
  rw [List.countP_cons,lv_tie,lvN_F sd r e]
  omega
theorem lvN_W (sd x:List Nat):lvN sd (lastD 0 x) x=(tiesW x).countP (lvP sd):=by rw [tiesW_F,lvN_F]
def valI:V→Int
 | .int i=>i
 | _=>0
def sumL (sd:List Nat) (kvs:List (KP×V)):Int:=((kvs.filter fun kv=>lvP sd kv.1).map fun kv=>valI kv.2).sum
theorem sumL_cons (sd:List Nat) (p:KP×V) (r:List (KP×V)):sumL sd (p::r)=(if lvP sd p.1 then valI p.2 else 0)+sumL sd r:=by
 unfold sumL
 by_cases h:lvP sd p.1=true
 ·rw [List.filter_cons_of_pos (p:=fun kv:KP×V=>lvP sd kv.1) h,if_pos h];rfl
 ·rw [List.filter_cons_of_neg (p:=fun kv:KP×V=>lvP sd kv.1) h,if_neg h];omega
theorem num_cons (p:KP×V) (r:List (KP×V)) (k:KP) (h:¬ p.1=k):num (p::r) k=num r k:=by unfold num;rw [valV_neg h]
theorem sumL_repl (sd:List Nat) {k:KP} {i:Int}:∀ {kvs:List (KP×V)},(kvs.map (·.1)).Nodup→(∀ kv∈kvs,∃ j,kv.2=.int j)→k∈kvs.map (·.1) →
  sumL sd (kvs.map fun kv=>if kv.1=k then (kv.1,.int i) else kv)=sumL sd kvs+(if lvP sd k then i - num kvs k else 0)
 | [],_,_,h=>nomatch h
 | p::r,hn,hi,hk=>by
  rw [List.map_cons,List.nodup_cons] at hn
  rw [List.map_cons,sumL_cons,sumL_cons]
  by_cases e:p.1=k
  ·subst e
   have same:(r.map fun kv=>if kv.1=p.1 then (kv.1,V.int i) else kv)=r:=by
    refine (List.map_congr_left fun kv hkv=>?_).trans (List.map_id r)
    rw [if_neg]
    ·rfl
    ·intro z
     exact hn.1 (by rw [← z];exact List.mem_map.mpr ⟨kv,hkv,rfl⟩)
   rw [same,if_pos rfl]
   obtain ⟨j,hj⟩:=hi p List.mem_cons_self
   have en:num (p::r) p.1=j:=by unfold num;rw [valV_pos rfl,hj]
   rw [en,hj]
   show (if lvP sd p.1 then i else 0)+_=(if lvP sd p.1 then j else 0)+_+_
   split <;> omega
  ·have hk':k∈r.map (·.1):=by
    rw [List.map_cons] at hk
    rcases List.mem_cons.mp hk with z | z
    ·exact absurd z.symm e
    ·exact z
   rw [if_neg e,sumL_repl sd hn.2 (fun kv h=>hi kv (List.mem_cons_of_mem _ h)) hk',num_cons p r k e]
   omega
theorem sumL_snoc (sd:List Nat) (kvs:List (KP×V)) (p:KP×V):sumL sd (kvs++[p])=sumL sd kvs+(if lvP sd p.1 then valI p.2 else 0):=by
 unfold sumL
 rw [List.filter_append,List.map_append,List.sum_append]
 by_cases h:lvP sd p.1=true
 ·rw [List.filter_cons_of_pos (p:=fun kv:KP×V=>lvP sd kv.1) h,if_pos h];simp
 ·rw [List.filter_cons_of_neg (p:=fun kv:KP×V=>lvP sd kv.1) h,if_neg h];simp
theorem sumL_Dk (sd:List Nat):∀ ks:List KP,sumL sd (Dk ks)=((ks.countP (lvP sd):Nat):Int):=by
 refine snoc_ind rfl fun ks k ih=>?_
 rw [Dk_snoc,List.countP_append]
 have hcs:(([k]:List KP).countP (lvP sd):Nat)=if lvP sd k then 1 else 0:=by
  rw [List.countP_cons,List.countP_nil];omega
 rw [hcs]
 unfold bump putK
 by_cases h:((Dk ks).any fun kv=>decide (kv.1=k))=true
 ·rw [if_pos h]
  have hk:k∈(Dk ks).map (·.1):=by
   obtain ⟨kv,hkv,e⟩:=List.any_eq_true.mp h
   exact List.mem_map.mpr ⟨kv,hkv,of_decide_eq_true e⟩
  rw [sumL_repl sd (Dk_nd ks) (fun kv hkv=>⟨_,(Dk_mem hkv).1⟩) hk,ih]
  split <;> omega
 ·rw [if_neg h,sumL_snoc,ih]
  have hz:num (Dk ks) k=0:=by
   unfold num
   cases hv:valV (Dk ks) k with
   | none=>rfl
   | some v =>
    exfalso
    apply h
    obtain ⟨kv,hkv,e⟩:=List.mem_map.mp (val_key hv)
    exact List.any_eq_true.mpr ⟨kv,hkv,decide_eq_true e⟩
  rw [hz]
  show _+(if lvP sd k then (0:Int)+1 else 0)=_
  split <;> omega
end Lw
namespace L2
open PySem PySem.Spec PyProof.Rows
theorem comp2_items {K:PySem.W.Frag} {d:Addr} {o:Obj} {kvs:List (List Key×V)} {D:Addr} {Q:VK} {ti:TT} {te:TE} {c:St} {H0:Hp} (Pv:Nat→Hp→Prop) (h0:Pv 0 H0) (hl:∀ i H,i≤kvs.length→Pv i H→H d=some (.frz o (.dT kvs)))
  (hs:∀ i k v p q H,kvs[i]?=some (k,v)→H p=none→H q=some (.tup (k.map kV))→Pv i H→ti (some (.ref q)::some v::c) (upd H p (.tup [.ref q,v])) fun b H1=>if b=true then te (some (.ref q)::some v::c) H1 fun y H2=>∃ ys,H2 D=some (.lst ys)∧ys.length<sizeLine∧Pv (i+1) (upd H2 D (.lst (ys++[y]))) else Pv (i+1) H1)
  (hd:∀ H,Pv kvs.length H→Q (.ref D) H):compGo2 K (Iti d o kvs) D Q ti te c H0:=by
 refine ⟨fun i m H'=>m=kvs.length - i∧i≤kvs.length∧Pv i H',⟨kvs.length,by simp,Nat.zero_le _,h0⟩,?_⟩
 rintro i m H' ⟨rfl,hi,p⟩
 have q:=hl i H' hi p
 by_cases hlt:i<kvs.length
 ·refine .inr ⟨⟨q,hlt⟩,Pv (i+1),fun H'' p=>⟨kvs.length - (i+1),by omega,rfl,hlt,p⟩,fun v H2 y=>?_⟩
  obtain ⟨pp,k,v',qq,hk,rfl,hn,hq,rfl⟩:=y
  exact ⟨pp,.ref qq,v',rfl,SqT.of upd_same,hs i k v' pp qq H' hk hn hq p⟩
 ·have e:i=kvs.length:=by omega
  subst e
  exact .inl ⟨⟨q,Nat.le_refl _⟩,hd H' p⟩
end L2
namespace Lw
open PySem PySem.Spec PyProof.Rows L2 Ma MaR
structure GoodS (n c:Nat) (sd:List Nat):Prop where
 base:GoodC n c sd
 inn:c∈sd
 out:¬ con c∈sd
def RowR (f rs qs:List (List Nat)):Prop:=qs.length=rs.length∧∀ (i:Nat) (x q:List Nat),rs[i]?=some x→qs[i]?=some q→RingR (retl f x) q
def spRingsX (K:PySem.W.Frag):Sp:=fun vs H Q _=>∃ (a b:Addr) (f rs:List (List Nat)) (n:Nat),vs=[.ref a,.ref b]∧SqT K H a (wds f)∧SqT K H b (wds rs)∧RT f n 3∧(∀ x∈f,OfN n x)∧1≤n∧n≤4∧rs.length≤100∧(∀ x∈rs,OfN n x∧x.length≤100) ∧
 ∀ (p:Addr) (qs:List (List Nat)) (H':Hp),H p=none→Same H H'→RowR f rs qs→(∀ y∈qs,RgN n y∧y.length≤300)→H' p=some (.tup (wds qs))→Q (.ref p) H'
theorem chg_row {n c:Nat} {sd:List Nat} (n1:1≤n) (n4:n≤4) (g:GoodS n c sd):∀ {rs qs:List (List Nat)},(∀ x∈rs,RgN n x)→RowR (chgR n c sd) rs qs →
  totL qs+((rs.map fun x=>ctN x c+ctN x (con c)).sum)=totL rs+(tiesR rs).countP (lvP sd)
 | [],qs,_,h=>by
  have:qs=[]:=List.length_eq_zero_iff.mp h.1
  rw [this];rfl
 | x::rs,[],_,h=>by exact absurd h.1 (by simp)
 | x::rs,q::qs,hx,h=>by
  have ih:=chg_row n1 n4 g (rs:=rs) (qs:=qs) (fun y hy=>hx y (List.mem_cons_of_mem _ hy)) ⟨by have:=h.1;simpa using this,fun i y z h1 h2=>h.2 (i+1) y z (by simpa using h1) (by simpa using h2)⟩
  have hr:=h.2 0 x q rfl rfl
  have hx0:=hx x List.mem_cons_self
  have key:=ring_len (letsN_isL g.base.let') g.inn g.out hx0 (told_chg n1 n4 g.base.let' g.inn g.out hx0.ofn) hr
  rw [lvN_W] at key
  unfold totL tiesR at *
  rw [List.map_cons,List.sum_cons,List.map_cons,List.sum_cons,List.map_cons,List.sum_cons,List.map_cons,List.flatten_cons,List.countP_append]
  omega
theorem cnt_row:∀ (rs:List (List Nat)) (c:Nat),cntR rs c=(((rs.map fun x=>ctN x c+ctN x (con c)).sum:Nat):Int)
 | [],_=>rfl
 | x::rs,c=>by
  have:=cnt_row rs c
  unfold cntR at *
  rw [List.map_cons,List.sum_cons,this,cntS_one,cntS_one,List.map_cons,List.sum_cons]
  omega
theorem ahead_len {n c:Nat} {sd:List Nat} (n1:1≤n) (n4:n≤4) (g:GoodS n c sd) {rs qs:List (List Nat)} (hx:∀ x∈rs,RgN n x) (h:RowR (chgR n c sd) rs qs) :
  ((totL rs:Nat):Int) - cntR rs c+sumL sd (Dk (tiesR rs))=((totL qs:Nat):Int):=by
 have:=chg_row n1 n4 g hx h
 rw [cnt_row,sumL_Dk]
 omega
theorem tie_pair {rs:List (List Nat)} {k:KP} (h:k∈tiesR rs):∃ p q,k=tieK p q:=by
 unfold tiesR tiesW at h
 obtain ⟨l,hl,hk⟩:=List.mem_flatten.mp h
 obtain ⟨x,_,rfl⟩:=List.mem_map.mp hl
 obtain ⟨i,_,rfl⟩:=List.mem_map.mp hk
 exact ⟨_,_,rfl⟩
theorem tie_two (p q:Nat):∃ u v:Nat,tieK p q=[lk u,lk v]:=by
 unfold tieK
 split
 ·exact ⟨p,q,rfl⟩
 ·exact ⟨q,p,rfl⟩
def spLeave:Sp:=fun vs H Q _=>∃ (t q:Addr) (rs:List (List Nat)) (sd:List Nat),vs=[.ref t,.ref q]∧H t=some (.dT (Dk (tiesR rs)))∧H q=some (.tup (lstC sd))∧totL rs≤900∧∀ H',Same H H'→Q (.int (sumL sd (Dk (tiesR rs)))) H'
theorem take_succ_filterG {α:Type} (p:α→Bool) (l:List α) (i:Nat) (x:α) (h:l[i]?=some x):(l.take (i+1)).filter p=(l.take i).filter p++(if p x then [x] else []):=by
 rw [List.take_add_one,h,List.filter_append]
 congr 1
 show [x].filter p=_
 by_cases q:p x=true
 ·rw [List.filter_cons_of_pos q,if_pos q];rfl
 ·rw [List.filter_cons_of_neg q,if_neg q];rfl
end Lw
namespace Lw
open PySem PySem.Spec PyProof.Rows L2 Ma MaR
theorem lstC_flatT (sd:List Nat):(lstC sd).all flatV=true:=by
 rw [List.all_eq_true]
 intro v hv
 obtain ⟨x,_,rfl⟩:=List.mem_map.mp hv
 rfl
theorem letV_take {n:Nat} (h1:1≤n) (h4:n≤4):letV.take (2 * n)=lstC (letsN n):=by
 rcases n14 h1 h4 with rfl | rfl | rfl | rfl <;> rfl
def spLetT (K:PySem.W.Frag):Sp:=fun vs H Q _=>∃ n:Nat,vs=[.int (n:Nat)]∧1≤n∧n≤4∧∀ (p:Addr) (H':Hp),Same H H'→SqT K H' p (lstC (letsN n))→Q (.ref p) H'
end Lw
namespace L2
open PySem PySem.Spec PyProof.Rows
theorem eqV_refl {x:V} (h:flatV x=true):eqV x x=true:=by
 cases x <;> first | (simp [eqV];done) | exact absurd (show false=true from h) Bool.false_ne_true
section
variable {X:Cx}
open Classical in
end
section
variable {prog:Program} {w:World} {A:Around} {E:Value→Shared→Prop} {K:PySem.W.Frag} {C f:Addr} {h:Heap} {g:Array GenState} {d:Drawn} {t:Nat} {os:OsState}
end
section
variable {prog:Program} {w:World} {A:Around} {E:Value→Shared→Prop} {K:PySem.W.Frag} {C f a:Addr} {s:Shared} {vs:Array Value} {sl:Array (Option Value)} {name:Str} {v:Value}
end
section
variable {X:Cx} {pins:List (Addr×Obj)} {σ:St} {H:Hp} {s:Shared} {C f a:Addr}
end
section
variable {X:Cx} {k:Nat} {f C:Addr} {fd:FuncData} {ps:List Str} {sp:Sp} {x m:Str} {p pos pos' apos:Pos} {e o value:Expr} {es:List Expr} {ta tv:TE} {t:TA}
end
section
variable {prog:Program} {w:World} {A:Around} {E:Value→Shared→Prop} {K:PySem.W.Frag} {C f a:Addr} {ox:Obj} {od:Option Obj} {s:Shared} {name:Str} {v:Value} {tk:Tok}
end
section
variable {X:Cx} {pins:List (Addr×Obj)} {σ:St} {H:Hp} {s:Shared} {a C f dx:Addr} {D:Option Addr}
end
section
variable {M:Model} {A:Around} {E:Value→Shared→Prop} {s:Shared} {base:Heap} {env:Env} {outer:List Env} {L a:Addr} {oe:Obj} {vs:Array Value}
end
section
variable {X:Cx} {pins:List (Addr×Obj)} {σ:St} {H:Hp} {s:Shared} {C f a:Addr} {D:Option Addr} {h':Heap}
end
section
variable {X:Cx} {pins:List (Addr×Obj)} {σ:St} {H:Hp} {s:Shared}
end
section
variable {X:Cx} {CX:CXT} {k:Nat} {f C:Addr} {fd:FuncData} {ps:List Str} {sp:Sp} {dvs:List V} {ds:List Value} {EX:St→XK} {x m:Str} {p pos apos:Pos} {e o:Expr} {es:List Expr} {ta:TE} {t:TA}
end
section
variable {X:Cx}
end
section
variable {X:Cx} {K:PySem.W.Frag}
end
end L2
namespace Lw
open PySem PySem.Spec PyProof.Rows L2
end Lw
namespace L2
open PySem PySem.Spec PyProof.Rows
theorem cat_tup0 {prog:Program} {w:World} {A:Around} {E:Value→Shared→Prop} {s:Shared} {t b:Addr} {ws:List Value} {Q:Value→Shared→Prop} (ht:IsTup s.heap t (([]:List Value).toArray)) (hb:IsTup s.heap b ws.toArray)
  (h1:Q (.ref b) s):wpAny (model prog w) A (binaryOp .Add (.ref t) (.ref b)) Q E s:=by
 obtain ⟨⟨cls,dd,data,sl⟩,ho,hc,n,hd⟩:=id ht
 obtain ⟨⟨cls2,dd2,data2,sl2⟩,ho2,hc2,n2,hd2⟩:=id hb
 simp only at hc hd hc2 hd2
 subst hc hd hc2 hd2
 exact concat_meets ⟨_,ho,rfl⟩ ⟨_,ho2,rfl⟩ noFill_tuple_add seq_tuple_add PySem.F.slot_tuple_add PySem.F.entry_tuple_add (PySem.F.args_tuple_add_2 _ _)
   (tuple_addW0 t b _ ws.toArray n n2 dd dd2 sl sl2 (by simp)) ⟨ho,ho2,h1⟩
end L2
namespace Lw
open PySem PySem.Spec PyProof.Rows L2 Ma MaR
def stepS (c:Nat) (L:List (List Nat)) (o:Nat):List (List Nat):=if o=con c then L else if o=c then L.map (·++[o]) else L++L.map (·++[o])
def sidesF (c:Nat) (L:List Nat):List (List Nat):=L.foldl (stepS c) [[]]
theorem sidesF_snoc (c:Nat) (L:List Nat) (o:Nat):sidesF c (L++[o])=stepS c (sidesF c L) o:=by unfold sidesF;rw [List.foldl_append];rfl
theorem sub_snoc {α:Type} {r L:List α} {o:α}:r.Sublist (L++[o])↔r.Sublist L∨∃ q,r=q++[o]∧q.Sublist L:=by
 constructor
 ·intro h
  obtain ⟨l1,l2,rfl,h1,h2⟩:=List.sublist_append_iff.mp h
  have:l2=[]∨l2=[o]:=by
   cases h2 with
   | cons _ h=>cases h;exact .inl rfl
   | cons_cons _ h=>cases h;exact .inr rfl
  rcases this with rfl | rfl
  ·rw [List.append_nil];exact .inl h1
  ·exact .inr ⟨l1,rfl,h1⟩
 ·rintro (h | ⟨q,rfl,h⟩)
  ·exact h.trans (List.sublist_append_left _ _)
  ·exact h.append (List.Sublist.refl _)
theorem mem_sides {c:Nat} (hc:c≠con c):∀ (k:Nat) (L:List Nat),L.length=k→L.Nodup→∀ sd,sd∈sidesF c L↔sd.Sublist L∧¬ con c∈sd∧(c∈L→c∈sd)
 | 0,L,hk,_,sd=>by
  have:L=[]:=List.length_eq_zero_iff.mp hk
  subst this
  unfold sidesF
  constructor
  ·intro h
   have h2:sd=[]:=by simpa using h
   subst h2
   exact ⟨List.Sublist.refl _,by simp,fun z=>by cases z⟩
  ·rintro ⟨h,_,_⟩
   have h2:sd=[]:=by simpa using h
   subst h2
   simp
 | k+1,L,hk,hN,sd=>by
  have hne:L≠[]:=fun z=>by rw [z] at hk;simp at hk
  obtain ⟨M,o,rfl⟩:∃ M o,L=M++[o]:=⟨L.dropLast,L.getLast hne,(List.dropLast_concat_getLast hne).symm⟩
  have hMk:M.length=k:=by simpa using hk
  have hMN:M.Nodup:=(List.nodup_append.mp hN).1
  have hoM:¬ o∈M:=fun z=>(List.nodup_append.mp hN).2.2 o z o (by simp) rfl
  have ih:=mem_sides hc k M hMk hMN
  rw [sidesF_snoc]
  unfold stepS
  by_cases h1:o=con c
  ·rw [if_pos h1,ih sd,sub_snoc]
   constructor
   ·rintro ⟨a,b,d⟩
    refine ⟨.inl a,b,fun z=>d ?_⟩
    rcases List.mem_append.mp z with q | q
    ·exact q
    ·exact absurd ((List.mem_singleton.mp q).trans h1) hc
   ·rintro ⟨a,b,d⟩
    refine ⟨?_,b,fun z=>d (List.mem_append_left _ z)⟩
    rcases a with a | ⟨q,rfl,a⟩
    ·exact a
    ·exact absurd (by rw [h1];simp) b
  ·rw [if_neg h1]
   by_cases h2:o=c
   ·rw [if_pos h2,List.mem_map]
    constructor
    ·rintro ⟨r,hr,rfl⟩
     obtain ⟨a,b,d⟩:=(ih r).mp hr
     refine ⟨sub_snoc.mpr (.inr ⟨r,rfl,a⟩),fun z=>?_,fun _=>by rw [h2];simp⟩
     rcases List.mem_append.mp z with q | q
     ·exact b q
     ·exact h1 (List.mem_singleton.mp q).symm
    ·rintro ⟨a,b,d⟩
     have hcs:c∈sd:=d (by rw [h2];simp)
     rcases sub_snoc.mp a with a | ⟨r,rfl,a'⟩
     ·exact absurd (a.subset hcs) (by rw [← h2];exact hoM)
     ·refine ⟨r,(ih r).mpr ⟨a',fun z=>b (List.mem_append_left _ z),fun z=>absurd z (by rw [← h2];exact hoM)⟩,rfl⟩
   ·rw [if_neg h2,List.mem_append,List.mem_map,ih sd]
    constructor
    ·rintro (⟨a,b,d⟩ | ⟨r,hr,rfl⟩)
     ·refine ⟨sub_snoc.mpr (.inl a),b,fun z=>?_⟩
      rcases List.mem_append.mp z with q | q
      ·exact d q
      ·exact absurd (List.mem_singleton.mp q).symm h2
     ·obtain ⟨a,b,d⟩:=(ih r).mp hr
      refine ⟨sub_snoc.mpr (.inr ⟨r,rfl,a⟩),fun z=>?_,fun z=>List.mem_append_left _ ?_⟩
      ·rcases List.mem_append.mp z with q | q
       ·exact b q
       ·exact h1 (List.mem_singleton.mp q).symm
      ·rcases List.mem_append.mp z with q | q
       ·exact d q
       ·exact absurd (List.mem_singleton.mp q).symm h2
    ·rintro ⟨a,b,d⟩
     rcases sub_snoc.mp a with a | ⟨r,rfl,a'⟩
     ·exact .inl ⟨a,b,fun z=>d (List.mem_append_left _ z)⟩
     ·refine .inr ⟨r,(ih r).mpr ⟨a',fun z=>b (List.mem_append_left _ z),fun z=>?_⟩,rfl⟩
      rcases List.mem_append.mp (d (List.mem_append_left _ z)) with q | q
      ·exact q
      ·exact absurd (List.mem_singleton.mp q).symm h2
theorem sidesF_len (c:Nat):∀ (k:Nat) (L:List Nat),L.length=k→(sidesF c L).length≤2 ^ k
 | 0,L,hk=>by
  have:L=[]:=List.length_eq_zero_iff.mp hk
  subst this
  unfold sidesF
  simp
 | k+1,L,hk=>by
  have hne:L≠[]:=fun z=>by rw [z] at hk;simp at hk
  obtain ⟨M,o,rfl⟩:∃ M o,L=M++[o]:=⟨L.dropLast,L.getLast hne,(List.dropLast_concat_getLast hne).symm⟩
  have ih:=sidesF_len c k M (by simpa using hk)
  rw [sidesF_snoc,Nat.pow_succ]
  unfold stepS
  split
  ·omega
  ·split
   ·rw [List.length_map];omega
   ·rw [List.length_append,List.length_map];omega
theorem lets_nodup {n:Nat} (h1:1≤n) (h4:n≤4):(letsN n).Nodup:=by
 rcases n14 h1 h4 with rfl | rfl | rfl | rfl <;> decide
def sidesL (n c:Nat):List (List Nat):=sidesF c (letsN n)
theorem SqT.setL {K:PySem.W.Frag} {H:Hp} {q d:Addr} {xs ys:List V} {o:HO} (h:SqT K H q xs) (e:H d=some (.lst ys)):SqT K (upd H d o) q xs:=by
 rcases h with (h | ⟨ob,h⟩) | h
 ·exact .inl (.inl ((upd_ne (fun z=>by rw [z,e] at h;cases h)).trans h))
 ·exact .inl (.inr ⟨ob,(upd_ne (fun z=>by rw [z,e] at h;cases h)).trans h⟩)
 ·exact .inr h
end Lw
namespace Lw
open PySem PySem.Spec PyProof.Rows L2 Ma MaR
end Lw
namespace Lw
open PySem PySem.Spec PyProof.Rows L2 Ma MaR
end Lw
namespace Lw
open PySem PySem.Spec PyProof.Rows L2 Ma MaR
end Lw
namespace Lw
open PySem PySem.Spec PyProof.Rows L2 Ma MaR
end Lw
namespace Lw
open PySem PySem.Spec PyProof.Rows L2 Ma MaR
end Lw
namespace Lw
open PySem PySem.Spec PyProof.Rows L2 Ma MaR
end Lw
namespace L2
open PySem PySem.Spec PyProof.Rows
end L2
namespace Lw
open PySem PySem.Spec PyProof.Rows L2
end Lw
namespace L2
open PySem PySem.Spec PyProof.Rows
end L2
namespace Lw
open PySem PySem.Spec PyProof.Rows L2 Ma MaR
end Lw
namespace Lw
open PySem PySem.Spec PyProof.Rows L2 Ma MaR
end Lw
namespace Lw
open PySem PySem.Spec PyProof.Rows L2 Ma MaR
theorem flat_ty (K:PySem.W.Frag) (H:Hp) {v:V} (h:flatV v=true):∃ t,BTy K H v t∧subT t "list"=false∧subT t "tuple"=false:=by
 cases v with
 | non=>exact ⟨_,.non,by decide,by decide⟩
 | bl b=>exact ⟨_,.bl b,by decide,by decide⟩
 | int i=>exact ⟨_,.int i,by decide,by decide⟩
 | str x=>exact ⟨_,.str x,by decide,by decide⟩
 | _=>exact absurd (show false=true from h) Bool.false_ne_true
end Lw
namespace Lw
open PySem PySem.Spec PyProof.Rows L2 Ma MaR
end Lw
namespace Lw
open PySem PySem.Spec PyProof.Rows L2 Ma MaR
end Lw
namespace L2
open PySem PySem.Spec PyProof.Rows
section
variable {X:Cx} {es:List Expr} {te:TE} {t:TA}
end
end L2
namespace Lw
open PySem PySem.Spec PyProof.Rows L2 Ma MaR
end Lw
namespace L2
open PySem PySem.Spec PyProof.Rows
section
variable {X:Cx} {es:List Expr} {te:TE} {t:TA}
end
def lamEnv (X:Cx) (scope:Scope) (qual:Str) (L fa:Addr) (cdv:Value):Env :=
 { scope:=scope,locals:=L,globals:=mainGlobals,cells:=clOf scope.names X.env.cells,qual:=qual++".<locals>.",func:=some fa,code:=cdv,frame:=some L,builtins:=builtinsNs }
def lamCx (X:Cx) (scope:Scope) (x:Str) (ix:List Nat) (qual:Str) (fa:Addr) (cdv:Value) (s:Shared) (H:Hp):Cx where
 prog:=X.prog
 w:=X.w
 K:=X.K
 mg:=X.mg
 base:=X.base
 A:=X.A.deeper (lamEnv X scope qual s.heap.objs.size fa cdv)
 N:=compN X x ix
 s₀:=s
 H₀:=H
 env:=lamEnv X scope qual s.heap.objs.size fa cdv
 outer:=X.stack
 stack:=lamEnv X scope qual s.heap.objs.size fa cdv::X.stack
 ex:=[]
 fn:=fun _=>false
 calm:=X.calm
 pn:=[]
 xe:=fun _ _=>False
section
variable {X:Cx} {scope:Scope} {x:Str} {ix:List Nat} {qual:Str} {fa:Addr} {cdv:Value}
theorem inv_lam {pins:List (Addr×Obj)} {σ:St} {H:Hp} {s:Shared} {h':Heap} {t':Nat} {v:V} {u:Value} (S:CompSc X scope x ix) (I:Inv X pins σ H s) (r:RelV v u)
  (ns:h'.Ns s.heap.objs.size (fun y=>[(x,u)].reverse.lookup y)) (sb:Heap.SameBut s.heap.objs.size (s.heap.push { cls:=.type "frame",data:=.dict #[] }) h') :
  Inv (lamCx X scope x ix qual fa cdv s H) [] (some v::capσ σ ix) H { s with heap:=h',toks:=t' }:=by
 have hk:∀ b u,s.heap.get? b=some u→h'.get? b=some u:=fun b u e=>(sb.2 b (Nat.ne_of_lt (Heap.lt_size e))).trans (Heap.get?_push_of_some _ e)
 have sound:∀ y c,(clOf scope.names X.env.cells).lookup y=some c→X.env.cells.lookup y=some c:=cl_sound scope.names [] (fun _ _ q=>by simp at q)
 have cellLt:∀ y c,X.env.cells.lookup y=some c→c<s.heap.objs.size:=fun y c e=>by
  obtain ⟨v,q⟩:=I.cell y c e
  exact q.lt
 have cellK:∀ y c v,X.env.cells.lookup y=some c→s.heap.IsCell c v→h'.IsCell c v:=fun y c v _ ⟨o,ho,hd⟩=>⟨o,hk c o ho,hd⟩
 have noA:∀ b:Addr,b ∉ (lamCx X scope x ix qual fa cdv s H).ex:=fun b z=>absurd (show b∈([]:List Addr) from z) (by simp)
 refine ⟨⟨I.ok.mod,S.kind,rfl,rfl,Nat.le_refl _,fun y z c h1 h2=>I.ok.inj y z c (sound y c h1) (sound z c h2),fun y hy=>?_,fun y c hf _=>(by cases hf),I.ok.hd,Around.frames_deeper I.ok.frames,.inr ⟨rfl,rfl⟩,fun b z=>absurd z (noA b),I.bs,Nat.le_trans I.ok.bsz I.sz,fun b _ _=>noA b,fun b z=>absurd z (noA b),I.stack,I.stkFree⟩,
  rfl,I.bare,Un.kept hk,⟨_,ns,fun i y v' h1 h2 h3=>?_⟩,fun y c e=>?_,I.hok.fresh (Nat.le_refl _),fun y c e=>I.freeC y c (sound y c e),fun p hp=>absurd (show p∈([]:List (Addr×Obj)) from hp) (by simp),I.hok.kept hk,?_⟩
 ·have hy':scope.names.lookup y=some .free:=by
   rcases (show scope.names.lookup y=some .cell∨scope.names.lookup y=some .free from hy) with h | h
   ·exact absurd rfl (S.nocell _ (PySem.mem_of_lookup h))
   ·exact h
  obtain ⟨c,hc⟩:=S.cells I.ok (y,.free) (PySem.mem_of_lookup hy') rfl
  exact Option.isSome_iff_exists.mp (cl_has scope.names [] y c (PySem.mem_of_lookup hy') hc)
 ·cases i with
  | zero =>
   have h1':x=y:=by simpa [lamCx,compN] using h1
   have h2':v=v':=by simpa using h2
   subst h1' h2'
   exact ⟨u,r,.inl ⟨S.x,by simp⟩⟩
  | succ i =>
   have h1':(ix.map fun i=>X.N.getD i "")[i]?=some y:=by simpa [lamCx,compN] using h1
   have h2':(ix.map fun i=>σ.getD i none)[i]?=some (some v'):=by simpa [capσ] using h2
   rw [List.getElem?_map] at h1' h2'
   cases ei:ix[i]? with
   | none=>rw [ei] at h1';cases h1'
   | some j =>
    rw [ei] at h1' h2'
    have h1'':X.N.getD j ""=y:=Option.some.inj h1'
    have h2'':σ.getD j none=some v':=Option.some.inj h2'
    obtain ⟨hj,hfr⟩:=S.cap j (List.mem_of_getElem? ei)
    rw [h1''] at hfr
    have e1:X.N[j]?=some y:=by
     rw [List.getElem?_eq_getElem hj]
     rw [List.getD_eq_getElem?_getD,List.getElem?_eq_getElem hj] at h1''
     exact congrArg some h1''
    have e2:σ[j]?=some (some v'):=by
     have hj':j<σ.length:=by rw [I.len];exact hj
     rw [List.getElem?_eq_getElem hj']
     rw [List.getD_eq_getElem?_getD,List.getElem?_eq_getElem hj'] at h2''
     exact congrArg some h2''
    have vis:Vis X.env.scope y:=by
     rcases S.free (y,.free) (PySem.mem_of_lookup hfr) rfl with q | q
     ·exact .inr (.inl q)
     ·exact .inr (.inr q)
    obtain ⟨m,hn,hl⟩:=I.loc
    obtain ⟨u',r',q⟩:=hl j y v' e1 e2 vis
    refine ⟨u',r',.inr ⟨.inr hfr,?_⟩⟩
    rcases q with ⟨k,_⟩ | ⟨_,c,hc,z⟩
    ·rcases S.free (y,.free) (PySem.mem_of_lookup hfr) rfl with q | q
     ·rw [show X.env.kindOf y=X.env.scope.names.lookup y from rfl,q] at k;cases k
     ·rw [show X.env.kindOf y=X.env.scope.names.lookup y from rfl,q] at k;cases k
    ·obtain ⟨c',hc'⟩:=Option.isSome_iff_exists.mp (cl_has scope.names [] y c (PySem.mem_of_lookup hfr) hc)
     have e3:=sound y c' hc'
     rw [hc] at e3;cases e3
     exact ⟨c,hc',cellK y c _ hc z⟩
 ·obtain ⟨v,q⟩:=I.cell y c (sound y c e)
  exact ⟨v,cellK y c v (sound y c e) q⟩
 ·simp [capσ,lamCx,compN]
theorem run_lam {pins:List (Addr×Obj)} {σ:St} {H:Hp} {s:Shared} {Q:VK} {v:V} {u:Value} {name:Str} {params:Arguments} {body:Expr} {te:TE} {pm ct:Value} {k:Nat} {sl:Array (Option Value)} {od:Option Addr} (S:CompSc X scope x ix)
  (hco:scope.isCoroutine=false) (hgen:scope.isGenerator=false) (hr:Room k X.A)
  (ho:s.heap.get? fa=some ⟨.type "function",od,.func (PySem.W.kla_fn name qual params body scope (clOf scope.names X.env.cells) pm cdv ct),sl⟩) (hcd:s.heap.CodeRec cdv qual)
  (hb:∀ u:Value,bindArgs (PySem.W.kla_fn name qual params body scope (clOf scope.names X.env.cells) pm cdv ct) ⟨[u],[]⟩=pure [(x,u)])
  (he:PE (lamCx X scope x ix qual fa cdv s H) body te) (I:Inv X pins σ H s) (r:RelV v u) (h:te (some v::capσ σ ix) H Q) :
  wpAny (model X.prog X.w) X.A (call (.ref fa) [u]) (EP X pins σ Q) X.xe s:=by
 have lim:s.heap.NoLimit:=I.ok.mod.nolimit.keeps fun b o e=>(I.bs b o e).1
 refine wpAny_call (PySem.W.kla_callFunE hr.depth ho rfl hco hgen rfl hcd ?_)
 rw [hb u]
 refine wpAny_pure ?_
 refine wpAny_newFunctionEnv S.nocell (fun y hy=>by rw [List.mem_singleton.mp hy];exact S.x) (fun h' ns sb=>?_) S.kind
 have hk:∀ b u,s.heap.get? b=some u→h'.get? b=some u:=fun b u e=>(sb.2 b (Nat.ne_of_lt (Heap.lt_size e))).trans (Heap.get?_push_of_some _ e)
 refine ⟨lim.keeps hk,PySem.W.kla_codeExpr ?_⟩
 have J:Inv (lamCx X scope x ix qual fa cdv s H) [] (some v::capσ σ ix) H { s with heap:=h',toks:=s.toks+[(x,u)].length }:=inv_lam S I r ns sb
 refine wpAny_mono (he [] _ _ H Q J h) (fun v' s' ⟨y,H',J',ry,q⟩=>?_) (fun _ _ f=>f.elim)
 exact I.after ⟨y,H',J'.os,J'.bare,J'.base,J'.hok,ry,q⟩
end
section
variable {X:Cx} {f:Addr} {sp:Sp} {rlt:R2}
theorem min_goA {pins:List (Addr×Obj)} {σ:St} {Q:VK} {l it bs:Addr} {xs:List V} {Pv:Nat→V→V→Hp→Prop}
  (hcall:∀ (pl:List (Addr×Obj)) (s:Shared) (H:Hp) (y:V) (u:Value) (Q:VK),Inv X.one (pins++pl) σ H s→RelV y u→sp [y] H Q E0→wpAny (model X.prog X.w) X.A.in1 (call (.ref f) [u]) (EP X.one (pins++pl) σ Q) (fun _ _=>False) s) (hlt:OpR X.one (compareOp .Lt) rlt) (hc:X.calm=true) (ok:X.Ok) (hne:bs≠it)
  (hsq:∀ i b kb H,Pv i b kb H→SqL X.K H l xs)
  (hst:∀ i b kb H,Pv i b kb H→∀ y,xs[i]?=some y→sp [y] H (fun v H2=>rlt v kb H2 fun c H3=>∃ t,c=.bl t∧Pv (i+1) (if t=true then y else b) (if t=true then v else kb) H3) E0)
  (hend:∀ b kb H,Pv xs.length b kb H→Q b H) :
  ∀ (r i:Nat) (s:Shared) (H:Hp) (b kb:V) (ub uk:Value) (c:Nat),xs.length - i=r→i≤xs.length→Inv X.one pins σ H s→(∀ a∈[it,bs],FpOk X.one pins H a)→s.heap.IsListIter it l i→s.heap.get? bs=some (seqObj "list" #[ub,uk] c)→RelV b ub→RelV kb uk→Pv i b kb H →
   codeAny (model X.prog X.w) X.A (.builtin "min.loop" ⟨[.ref it,.ref f,.ref bs],[]⟩) (MinR X pins σ Q) s:=by
 intro r
 induction r with
 | zero =>
  intro i s H b kb ub uk c hri hi I hf st gb rb rk pv
  have hin:i=xs.length:=by omega
  subst hin
  obtain ⟨its,rv,pl,hz⟩:=I.list (hsq _ _ _ _ pv)
  have hlen:=rv.length
  obtain ⟨f0,f1,f2,f3,f4,f5⟩:=hf it (by simp)
  obtain ⟨g0,g1,g2,g3,g4,g5⟩:=hf bs (by simp)
  refine codeAny_builtin PySem.F.entry_min_loop ?_
  rw [Around.under_plainId PySem.F.plain_min_loop _]
  show wpAny _ X.A.in1 (seqItems? (.ref bs) >>= _) _ _ _
  refine wpAny_bind (wpAny_seqItems gb rfl ?_)
  show wpAny _ X.A.in1 (tryCatch (pyNext (.ref it)) _ >>= _) _ _ _
  refine wpAny_bind (wpAny_tryCatch (wpAny_pyNext_list_end (I.ok.hd hc) st pl.isList (by simp;omega) fun h' eb=>?_))
  have I1:Inv X.one pins σ H { s with heap:=h' }:=I.turned (t':=s.toks) (fun a o ha e=>eb a o ha e) f0 f1 f3 f4 f5
  have gb1:=eb bs _ hne gb
  show wpAny _ X.A.in1 (updateSeq bs (fun _=>#[]) >>= _) _ _ _
  refine wpAny_bind (wpAny_updateSeq gb1 rfl (wpAny_bind (wpAny_letGo (wpAny_pure ?_))))
  have sb:=Heap.SameBut.update h' bs (Obj.mapSeq fun _=>(#[]:Array Value))
  have I2:=I1.turned (t':=s.toks) (h':=h'.update bs (Obj.mapSeq fun _=>(#[]:Array Value))) (fun a o ha e=>(sb.2 a ha).trans e) g0 g1 g3 g4 g5
  exact ⟨b,H,I2.unone ok,rb,hend _ _ _ pv⟩
 | succ r ih =>
  intro i s H b kb ub uk c hri hi I hf st gb rb rk pv
  have hlt':i<xs.length:=by omega
  obtain ⟨y,hy⟩:∃ y,xs[i]?=some y:=⟨_,List.getElem?_eq_getElem hlt'⟩
  obtain ⟨its,rv,pl,hz⟩:=I.list (hsq _ _ _ _ pv)
  obtain ⟨u,hu,ru⟩:=rv.get hy
  obtain ⟨f0,f1,f2,f3,f4,f5⟩:=hf it (by simp)
  obtain ⟨g0,g1,g2,g3,g4,g5⟩:=hf bs (by simp)
  refine codeAny_builtin PySem.F.entry_min_loop ?_
  rw [Around.under_plainId PySem.F.plain_min_loop _]
  show wpAny _ X.A.in1 (seqItems? (.ref bs) >>= _) _ _ _
  refine wpAny_bind (wpAny_seqItems gb rfl ?_)
  show wpAny _ X.A.in1 (tryCatch (pyNext (.ref it)) _ >>= _) _ _ _
  refine wpAny_bind (wpAny_tryCatch (wpAny_pyNext_list_item st pl.isList (x:=u) (by simpa using hu) fun h' st' sb=>?_))
  have I1:Inv X.one pins σ H { s with heap:=h' }:=I.turned (t':=s.toks) (fun a o ha e=>(sb.2 a ha).trans e) f0 f1 f3 f4 f5
  have gb1:h'.get? bs=some (seqObj "list" #[ub,uk] c):=(sb.2 bs hne).trans gb
  obtain ⟨oi,goi,goc,god⟩:=id st'
  have hob:∀ a∈[it,bs],∃ o,h'.get? a=some o∧∀ v,o.data≠.cell v:=fun a ha=>by
   rcases List.mem_cons.mp ha with rfl | ha
   ·exact ⟨oi,goi,fun v z=>by rw [god] at z;cases z⟩
   ·rw [List.mem_singleton.mp ha];exact ⟨_,gb1,fun v z=>by cases z⟩
  have I2:=I1.pinned hf hob
  show wpAny _ X.A.in1 (tryCatch (holding [u] (call (.ref f) [u])) _ >>= _) _ _ _
  refine wpAny_bind (wpAny_tryCatch (wpAny_holding (wpAny_mono (hcall _ _ _ _ _ _ I2 ru (hst i b kb H pv y hy)) (fun z s2 he=>?_) fun _ _ hF=>hF.elim)))
  obtain ⟨v,H2,I3,rz,q2⟩:=he
  show wpAny _ X.A.in1 (tryCatch (holding [u,z] (richCompare .Lt z uk >>= _)) _ >>= _) _ _ _
  refine wpAny_bind (wpAny_tryCatch (wpAny_holding (wpAny_bind (wpAny_mono (hlt _ s2 σ H2 v kb z uk _ I3 rz rk q2) (fun cv s3 hq=>?_) fun _ _ hF=>hF.elim))))
  obtain ⟨cc,H3,I4,rc,t,rfl,pv'⟩:=hq
  obtain rfl:cv=.bool t:=rc
  refine wpAny_bind (wpAny_holding (wpAny_truthy_bool (wpAny_bind (wpAny_letGo (wpAny_pure ?_)))))
  have pin4:∀ a∈[it,bs],∀ o,h'.get? a=some o→s3.heap.get? a=some o∧H3 a=none:=fun a ha o e=>by
   have:=I4.pin (a,o) (List.mem_append_right _ (List.mem_append_right _ (mem_pinsAt ha e)))
   exact ⟨this.1,this.2.1⟩
  obtain ⟨gi4,ni4⟩:=pin4 it (by simp) oi goi
  obtain ⟨gb4,nb4⟩:=pin4 bs (by simp) _ gb1
  have hf4:∀ a∈[it,bs],FpOk X.one pins H3 a:=fun a ha=>by
   refine ⟨?_,(hf a ha).2⟩
   rcases List.mem_cons.mp ha with rfl | ha
   ·exact ni4
   ·rw [List.mem_singleton.mp ha];exact nb4
  have I5:=I4.unpinned
  cases t with
  | true =>
   show wpAny _ X.A.in1 (updateSeq bs (fun _=>#[u,z]) >>= _) _ _ _
   refine wpAny_bind (wpAny_updateSeq gb4 rfl (wpAny_bind (wpAny_letGo ?_)))
   rw [minName]
   have sb2:=Heap.SameBut.update s3.heap bs (Obj.mapSeq fun _=>#[u,z])
   obtain ⟨n0,n1,n2,n3,n4,n5⟩:=hf4 bs (by simp)
   have I6:=I5.turned (t':=s3.toks) (h':=s3.heap.update bs (Obj.mapSeq fun _=>#[u,z])) (fun a o ha e=>(sb2.2 a ha).trans e) n0 n1 n3 n4 n5
   exact wpAny_pure ⟨plainId_quiet PySem.F.plain_min_loop _,ih (i+1) _ H3 y v u z _ (by omega) (by omega) I6 hf4 ⟨oi,(sb2.2 it hne.symm).trans gi4,goc,god⟩ (get?_update_seq gb4 fun _=>#[u,z]) ru rz (by simpa using pv')⟩
  | false =>
   refine wpAny_bind (wpAny_letGo ?_)
   rw [minName]
   exact wpAny_pure ⟨plainId_quiet PySem.F.plain_min_loop _,ih (i+1) _ H3 b kb ub uk c (by omega) (by omega) I5 hf4 ⟨oi,gi4,goc,god⟩ gb4 rb rk (by simpa using pv')⟩
theorem min_runA {pins:List (Addr×Obj)} {σ:St} {Q:VK} {l:Addr} {xs:List V} {Pv:Nat→V→V→Hp→Prop} {s:Shared} {H:Hp}
  (hcall:∀ (pl:List (Addr×Obj)) (s:Shared) (H:Hp) (y:V) (u:Value) (Q:VK),Inv X.one (pins++pl) σ H s→RelV y u→sp [y] H Q E0→wpAny (model X.prog X.w) X.A.in1 (call (.ref f) [u]) (EP X.one (pins++pl) σ Q) (fun _ _=>False) s) (hlt:OpR X.one (compareOp .Lt) rlt) (hc:X.calm=true) (I:Inv X pins σ H s) (hq:SqL X.K H l xs)
  (hsq:∀ i b kb H,Pv i b kb H→SqL X.K H l xs) {x0:V} (hx0:xs[0]?=some x0) (h0:sp [x0] H (fun v H2=>Pv 1 x0 v H2) E0)
  (hst:∀ i b kb H,Pv i b kb H→∀ y,xs[i]?=some y→sp [y] H (fun v H2=>rlt v kb H2 fun c H3=>∃ t,c=.bl t∧Pv (i+1) (if t=true then y else b) (if t=true then v else kb) H3) E0)
  (hend:∀ b kb H,Pv xs.length b kb H→Q b H) :
  wpAny (model X.prog X.w) X.A (call (.builtin "min") [.ref l] [(Str.ofString "key",.ref f)]) (EP X pins σ Q) X.xe s:=by
 obtain ⟨its,rv,pl,hz⟩:=I.list hq
 obtain ⟨u,hu,ru⟩:=rv.get hx0
 obtain ⟨ol,hol,_⟩:=id pl.isList
 have hll:=Heap.lt_size hol
 refine kmk_tree PySem.F.kind_min PySem.F.plain_min PySem.F.entry_min (kmk_min_key _ _) ?_
 show wpAny _ X.A.in1 (Builtin.Builtins.bindParams "min" ["key","default"] 0 ⟨[],[(Str.ofString "key",.ref f)]⟩ >>= _) _ _ s
 have ebp:Builtin.Builtins.bindParams "min" ["key","default"] 0 ⟨[],[(Str.ofString "key",.ref f)]⟩=pure [some (.ref f),none]:=rfl
 refine wpAny_bind (wpAny_of_eq ebp (wpAny_bind (wpAny_pure (wpAny_bind (wpAny_pyIter_list pl.isList (wpAny_bind (wpAny_newList ?_ (Nat.zero_le _))))))))
 rw [minName]
 obtain ⟨h1,e1⟩:∃ h1,h1=s.heap.push { cls:=.type "list_iterator",data:=.fields #[.ref l,.int 0 0] }:=⟨_,rfl⟩
 rw [← e1]
 have z1:h1.objs.size=s.heap.objs.size+1:=by rw [e1];exact size_push' ..
 obtain ⟨h2,e2⟩:∃ h2,h2=h1.push (seqObj "list" #[] 0):=⟨_,rfl⟩
 have kp1:∀ b o,s.heap.get? b=some o→h1.get? b=some o:=fun b o e=>by rw [e1];exact Heap.get?_push_of_some _ e
 have kp2:∀ b o,h1.get? b=some o→h2.get? b=some o:=fun b o e=>by rw [e2];exact Heap.get?_push_of_some _ e
 have gi:h1.get? s.heap.objs.size=some { cls:=.type "list_iterator",data:=.fields #[.ref l,.int 0 0] }:=by rw [e1];exact Heap.get?_push_size _ rfl
 have gs:h2.get? h1.objs.size=some (seqObj "list" #[] 0):=by rw [e2];exact Heap.get?_push_size _ rfl
 have I0:Inv X.one pins σ H { s with heap:=h2 }:=I.one.kept (t':=s.toks) fun b o e=>kp2 b o (kp1 b o e)
 have hne:h1.objs.size≠s.heap.objs.size:=by omega
 have hf:∀ a∈[s.heap.objs.size,h1.objs.size],FpOk X.one pins H a:=fun a ha=>by
  have:s.heap.objs.size≤a:=by
   rcases List.mem_cons.mp ha with rfl | ha
   ·exact Nat.le_refl _
   ·rw [List.mem_singleton.mp ha];omega
  exact I.one.fpOk this (I.hok.fresh this)
 refine wpAny_pure ⟨plainId_quiet PySem.F.plain_min_loop _,?_⟩
 refine codeAny_builtin PySem.F.entry_min_loop ?_
 rw [Around.under_plainId PySem.F.plain_min_loop _]
 show wpAny _ X.A.in1 (seqItems? (.ref h1.objs.size) >>= _) _ _ { s with heap:=h1.push (seqObj "list" #[] 0) }
 rw [← e2]
 refine wpAny_bind (wpAny_seqItems gs rfl ?_)
 show wpAny _ X.A.in1 (tryCatch (pyNext (.ref s.heap.objs.size)) _ >>= _) _ _ _
 obtain ⟨its2,rv2,pl2,_⟩:=I0.list hq
 obtain ⟨u2,hu2,ru2⟩:=rv2.get hx0
 refine wpAny_bind (wpAny_tryCatch (wpAny_pyNext_list_item (i:=0) ⟨_,kp2 _ _ gi,rfl,rfl⟩ pl2.isList (x:=u2) (by simpa using hu2) fun h' st' sb=>?_))
 obtain ⟨f0,f1,f2,f3,f4,f5⟩:=hf s.heap.objs.size (by simp)
 have I1:Inv X.one pins σ H { s with heap:=h' }:=I0.turned (t':=s.toks) (fun a o ha e=>(sb.2 a ha).trans e) f0 f1 f3 f4 f5
 have gb1:h'.get? h1.objs.size=some (seqObj "list" #[] 0):=(sb.2 _ hne).trans gs
 obtain ⟨oi,goi,goc,god⟩:=id st'
 have hob:∀ a∈[s.heap.objs.size,h1.objs.size],∃ o,h'.get? a=some o∧∀ v,o.data≠.cell v:=fun a ha=>by
  rcases List.mem_cons.mp ha with rfl | ha
  ·exact ⟨oi,goi,fun v z=>by rw [god] at z;cases z⟩
  ·rw [List.mem_singleton.mp ha];exact ⟨_,gb1,fun v z=>by cases z⟩
 have I2:=I1.pinned hf hob
 show wpAny _ X.A.in1 (tryCatch (holding [u2] (call (.ref f) [u2])) _ >>= _) _ _ _
 refine wpAny_bind (wpAny_tryCatch (wpAny_holding (wpAny_mono (hcall _ _ _ _ _ _ I2 ru2 h0) (fun z s2 he=>?_) fun _ _ hF=>hF.elim)))
 obtain ⟨v,H2,I3,rz,pv⟩:=he
 have pin3:∀ a∈[s.heap.objs.size,h1.objs.size],∀ o,h'.get? a=some o→s2.heap.get? a=some o∧H2 a=none:=fun a ha o e=>by
  have:=I3.pin (a,o) (List.mem_append_right _ (List.mem_append_right _ (mem_pinsAt ha e)))
  exact ⟨this.1,this.2.1⟩
 obtain ⟨gi4,ni4⟩:=pin3 s.heap.objs.size (by simp) oi goi
 obtain ⟨gb4,nb4⟩:=pin3 h1.objs.size (by simp) _ gb1
 have hf4:∀ a∈[s.heap.objs.size,h1.objs.size],FpOk X.one pins H2 a:=fun a ha=>by
  refine ⟨?_,(hf a ha).2⟩
  rcases List.mem_cons.mp ha with rfl | ha
  ·exact ni4
  ·rw [List.mem_singleton.mp ha];exact nb4
 show wpAny _ X.A.in1 (updateSeq h1.objs.size (fun _=>#[u2,z]) >>= _) _ _ _
 refine wpAny_bind (wpAny_updateSeq gb4 rfl ?_)
 rw [minName]
 have sb2:=Heap.SameBut.update s2.heap h1.objs.size (Obj.mapSeq fun _=>#[u2,z])
 obtain ⟨n0,n1,n2,n3,n4,n5⟩:=hf4 h1.objs.size (by simp)
 have I6:=I3.unpinned.turned (t':=s2.toks) (h':=s2.heap.update h1.objs.size (Obj.mapSeq fun _=>#[u2,z])) (fun a o ha e=>(sb2.2 a ha).trans e) n0 n1 n3 n4 n5
 have hx1:0<xs.length:=(List.getElem?_eq_some_iff.mp hx0).1
 exact wpAny_pure ⟨plainId_quiet PySem.F.plain_min_loop _,min_goA hcall hlt hc I.ok hne hsq hst hend _ 1 _ H2 x0 v u2 z _ rfl (by omega) I6 hf4 ⟨oi,(sb2.2 _ hne.symm).trans gi4,goc,god⟩ (get?_update_seq gb4 fun _=>#[u2,z]) ru2 rz pv⟩
end
def XCd (c:Addr) (qual:Str):HO:=.ext fun h=>h.CodeRec (.ref c) qual
theorem XCd.ok {P:Program} {w:World} {H:Hp} {h:Heap} {c:Addr} {qual:Str} (r:h.CodeRec (.ref c) qual):ObjOk P w H h c (XCd c qual):=by
 refine ⟨r,?_,fun h1 h2 ⟨c',o,vs,t,e,g,d,q⟩ k=>?_⟩
 ·obtain ⟨c',o,vs,t,e,g,_⟩:=r
  cases e
  exact ⟨o,g⟩
 ·cases e
  exact ⟨_,o,vs,t,rfl,k _ g,d,q⟩
def tabOf (pos:Pos) (c:Addr):Array Value:=#[rawInt pos.line,rawInt pos.col,.ref c]
def TabH (H:Hp) (P:Addr) (pos:Pos) (qual:Str):Prop:=H P=some (.tbl #[])∨∃ c,H P=some (.tbl (tabOf pos c))∧H c=some (XCd c qual)
def BM (base:Heap) (mg:Str→Option Value):Prop:=∃ (bm:Addr) (o:Obj),mg "__builtins__"=some (.ref bm)∧bm≠builtinsNs∧base.get? bm=some o∧o.cls=.type "module"∧o.dict=some builtinsNs∧o.data=.plain
structure LamMk (X:Cx) (c P:Addr):Prop where
 code:X.env.code=.ref c
 hd:PySem.W.codeHdIn X.K c P=true
 bm:BM X.base X.mg
section
variable {X:Cx} {scope:Scope} {x:Str} {ix:List Nat} {params:Arguments} {body:Expr} {pos:Pos} {c P:Addr} {pins:List (Addr×Obj)} {σ:St} {H:Hp} {s:Shared} {Q:Value→Shared→Prop} {E:Value→Shared→Prop}
theorem make_lam (M:LamMk X c P) (S:CompSc X scope x ix) (hdef:defaultsOf params X.env=([],[])) (I:Inv X pins σ H s) (T:TabH H P pos (X.env.qual++"<lambda>"))
  (h:∀ (fa c':Addr) (ct:Value) (H':Hp) (s':Shared),Inv X pins σ H' s'→s'.heap.get? fa=some (PySem.W.kla_obj "<lambda>" (X.env.qual++"<lambda>") params body scope (clOf scope.names X.env.cells) ((X.mg "__name__").getD .none) c' ct) →
   s.heap.objs.size≤fa→H' fa=none→H' P=some (.tbl (tabOf pos c'))→H' c'=some (XCd c' (X.env.qual++"<lambda>"))→(∀ b o,H b=some o→b≠P→H' b=some o)→Q (.ref fa) s') :
  wpAny (model X.prog X.w) X.A (eval (.Lambda params body scope pos) X.env) Q E s:=by
 refine PySem.W.kla_eval hdef ?_
 have hcl:=closureFor_of (S.cells I.ok)
 have hg:s.heap.Ns mainGlobals X.mg:=I.mod.glob.keeps I.bk
 have hC:PySem.W.CodeHd s.heap c P:=PySem.W.codeHd_of_K I.kIn M.hd
 obtain ⟨bm,ob,mgb,bn,hob,hcls,hdict,hdata⟩:=M.bm
 have gb:s.heap.get? bm=some ob:=I.bk _ _ hob
 have baseNone:∀ b o,X.base.get? b=some o→H b=none:=fun b o e=>(I.bs b o e).2
 have hbN:H bm=none:=baseNone bm ob hob
 have hgN:H mainGlobals=none:=by
  obtain ⟨o,_,_,e,_⟩:=I.ok.mod.glob
  exact baseNone _ o e
 have hPs:∃ ps,H P=some (.tbl ps):=by
  rcases T with e | ⟨c',e,_⟩
  ·exact ⟨_,e⟩
  ·exact ⟨_,e⟩
 obtain ⟨ps0,hP0⟩:=hPs
 have hgP:mainGlobals≠P:=fun z=>by rw [z,hP0] at hgN;cases hgN
 have hbP:bm≠P:=fun z=>by rw [z,hP0] at hbN;cases hbN
 have hbG:bm≠mainGlobals:=fun z=>by
  obtain ⟨o,_,_,e,hd,_⟩:=hg
  rw [z,e] at gb;cases gb;rw [hd] at hdata;cases hdata
 have hB:s.heap.BuiltinsAt X.mg P:=⟨bm,ob,mgb,bn,hbG,hbP,gb,hcls,hdict,hdata⟩
 rcases T with eP | ⟨c',eP,eC⟩
 ·have gP:s.heap.get? P=some (PySem.W.tabObj #[]):=I.hok P _ eP
  refine PySem.W.kla_makeFunction hcl I.ok.glob hg M.code hC gP trivial rfl hgP hB fun c' ctv h' tk hx hge hlt hrec htb=>?_
  have hPc:P≠c':=fun z=>by
   have q:=Heap.lt_size gP
   rw [z] at q
   exact Nat.lt_irrefl _ (Nat.lt_of_lt_of_le q hge)
  have hcN:H c'=none:=I.hok.fresh hge
  have k1:∀ b o,b≠P→s.heap.get? b=some o→(h'.push (PySem.W.kla_obj "<lambda>" (X.env.qual++"<lambda>") params body scope (clOf scope.names X.env.cells) ((X.mg "__name__").getD .none) c' ctv)).get? b=some o:=fun b o hb e=>Heap.get?_push_of_some _ (hx b o hb e)
  have gP':(h'.push (PySem.W.kla_obj "<lambda>" (X.env.qual++"<lambda>") params body scope (clOf scope.names X.env.cells) ((X.mg "__name__").getD .none) c' ctv)).get? P=some (PySem.W.tabObj (tabOf pos c')):=Heap.get?_push_of_some _ (by rw [htb];rfl)
  have rec':(h'.push (PySem.W.kla_obj "<lambda>" (X.env.qual++"<lambda>") params body scope (clOf scope.names X.env.cells) ((X.mg "__name__").getD .none) c' ctv)).CodeRec (.ref c') (X.env.qual++"<lambda>"):=hrec.push _
  have gF:=Heap.get?_push_size h' (o:=PySem.W.kla_obj "<lambda>" (X.env.qual++"<lambda>") params body scope (clOf scope.names X.env.cells) ((X.mg "__name__").getD .none) c' ctv) rfl
  have hsz:s.heap.objs.size≤h'.objs.size:=Nat.le_of_lt (Nat.lt_of_le_of_lt hge hlt)
  generalize h'.push (PySem.W.kla_obj "<lambda>" (X.env.qual++"<lambda>") params body scope (clOf scope.names X.env.cells) ((X.mg "__name__").getD .none) c' ctv)=h2 at k1 gP' rec' gF
  have go:∀ b o,H b=some o→b≠P→upd (upd H P (.tbl (tabOf pos c'))) c' (XCd c' (X.env.qual++"<lambda>")) b=some o:=fun b o e n=>by
   rw [upd_ne (fun z=>by rw [z,hcN] at e;cases e),upd_ne n];exact e
  have ntP:∀ {o:HO},(∀ ps,o≠.tbl ps)→∀ b,H b=some o→b≠P:=fun {o} hn b e z=>by rw [z,eP] at e;cases e;exact hn _ rfl
  have U:Un X.fs [] H (upd (upd H P (.tbl (tabOf pos c'))) c' (XCd c' (X.env.qual++"<lambda>"))) s.heap h2:=by
   refine ⟨fun b o e n _ _=>?_,fun b o e n _ _=>⟨o.slots,?_⟩,fun b o e n _=>?_,fun b o e _=>?_,fun b xs e=>go b _ e (ntP (by intro _ z;cases z) b e),fun b o u e=>go b _ e (ntP (by intro _ z;cases z) b e),fun b ps e=>?_⟩
   ·exact k1 b o (fun z=>by rw [z,eP] at n;cases n) e
   ·exact k1 b o (fun z=>by rw [z,eP] at n;cases n) e
   ·rw [upd_ne (fun z=>by have q:=Heap.lt_size e;rw [z] at q;exact Nat.lt_irrefl _ (Nat.lt_of_lt_of_le q hge)),upd_ne (fun z=>by rw [z,eP] at n;cases n)]
    exact n
   ·by_cases hb:b=P
    ·rw [hb];exact ⟨_,gP'⟩
    ·exact ⟨o,k1 b o hb e⟩
   ·by_cases hb:b=P
    ·subst hb
     rw [eP] at e
     cases e
     exact ⟨tabOf pos c',by rw [upd_ne hPc,upd_same];simp⟩
    ·exact ⟨#[],by rw [go b _ e hb];simp⟩
  have OK:HOk X.prog X.w (upd (upd H P (.tbl (tabOf pos c'))) c' (XCd c' (X.env.qual++"<lambda>"))) h2:=by
   intro b o e
   by_cases hb:b=c'
   ·subst hb
    rw [upd_same] at e
    cases e
    exact XCd.ok rec'
   ·rw [upd_ne hb] at e
    by_cases hbp:b=P
    ·subst hbp
     rw [upd_same] at e
     cases e
     exact gP'
    ·rw [upd_ne hbp] at e
     refine (I.hok b o e).stay (fun a w' ha q=>k1 a w' ?_ q) (fun a q=>go a _ q (ntP (by intro _ z;cases z) a q)) fun a xs q=>go a _ q (ntP (by intro _ z;cases z) a q)
     rcases ha with ha | ha
     ·rw [ha];exact hbp
     ·exact ntP (by intro _ z;cases z) a ha
  refine h h'.objs.size c' ctv _ _ (I.un (t':=tk) U OK) gF hsz ?_ ?_ upd_same go
  ·rw [upd_ne (Nat.ne_of_gt hlt),upd_ne (fun z=>by have q:=Heap.lt_size gP;rw [← z] at q;exact Nat.lt_irrefl _ (Nat.lt_of_lt_of_le q hsz))]
   exact I.hok.fresh hsz
  ·rw [upd_ne hPc,upd_same]
 ·have gP:s.heap.get? P=some (PySem.W.tabObj (tabOf pos c')):=I.hok P _ eP
  refine PySem.W.kla_makeFunctionHit (cv:=.ref c') hcl I.ok.glob hg M.code hC gP (by simp [tabOf,TriplesOk,rawInt]) (by simp [tabOf,codeAmong,rawInt]) hB fun ctv h' tk hk hsz=>?_
  have k1:∀ b o,s.heap.get? b=some o→(h'.push (PySem.W.kla_obj "<lambda>" (X.env.qual++"<lambda>") params body scope (clOf scope.names X.env.cells) ((X.mg "__name__").getD .none) c' ctv)).get? b=some o:=fun b o e=>Heap.get?_push_of_some _ (hk b o e)
  exact h h'.objs.size c' ctv H _ (I.kept (t':=tk) k1) (Heap.get?_push_size _ rfl) hsz (I.hok.fresh hsz) eP eC (fun b o e _=>e)
end
end L2
namespace LtL
open PySem PyProof.Rows HT
open PySem.SeqAt
open PySem.AutoSeq1 (wpAny_loadPart')
open PySem.MeetsSeq PySem.MeetsSeq2 PySem.MeetsSeq3
theorem pair_ltI (l b:Addr) (i j k m:Int) (t1 t2 u1 u2:Tok) (n n2:Nat) (dd dd2:Option Addr) (sl sl2:Array (Option Value)) :
  Meets (Builtin.«tuple.__lt__» ⟨[.ref l,.ref b],[]⟩)
   (fun A R s=>s.heap.get? l=some { cls:=.type "tuple",dict:=dd,data:=.seq #[.int i t1,.int j t2] n,slots:=sl }∧s.heap.get? b=some { cls:=.type "tuple",dict:=dd2,data:=.seq #[.int k u1,.int m u2] n2,slots:=sl2 } ∧
    R (.ok (.ret (.bool (decide (i<k∨(i=k∧j<m)))))) s) :=
 .of_wp fun prog w A R s h=>by
  obtain ⟨hp,g,d,tk,os⟩:=s;obtain ⟨hl,hb,h⟩:=h
  have f2:=AutoSeq1.sub_tuple_tuple
  have hE1:=SeqAt.EqAt.int_int (A:=A.in1) (s:=⟨hp,g,d,tk,os⟩) i t1 k u1 prog w
  have hE2:=SeqAt.EqAt.int_int (A:=A.in1) (s:=⟨hp,g,d,tk,os⟩) j t2 m u2 prog w
  have hr1:=rcLt_int A.in1 ⟨hp,g,d,tk,os⟩ i t1 k u1 prog w
  have hr2:=rcLt_int A.in1 ⟨hp,g,d,tk,os⟩ j t2 m u2 prog w
  by_cases q1:i=k
  ·subst q1
   rw [show (i == i)=true by simp] at hE1
   by_cases q2:j=m
   ·subst q2
    rw [show (j == j)=true by simp] at hE2
    rw [decide_eq_false (by omega)] at h
    wp_walk using wpAny_loadPart' hl,wpAny_loadPart' hb,hE1,hE2
    exact ⟨_,rfl,h⟩
   ·rw [show (j == m)=false by simpa using q2] at hE2
    wp_walk using wpAny_loadPart' hl,wpAny_loadPart' hb,hE1,hE2,hr2
    rw [show decide (i<i∨(i=i∧j<m))=decide (j<m) by simp] at h
    exact ⟨_,rfl,h⟩
  ·rw [show (i == k)=false by simpa using q1] at hE1
   wp_walk using wpAny_loadPart' hl,wpAny_loadPart' hb,hE1,hr1
   rw [show decide (i<k∨(i=k∧j<m))=decide (i<k) by simp [q1]] at h
   exact ⟨_,rfl,h⟩
end LtL
namespace L2
open PySem PySem.Spec PyProof.Rows
def ltI (p q:Int×Int):Bool:=decide (p.1<q.1∨(p.1=q.1∧p.2<q.2))
def rLtI:R2:=fun x y H Q=>∃ (p q:Addr) (a b:Int×Int),x=.ref p∧y=.ref q∧H p=some (.tup [.int a.1,.int a.2])∧H q=some (.tup [.int b.1,.int b.2])∧Q (.bl (ltI a b)) H
theorem op_ltI {X:Cx} (hu:X.A.units+8<cLine):OpR X (compareOp .Lt) rLtI:=by
 intro pins s σ H x y v u Q I rx ry h
 obtain ⟨p,q,a,b,rfl,rfl,hp,hq,k⟩:=h
 cases rx
 cases ry
 obtain ⟨_,ip,rp,op,gp1,gp2,np,gp3⟩:=I.hok p _ hp
 obtain ⟨_,iq,rq,oq,gq1,gq2,nq,gq3⟩:=I.hok q _ hq
 obtain ⟨u1,u2,rfl,r1,r2⟩:=rp.two
 obtain ⟨w1,w2,rfl,r3,r4⟩:=rq.two
 obtain ⟨t1,rfl⟩:=r1
 obtain ⟨t2,rfl⟩:=r2
 obtain ⟨t3,rfl⟩:=r3
 obtain ⟨t4,rfl⟩:=r4
 have hu0:X.A.units<cLine:=by omega
 obtain ⟨cl1,dd1,dt1,sl1⟩:=op
 obtain ⟨cl2,dd2,dt2,sl2⟩:=oq
 simp only at gp2 gp3 gq2 gq3
 subst gp2 gp3 gq2 gq3
 exact richCompare_meets_room (op:=.Lt) ⟨_,gp1,rfl⟩ ⟨_,gq1,rfl⟩ PySem.F.slot_tuple_lt PySem.F.entry_tuple_lt (PySem.F.args_tuple_lt_2 _ _) (LtL.pair_ltI p q a.1 a.2 b.1 b.2 t1 t2 t3 t4 np nq dd1 dd2 sl1 sl2)
  ⟨gp1,gq1,show Value.bool (ltI a b)≠Value.notImplemented∧EP X pins σ Q (.bool (ltI a b)) s from ⟨(fun x=>nomatch x),⟨.bl _,H,I,rfl,k⟩⟩⟩ hu0
theorem op_ltI1 {X:Cx} {k:Nat} (hr:Room k X.A):OpR { X with A:=X.A.in1,xe:=fun _ _=>False } (compareOp .Lt) rLtI:=op_ltI (by
 have:=hr.units
 show X.A.units+1+8<cLine
 omega)
def tMinL (K:PySem.W.Frag) (P:Addr) (pos:Pos) (qual:Str) (ix:List Nat) (rlt:R2) (ta:TA) (te:TE):TE:=fun σ H Q=>ta σ H fun vs H1=>∃ (l:Addr) (xs:List V),vs=[.ref l]∧TabH H1 P pos qual ∧
 ∀ (c':Addr) (H2:Hp),H2 P=some (.tbl (tabOf pos c'))→H2 c'=some (XCd c' qual)→(∀ b o,H1 b=some o→b≠P→H2 b=some o)→∃ Pv:Nat→V→V→Hp→Prop,SqL K H2 l xs ∧
  (∀ i b kb H,Pv i b kb H→SqL K H l xs∧H c'=some (XCd c' qual))∧(∃ x0,xs[0]?=some x0∧te (some x0::capσ σ ix) H2 fun v H3=>Pv 1 x0 v H3) ∧
  (∀ i b kb H,Pv i b kb H→∀ y,xs[i]?=some y→te (some y::capσ σ ix) H fun v H2=>rlt v kb H2 fun c H3=>∃ t,c=.bl t∧Pv (i+1) (if t=true then y else b) (if t=true then v else kb) H3) ∧
  ∀ b kb H,Pv xs.length b kb H→Q b H
theorem CompSc.one {X:Cx} {scope:Scope} {x:Str} {ix:List Nat} (S:CompSc X scope x ix):CompSc X.one scope x ix:=⟨S.kind,S.nocell,S.loc,S.x,S.free,S.cap⟩
section
variable {X:Cx} {scope:Scope} {x:Str} {ix:List Nat} {params:Arguments} {body e:Expr} {lpos p kpos pos:Pos} {c P:Addr} {ta:TA} {te:TE} {rlt:R2} {k:Nat}
theorem pe_minLam (M:LamMk X c P) (S:CompSc X scope x ix) (hco:scope.isCoroutine=false) (hgen:scope.isGenerator=false) (hr:Room (k+1) X.A) (hlt:OpR X.one (compareOp .Lt) rlt) (hc:X.calm=true)
  (hg:Gl X "min") (hm:X.mg "min"=none) (ha:PA X [e] ta)
  (he:∀ (fa:Addr) (cdv:Value) (s:Shared) (H:Hp),PE (lamCx X.one scope x ix (X.env.qual++"<lambda>") fa cdv s H) body te)
  (hb:∀ (cl:List (Str×Addr)) (pm cdv ct u:Value),bindArgs (PySem.W.kla_fn "<lambda>" (X.env.qual++"<lambda>") params body scope cl pm cdv ct) ⟨[u],[]⟩=pure [(x,u)])
  (hdef:defaultsOf params X.env=([],[]))
  (hall:(backToKw pos (keywordEach [⟨some (Str.ofString "key"),.Lambda params body scope lpos,kpos⟩] X.env)).all (·.1.isSome)=true:=by rfl) (hks:(backToKw pos (keywordEach [⟨some (Str.ofString "key"),.Lambda params body scope lpos,kpos⟩] X.env)).filterMap (·.1)=[Str.ofString "key"]:=by rfl)
  (hs:backTo pos (starEach [e] X.env)=[(false,eval e X.env)]:=by rfl) (hkw:(backToKw pos (keywordEach [⟨some (Str.ofString "key"),.Lambda params body scope lpos,kpos⟩] X.env)).any (·.1.isNone)=false:=by rfl) :
  PE X (.Call (.Name "min" p) [e] [⟨some (Str.ofString "key"),.Lambda params body scope lpos,kpos⟩] pos) (tMinL X.K P lpos (X.env.qual++"<lambda>") ix rlt ta te):=by
 intro pins s σ H Q I h
 refine wpAny_Call_Name_kw (ld_blt I hg hm boot_min ?_ (by decide) (by decide))
 refine callWith_kw (thn (ha pos pins s σ H _ I h) fun us s1 ⟨vs,H1,I1,r1,q1⟩=>?_) (by rw [hs];rfl) (by rw [hs];rfl) hall hkw
 obtain ⟨l,xs,rfl,tab,q1⟩:=q1
 obtain ⟨u,rfl,ru⟩:=vals1 r1
 cases ru
 show wpAny _ _ (evalAll ((do let v ← eval (.Lambda params body scope lpos) X.env;standAt pos;pure v)::(backToKw pos (keywordEach [] X.env)).map (·.2))) _ _ s1
 refine wpAny_evalAll_cons (wpAny_bind (make_lam M S hdef I1 tab fun fa c' ct H2 s2 I2 gF hsz hfN eP eC go=>wpAny_bind (wpAny_standAt (wpAny_pure ?_))))
 refine wpAny_evalAll_nil ?_
 rw [hks]
 obtain ⟨Pv,hq,hsq,⟨x0,hx0,h0⟩,hst,hend⟩:=q1 c' H2 eP eC go
 have fp:FpOk X pins H2 fa:=I1.fpOk hsz hfN
 have JP:=I2.pinned (fp:=[fa]) (fun b hb=>by rw [List.mem_singleton.mp hb];exact fp) (fun b hb=>by rw [List.mem_singleton.mp hb];exact ⟨_,gF,fun v z=>nomatch z⟩)
 have run:=min_runA (X:=X) (f:=fa) (sp:=fun vs H Q _=>∃ y,vs=[y]∧H c'=some (XCd c' (X.env.qual++"<lambda>"))∧te (some y::capσ σ ix) H Q) (rlt:=rlt) (pins:=pins++pinsAt [fa] s2.heap) (σ:=σ) (Q:=Q) (l:=l) (xs:=xs) (Pv:=Pv) (s:=s2) (H:=H2)
  (fun pl s' H' y u Q' I' ry ⟨y',ey,hC,hte⟩=>by
   cases ey
   have gF':=(I'.pin (fa,_) (List.mem_append_right _ (List.mem_append_left _ (List.mem_append_right _ (mem_pinsAt (List.mem_singleton.mpr rfl) gF))))).1
   have hrec:s'.heap.CodeRec (.ref c') (X.env.qual++"<lambda>"):=(show ObjOk X.prog X.w H' s'.heap c' (XCd c' (X.env.qual++"<lambda>")) from I'.hok c' _ hC).1
   exact run_lam (X:=X.one) (qual:=X.env.qual++"<lambda>") (fa:=fa) (cdv:=.ref c') S.one hco hgen hr.in1 gF' hrec (fun u=>hb _ _ _ _ u) (he fa (.ref c') s' H') I' ry hte)
  hlt hc JP hq (fun i b kb H hp=>(hsq i b kb H hp).1) hx0 ⟨x0,rfl,eC,h0⟩ (fun i b kb H hp y hy=>⟨y,rfl,(hsq i b kb H hp).2,hst i b kb H hp y hy⟩) hend
 exact wpAny_mono run (fun v s3 ⟨y,H3,I3,ry,q⟩=>⟨y,H3,I3.unpinned,ry,q⟩) (fun _ _ z=>z)
end
structure Tb where
 P:Addr
 pos:Pos
 qual:Str
def TabsH (ts:List Tb) (H:Hp):Prop:=(∀ t∈ts,∀ t'∈ts,t.P=t'.P→t=t')∧∀ t∈ts,TabH H t.P t.pos t.qual
def NoT (o:HO):Prop:=∀ ps,o≠.tbl ps
structure SameT (ts:List Tb) (H H':Hp):Prop where
 keep:∀ b o,H b=some o→NoT o→H' b=some o
 tabs:TabsH ts H→TabsH ts H'
section
variable {ts:List Tb} {H H1 H2 H':Hp} {t:Tb} {c':Addr} {K:PySem.W.Frag}
theorem TabH.is {P:Addr} {pos:Pos} {q:Str} (h:TabH H P pos q):∃ ps,H P=some (.tbl ps):=by
 rcases h with e | ⟨c',e,_⟩
 ·exact ⟨_,e⟩
 ·exact ⟨_,e⟩
theorem NoT.xcd {q:Str}:NoT (XCd c' q):=fun _ z=>by unfold XCd at z;cases z
theorem SameT.refl:SameT ts H H:=⟨fun _ _ e _=>e,fun h=>h⟩
theorem SameT.trans (a:SameT ts H H1) (b:SameT ts H1 H2):SameT ts H H2:=⟨fun c o e n=>b.keep c o (a.keep c o e n) n,fun h=>b.tabs (a.tabs h)⟩
theorem SameT.of (s:Same H H'):SameT ts H H':=⟨fun b o e _=>s b o e,fun ⟨d,h⟩=>⟨d,fun t ht=>by
 rcases h t ht with e | ⟨c,e,e2⟩
 ·exact .inl (s _ _ e)
 ·exact .inr ⟨c,s _ _ e,s _ _ e2⟩⟩⟩
theorem SameT.tup (s:SameT ts H H') {b:Addr} {xs:List V} (e:H b=some (.tup xs)):H' b=some (.tup xs):=s.keep b _ e fun _ z=>by cases z
theorem SameT.lst (s:SameT ts H H') {b:Addr} {xs:List V} (e:H b=some (.lst xs)):H' b=some (.lst xs):=s.keep b _ e fun _ z=>by cases z
theorem SameT.sqT (s:SameT ts H H') {b:Addr} {xs:List V} (h:SqT K H b xs):SqT K H' b xs:=by
 rcases h with (h | ⟨ob,h⟩) | h
 ·exact .inl (.inl (s.tup h))
 ·exact .inl (.inr ⟨ob,s.keep _ _ h fun _ z=>by cases z⟩)
 ·exact .inr h
theorem SameT.made (ht:t∈ts) (h:TabsH ts H1) (eP:H2 t.P=some (.tbl (tabOf t.pos c'))) (eC:H2 c'=some (XCd c' t.qual)) (go:∀ b o,H1 b=some o→b≠t.P→H2 b=some o):SameT ts H1 H2:=by
 obtain ⟨ps,hp⟩:=(h.2 t ht).is
 have ne:∀ b o,H1 b=some o→NoT o→b≠t.P:=fun b o e n z=>by rw [z,hp] at e;cases e;exact n _ rfl
 refine ⟨fun b o e n=>go b o e (ne b o e n),fun _=>⟨h.1,fun t' ht'=>?_⟩⟩
 by_cases e:t'.P=t.P
 ·have:=h.1 t' ht' t ht e
  subst this
  exact .inr ⟨c',eP,eC⟩
 ·rcases h.2 t' ht' with q | ⟨c,q,q2⟩
  ·exact .inl (go _ _ q e)
  ·exact .inr ⟨c,go _ _ q e,go _ _ q2 (ne _ _ q2 NoT.xcd)⟩
end
def MkOf (K:PySem.W.Frag) (fd:FuncData) (c P:Addr):Prop:=fd.code=.ref c∧PySem.W.codeHdIn K c P=true
section
variable {P:Program} {w:World} {K:PySem.W.Frag} {mg:Str→Option Value} {base:Heap}
theorem Fun.okM {x qual:Str} {st:Stmt} {f:Addr} {fd:FuncData} {N ps:List Str} {k:Nat} {sp:Sp} (F:Fun K x qual st f fd) (S:FnScope N ps (defScope st)) (len:∀ vs H Q E,sp vs H Q E→vs.length=ps.length)
  (hbody:∀ (cdv:Value) (A:Around) (outer:List Env) (s:Shared) (H:Hp) (vs:List V) (Q:VK) (E:XK),fd.code=cdv→Room k (A.deeper (envOfC qual (defScope st) s.heap.objs.size f cdv))→sp vs H Q E →
   ∃ t,PSs (cxOf CX0 P w K mg base N qual (defScope st) f cdv A outer s H E).nox (defBody st) t∧t { nx:=fun _ H'=>Q .non H',rt:=Q } (start N vs) H):FnOk P w K mg base CX0 (k+1) f fd ps sp:=by
 obtain ⟨oc,od,kV,doc,pm,an,cdv,ct,osl,rfl,lk,hcd⟩:=F.ex
 refine fn_of lk hcd S len fun A outer s H vs Q E hr hsp=>?_
 obtain ⟨t,h,q⟩:=hbody cdv A outer s H vs Q E rfl hr hsp
 exact ⟨t,h.nox,q⟩
theorem pe_minLamK {X:Cx} {sc0 scope:Scope} {N:List Str} {x:Str} {ix:List Nat} {params:Arguments} {body e:Expr} {lpos p kpos pos:Pos} {c P:Addr} {ta:TA} {te:TE} {rlt:R2} {k:Nat} (hK:X.K=K) (M:LamMk X c P) (hch:compChk sc0 scope N x ix=true) (e1:X.env.scope=sc0) (e2:X.N=N)
  (hco:scope.isCoroutine=false) (hgen:scope.isGenerator=false) (hr:Room (k+1) X.A) (hlt:OpR X.one (compareOp .Lt) rlt) (hc:X.calm=true)
  (hg:Gl X "min") (hm:X.mg "min"=none) (ha:PA X [e] ta)
  (he:∀ (fa:Addr) (cdv:Value) (s:Shared) (H:Hp),PE (lamCx X.one scope x ix (X.env.qual++"<lambda>") fa cdv s H) body te)
  (hb:∀ (cl:List (Str×Addr)) (pm cdv ct u:Value),bindArgs (PySem.W.kla_fn "<lambda>" (X.env.qual++"<lambda>") params body scope cl pm cdv ct) ⟨[u],[]⟩=pure [(x,u)])
  (hdef:defaultsOf params X.env=([],[]))
  (hall:(backToKw pos (keywordEach [⟨some (Str.ofString "key"),.Lambda params body scope lpos,kpos⟩] X.env)).all (·.1.isSome)=true:=by rfl) (hks:(backToKw pos (keywordEach [⟨some (Str.ofString "key"),.Lambda params body scope lpos,kpos⟩] X.env)).filterMap (·.1)=[Str.ofString "key"]:=by rfl)
  (hs:backTo pos (starEach [e] X.env)=[(false,eval e X.env)]:=by rfl) (hkw:(backToKw pos (keywordEach [⟨some (Str.ofString "key"),.Lambda params body scope lpos,kpos⟩] X.env)).any (·.1.isNone)=false:=by rfl) :
  PE X (.Call (.Name "min" p) [e] [⟨some (Str.ofString "key"),.Lambda params body scope lpos,kpos⟩] pos) (tMinL K P lpos (X.env.qual++"<lambda>") ix rlt ta te):=by
 subst hK
 exact pe_minLam M (compSc_of hch e1 e2).1 hco hgen hr hlt hc hg hm ha he hb hdef hall hks hs hkw
end
def OnlyT (ts:List Addr) (H:Hp):Prop:=∀ b,H b=none∨(∃ o xs,H b=some (.frz o (.lst xs)))∨(b∈ts∧H b=some (.tbl #[]))
theorem law_callT {P:Program} {w:World} {K:PySem.W.Frag} {mg mb:Str→Option Value} {k:Nat} {fa a:Addr} {fd:FuncData} {x:Str} {sp:Sp} {s₁:Shared} {vs:List Value} {ns:List Int} {ts:List (Addr×Addr)}
  (KX:K.In s₁.heap) (hns:s₁.heap.Ns mainGlobals mg) (hb:s₁.heap.Ns builtinsNs mb) (hbb:∀ x:Str,x≠"__name__"→mb x=bootBuiltins x) (hlim:s₁.heap.NoLimit) (hbm:BM s₁.heap mg) (hg:s₁.gens=#[])
  (ha:s₁.heap.get? a=some { cls:=.type "list",data:=.seq vs.toArray }) (hi:IntsAre vs ns) (hl:ns.length≤sizeLine) (hr:Room k callerA)
  (hts:∀ t∈ts,PySem.W.codeHdIn K t.1 t.2=true∧K.lookup t.2=none∧s₁.heap.get? t.2=some (PySem.W.tabObj #[]))
  (F:∀ base:Heap,K.In base→base.Ns mainGlobals mg→BM base mg→FnOk P w K mg base CX0 k fa fd [x] sp) (hbind:∀ (s:Shared) (u:Value),BindsTo s fd ⟨[u],[]⟩ [(x,u)])
  (hsp:∀ H:Hp,(∀ t∈ts,H t.2=some (.tbl #[]))→SqL K H a (ns.map V.int)→sp [.ref a] H (fun v _=>v=.bl true) fun _ _ _=>False) :
  codeAny (model P w) callerA (.call (.ref fa) ⟨[.ref a],[]⟩) (fun r s'=>r=.ok (.ret (.bool true))∧OldK s₁.heap s'.heap∧s'.os=s₁.os∧AllBare s'.gens) s₁:=by
 have rv:=vals_ints hi
 have lenV:=hi.length
 have core:∀ H:Hp,OnlyT (ts.map (·.2)) H→(∀ t∈ts,H t.2=some (.tbl #[]))→SqL K H a (ns.map V.int)→HOk P w H s₁.heap→(∀ b,H b≠none→b=a∨∃ t∈ts,b=t.2)→(H a≠none→K.lookup a=none) →
   codeAny (model P w) callerA (.call (.ref fa) ⟨[.ref a],[]⟩) (fun r s'=>r=.ok (.ret (.bool true))∧OldK s₁.heap s'.heap∧s'.os=s₁.os∧AllBare s'.gens) s₁:=by
  intro H hO hT hS hok hA hK
  have base_of:∀ {b:Addr} {o:Obj},s₁.heap.get? b=some o→H b=none→(hidT s₁.heap H).get? b=some o:=fun e n=>hidT_get e n
  have noA:∀ {b:Addr} {o:Obj},s₁.heap.get? b=some o→(∀ its n,o.data≠.seq its n)→(∀ ps,o.data≠.fields ps)→H b=none:=fun {b o} e d1 d2=>by
   cases q:H b with
   | none=>rfl
   | some u =>
    rcases hA b (by rw [q];simp) with e' | ⟨t,ht,e'⟩
    ·subst e'
     rw [ha] at e;cases e
     exact absurd rfl (d1 _ _)
    ·subst e'
     rw [(hts t ht).2.2] at e;cases e
     exact absurd rfl (d2 _)
  have nsK:∀ {b:Addr} {m:Str→Option Value},s₁.heap.Ns b m→(hidT s₁.heap H).Ns b m:=fun {b m} ⟨o,es,ep,e,d,r⟩=>⟨o,es,ep,base_of e (noA e (fun _ _ z=>by rw [d] at z;cases z) (fun _ z=>by rw [d] at z;cases z)),d,r⟩
  have hKb:K.In (hidT s₁.heap H):=fun b o e=>base_of (KX b o e) (by
   cases q:H b with
   | none=>rfl
   | some u =>
    rcases hA b (by rw [q];simp) with e' | ⟨t,ht,e'⟩
    ·subst e'
     rw [hK (by rw [q];simp)] at e;cases e
    ·subst e'
     rw [(hts t ht).2.1] at e;cases e)
  have hBb:BM (hidT s₁.heap H) mg:=by
   obtain ⟨bm,o,h1,h2,h3,h4,h5,h6⟩:=hbm
   exact ⟨bm,o,h1,h2,base_of h3 (noA h3 (fun _ _ z=>by rw [h6] at z;cases z) (fun _ z=>by rw [h6] at z;cases z)),h4,h5,h6⟩
  have hM:Mod K mg (hidT s₁.heap H):=⟨hKb,nsK hns,⟨mb,nsK hb,hbb⟩,let ⟨mc,h1,h2⟩:=hlim;⟨mc,nsK h1,h2⟩⟩
  have e0:Env0 P w K mg (hidT s₁.heap H) callerA [] s₁ H:=⟨rfl,hM,fun b o e=>of_hidT e,Nat.le_of_eq (hidT_size _ _),trivial,fun b hb=>absurd (show b∈([]:List Addr) from hb) (by simp),hok,.of_eq hg⟩
  refine codeAny_mono ((F _ hKb (nsK hns) hBb).run callerA [] s₁ H ⟨[.ref a],[]⟩ [.ref a] [.ref a] _ _ hr e0 (hbind s₁ (.ref a)) (.cons rfl .nil) (hsp H hT hS)) fun r s' h=>?_
  cases r with
  | error e=>exact False.elim h
  | ok fl =>
   cases fl with
   | next=>exact False.elim h
   | brk=>exact False.elim h
   | cont=>exact False.elim h
   | ret u =>
    obtain ⟨v,H',os,bare,un,hok',r',q⟩:=h
    have q':v=.bl true:=q
    subst q'
    obtain rfl:u=Value.bool true:=r'
    have old:∀ b o,s₁.heap.get? b=some o→asItWas s₁.heap s'.heap b o∧∃ o',s'.heap.get? b=some o':=fun b o e=>by
     cases q:H b with
     | none =>
      have:=un.keep b o e q (by intro z;exact absurd (show b∈([]:List Addr) from z) (by simp)) (by simp)
      exact ⟨.inl this,_,this⟩
     | some u =>
      rcases hO b with z | ⟨ob,xs,z⟩ | ⟨hb,z⟩
      ·rw [q] at z;cases z
      ·have z2:=un.frzs b ob _ z
       obtain ⟨e1,_⟩:=hok b _ z
       obtain ⟨e2,_⟩:=hok' b _ z2
       rw [e] at e1;cases e1
       exact ⟨.inl e2,_,e2⟩
      ·obtain ⟨t,ht,et⟩:=List.mem_map.mp hb
       have et:t.2=b:=et
       obtain ⟨more,z2⟩:=un.tbls b _ z
       have e2:s'.heap.get? b=some (PySem.W.tabObj (#[]++more)):=hok' b _ z2
       have e1:=(hts t ht).2.2
       rw [et,e] at e1
       cases e1
       have ct:=((PySem.W.codeHd_of_K KX (hts t ht).1).tab (hts t ht).2.2).isCodeTable
       rw [et] at ct
       exact ⟨.inr (.inl ⟨ct,rfl,#[],more,rfl,e2⟩),_,e2⟩
    exact ⟨rfl,⟨fun b o e=>(old b o e).1,fun b o e=>(old b o e).2⟩,os,bare⟩
 have hat:∀ t∈ts,t.2≠a:=fun t ht z=>by
  have e:=(hts t ht).2.2
  rw [z,ha] at e
  cases e
 have tb:∀ b,(∃ t∈ts,b=t.2)∨¬ ∃ t∈ts,b=t.2:=fun b=>Classical.em _
 classical
 let H0:Hp:=fun b=>if ∃ t∈ts,b=t.2 then some (.tbl #[]) else none
 have H0t:∀ t∈ts,H0 t.2=some (.tbl #[]):=fun t ht=>if_pos ⟨t,ht,rfl⟩
 have H0a:H0 a=none:=if_neg fun ⟨t,ht,e⟩=>hat t ht e.symm
 have H0c:∀ b o,H0 b=some o→(∃ t∈ts,b=t.2)∧o=.tbl #[]:=fun b o e=>by
  by_cases q:∃ t∈ts,b=t.2
  ·have e':=(if_pos q).symm.trans e
   cases e'
   exact ⟨q,rfl⟩
  ·have e':=(if_neg q).symm.trans e
   cases e'
 have H0k:HOk P w H0 s₁.heap:=fun b o e=>by
  obtain ⟨⟨t,ht,rfl⟩,rfl⟩:=H0c b o e
  exact (hts t ht).2.2
 have H0O:∀ b,H0 b=none∨(b∈ts.map (·.2)∧H0 b=some (.tbl #[])):=fun b=>by
  cases q:H0 b with
  | none=>exact .inl rfl
  | some o =>
   obtain ⟨⟨t,ht,rfl⟩,rfl⟩:=H0c b o q
   exact .inr ⟨List.mem_map.mpr ⟨t,ht,rfl⟩,rfl⟩
 generalize H0=H0 at H0t H0a H0c H0k H0O
 cases hk:K.lookup a with
 | some o =>
  have e:=KX a o hk
  rw [ha] at e
  cases e
  refine core H0 (fun b=>?_) H0t (.inr ⟨_,vs.toArray,_,hk,rfl,rfl,rfl,by rw [List.size_toArray,lenV];exact hl,by simpa using rv⟩) H0k (fun b z=>?_) fun z=>absurd H0a z
  ·rcases H0O b with z | z
   ·exact .inl z
   ·exact .inr (.inr z)
  ·cases q:H0 b with
   | none=>exact absurd q z
   | some o=>exact .inr (H0c b o q).1
 | none =>
  have ua:upd H0 a (.frz { cls:=.type "list",data:=.seq vs.toArray } (.lst (ns.map V.int))) a=some (.frz { cls:=.type "list",data:=.seq vs.toArray } (.lst (ns.map V.int))):=upd_same
  refine core (upd H0 a (.frz { cls:=.type "list",data:=.seq vs.toArray } (.lst (ns.map V.int)))) (fun b=>?_) (fun t ht=>(upd_ne (hat t ht)).trans (H0t t ht)) (.inl (.inr ⟨_,ua⟩)) (fun b u z=>?_) (fun b z=>?_) fun _=>hk
  ·by_cases hb:b=a
   ·rw [hb];exact .inr (.inl ⟨_,_,ua⟩)
   ·rw [upd_ne hb]
    rcases H0O b with z | z
    ·exact .inl z
    ·exact .inr (.inr z)
  ·by_cases hb:b=a
   ·subst hb
    rw [ua] at z
    cases z
    exact ⟨ha,by rw [List.length_map];exact hl,vs,_,rv,ha⟩
   ·rw [upd_ne hb] at z
    obtain ⟨⟨t,ht,rfl⟩,rfl⟩:=H0c b u z
    exact (hts t ht).2.2
  ·by_cases hb:b=a
   ·exact .inl hb
   ·rw [upd_ne hb] at z
    cases q:H0 b with
    | none=>exact absurd q z
    | some o=>exact .inr (H0c b o q).1
theorem walk_ofT {l:PySem.W.OpenLaw} {n k:Nat} {q:Program} {loose:List Str} {XP:(Str→Option Value)→Heap→Prop} {YP:World→Heap→Prop} {d:DefRec} {K:Params→PySem.W.Frag} {sp:World→Sp} {x:Str} {ts:List (Addr×Addr)}
  (hn:l.most=some n) (hn2:n≤sizeLine) (hdf:d.params.defaults=[]) (hr:Room k callerA)
  (hY:∀ (w:World) (h:Heap),YP w h→(K w.params).In h) (hYt:∀ (w:World) (h:Heap),YP w h→∀ t∈ts,h.get? t.2=some (PySem.W.tabObj #[]))
  (hts:∀ w:World,∀ t∈ts,PySem.W.codeHdIn (K w.params) t.1 t.2=true∧(K w.params).lookup t.2=none)
  (F:∀ (w:World) (mg:Str→Option Value) (fa:Addr) (h:Heap),(K w.params).In h→h.Ns mainGlobals mg→mg d.name=some (.ref fa) →
   ∃ fd:FuncData,(∀ (s:Shared) (u:Value),BindsTo s fd ⟨[u],[]⟩ [(x,u)]) ∧
    ∀ base:Heap,(K w.params).In base→base.Ns mainGlobals mg→BM base mg→FnOk l.prog w (K w.params) mg base CX0 k fa fd [x] (sp w))
  (hsp:∀ (w:World) (H:Hp) (a:Addr) (ns:List Int),ns.length≤n→(∀ t∈ts,H t.2=some (.tbl #[]))→SqL (K w.params) H a (ns.map V.int)→sp w [.ref a] H (fun v _=>v=.bl true) fun _ _ _=>False) :
  PySem.W.WalkO q loose XP YP l.row.toRowW d [] (fun f vs=>PySem.call f vs):=by
 refine Att.attach_call hn hdf fun w s₀ s₁ mg mb fa o pm cd doc a vs ns G Y ho hd hcd hmg hobj hints hlen hg=>?_
 have KX:=hY w _ Y
 obtain ⟨fd,hb,hF⟩:=F w mg fa _ KX G.T.g hmg
 exact law_callT KX G.T.g G.T.b G.T.builtins G.T.nolimit G.T.bmain hg hobj hints (Nat.le_trans hlen hn2) hr (fun t ht=>⟨(hts w t ht).1,(hts w t ht).2,hYt w _ Y t ht⟩) hF hb fun H hT hS=>hsp w H a ns hlen hT hS
def rCatD:R2:=fun x y H Q=>∃ a b xs ys,x=.ref a∧y=.ref b∧H a=some (.tup xs)∧H b=some (.tup ys)∧ys≠[]∧xs.length+ys.length≤sizeLine ∧
 ∀ p H',Same H H'→H' p=some (.tup (xs++ys))→Q (.ref p) H'
theorem op_catD {X:Cx}:OpR X (binaryOp .Add) rCatD:=by
 intro pins s σ H x y v u Q I rx ry h
 obtain ⟨a,b,xs,ys,rfl,rfl,ha,hb,hy,hz,q⟩:=h
 by_cases hx:xs=[]
 ·subst hx
  cases rx
  cases ry
  obtain ⟨its,r1,p1,_⟩:=I.tuple (SqT.of ha)
  obtain ⟨its2,r2,p2,_⟩:=I.tuple (SqT.of hb)
  obtain rfl:its=[]:=r1.nil_iff.mpr rfl
  exact cat_tup0 p1 p2 ⟨.ref b,H,I,rfl,q b H (Same.refl _) hb⟩
 ·exact op_catT pins s σ H _ _ v u Q I rx ry ⟨a,b,xs,ys,rfl,rfl,SqT.of ha,SqT.of hb,hx,hz,fun e=>absurd e hy,fun _ p hp=>q p _ (Same.new hp) upd_same⟩
def lamPos (st:Stmt):Pos:=match defBody st with
 | [.Return (some (.Call _ _ [⟨_,.Lambda _ _ _ pos,_⟩] _)) _]=>pos
 | _=>⟨0,0,0,0⟩
def lamTb (P:Addr) (x:Str) (st:Stmt):Tb:=⟨P,lamPos st,(x++".<locals>.")++"<lambda>"⟩
end L2
namespace Lw
open PySem PySem.Spec PyProof.Rows L2 Ma MaR
def minB (f:List Nat→Int×Int):List (List Nat)→List Nat
 | []=>[]
 | x::xs=>xs.foldl (fun b y=>if ltI (f y) (f b)=true then y else b) x
theorem minB_snoc (f:List Nat→Int×Int) {zs:List (List Nat)} (h:zs≠[]) (y:List Nat):minB f (zs++[y])=if ltI (f y) (f (minB f zs))=true then y else minB f zs:=by
 cases zs with
 | nil=>exact absurd rfl h
 | cons x zs=>show (zs++[y]).foldl _ x=_;rw [List.foldl_append];rfl
theorem minB_mem (f:List Nat→Int×Int):∀ {zs:List (List Nat)},zs≠[]→minB f zs∈zs:=by
 intro zs h
 cases zs with
 | nil=>exact absurd rfl h
 | cons x zs =>
  show zs.foldl _ x∈_
  have:∀ (zs:List (List Nat)) (x:List Nat),zs.foldl (fun b y=>if ltI (f y) (f b)=true then y else b) x∈x::zs:=by
   intro zs
   induction zs with
   | nil=>intro x;exact List.mem_cons_self
   | cons y zs ih =>
    intro x
    rw [List.foldl_cons]
    have:=ih (if ltI (f y) (f x)=true then y else x)
    rcases List.mem_cons.mp this with e | e
    ·rw [e]
     split
     ·simp
     ·simp
    ·exact List.mem_cons_of_mem _ (List.mem_cons_of_mem _ e)
  exact this zs x
theorem read_min {K:PySem.W.Frag} {ts:List Tb} {t:Tb} {ix:List Nat} {te:TE} {σ:L2.St} {H:Hp} {l:Addr} {ps:List (Addr×List Nat)} {f:List Nat→Int×Int} {Q:VK}
  (ht:t∈ts) (hT:TabsH ts H) (hl:H l=some (.lst (ps.map fun p=>V.ref p.1))) (hne:ps≠[])
  (hte:∀ (H':Hp) (p:Addr×List Nat) (Q:VK),p∈ps→SameT ts H H'→(∀ (u:Addr) (H'':Hp),Same H' H''→H'' u=some (.tup [.int (f p.2).1,.int (f p.2).2])→Q (.ref u) H'')→te (some (.ref p.1)::capσ σ ix) H' Q)
  (k:∀ (p:Addr×List Nat) (H':Hp),p∈ps→p.2=minB f (ps.map (·.2))→SameT ts H H'→Q (.ref p.1) H') :
  ∃ (l':Addr) (xs:List V),[V.ref l]=[.ref l']∧TabH H t.P t.pos t.qual ∧
   ∀ (c':Addr) (H2:Hp),H2 t.P=some (.tbl (tabOf t.pos c'))→H2 c'=some (XCd c' t.qual)→(∀ b o,H b=some o→b≠t.P→H2 b=some o)→∃ Pv:Nat→V→V→Hp→Prop,SqL K H2 l' xs ∧
    (∀ i b kb H,Pv i b kb H→SqL K H l' xs∧H c'=some (XCd c' t.qual))∧(∃ x0,xs[0]?=some x0∧te (some x0::capσ σ ix) H2 fun v H3=>Pv 1 x0 v H3) ∧
    (∀ i b kb H,Pv i b kb H→∀ y,xs[i]?=some y→te (some y::capσ σ ix) H fun v H2=>rLtI v kb H2 fun c H3=>∃ t,c=.bl t∧Pv (i+1) (if t=true then y else b) (if t=true then v else kb) H3) ∧
    ∀ b kb H,Pv xs.length b kb H→Q b H:=by
 refine ⟨l,ps.map fun p=>V.ref p.1,rfl,hT.2 t ht,fun c' H2 eP eC go=>?_⟩
 have s2:SameT ts H H2:=.made ht hT eP eC go
 have el:=s2.lst hl
 refine ⟨fun i b kb H'=>1≤i∧∃ (p:Addr×List Nat) (u:Addr),p∈ps∧b=.ref p.1∧kb=.ref u∧p.2=minB f ((ps.map (·.2)).take i)∧Same H2 H'∧H' u=some (.tup [.int (f p.2).1,.int (f p.2).2]),SqL.of el,?_,?_,?_,?_⟩
 ·rintro i b kb H' ⟨_,p,u,_,_,_,_,s,_⟩
  exact ⟨SqL.of (s _ _ el),s _ _ eC⟩
 ·obtain ⟨p0,rest,rfl⟩:=List.exists_cons_of_ne_nil hne
  refine ⟨_,rfl,hte H2 p0 _ List.mem_cons_self s2 fun u H3 s3 e3=>⟨Nat.le_refl _,p0,u,List.mem_cons_self,rfl,rfl,rfl,s3,e3⟩⟩
 ·rintro i b kb H' ⟨hi,p,u,hp,rfl,rfl,hm,s3,e3⟩ y hy
  rw [List.getElem?_map] at hy
  obtain ⟨y',hy',rfl⟩:∃ y',ps[i]?=some y'∧V.ref y'.1=y:=by
   cases hz:ps[i]? with
   | none=>rw [hz] at hy;cases hy
   | some y'=>rw [hz] at hy;exact ⟨y',rfl,Option.some.inj hy⟩
  have hym:=List.mem_of_getElem? hy'
  refine hte H' y' _ hym (s2.trans (.of s3)) fun u2 H4 s4 e4=>⟨u2,u,f y'.2,f p.2,rfl,rfl,e4,s4 _ _ e3,_,rfl,Nat.le_succ_of_le hi,?_⟩
  have tk:(ps.map (·.2)).take (i+1)=(ps.map (·.2)).take i++[y'.2]:=by rw [List.take_add_one,List.getElem?_map,hy'];rfl
  have hnil:(ps.map (·.2)).take i≠[]:=fun z=>by
   have z1:=congrArg List.length z
   rw [List.length_take,List.length_map,List.length_nil] at z1
   have z2:=(List.getElem?_eq_some_iff.mp hy').1
   omega
  rw [tk,minB_snoc f hnil,← hm]
  by_cases hlt:ltI (f y'.2) (f p.2)=true
  ·rw [if_pos hlt,if_pos hlt,if_pos hlt]
   exact ⟨y',u2,hym,rfl,rfl,rfl,s3.trans s4,e4⟩
  ·rw [if_neg hlt,if_neg hlt,if_neg hlt]
   exact ⟨p,u,hp,rfl,rfl,rfl,s3.trans s4,s4 _ _ e3⟩
 ·rintro b kb H' ⟨hi,p,u,hp,rfl,rfl,hm,s3,e3⟩
  rw [List.length_map,List.take_of_length_le (by rw [List.length_map];exact Nat.le_refl _)] at hm
  exact k p H' hp hm (s2.trans (.of s3))
def lsKey (rs:List (List Nat)) (sd:List Nat):Int×Int:=(sumL sd (Dk (tiesR rs)),(sd.length:Nat))
def lsd (n:Nat) (rs:List (List Nat)) (c:Nat):List Nat:=minB (lsKey rs) (sidesL n c)
def fallO (n:Nat) (rs:List (List Nat)) (c:Nat):Int:=cntR rs c - sumL (lsd n rs c) (Dk (tiesR rs))
def shoP (n:Nat) (rs:List (List Nat)) (c:Nat):Bool:=decide (fallO n rs c > 0)
def sho (n:Nat) (rs:List (List Nat)):Option Nat:=(lowN n).find? (shoP n rs)
theorem sidesL_ne (n c:Nat):sidesL n c≠[]:=by
 unfold sidesL sidesF
 have:∀ (L:List Nat) (z:List (List Nat)),z≠[]→L.foldl (stepS c) z≠[]:=by
  intro L
  induction L with
  | nil=>intro z h;exact h
  | cons o L ih =>
   intro z h
   rw [List.foldl_cons]
   refine ih _ ?_
   unfold stepS
   split
   ·exact h
   ·split
    ·intro e;exact h (List.map_eq_nil_iff.mp e)
    ·intro e;exact h (List.append_eq_nil_iff.mp e).1
 exact this _ _ (by simp)
theorem side_good {n c:Nat} (n1:1≤n) (n4:n≤4) (hc:c∈letsN n) {sd:List Nat} (h:sd∈sidesL n c):GoodS n c sd:=by
 obtain ⟨h1,h2,h3⟩:=(mem_sides (con_ne (letsN_isL hc)).symm _ _ rfl (lets_nodup n1 n4) sd).mp h
 have hln:(letsN (n:Nat)).length=2 * n:=by have:=letsN_len (n:=(n:Nat)) (by omega) (by omega);omega
 exact ⟨⟨hc,fun d hd=>h1.subset hd,by have:=h1.length_le;omega⟩,h3 hc,h2⟩
theorem lsd_good {n c:Nat} (n1:1≤n) (n4:n≤4) (hc:c∈letsN n) (rs:List (List Nat)):GoodS n c (lsd n rs c):=side_good n1 n4 hc (minB_mem _ (sidesL_ne n c))
theorem sho_low {n c:Nat} {rs:List (List Nat)} (h:sho n rs=some c):c∈lowN n:=List.mem_of_find?_eq_some h
theorem find_take {α:Type} {p:α→Bool} {xs:List α} {i:Nat} {x:α} (h:xs[i]?=some x) (ho:∀ y∈xs.take i,p y=false) (hx:p x=true):xs.find? p=some x:=by
 have hi:=(List.getElem?_eq_some_iff.mp h).1
 have e:xs=xs.take i++x::xs.drop (i+1):=by
  have h2:=List.drop_eq_getElem_cons hi
  rw [(List.getElem?_eq_some_iff.mp h).2] at h2
  rw [← h2,List.take_append_drop]
 rw [e,List.find?_append,List.find?_eq_none.mpr (fun y hy=>by rw [ho y hy];simp)]
 simp [hx]
theorem IsChg.sameT {ts:List Tb} {H H':Hp} {p:Addr} {c:Nat} {sd:List Nat} (h:IsChg H p c sd) (s:SameT ts H H'):IsChg H' p c sd:=by
 obtain ⟨q,h1,h2⟩:=h
 exact ⟨q,s.tup h1,s.tup h2⟩
theorem SameT.dT {ts:List Tb} {H H':Hp} (s:SameT ts H H') {b:Addr} {d:List (KP×V)} (e:H b=some (.dT d)):H' b=some (.dT d):=s.keep b _ e fun _ z=>by cases z
def spSidesD:Sp:=fun vs H Q _=>∃ n c:Nat,vs=[.int (n:Nat),.str (S [c])]∧1≤n∧n≤4∧c∈letsN n ∧
 ∀ (l:Addr) (ps:List (Addr×List Nat)) (H':Hp),Same H H'→H' l=some (.lst (ps.map fun p=>V.ref p.1))→(∀ p∈ps,H' p.1=some (.tup (lstC p.2)))→ps.map (·.2)=sidesL n c→Q (.ref l) H'
def spLeastT (ts:List Tb):Sp:=fun vs H Q _=>∃ (n:Nat) (td:Addr) (rs:List (List Nat)) (c:Nat),vs=[.int (n:Nat),.ref td,.str (S [c])]∧1≤n∧n≤4∧c∈letsN n∧H td=some (.dT (Dk (tiesR rs)))∧totL rs≤900∧TabsH ts H ∧
 ∀ (q:Addr) (H':Hp),SameT ts H H'→H' q=some (.tup (lstC (lsd n rs c)))→Q (.ref q) H'
def spShort (K:PySem.W.Frag) (ts:List Tb):Sp:=fun vs H Q _=>∃ (n:Nat) (a:Addr) (rs:List (List Nat)),vs=[.int (n:Nat),.ref a]∧SqT K H a (wds rs)∧1≤n∧n≤4∧rs.length≤900∧(∀ x∈rs,AllL x)∧totL rs≤900∧TabsH ts H ∧
 (sho n rs=none→∀ H',SameT ts H H'→Q .non H')∧∀ (c:Nat) (p:Addr) (H':Hp),sho n rs=some c→SameT ts H H'→IsChg H' p c (lsd n rs c)→Q (.ref p) H'
def spLawT (K:PySem.W.Frag) (ts:List Tb):Sp:=fun vs H Q _=>∃ (a:Addr) (ns:List Int),vs=[.ref a]∧SqL K H a (ns.map V.int)∧ns.length≤63∧TabsH ts H∧∀ H',Q (.bl true) H'
theorem tabs_keep {ts:List Tb} {H H':Hp} (k:∀ b o,H b=some o→(∀ xs,o≠.lst xs)→H' b=some o) (h:TabsH ts H):TabsH ts H':=⟨h.1,fun t ht=>by
 rcases h.2 t ht with e | ⟨c,e,e2⟩
 ·exact .inl (k _ _ e (by intro _ z;cases z))
 ·exact .inr ⟨c,k _ _ e (by intro _ z;cases z),k _ _ e2 (by intro _ z;unfold XCd at z;cases z)⟩⟩
theorem tabs_set {ts:List Tb} {H:Hp} {d:Addr} {xs:List V} {o:HO} (e:H d=some (.lst xs)) (h:TabsH ts H):TabsH ts (upd H d o):=tabs_keep (fun b u eb n=>(upd_ne (fun z=>by subst z;rw [e] at eb;cases eb;exact n _ rfl)).trans eb) h
theorem tabs_kp {ts:List Tb} {H H':Hp} {fl sc:Addr} (f:IsFl H fl sc) (k:Kp fl H H') (h:TabsH ts H):TabsH ts H':=tabs_keep (fun b u eb n=>k b u eb fun z=>by
 obtain ⟨_,_,_,_,_,h1,_⟩:=f
 rw [z,h1] at eb
 cases eb
 exact n _ rfl) h
end Lw
namespace L2
open PySem PySem.Spec PyProof.Rows
end L2
namespace Lw
open PySem PySem.Spec PyProof.Rows L2 Ma MaR
theorem lstC_erase:∀ (w:List Nat) (i:Nat),(lstC w).eraseIdx i=lstC (w.eraseIdx i)
 | [],_=>rfl
 | _::_,0=>rfl
 | c::w,i+1=>by
  show V.str (S [c])::(lstC w).eraseIdx i=V.str (S [c])::lstC (w.eraseIdx i)
  rw [lstC_erase w i]
end Lw
namespace PySem
open Sem (wp)
section
variable {prog:Program} {w:World} {A:Around} {E:Value→Shared→Prop} {s:Shared}
end
end PySem
namespace L2
open PySem PySem.Spec PyProof.Rows
section
variable {X:Cx}
end
end L2
namespace Lw
open PySem PySem.Spec PyProof.Rows L2 Ma MaR
end Lw
namespace Lw
open PySem PySem.Spec PyProof.Rows L2 Ma MaR
end Lw
namespace Lw
open PySem PySem.Spec PyProof.Rows L2 Ma MaR
end Lw
namespace Lw
open PySem PySem.Spec PyProof.Rows L2 Ma MaR
end Lw
namespace Lw
open PySem PySem.Spec PyProof.Rows L2 Ma MaR
structure Exch (n:Nat) (cs:List Nat):Prop where
 len:cs.length=n
 mem:∀ c∈cs,c∈letsN n
 perm:(cs.map lo).Perm (lowN n)
def ones' (cs:List Nat):List (List Nat):=cs.map fun c=>[c]
def spExchP:Sp:=fun vs H Q _=>∃ (fl sc:Addr) (n:Nat),vs=[.ref fl,.int (n:Nat)]∧IsFl H fl sc∧1≤n∧n≤4∧∀ (p:Addr) (cs:List Nat) (H':Hp),H p=none→Exch n cs→RT (ones' cs) n 1→(∀ x∈ones' cs,OfN n x)→H' p=some (.tup (wds (ones' cs)))→IsFl H' fl sc→Kp fl H H'→Q (.ref p) H'
theorem lo_low {d:Nat} (hd:isL d) (h:isLow d=true):lo d=d:=((low_of hd hd h).mpr (.inl rfl)).symm
theorem lo_con {d:Nat} (hd:isL d) (h:isLow d=true):lo (con d)=d:=((low_of (isL_con hd) hd h).mpr (.inr (con_con hd).symm)).symm
theorem erase_perm {ls:List Nat} {i d:Nat} (h:ls[i]?=some d):(d::ls.eraseIdx i).Perm ls:=by
 induction ls generalizing i with
 | nil=>simp at h
 | cons a ls ih =>
  cases i with
  | zero=>simp at h;subst h;exact List.Perm.refl _
  | succ i =>
   have:=ih (i:=i) (by simpa using h)
   show (d::a::ls.eraseIdx i).Perm (a::ls)
   exact (List.Perm.swap a d _).trans (this.cons a)
end Lw
namespace L2
open PySem PySem.Spec PyProof.Rows
end L2
namespace Lw
open PySem PySem.Spec PyProof.Rows L2 Ma MaR
def ixL (c:Nat):Nat:=if isLow c=true then c - 97 else c - 65
def gX (cs:List Nat) (c:Nat):Nat:=if isLow c=true then cs.getD (ixL c) 0 else con (cs.getD (ixL c) 0)
theorem ixL_lt {n c:Nat} (h1:1≤n) (h4:n≤4) (h:c∈letsN n):ixL c<n:=by
 have hL:=isL_cases (letsN_isL h)
 rcases n14 h1 h4 with rfl | rfl | rfl | rfl <;> rcases hL with rfl | rfl | rfl | rfl | rfl | rfl | rfl | rfl <;> revert h <;> decide
theorem lo_con' {d:Nat} (hd:isL d):lo (con d)=lo d:=by
 rcases isL_cases hd with rfl | rfl | rfl | rfl | rfl | rfl | rfl | rfl <;> decide
section
variable {n:Nat} {cs:List Nat} (h1:1≤n) (h4:n≤4) (e:Exch n cs)
include h1 h4 e
theorem Exch.at {c:Nat} (h:c∈letsN n):∃ d,cs[ixL c]?=some d∧d∈letsN n∧gX cs c=if isLow c=true then d else con d:=by
 have hi:=ixL_lt h1 h4 h
 have hl:ixL c<cs.length:=by rw [e.len];exact hi
 refine ⟨cs[ixL c],List.getElem?_eq_getElem hl,e.mem _ (List.getElem_mem hl),?_⟩
 unfold gX
 rw [List.getD_eq_getElem?_getD,List.getElem?_eq_getElem hl]
 rfl
theorem Exch.tell {c:Nat} (h:c∈letsN n):tell (ones' cs) c=[gX cs c]:=by
 obtain ⟨d,hd,_,hg⟩:=e.at h1 h4 h
 have e0:(ones' cs).getD (ixL c) []=[d]:=by
  unfold ones'
  rw [List.getD_eq_getElem?_getD,List.getElem?_map,hd]
  rfl
 unfold Lw.tell
 rw [hg]
 by_cases q:isLow c=true
 ·rw [if_pos q,if_pos q]
  unfold ixL at e0
  rw [if_pos q] at e0
  exact e0
 ·rw [if_neg q,if_neg q]
  unfold ixL at e0
  rw [if_neg q] at e0
  rw [e0]
  rfl
theorem Exch.gmem {c:Nat} (h:c∈letsN n):gX cs c∈letsN n:=by
 obtain ⟨d,_,hm,hg⟩:=e.at h1 h4 h
 rw [hg]
 split
 ·exact hm
 ·exact letsN_con (by omega) (by omega) hm
theorem Exch.told {x:List Nat} (hx:OfN n x):told (ones' cs) x=x.map (gX cs):=by
 induction x with
 | nil=>rfl
 | cons c x ih=>rw [told_cons,e.tell h1 h4 (hx c List.mem_cons_self),ih fun d hd=>hx d (List.mem_cons_of_mem _ hd)];rfl
end
end Lw
namespace Lw
open PySem PySem.Spec PyProof.Rows L2 Ma MaR
section
variable {n:Nat} {cs:List Nat} (h1:1≤n) (h4:n≤4) (e:Exch n cs)
include h1 h4 e
end
end Lw
namespace Lw
open PySem PySem.Spec PyProof.Rows L2 Ma MaR
section
variable {n:Nat} {cs:List Nat} (h1:1≤n) (h4:n≤4) (e:Exch n cs)
include h1 h4
include e
end
end Lw
namespace Lw
open PySem PySem.Spec PyProof.Rows L2 Ma MaR
end Lw
namespace Lw
open PySem PySem.Spec PyProof.Rows L2 Ma MaR
inductive ShortR (n:Nat):List (List Nat)→List (Nat×List Nat)→List (List Nat)→Prop where
 | stop {rs:List (List Nat)} (h:sho n rs=none):ShortR n rs [] rs
 | step {rs qs zs:List (List Nat)} {c:Nat} {cs:List (Nat×List Nat)} (h:sho n rs=some c) (hr:RowR (chgR n c (lsd n rs c)) rs qs) (hg:∀ y∈qs,RgN n y) (ht:ShortR n qs cs zs):ShortR n rs ((c,lsd n rs c)::cs) zs
theorem sho_lets {n c:Nat} {rs:List (List Nat)} (n1:1≤n) (n4:n≤4) (h:sho n rs=some c):c∈letsN n:=low_lets n1 n4 (sho_low h)
theorem sho_pos {n c:Nat} {rs:List (List Nat)} (h:sho n rs=some c):0<fallO n rs c:=of_decide_eq_true (List.find?_some (p:=shoP n rs) h)
theorem fall_len {n c:Nat} {rs qs:List (List Nat)} (n1:1≤n) (n4:n≤4) (h:sho n rs=some c) (hx:∀ x∈rs,RgN n x) (hr:RowR (chgR n c (lsd n rs c)) rs qs):totL qs<totL rs:=by
 have e:=ahead_len n1 n4 (lsd_good n1 n4 (sho_lets n1 n4 h) rs) hx hr
 have p:=sho_pos h
 unfold fallO at p
 omega
theorem ShortR.fin {n:Nat} (n1:1≤n) (n4:n≤4) {rs zs:List (List Nat)} {cs:List (Nat×List Nat)} (a:ShortR n rs cs zs):(∀ x∈rs,RgN n x)→(∀ y∈zs,RgN n y)∧totL zs+cs.length≤totL rs∧zs.length=rs.length∧sho n zs=none∧∀ p∈cs,p.2.length≤8:=by
 induction a with
 | stop h=>exact fun hx=>⟨hx,by simp,rfl,h,fun p hp=>nomatch hp⟩
 | @step rs qs zs c cs h hr hg ht ih =>
  intro hx
  obtain ⟨a1,a2,a3,a4,a5⟩:=ih hg
  have:=fall_len n1 n4 h hx hr
  refine ⟨a1,by rw [List.length_cons];omega,by rw [a3,hr.1],a4,fun p hp=>?_⟩
  rcases List.mem_cons.mp hp with e | e
  ·rw [e];exact (lsd_good n1 n4 (sho_lets n1 n4 h) rs).base.le
  ·exact a5 p e
inductive Lq (K:PySem.W.Frag) (H:Hp):Nat→V→V→Prop where
 | flat {d:Nat} {v:V} (h:flatV v=true):Lq K H d v v
 | tup {d:Nat} {a b:Addr} {xs ys:List V} (h1:SqT K H a xs) (h2:SqT K H b ys) (hl:xs.length=ys.length) (hm:xs.length≤100) (h:∀ (i:Nat) (x y:V),xs[i]?=some x→ys[i]?=some y→Lq K H d x y):Lq K H (d+1) (.ref a) (.ref b)
 | lst {d:Nat} {a b:Addr} {xs ys:List V} (h1:H a=some (.lst xs)) (h2:H b=some (.lst ys)) (hl:xs.length=ys.length) (hm:xs.length≤100) (h:∀ (i:Nat) (x y:V),xs[i]?=some x→ys[i]?=some y→Lq K H d x y):Lq K H (d+1) (.ref a) (.ref b)
theorem Lq.same {K:PySem.W.Frag} {H H':Hp} (s:Same H H'):∀ {d:Nat} {x y:V},Lq K H d x y→Lq K H' d x y:=fun h=>by
 induction h with
 | flat h=>exact .flat h
 | tup h1 h2 hl hm _ ih=>exact .tup (L2.SqT.same s h1) (L2.SqT.same s h2) hl hm ih
 | lst h1 h2 hl hm _ ih=>exact .lst (s _ _ h1) (s _ _ h2) hl hm ih
def spLq (K:PySem.W.Frag) (d:Nat):Sp:=fun vs H Q _=>∃ x y:V,vs=[x,y]∧Lq K H d x y∧∀ H',Same H H'→Q (.bl true) H'
def IsSh (K:PySem.W.Frag) (H:Hp) (o l:Addr) (n:Nat) (rs:List (List Nat)):Prop:=∃ (z:Addr) (ps:List (Addr×Nat×List Nat)) (qs:List (List Nat)),H o=some (.tup [.ref l,.ref z])∧H l=some (.lst (ps.map fun p=>V.ref p.1))∧(∀ p∈ps,IsChg H p.1 p.2.1 p.2.2)∧SqT K H z (wds qs)∧ShortR n rs (ps.map (·.2)) qs
theorem lq_side {K:PySem.W.Frag} {H:Hp} {u u2:Addr} {sd:List Nat} (h:H u=some (.tup (lstC sd))) (g:H u2=some (.tup (lstC sd))) (hl:sd.length≤100):Lq K H 1 (.ref u) (.ref u2):=by
 refine .tup (SqT.of h) (SqT.of g) rfl (by rw [lstC_len];exact hl) fun i x y hx hy=>?_
 rw [hx] at hy
 cases hy
 obtain ⟨d,_,rfl⟩:=List.mem_map.mp (List.mem_of_getElem? hx)
 exact .flat rfl
theorem lq_chg {K:PySem.W.Frag} {H:Hp} {p p2:Addr} {c:Nat} {sd:List Nat} (ic:IsChg H p c sd) (ic2:IsChg H p2 c sd) (hl:sd.length≤100):Lq K H 2 (.ref p) (.ref p2):=by
 obtain ⟨u,h1,h2⟩:=ic
 obtain ⟨u2,g1,g2⟩:=ic2
 refine .tup (SqT.of h1) (SqT.of g1) rfl (by simp) fun i x y hx hy=>?_
 match i,hx,hy with
 | 0,hx,hy=>cases hx;cases hy;exact .flat rfl
 | 1,hx,hy=>cases hx;cases hy;exact lq_side h2 g2 hl
 | _+2,hx,_=>cases hx
theorem IsFl.sameT {ts:List Tb} {H H':Hp} {fl sc:Addr} (s:SameT ts H H') (h:IsFl H fl sc):IsFl H' fl sc:=by
 obtain ⟨ns,i,a,b,c,h1,h2,r⟩:=h
 exact ⟨ns,i,a,b,c,s.lst h1,s.lst h2,r⟩
def spShortM (K:PySem.W.Frag) (ts:List Tb):Sp:=fun vs H Q _=>∃ (n:Nat) (a:Addr) (rs:List (List Nat)),vs=[.int (n:Nat),.ref a]∧SqT K H a (wds rs)∧1≤n∧n≤4∧rs.length≤100∧(∀ x∈rs,RgN n x)∧totL rs≤100∧TabsH ts H ∧
 ∀ (o l:Addr) (H':Hp),H l=none→SameT ts H H'→IsSh K H' o l n rs→Q (.ref o) H'
structure LoopS (K:PySem.W.Frag) (ts:List Tb) (H:Hp) (l:Addr) (n:Nat) (rs:List (List Nat)) (m:Nat) (z:Addr) (ps:List (Addr×Nat×List Nat)) (qs:List (List Nat)) (H2:Hp):Prop where
 m:m=totL qs
 same:SameT ts H H2
 el:H2 l=some (.lst (ps.map fun p=>V.ref p.1))
 ch:∀ p∈ps,IsChg H2 p.1 p.2.1 p.2.2
 row:SqT K H2 z (wds qs)
 len:qs.length=rs.length
 rg:∀ x∈qs,RgN n x
 tot:ps.length+totL qs≤totL rs
 ext:∀ cs zs,ShortR n qs cs zs→ShortR n rs (ps.map (·.2)++cs) zs
def ShW (H:Hp) (n:Nat) (qs:List (List Nat)) (v:V):Prop:=(v=.non∧sho n qs=none)∨∃ (c:Nat) (p:Addr),v=.ref p∧sho n qs=some c∧IsChg H p c (lsd n qs c)
section
variable {K:PySem.W.Frag} {ts:List Tb} {H H2 H3:Hp} {l z:Addr} {n m:Nat} {rs qs:List (List Nat)} {ps:List (Addr×Nat×List Nat)}
theorem LoopS.le (L:LoopS K ts H l n rs m z ps qs H2) {x:List Nat} (hx:x∈qs) (ht:totL rs≤100):x.length≤100:=by
 have:=L.tot
 have:=len_tot hx
 omega
theorem LoopS.put (L:LoopS K ts H l n rs m z ps qs H2) (hl:H l=none) {p c:Nat} {sd:List Nat} (ic:IsChg H2 p c sd) :
  SameT ts H (upd H2 l (.lst ((ps.map fun p=>V.ref p.1)++[.ref p])))∧(∀ {b:Addr} {xs:List V},H2 b=some (.tup xs)→upd H2 l (.lst ((ps.map fun p=>V.ref p.1)++[.ref p])) b=some (.tup xs))∧SqT K (upd H2 l (.lst ((ps.map fun p=>V.ref p.1)++[.ref p]))) z (wds qs) ∧
  (upd H2 l (.lst ((ps.map fun p=>V.ref p.1)++[.ref p]))) l=some (.lst ((ps++[(p,c,sd)]).map fun p=>V.ref p.1))∧∀ y∈ps++[(p,c,sd)],IsChg (upd H2 l (.lst ((ps.map fun p=>V.ref p.1)++[.ref p]))) y.1 y.2.1 y.2.2:=by
 have tupD:∀ {b:Addr} {xs:List V},H2 b=some (.tup xs)→upd H2 l (.lst ((ps.map fun p=>V.ref p.1)++[.ref p])) b=some (.tup xs):=fun h=>by rw [upd_ne (ne_of h L.el (by intro z;cases z))];exact h
 refine ⟨⟨fun b o e nt=>(upd_ne (fun z=>by rw [z,hl] at e;cases e)).trans (L.same.keep b o e nt),fun h=>tabs_set L.el (L.same.tabs h)⟩,tupD,SqT.setL L.row L.el,by rw [upd_same,List.map_append];rfl,fun y hy=>?_⟩
 rcases List.mem_append.mp hy with q | q
 ·obtain ⟨w,w1,w2⟩:=L.ch y q
  exact ⟨w,tupD w1,tupD w2⟩
 ·rw [List.mem_singleton.mp q]
  obtain ⟨w,w1,w2⟩:=ic
  exact ⟨w,tupD w1,tupD w2⟩
end
end Lw
namespace Lw
open PySem PySem.Spec PyProof.Rows L2 Ma MaR
section
variable {X:Cx}
theorem pairs_q {A:Around} {s:Shared} {xs ys:List V} {us vs:List Value} (rx:Vals xs us) (ry:Vals ys vs) (h:∀ (i:Nat) (x y:V),xs[i]?=some x→ys[i]?=some y→∀ u v,RelV x u→RelV y v→SeqAt.EqAt A s u v true) :
  ∀ (j:Nat) (h1:j<us.toArray.size) (h2:j<vs.toArray.size),SeqAt.EqAt A s us.toArray[j] vs.toArray[j] ((fun _=>true) j):=fun j h1 h2=>by
 have hx:j<xs.length:=by rw [rx.length];simpa using h1
 have hy:j<ys.length:=by rw [ry.length];simpa using h2
 obtain ⟨u,hu,ru⟩:=rx.get (List.getElem?_eq_getElem hx)
 obtain ⟨v,hv,rv⟩:=ry.get (List.getElem?_eq_getElem hy)
 have eu:us.toArray[j]=u:=by
  have:us[j]?=some us.toArray[j]:=by rw [List.getElem?_eq_getElem (by simpa using h1)];simp
  rw [hu] at this;exact (Option.some.inj this).symm
 have ev:vs.toArray[j]=v:=by
  have:vs[j]?=some vs.toArray[j]:=by rw [List.getElem?_eq_getElem (by simpa using h2)];simp
  rw [hv] at this;exact (Option.some.inj this).symm
 rw [eu,ev]
 exact h j _ _ (List.getElem?_eq_getElem hx) (List.getElem?_eq_getElem hy) u v ru rv
theorem all_tt (n:Nat):(List.range n).all (fun _=>true)=true:=List.all_eq_true.mpr fun _ _=>rfl
theorem eqAt_q {pins:List (Addr×Obj)} {σ:L2.St} {H:Hp} {s:Shared} (I:Inv X pins σ H s) {d:Nat} {x y:V} (h:Lq X.K H d x y):∀ (A:Around),A.units+d<cLine→∀ u v,RelV x u→RelV y v→SeqAt.EqAt A s u v true:=by
 induction h with
 | @flat d v hf =>
  intro A _ u w ru rw'
  have:=eqAt_V (A:=A) (s:=s) ru rw' hf hf
  rwa [eqV_refl hf] at this
 | @tup d a b xs ys h1 h2 hl hm _ ih =>
  intro A hu u w ru rw'
  cases ru
  cases rw'
  by_cases hab:a=b
  ·subst hab;exact SeqAt.EqAt.same _
  ·obtain ⟨us,r1,p1,_⟩:=I.tuple h1
   obtain ⟨vs,r2,p2,_⟩:=I.tuple h2
   have z:=SeqAt.RcAt.tuples (A:=A) (show s.heap.IsTuple a us.toArray from p1) (show s.heap.IsTuple b vs.toArray from p2) (by omega) (pairs_q (A:=A.in1) (s:=s) r1 r2 fun i x y hx hy u v=>ih i x y hx hy A.in1 (by show A.units+1+d<cLine;omega) u v)
   have e:((List.range (min us.toArray.size vs.toArray.size)).all (fun _=>true) && us.toArray.size == vs.toArray.size)=true:=by
    rw [all_tt,List.size_toArray,List.size_toArray,← r1.length,← r2.length,hl];simp
   rw [e] at z
   exact SeqAt.EqAt.of_refs hab z
 | @lst d a b xs ys h1 h2 hl hm _ ih =>
  intro A hu u w ru rw'
  cases ru
  cases rw'
  by_cases hab:a=b
  ·subst hab;exact SeqAt.EqAt.same _
  ·obtain ⟨us,r1,p1,_⟩:=I.list (SqL.of h1)
   obtain ⟨vs,r2,p2,_⟩:=I.list (SqL.of h2)
   have z:=SeqAt.RcAt.lists (A:=A) p1.isList p2.isList (by simp;rw [← r1.length,← r2.length];exact hl) (by omega) (pairs_q (A:=A.in1) (s:=s) r1 r2 fun i x y hx hy u v=>ih i x y hx hy A.in1 (by show A.units+1+d<cLine;omega) u v)
   rw [all_tt] at z
   exact SeqAt.EqAt.of_refs hab z
def rEqQ (K:PySem.W.Frag) (neg:Bool):R2:=fun x y H Q=>∃ (d:Nat) (a b:Addr) (xs ys:List V),d≤30∧x=.ref a∧y=.ref b∧((H a=some (.lst xs)∧H b=some (.lst ys))∨(SqT K H a xs∧SqT K H b ys))∧xs.length=ys.length∧(∀ (i:Nat) (x y:V),xs[i]?=some x→ys[i]?=some y→Lq K H d x y)∧Q (.bl (!neg)) H
theorem op_eqQ {K:PySem.W.Frag} (hK:X.K=K) (hu:X.A.units+64<cLine):OpR X (compareOp .Eq) (rEqQ K false):=by
 subst hK
 intro pins s σ H x y v u Q I rx ry h
 obtain ⟨d,a,b,xs,ys,hd,rfl,rfl,hq,hl,hall,q⟩:=h
 cases rx
 cases ry
 rcases hq with ⟨ha,hb⟩ | ⟨ha,hb⟩
 ·obtain ⟨us,r1,p1,_⟩:=I.list (SqL.of ha)
  obtain ⟨vs,r2,p2,_⟩:=I.list (SqL.of hb)
  refine SeqAt.eq_listAt p1.isList p2.isList (by simp;rw [← r1.length,← r2.length];exact hl) (by omega) (pairs_q (A:=X.A.in1) (s:=s) r1 r2 fun i x y hx hy u v=>eqAt_q I (hall i x y hx hy) X.A.in1 (by show X.A.units+1+d<cLine;omega) u v) ?_
  rw [all_tt]
  exact ⟨.bl _,H,I,rfl,q⟩
 ·obtain ⟨us,r1,p1,_⟩:=I.tuple ha
  obtain ⟨vs,r2,p2,_⟩:=I.tuple hb
  refine SeqAt.eq_tupleAt (show s.heap.IsTuple a us.toArray from p1) (show s.heap.IsTuple b vs.toArray from p2) (by omega) (pairs_q (A:=X.A.in1) (s:=s) r1 r2 fun i x y hx hy u v=>eqAt_q I (hall i x y hx hy) X.A.in1 (by show X.A.units+1+d<cLine;omega) u v) ?_
  have e:((List.range (min us.toArray.size vs.toArray.size)).all (fun _=>true) && us.toArray.size == vs.toArray.size)=true:=by
   rw [all_tt,List.size_toArray,List.size_toArray,← r1.length,← r2.length,hl];simp
  rw [e]
  exact ⟨.bl _,H,I,rfl,q⟩
theorem op_neQ {K:PySem.W.Frag} (hK:X.K=K) (hu:X.A.units+64<cLine):OpR X (compareOp .NotEq) (rEqQ K true):=by
 subst hK
 intro pins s σ H x y v u Q I rx ry h
 obtain ⟨d,a,b,xs,ys,hd,rfl,rfl,hq,hl,hall,q⟩:=h
 cases rx
 cases ry
 rcases hq with ⟨ha,hb⟩ | ⟨ha,hb⟩
 ·obtain ⟨us,r1,p1,_⟩:=I.list (SqL.of ha)
  obtain ⟨vs,r2,p2,_⟩:=I.list (SqL.of hb)
  refine EqBoolInt.of_rcne (SeqAt.RcNeAt.lists p1.isList p2.isList (by simp;rw [← r1.length,← r2.length];exact hl) (by omega) (pairs_q (A:=X.A.in1) (s:=s) r1 r2 fun i x y hx hy u v=>eqAt_q I (hall i x y hx hy) X.A.in1 (by show X.A.units+1+d<cLine;omega) u v)) ?_
  rw [all_tt]
  exact ⟨.bl _,H,I,rfl,q⟩
 ·obtain ⟨us,r1,p1,_⟩:=I.tuple ha
  obtain ⟨vs,r2,p2,_⟩:=I.tuple hb
  refine EqBoolInt.of_rcne (SeqAt.RcNeAt.tuples (show s.heap.IsTuple a us.toArray from p1) (show s.heap.IsTuple b vs.toArray from p2) (by omega) (pairs_q (A:=X.A.in1) (s:=s) r1 r2 fun i x y hx hy u v=>eqAt_q I (hall i x y hx hy) X.A.in1 (by show X.A.units+1+d<cLine;omega) u v)) ?_
  have e:((List.range (min us.toArray.size vs.toArray.size)).all (fun _=>true) && us.toArray.size == vs.toArray.size)=true:=by
   rw [all_tt,List.size_toArray,List.size_toArray,← r1.length,← r2.length,hl];simp
  rw [e]
  exact ⟨.bl _,H,I,rfl,q⟩
end
end Lw
namespace LtL
open PySem PyProof.Rows HT
open PySem.SeqAt
open PySem.AutoSeq1 (wpAny_loadPart')
open PySem.MeetsSeq PySem.MeetsSeq2 PySem.MeetsSeq3
theorem drop_nil {ns:List Int} {i:Nat} (h:ns.length≤i):ns.drop i=[]:=List.drop_of_length_le h
theorem lt_loopA (l b:Addr) (us vs:List Value) (n n2:Nat) (ns ms:List Int) (hi:IntsAre us ns) (hj:IntsAre vs ms) (k:Nat) :
  ∀ i:Nat,min us.length vs.length - i=k→i≤min us.length vs.length→Meets (Builtin.«list.__eq__.loop» ⟨[.ref l,.ref b,rawInt i,rawInt 0],[]⟩)
   (fun A R s=>s.heap.get? l=some { cls:=.type "list",data:=.seq us.toArray n }∧s.heap.get? b=some { cls:=.type "list",data:=.seq vs.toArray n2 }∧R (.ok (.ret (.bool (lexLt (ns.drop i) (ms.drop i))))) s):=by
 have ln:us.length=ns.length:=hi.length
 have lm:vs.length=ms.length:=hj.length
 induction k with
 | zero =>
  intro i hk hle prog w A R s h
  obtain ⟨hp,g,d,tk,os⟩:=s;obtain ⟨hl,hb,h⟩:=h
  have key:lexLt (ns.drop i) (ms.drop i)=decide (us.toArray.size<vs.toArray.size):=by
   rw [List.size_toArray,List.size_toArray]
   by_cases h1:i<us.length
   ·have h2:vs.length=i:=by omega
    obtain ⟨a,t,_,ha'⟩:=ints_at hi i h1
    rw [drop_at ha',drop_nil (ns:=ms) (by omega),decide_eq_false (by omega)];rfl
   ·by_cases h2:i<vs.length
    ·obtain ⟨a,t,_,ha'⟩:=ints_at hj i h2
     rw [drop_at ha',drop_nil (ns:=ns) (by omega),decide_eq_true (by omega)];rfl
    ·rw [drop_nil (ns:=ns) (by omega),drop_nil (ns:=ms) (by omega),decide_eq_false (by omega)];rfl
  rw [key] at h
  by_cases h1:i<us.length
  ·obtain ⟨a,t,ha,ha'⟩:=ints_at hi i h1
   have n1:us.toArray[((i:Nat):Int).toNat]?=some (.int a t):=by simpa using ha
   have n2':vs.toArray[((i:Nat):Int).toNat]?=none:=by simp;omega
   wp_walk using wpAny_loadPart' hl,wpAny_loadPart' hb
   rw [n1,n2']
   wp_walk using wpAny_loadPart' hl,wpAny_loadPart' hb
   exact h
  ·have n1:us.toArray[((i:Nat):Int).toNat]?=none:=by simp;omega
   by_cases h2:i<vs.length
   ·obtain ⟨a,t,ha,ha'⟩:=ints_at hj i h2
    have n2':vs.toArray[((i:Nat):Int).toNat]?=some (.int a t):=by simpa using ha
    wp_walk using wpAny_loadPart' hl,wpAny_loadPart' hb
    rw [n1,n2']
    wp_walk using wpAny_loadPart' hl,wpAny_loadPart' hb
    exact h
   ·have n2':vs.toArray[((i:Nat):Int).toNat]?=none:=by simp;omega
    wp_walk using wpAny_loadPart' hl,wpAny_loadPart' hb
    rw [n1,n2']
    wp_walk using wpAny_loadPart' hl,wpAny_loadPart' hb
    exact h
 | succ k ih =>
  intro i hk hle prog w A R s h
  obtain ⟨hp,g,d,tk,os⟩:=s;obtain ⟨hl,hb,h⟩:=h
  obtain ⟨a,t,ha,ha'⟩:=ints_at hi i (by omega)
  obtain ⟨c,u,hc,hc'⟩:=ints_at hj i (by omega)
  have n1:us.toArray[((i:Nat):Int).toNat]?=some (.int a t):=by simpa using ha
  have n2':vs.toArray[((i:Nat):Int).toNat]?=some (.int c u):=by simpa using hc
  rw [drop_at ha',drop_at hc',lexLt_cons] at h
  wp_walk using wpAny_loadPart' hl,wpAny_loadPart' hb
  rw [n1,n2']
  have he:=SeqAt.EqAt.int_int (A:=A.in1) (s:=⟨hp,g,d,tk,os⟩) a t c u
  refine wpAny_bind (he prog w _ _ ?_)
  cases q:(a == c) with
  | true =>
   have q':a=c:=by simpa using q
   rw [if_pos q'] at h
   wp_walk
   refine ⟨plainId_quiet plain_eq_loop _,codeAny_builtin entry_eq_loop ?_⟩
   rw [Around.under_plainId plain_eq_loop _]
   exact ih (i+1) (by omega) (by omega) prog w A R _ ⟨hl,hb,h⟩
  | false =>
   have q':¬ a=c:=by simpa using q
   rw [if_neg q'] at h
   have hri:=rcLt_int A.in1 ⟨hp,g,d,tk,os⟩ a t c u prog w
   wp_walk using wpAny_loadPart' hl,wpAny_loadPart' hb
   rw [n1,n2']
   wp_walk using hri
   exact h
theorem list_ltA (l b:Addr) (us vs:List Value) (n n2:Nat) (ns ms:List Int) (hi:IntsAre us ns) (hj:IntsAre vs ms) :
  Meets (Builtin.«list.__lt__» ⟨[.ref l,.ref b],[]⟩)
   (fun A R s=>s.heap.get? l=some { cls:=.type "list",data:=.seq us.toArray n }∧s.heap.get? b=some { cls:=.type "list",data:=.seq vs.toArray n2 }∧R (.ok (.ret (.bool (lexLt ns ms)))) s):=by
 intro prog w A R s h
 obtain ⟨hp,g,d,tk,os⟩:=s;obtain ⟨hl,hb,h⟩:=h
 have f3:=AutoSeq1.sub_list_list
 wp_walk using wpAny_loadPart' hl,wpAny_loadPart' hb
 refine ⟨plainId_quiet plain_eq_loop _,codeAny_builtin entry_eq_loop ?_⟩
 rw [Around.under_plainId plain_eq_loop _]
 exact lt_loopA l b us vs n n2 ns ms hi hj _ 0 rfl (Nat.zero_le _) prog w A R _ ⟨hl,hb,h⟩
theorem oneLt_list {prog:Program} {w:World} {A:Around} {E:Value→Shared→Prop} {s:Shared} {l b:Addr} {us vs:List Value} {n n2:Nat} {ns ms:List Int} (hi:IntsAre us ns) (hj:IntsAre vs ms) (hu:A.units<cLine)
  (hl:s.heap.get? l=some { cls:=.type "list",data:=.seq us.toArray n }) (hb:s.heap.get? b=some { cls:=.type "list",data:=.seq vs.toArray n2 }) {Q:Bool→Shared→Prop} (h:Q (lexLt ns ms) s):wpAny (model prog w) A (oneLt' true (.ref l) (.ref b)) Q E s:=by
 rw [oneLt'_eq]
 simp only [if_true]
 refine wpAny_bind (wpAny_cRoomFor hu ?_)
 refine wpAny_bind (wpAny_callSpecialIfBound?_slot ⟨_,hl,rfl⟩ PySem.F.slot_list_lt (call_meets PySem.F.slot_list_lt ⟨_,hl,rfl⟩ PySem.F.entry_list_lt (PySem.F.args_list_lt_2 _ _) (list_ltA l b us vs n n2 ns ms hi hj) ⟨hl,hb,?_⟩))
 exact wpAny_truthy_bool h
end LtL
namespace L2
open PySem PySem.Spec PyProof.Rows
def KeyL (H:Hp) (v:V) (ns:List Int):Prop:=∃ a:Addr,v=.ref a∧H a=some (.lst (ns.map V.int))
theorem kzl_get {kz:List (List Int)} {i:Nat} (h:i<kz.length):kz[i]?=some (kz.getD i []):=by
 rw [List.getD_eq_getElem?_getD,List.getElem?_eq_getElem h];rfl
section
variable {X:Cx} {k:Nat} {f:Addr} {fd:FuncData} {ps:List Str} {sp:Sp}
theorem keys_goA {spC:V→Hp→VK→Prop} {pins:List (Addr×Obj)} {σ:St} {S:Addr} {xs:List V} {Pv:Nat→List V→Hp→Prop} {body:Value→PUnit→Sem (ForInStep PUnit)} {E:Value→Shared→Prop}
  (hcall:∀ (s:Shared) (H:Hp) (y:V) (u:Value) (Q:VK),Inv X.one.one pins σ H s→RelV y u→spC y H Q→wpAny (model X.prog X.w) X.one.one.A (call (.ref f) [u]) (EP X.one.one pins σ Q) (fun _ _=>False) s) (h64:xs.length<64)
  (hbody:∀ x (s:Shared) (R:ForInStep PUnit→Shared→Prop),wpAny (model X.prog X.w) X.one.one.A (call (.ref f) [x]) (fun kv s'=>wpAny (model X.prog X.w) X.one.one.A (Builtin.List.listUpdate (.ref S) (·.push kv)) (fun _ s''=>R (.yield ⟨⟩) s'') E s') (fun _ _=>False) s→wpAny (model X.prog X.w) X.one.one.A (body x ⟨⟩) R E s)
  (hst:∀ i ks H,Pv i ks H→∀ y,xs[i]?=some y→spC y H (fun v H2=>H2 S=some (.lst ks)∧ks.length=i∧Pv (i+1) (ks++[v]) (upd H2 S (.lst (ks++[v]))))) :
  ∀ (r:List V) (us:List Value) (i:Nat) (ks:List V) (s:Shared) (H:Hp),Vals r us→xs.drop i=r→i+r.length=xs.length→Inv X.one.one pins σ H s→Pv i ks H →
   wpAny (model X.prog X.w) X.one.one.A (forIn us PUnit.unit body) (fun _ s'=>∃ ks H',Inv X.one.one pins σ H' s'∧Pv xs.length ks H') E s
 | [],us,i,ks,s,H,rv,hd,hl,I,pv=>by
  cases rv
  rw [List.forIn_nil]
  have:i=xs.length:=by simpa using hl
  subst this
  exact wpAny_pure ⟨ks,H,I,pv⟩
 | y::r,us,i,ks,s,H,rv,hd,hl,I,pv=>by
  cases rv with
  | cons ru rr =>
   rename_i u us
   have hy:xs[i]?=some y:=by
    have:=congrArg List.head? hd
    rw [List.head?_drop] at this
    exact this
   rw [List.forIn_cons]
   refine wpAny_bind (hbody _ _ _ (wpAny_mono (hcall s H y u _ I ru (hst i ks H pv y hy)) (fun kv s1 hq=>?_) fun _ _ e=>e))
   obtain ⟨v,H1,I1,rk,eS,hkl,pv1⟩:=hq
   obtain ⟨z,its,n,rks,hlk,eo⟩:=I1.lstM eS
   rw [List.length_cons] at hl
   have h64':its.length<64:=by omega
   refine listUpdate_at eo rfl ?_ (by rw [List.size_toArray,sizeLine_eq];omega) (Nat.le_trans (Nat.le_of_eq (Array.size_push ..)) (by rw [List.size_toArray,sizeLine_eq];omega))
   have I2:=I1.lset (t':=s1.toks) (its':=its++[kv]) (ys:=ks++[v]) (f:=(·.push kv)) eS eo (by simp) (rks.append (.cons rk .nil)) (by rw [List.length_append,List.length_singleton,sizeLine_eq];omega)
   exact keys_goA hcall h64 hbody hst r us (i+1) (ks++[v]) _ _ rr (by rw [← List.drop_drop,hd];rfl) (by omega) I2 pv1
theorem sort_endL {pins:List (Addr×Obj)} {σ:St} {H:Hp} {s:Shared} {S D:Addr} {e1:Nat} {ks xs:List V} {vs:List Value} {kz:List (List Int)} {P:PySem.Fin→Shared→Prop} {E:Value→Shared→Prop} (hu:X.one.one.A.units+8<cLine)
  (I:Inv X.one.one (pins++[(D,seqObj "list" #[] e1)]) σ H s) (hf:FpOk X.one.one pins H D) (eS:H S=some (.lst ks)) (rx:Vals xs vs) (hl:ks.length=xs.length) (h64:xs.length<64) (hkl:kz.length=xs.length)
  (hk:∀ (i:Nat) (v:V) (q:List Int),ks[i]?=some v→kz[i]?=some q→KeyL H v q)
  (T:TotLt (fun i j=>HT.lexLt (kz.getD i []) (kz.getD j [])))
  (h:∀ (p:Array Nat) (s':Shared),PermN xs.length p→SoTo (fun i j=>HT.lexLt (kz.getD i []) (kz.getD j [])) p xs.length→Inv X.one.one pins σ (upd (upd H S (.lst [])) D (.lst (p.toList.map fun i=>xs.getD i .non))) s'→P (.done (.ret .none)) s') :
  wpAny (model X.prog X.w) X.one.one.A (Builtin.List.listItems (.ref S) >>= fun keys=>ksk_end D false vs.toArray e1 (.ref S) keys) P E s:=by
 obtain ⟨z,us,n,ru,hlu,eo⟩:=I.lstM eS
 have lx:=rx.length
 have hD:s.heap.get? D=some (seqObj "list" #[] e1):=(I.pin (D,seqObj "list" #[] e1) (List.mem_append_right _ (List.mem_append_right _ (List.mem_singleton_self _)))).1
 refine wpAny_bind (listItems_at eo rfl ?_)
 -- the last steps: the keys' list is emptied,the sorted one is laid
 have tail:∀ (st:SortSt) (p:Array Nat) (s1:Shared),Inv X.one.one (pins++[(D,seqObj "list" #[] e1)]) σ H s1→(arrOf st).map (·.2)=List.toArray (p.toList.map fun i=>vs.getD i Value.none)→failedOf st=none→PermN xs.length p →
   SoTo (fun i j=>HT.lexLt (kz.getD i []) (kz.getD j [])) p xs.length→wpAny (model X.prog X.w) X.one.one.A (ksk_tail D false e1 (.ref S) st) P E s1:=fun st p s1 I1 hout hfl hp hso=>by
  obtain ⟨z1,us1,n1,ru1,hlu1,eo1⟩:=I1.lstM eS
  have I2:=I1.lset (t':=s1.toks) (its':=[]) (ys:=[]) (f:=fun _=>#[]) eS eo1 rfl .nil (Nat.zero_le _)
  have hD1:s1.heap.get? D=some (seqObj "list" #[] e1):=(I1.pin (D,seqObj "list" #[] e1) (List.mem_append_right _ (List.mem_append_right _ (List.mem_singleton_self _)))).1
  have hD2:(s1.heap.update S (Obj.mapSeq fun _=>(#[]:Array Value))).get? D=some (seqObj "list" #[] e1):=(I2.pin (D,seqObj "list" #[] e1) (List.mem_append_right _ (List.mem_append_right _ (List.mem_singleton_self _)))).1
  have hps:p.toList.length=xs.length:=by rw [Array.length_toList];exact hp.size
  have hpb:∀ i∈p.toList,i<xs.length:=fun i hi=>by
   have:=(Array.perm_iff_toList_perm.mp hp).mem_iff.mp hi
   simpa using this
  unfold ksk_tail
  try dsimp only
  rw [hout]
  refine wpAny_bind (listUpdate_at eo1 rfl ?_ (by rw [List.size_toArray,sizeLine_eq];omega) (Nat.zero_le _))
  refine wpAny_bind (wpAny_letGo ?_)
  refine wpAny_bind (seqEpoch_at hD2 rfl ?_)
  simp only [Bool.false_eq_true,if_false]
  refine wpAny_bind (listUpdate_at hD2 rfl ?_ (Nat.zero_le _) (by show (List.toArray (p.toList.map fun i=>vs.getD i Value.none)).size≤_;rw [List.size_toArray,List.length_map,hps,sizeLine_eq];omega))
  rw [hfl]
  simp only [bne_self_eq_false,Bool.false_eq_true,if_false]
  refine wpAny_pure (h p _ hp hso ?_)
  have rv:=vals_perm rx p.toList hpb
  have I3:=I2.unpinned
  have f2:FpOk X.one.one pins (upd H S (.lst [])) D:=⟨by rw [upd_ne (ne_of_none eS hf.1).symm];exact hf.1,hf.2⟩
  have sb:=Heap.SameBut.update (s1.heap.update S (Obj.mapSeq fun _=>(#[]:Array Value))) D (Obj.mapSeq fun _=>List.toArray (p.toList.map fun i=>vs.getD i Value.none))
  refine I3.adopt (t':=s1.toks) (D:=D) (fun b o hb e=>(sb.2 b hb).trans e) f2 ⟨by rw [List.length_map,hps,sizeLine_eq];omega,_,_,rv,get?_update_seq hD2 fun _=>List.toArray (p.toList.map fun i=>vs.getD i Value.none)⟩
 unfold ksk_end
 try dsimp only
 simp only [Bool.false_eq_true,if_false]
 by_cases h2:xs.length<2
 ·have h2':vs.toArray.size<2:=by rw [List.size_toArray];omega
  rw [if_pos h2',if_pos h2']
  refine wpAny_bind (wpAny_pure ?_)
  show wpAny _ _ (pure ((),SortSt.mk' general' (us.toArray.zip vs.toArray) #[] 7 none) >>= _) _ _ _
  refine wpAny_bind (wpAny_pure ?_)
  refine tail _ (List.toArray (List.range xs.length)) s I ?_ rfl (Array.Perm.refl _) (fun i j hij hj=>?_)
  ·show (us.toArray.zip vs.toArray).map (·.2)=_
   rw [zip_snd us vs (by omega),lx,range_getD]
  ·have e:i=j:=by omega
   rw [e];exact T.irr _
 ·have h2':¬ vs.toArray.size<2:=by rw [List.size_toArray];omega
  rw [if_neg h2',if_neg h2']
  have lu:us.length=vs.length:=by omega
  have hka:∀ (i:Nat) (v:V),ks[i]?=some v→KeyL H v (kz.getD i []):=fun i v hi=>hk i v _ hi (kzl_get (by have:=(List.getElem?_eq_some_iff.mp hi).1;omega))
  refine wpAny_bind (PySem.W.kas_kind (T:=.type "list") (by omega) (fun v hv=>?_) (by decide) (by decide) ?_)
  ·obtain ⟨i,hi⟩:=List.getElem?_of_mem hv
   have hi':i<ks.length:=by rw [ru.length];exact (List.getElem?_eq_some_iff.mp hi).1
   obtain ⟨u,hu2,r2⟩:=ru.get (List.getElem?_eq_getElem hi')
   rw [hi] at hu2
   cases hu2
   obtain ⟨a,ea,h3⟩:=hka i _ (List.getElem?_eq_getElem hi')
   rw [ea] at r2
   cases r2
   obtain ⟨_,vs3,n3,_,g3⟩:=I.hok a _ h3
   exact PySem.W.kitAt_ty _ _ ⟨_,g3,rfl⟩
  ·have hsort:=KTr.wp (cmp:=PySem.W.kas_ask X.prog X.w X.one.one.A oneType' us) (Ok:=Inv X.one.one (pins++[(D,seqObj "list" #[] e1)]) σ H) (fun i j C s' hi hj o k'=>?_) (R:=fun p s'=>(PermN xs.length p∧SoTo (fun i j=>HT.lexLt (kz.getD i []) (kz.getD j [])) p xs.length)∧Inv X.one.one (pins++[(D,seqObj "list" #[] e1)]) σ H s') (fun a s' q o=>⟨q,o⟩) (sort_tr T (n:=xs.length) (by omega)) I
   ·refine wpAny_bind (wpAny_mono (PySem.W.kat_run (Q:=fun st s'=>∃ p:Array Nat,arrOf st=p.map (PySem.W.kas_item (us.toArray.zip vs.toArray))∧failedOf st=none∧(PermN xs.length p∧SoTo (fun i j=>HT.lexLt (kz.getD i []) (kz.getD j [])) p xs.length)∧Inv X.one.one (pins++[(D,seqObj "list" #[] e1)]) σ H s')
     lu (by omega) (by omega) (fun p st s' _ a2 a3 a4=>⟨p,a2,a3,a4⟩) (by rw [← lx];exact hsort)) ?_ fun _ _ x=>x)
    rintro ⟨⟨⟩,st⟩ s1 ⟨p,har,hfl1,⟨hp,hso⟩,I1⟩
    exact tail st p s1 I1 (PySem.W.kat_snds lu har) hfl1 hp hso
   ·have e1':ks[i]?=some (ks.getD i .non):=by rw [List.getD_eq_getElem?_getD,List.getElem?_eq_getElem (by omega)];rfl
    have e2':ks[j]?=some (ks.getD j .non):=by rw [List.getD_eq_getElem?_getD,List.getElem?_eq_getElem (by omega)];rfl
    obtain ⟨a,ea,h3⟩:=hka i _ e1'
    obtain ⟨b,eb,h4⟩:=hka j _ e2'
    have r3:=vals_at ru i (by omega)
    have r4:=vals_at ru j (by omega)
    rw [ea] at r3
    rw [eb] at r4
    obtain ⟨_,us3,n3,rv3,g3⟩:=o.hok a _ h3
    obtain ⟨_,us4,n4,rv4,g4⟩:=o.hok b _ h4
    show wpAny (model X.prog X.w) X.one.one.A (keyLt' oneType' (us.getD i Value.none) (us.getD j Value.none)) C (fun _ _=>False) s'
    rw [show us.getD i Value.none=Value.ref a from r3,show us.getD j Value.none=Value.ref b from r4,keyLt'_oneType]
    exact LtL.oneLt_list (intsAre_of rv3) (intsAre_of rv4) (by omega) g3 g4 (k' s' o)
theorem sort_runL {spC:V→Hp→VK→Prop} {pins:List (Addr×Obj)} {σ:St} {Q:VK} {l:Addr} {xs:List V} {kz:List (List Int)} {Pv:Addr→Nat→List V→Hp→Prop} {s:Shared} {H:Hp}
  (hcall:∀ (pl:List (Addr×Obj)) (s:Shared) (H:Hp) (y:V) (u:Value) (Q:VK),Inv X.one.one (pins++pl) σ H s→RelV y u→spC y H Q→wpAny (model X.prog X.w) X.one.one.A (call (.ref f) [u]) (EP X.one.one (pins++pl) σ Q) (fun _ _=>False) s) (hu:X.one.one.A.units+8<cLine) (I:Inv X pins σ H s) (hq:SqL X.K H l xs) (h64:xs.length<64) (hkl:kz.length=xs.length)
  (T:TotLt (fun i j=>HT.lexLt (kz.getD i []) (kz.getD j [])))
  (h0:∀ S,H S=none→Pv S 0 [] (upd H S (.lst [])))
  (hst:∀ S i ks H,Pv S i ks H→∀ y,xs[i]?=some y→spC y H (fun v H2=>H2 S=some (.lst ks)∧ks.length=i∧Pv S (i+1) (ks++[v]) (upd H2 S (.lst (ks++[v])))))
  (hend:∀ S ks H,Pv S xs.length ks H→H S=some (.lst ks)∧ks.length=xs.length∧(∀ (i:Nat) (v:V) (k:List Int),ks[i]?=some v→kz[i]?=some k→KeyL H v k) ∧
   ∀ p:Array Nat,PermN xs.length p→SoTo (fun i j=>HT.lexLt (kz.getD i []) (kz.getD j [])) p xs.length→∀ D,upd H S (.lst []) D=none→Q (.ref D) (upd (upd H S (.lst [])) D (.lst (p.toList.map fun i=>xs.getD i .non)))) :
  wpAny (model X.prog X.w) X.A (call (.builtin "sorted") [.ref l] [(Str.ofString "key",.ref f)]) (EP X pins σ Q) X.xe s:=by
 obtain ⟨vs,rx,pl,hz⟩:=I.list hq
 have lx:=rx.length
 refine call_function_entry_kw kind_sorted plain_sorted entry_sorted (ksk_s1 _ _) ?_
 unfold Builtin.«sorted»
 refine wpAny_bind (m:=checkCount "sorted" 1 1 _) (wpAny_pure ?_)
 refine wpAny_bind (collect_list pl.isList ?_ (by rw [sizeLine_eq];omega))
 refine wpAny_bind (wpAny_newList ?_ (by rw [sizeLine_eq];omega))
 have hsz:((s.heap.push (seqObj "list" #[] 0)).update s.heap.objs.size (Obj.mapSeq (·++vs.toArray))).objs.size=s.heap.objs.size+1:=by
  rw [Heap.size_update,size_push']
 have hoL:(((s.heap.push (seqObj "list" #[] 0)).update s.heap.objs.size (Obj.mapSeq (·++vs.toArray))).push (seqObj "list" vs.toArray 0)).get? (s.heap.objs.size+1)=some (seqObj "list" vs.toArray 0):=by
  rw [← hsz];exact Heap.get?_push_size _ rfl
 have keep:∀ b o,s.heap.get? b=some o→(((s.heap.push (seqObj "list" #[] 0)).update s.heap.objs.size (Obj.mapSeq (·++vs.toArray))).push (seqObj "list" vs.toArray 0)).get? b=some o:=fun b o q=>by
  have hlt:b<s.heap.objs.size:=Heap.lt_size q
  rw [Heap.get?_push_ne _ _ _ (by rw [hsz];exact Nat.ne_of_lt (Nat.lt_succ_of_lt hlt)),Heap.get?_update_ne _ _ _ _ (Nat.ne_of_lt hlt),Heap.get?_push_ne _ _ _ (Nat.ne_of_lt hlt)]
  exact q
 show wpAny _ _ _ _ _ { s with heap:=((s.heap.push (seqObj "list" #[] 0)).update s.heap.objs.size (Obj.mapSeq (·++vs.toArray))).push (seqObj "list" vs.toArray 0) }
 rw [hsz]
 have I0:Inv X.one.one pins σ H { s with heap:=((s.heap.push (seqObj "list" #[] 0)).update s.heap.objs.size (Obj.mapSeq (·++vs.toArray))).push (seqObj "list" vs.toArray 0) }:=I.one.one.kept (t':=s.toks) keep
 have fD:FpOk X.one.one pins H (s.heap.objs.size+1):=I.one.one.fpOk (Nat.le_succ _) (I.hok.fresh (Nat.le_succ _))
 generalize ((s.heap.push (seqObj "list" #[] 0)).update s.heap.objs.size (Obj.mapSeq (·++vs.toArray))).push (seqObj "list" vs.toArray 0)=hA at hoL keep I0
 generalize s.heap.objs.size+1=D at hoL fD
 refine wpAny_bind (wpAny_holding (wpAny_call_entry_kw slot_list_sort ⟨_,hoL,rfl⟩ entry_list_sort ?body (ksk_l1 _ _)))
 case body =>
  show wpAny (model X.prog X.w) X.A.in1.in1 (Builtin.«list.sort» ⟨[.ref D],[(Str.ofString "key",.ref f)]⟩) _ _ _
  rw [ksk_t1]
  obtain ⟨f0,f1,f2,f3,f4,f5⟩:=id fD
  have s1:=Heap.SameBut.update hA D (Obj.mapSeq fun _=>(#[]:Array Value))
  obtain ⟨e1,ho1⟩:∃ e1,(hA.update D (Obj.mapSeq fun _=>(#[]:Array Value))).get? D=some (seqObj "list" #[] e1):=⟨_,get?_update_seq hoL fun _=>#[]⟩
  have I1:Inv X.one.one pins σ H { s with heap:=hA.update D (Obj.mapSeq fun _=>(#[]:Array Value)) }:=I0.turned (t':=s.toks) (fun b o hb e=>(s1.2 b hb).trans e) f0 f1 f3 f4 f5
  unfold ksk_tree
  refine wpAny_bind (listItems_at hoL rfl ?_)
  refine wpAny_bind (listUpdate_at hoL rfl ?_ (by rw [List.size_toArray,sizeLine_eq];omega) (Nat.zero_le _))
  refine wpAny_bind (seqEpoch_at ho1 rfl ?_)
  refine wpAny_bind (wpAny_newTuple ?_ (by show vs.length≤_;rw [sizeLine_eq];omega))
  refine wpAny_bind (wpAny_newList ?_ (Nat.zero_le _))
  refine wpAny_holding ?_
  show wpAny (model X.prog X.w) X.one.one.A _ _ _ { s with heap:=((hA.update D (Obj.mapSeq fun _=>(#[]:Array Value))).push (seqObj "tuple" vs.toArray 0)).push (seqObj "list" #[] 0) }
  generalize hA.update D (Obj.mapSeq fun _=>(#[]:Array Value))=hB at ho1 I1
  have I2:Inv X.one.one pins σ H { s with heap:=hB.push (seqObj "tuple" vs.toArray 0) }:=I1.kept (t':=s.toks) fun b o e=>Heap.get?_push_of_some _ e
  have ho2:(hB.push (seqObj "tuple" vs.toArray 0)).get? D=some (seqObj "list" #[] e1):=Heap.get?_push_of_some _ ho1
  generalize hB.push (seqObj "tuple" vs.toArray 0)=hC at ho2 I2
  have fS:H hC.objs.size=none:=I2.hok.fresh (Nat.le_refl _)
  have I3:Inv X.one.one pins σ (upd H hC.objs.size (.lst [])) { s with heap:=hC.push (seqObj "list" #[] 0) }:=I2.lnew (t':=s.toks) (its:=[]) (ys:=[]) .nil (Nat.zero_le _)
  have ho3:(hC.push (seqObj "list" #[] 0)).get? D=some (seqObj "list" #[] e1):=Heap.get?_push_of_some _ ho2
  have hDS:D≠hC.objs.size:=Nat.ne_of_lt (Heap.lt_size ho2)
  have fD3:FpOk X.one.one pins (upd H hC.objs.size (.lst [])) D:=⟨by rw [upd_ne hDS];exact f0,fD.2⟩
  have I4:=I3.pinned (fp:=[D]) (fun b hb=>by rw [List.mem_singleton.mp hb];exact fD3) (fun b hb=>by rw [List.mem_singleton.mp hb];exact ⟨_,ho3,fun v z=>by cases z⟩)
  have epn:pinsAt [D] (hC.push (seqObj "list" #[] 0))=[(D,seqObj "list" #[] e1)]:=by unfold pinsAt;simp [ho3]
  have I5:Inv X.one.one (pins++[(D,seqObj "list" #[] e1)]) σ (upd H hC.objs.size (.lst [])) { s with heap:=hC.push (seqObj "list" #[] 0) }:=by rw [← epn];exact I4
  generalize hC.objs.size=S at fS I5 hDS
  unfold ksk_rest
  refine wpAny_bind (wpAny_rule ?_)
  first
   | rw [List.forIn_toArray]
   | (rw [← Array.forIn_toList];simp only [List.toList_toArray])
   | rw [← Array.forIn_toList]
  refine wpAny_bind (wpAny_mono (keys_goA (X:=X) (pins:=pins++[(D,seqObj "list" #[] e1)]) (S:=S) (Pv:=Pv S) (fun s' H' y u Q' I' ry hs=>hcall [(D,seqObj "list" #[] e1)] s' H' y u Q' I' ry hs) h64 (fun x s' R hx=>?_) (hst S) xs vs 0 [] _ _ rx rfl (by simp) I5 (h0 S fS)) (fun _ s' hd=>?_) fun _ _ x=>x)
  ·refine wpAny_bind (wpAny_attempt (wpAny_mono hx (fun kv s'' hk=>?_) fun _ _ hF=>hF.elim))
   try dsimp only
   exact wpAny_bind (wpAny_mono hk (fun _ s3 h3=>wpAny_pure h3) fun _ _ x=>x)
  ·obtain ⟨ks,H',I6,pv⟩:=hd
   obtain ⟨eS,hkl2,hka,hfin⟩:=hend S ks H' pv
   have pD:=(I6.pin (D,seqObj "list" #[] e1) (List.mem_append_right _ (List.mem_append_right _ (List.mem_singleton_self _)))).2.1
   refine sort_endL (X:=X) (pins:=pins) (D:=D) (kz:=kz) hu I6 ⟨pD,fD.2⟩ eS rx hkl2 h64 hkl hka T fun p s4 hp hso I7=>?_
   exact ⟨_,rfl,wpAny_pure ⟨_,rfl,⟨.ref D,_,(I7.unone I.ok.one).unone I.ok,rfl,hfin p hp hso D (by rw [upd_ne (ne_of_none eS pD).symm];exact pD)⟩⟩⟩
end
theorem lex_asym:∀ (a b:List Int),HT.lexLt a b=true→HT.lexLt b a=false
 | [],[],h=>by cases h
 | [],_::_,_=>rfl
 | _::_,[],h=>by cases h
 | x::a,y::b,h=>by
  rw [HT.lexLt_cons] at h ⊢
  by_cases e:x=y
  ·rw [if_pos e] at h;rw [if_pos e.symm];exact lex_asym a b h
  ·rw [if_neg e] at h;rw [if_neg (fun z=>e z.symm)];exact decide_eq_false (by have:=of_decide_eq_true h;omega)
theorem lex_tr:∀ (a b c:List Int),HT.lexLt b a=false→HT.lexLt c b=false→HT.lexLt c a=false
 | [],_,[],_,_=>rfl
 | [],[],_::_,_,h=>by cases h;rfl
 | [],_::_,_::_,_,_=>rfl
 | _::_,[],_,h,_=>by cases h
 | _::_,_::_,[],_,h=>by cases h
 | x::a,y::b,z::c,h1,h2=>by
  rw [HT.lexLt_cons] at h1 h2 ⊢
  by_cases e1:y=x
  ·rw [if_pos e1] at h1
   by_cases e2:z=y
   ·rw [if_pos e2] at h2
    rw [if_pos (e2.trans e1)]
    exact lex_tr a b c h1 h2
   ·rw [if_neg e2] at h2
    rw [if_neg (by omega)]
    exact decide_eq_false (by have:=of_decide_eq_false h2;omega)
  ·rw [if_neg e1] at h1
   have q1:=of_decide_eq_false h1
   by_cases e2:z=y
   ·rw [if_neg (by omega)]
    exact decide_eq_false (by omega)
   ·rw [if_neg e2] at h2
    have q2:=of_decide_eq_false h2
    rw [if_neg (by omega)]
    exact decide_eq_false (by omega)
theorem lex_eq:∀ (a b:List Int),HT.lexLt a b=false→HT.lexLt b a=false→a=b
 | [],[],_,_=>rfl
 | [],_::_,h,_=>by cases h
 | _::_,[],_,h=>by cases h
 | x::a,y::b,h1,h2=>by
  rw [HT.lexLt_cons] at h1 h2
  by_cases e:x=y
  ·subst e
   rw [if_pos rfl] at h1 h2
   rw [lex_eq a b h1 h2]
  ·rw [if_neg e] at h1
   rw [if_neg (fun z=>e z.symm)] at h2
   have:=of_decide_eq_false h1
   have:=of_decide_eq_false h2
   omega
theorem lex_tot (kz:List (List Int)):TotLt (fun i j=>HT.lexLt (kz.getD i []) (kz.getD j [])):=⟨fun _ _ h=>lex_asym _ _ h,fun _ _ _ h1 h2=>lex_tr _ _ _ h1 h2⟩
def sortEnd (xs:List V) (kz:List (List Int)) (Pv:Addr→Nat→List V→Hp→Prop) (Q:VK):Prop :=
 ∀ S ks H,Pv S xs.length ks H→H S=some (.lst ks)∧ks.length=xs.length∧(∀ (i:Nat) (v:V) (k:List Int),ks[i]?=some v→kz[i]?=some k→KeyL H v k) ∧
  ∀ p:Array Nat,PermN xs.length p→SoTo (fun i j=>HT.lexLt (kz.getD i []) (kz.getD j [])) p xs.length→∀ D,upd H S (.lst []) D=none→Q (.ref D) (upd (upd H S (.lst [])) D (.lst (p.toList.map fun i=>xs.getD i .non)))
def tSortL (K:PySem.W.Frag) (sp:Sp) (ta:TA):TE:=fun σ H Q=>ta σ H fun vs H1=>∃ (l:Addr) (xs:List V) (kz:List (List Int)) (Pv:Addr→Nat→List V→Hp→Prop),vs=[.ref l]∧SqL K H1 l xs∧xs.length<64∧kz.length=xs.length ∧
 (∀ S,H1 S=none→Pv S 0 [] (upd H1 S (.lst []))) ∧
 (∀ S i ks H,Pv S i ks H→∀ y,xs[i]?=some y→sp [y] H (fun v H2=>H2 S=some (.lst ks)∧ks.length=i∧Pv S (i+1) (ks++[v]) (upd H2 S (.lst (ks++[v])))) E0)∧sortEnd xs kz Pv Q
def tSortLam (K:PySem.W.Frag) (P:Addr) (pos:Pos) (qual:Str) (ix:List Nat) (ta:TA) (te:TE):TE:=fun σ H Q=>ta σ H fun vs H1=>∃ (l:Addr) (xs:List V),vs=[.ref l]∧TabH H1 P pos qual ∧
 ∀ (c':Addr) (H2:Hp),H2 P=some (.tbl (tabOf pos c'))→H2 c'=some (XCd c' qual)→(∀ b o,H1 b=some o→b≠P→H2 b=some o)→∃ (kz:List (List Int)) (Pv:Addr→Nat→List V→Hp→Prop),SqL K H2 l xs∧xs.length<64∧kz.length=xs.length ∧
  (∀ S,H2 S=none→Pv S 0 [] (upd H2 S (.lst []))) ∧
  (∀ S i ks H,Pv S i ks H→∀ y,xs[i]?=some y→H c'=some (XCd c' qual)∧te (some y::capσ σ ix) H (fun v H2=>H2 S=some (.lst ks)∧ks.length=i∧Pv S (i+1) (ks++[v]) (upd H2 S (.lst (ks++[v])))))∧sortEnd xs kz Pv Q
section
variable {X:Cx} {k:Nat} {f:Addr} {fd:FuncData} {ps:List Str} {sp:Sp}
theorem pe_sortL {K:PySem.W.Frag} {e:Expr} {ta:TA} {kn:Str} {p kp kpos pos:Pos} (hK:X.K=K) (F:FnOk X.prog X.w X.K X.mg X.base CX0 k f fd ps sp) (hr:Room (k+2) X.A) (hb:Binds X.K fd ps [])
  (hg:Gl X "sorted") (hm:X.mg "sorted"=none) (hgk:Gl X kn) (hmk:X.mg kn=some (.ref f)) (ha:PA X [e] ta) (hkd:(kn == ("__debug__":Str))=false:=by decide)
  (hall:(backToKw pos (keywordEach [⟨some (Str.ofString "key"),.Name kn kp,kpos⟩] X.env)).all (·.1.isSome)=true:=by rfl) (hks:(backToKw pos (keywordEach [⟨some (Str.ofString "key"),.Name kn kp,kpos⟩] X.env)).filterMap (·.1)=[Str.ofString "key"]:=by rfl)
  (hs:backTo pos (starEach [e] X.env)=[(false,eval e X.env)]:=by rfl) (hkw:(backToKw pos (keywordEach [⟨some (Str.ofString "key"),.Name kn kp,kpos⟩] X.env)).any (·.1.isNone)=false:=by rfl) :
  PE X (.Call (.Name "sorted" p) [e] [⟨some (Str.ofString "key"),.Name kn kp,kpos⟩] pos) (tSortL K sp ta):=by
 subst hK
 intro pins s σ H Q I h
 refine wpAny_Call_Name_kw (ld_blt I hg hm boot_sorted ?_ (by decide) (by decide))
 refine callWith_kw (thn (ha pos pins s σ H _ I h) fun us s1 ⟨vs,H1,I1,r1,q1⟩=>?_) (by rw [hs];rfl) (by rw [hs];rfl) hall hkw
 obtain ⟨l,xs,kz,Pv,rfl,hq,h64,hkl,h0,hst,hend⟩:=q1
 have hpk:PK X [⟨some (Str.ofString "key"),.Name kn kp,kpos⟩] (tCons (tC (.ref f)) tNil):=pk_cons (pe_glob (v:=.ref f) hgk hmk rfl hkd) pk_nil
 refine thn (hpk pos pins s1 σ H1 (fun zs H2=>zs=[.ref f]∧H2=H1) I1 ⟨rfl,rfl⟩) fun ks s2 ⟨zs,H2,I2,r2,e2,e3⟩=>?_
 subst e2 e3
 obtain ⟨u,rfl,ru⟩:=vals1 r1
 obtain ⟨kf,rfl,rk⟩:=vals1 r2
 cases ru
 cases rk
 rw [hks]
 have hu:X.one.one.A.units+8<cLine:=by
  have:=hr.units
  show X.A.units+1+1+8<cLine
  omega
 exact sort_runL (spC:=fun y H Q=>sp [y] H Q E0) (fun pl s H y u Q I r h=>run_fn (X:=X.one.one) F hr.in1.in1 hb .nil pass0 I (.cons r .nil) h) hu I2 hq h64 hkl (lex_tot kz) h0 hst hend
end
section
variable {X:Cx} {scope:Scope} {x:Str} {ix:List Nat} {params:Arguments} {body e:Expr} {lpos p kpos pos:Pos} {c P:Addr} {ta:TA} {te:TE} {k:Nat}
theorem pe_sortLam (M:LamMk X c P) (S:CompSc X scope x ix) (hco:scope.isCoroutine=false) (hgen:scope.isGenerator=false) (hr:Room (k+2) X.A)
  (hg:Gl X "sorted") (hm:X.mg "sorted"=none) (ha:PA X [e] ta)
  (he:∀ (fa:Addr) (cdv:Value) (s:Shared) (H:Hp),PE (lamCx X.one.one scope x ix (X.env.qual++"<lambda>") fa cdv s H) body te)
  (hb:∀ (cl:List (Str×Addr)) (pm cdv ct u:Value),bindArgs (PySem.W.kla_fn "<lambda>" (X.env.qual++"<lambda>") params body scope cl pm cdv ct) ⟨[u],[]⟩=pure [(x,u)])
  (hdef:defaultsOf params X.env=([],[]))
  (hall:(backToKw pos (keywordEach [⟨some (Str.ofString "key"),.Lambda params body scope lpos,kpos⟩] X.env)).all (·.1.isSome)=true:=by rfl) (hks:(backToKw pos (keywordEach [⟨some (Str.ofString "key"),.Lambda params body scope lpos,kpos⟩] X.env)).filterMap (·.1)=[Str.ofString "key"]:=by rfl)
  (hs:backTo pos (starEach [e] X.env)=[(false,eval e X.env)]:=by rfl) (hkw:(backToKw pos (keywordEach [⟨some (Str.ofString "key"),.Lambda params body scope lpos,kpos⟩] X.env)).any (·.1.isNone)=false:=by rfl) :
  PE X (.Call (.Name "sorted" p) [e] [⟨some (Str.ofString "key"),.Lambda params body scope lpos,kpos⟩] pos) (tSortLam X.K P lpos (X.env.qual++"<lambda>") ix ta te):=by
 intro pins s σ H Q I h
 refine wpAny_Call_Name_kw (ld_blt I hg hm boot_sorted ?_ (by decide) (by decide))
 refine callWith_kw (thn (ha pos pins s σ H _ I h) fun us s1 ⟨vs,H1,I1,r1,q1⟩=>?_) (by rw [hs];rfl) (by rw [hs];rfl) hall hkw
 obtain ⟨l,xs,rfl,tab,q1⟩:=q1
 obtain ⟨u,rfl,ru⟩:=vals1 r1
 cases ru
 show wpAny _ _ (evalAll ((do let v ← eval (.Lambda params body scope lpos) X.env;standAt pos;pure v)::(backToKw pos (keywordEach [] X.env)).map (·.2))) _ _ s1
 refine wpAny_evalAll_cons (wpAny_bind (make_lam M S hdef I1 tab fun fa c' ct H2 s2 I2 gF hsz hfN eP eC go=>wpAny_bind (wpAny_standAt (wpAny_pure ?_))))
 refine wpAny_evalAll_nil ?_
 rw [hks]
 obtain ⟨kz,Pv,hq,h64,hkl,h0,hst,hend⟩:=q1 c' H2 eP eC go
 have fp:FpOk X pins H2 fa:=I1.fpOk hsz hfN
 have JP:=I2.pinned (fp:=[fa]) (fun b hb=>by rw [List.mem_singleton.mp hb];exact fp) (fun b hb=>by rw [List.mem_singleton.mp hb];exact ⟨_,gF,fun v z=>nomatch z⟩)
 have hu:X.one.one.A.units+8<cLine:=by
  have:=hr.units
  show X.A.units+1+1+8<cLine
  omega
 have run:=sort_runL (X:=X) (f:=fa) (spC:=fun y H Q=>H c'=some (XCd c' (X.env.qual++"<lambda>"))∧te (some y::capσ σ ix) H Q) (pins:=pins++pinsAt [fa] s2.heap) (σ:=σ) (Q:=Q) (l:=l) (xs:=xs) (kz:=kz) (Pv:=Pv) (s:=s2) (H:=H2)
  (fun pl s' H' y u Q' I' ry ⟨hC,hte⟩=>by
   have gF':=(I'.pin (fa,_) (List.mem_append_right _ (List.mem_append_left _ (List.mem_append_right _ (mem_pinsAt (List.mem_singleton.mpr rfl) gF))))).1
   have hrec:s'.heap.CodeRec (.ref c') (X.env.qual++"<lambda>"):=(show ObjOk X.prog X.w H' s'.heap c' (XCd c' (X.env.qual++"<lambda>")) from I'.hok c' _ hC).1
   exact run_lam (X:=X.one.one) (qual:=X.env.qual++"<lambda>") (fa:=fa) (cdv:=.ref c') S.one.one hco hgen hr.in1.in1 gF' hrec (fun u=>hb _ _ _ _ u) (he fa (.ref c') s' H') I' ry hte)
  hu JP hq h64 hkl (lex_tot kz) h0 hst hend
 exact wpAny_mono run (fun v s3 ⟨y,H3,I3,ry,q⟩=>⟨y,H3,I3.unpinned,ry,q⟩) (fun _ _ z=>z)
theorem pe_sortLamK {K:PySem.W.Frag} {sc0:Scope} {N:List Str} (hK:X.K=K) (M:LamMk X c P) (hch:compChk sc0 scope N x ix=true) (e1:X.env.scope=sc0) (e2:X.N=N) (hco:scope.isCoroutine=false) (hgen:scope.isGenerator=false) (hr:Room (k+2) X.A)
  (hg:Gl X "sorted") (hm:X.mg "sorted"=none) (ha:PA X [e] ta)
  (he:∀ (fa:Addr) (cdv:Value) (s:Shared) (H:Hp),PE (lamCx X.one.one scope x ix (X.env.qual++"<lambda>") fa cdv s H) body te)
  (hb:∀ (cl:List (Str×Addr)) (pm cdv ct u:Value),bindArgs (PySem.W.kla_fn "<lambda>" (X.env.qual++"<lambda>") params body scope cl pm cdv ct) ⟨[u],[]⟩=pure [(x,u)])
  (hdef:defaultsOf params X.env=([],[]))
  (hall:(backToKw pos (keywordEach [⟨some (Str.ofString "key"),.Lambda params body scope lpos,kpos⟩] X.env)).all (·.1.isSome)=true:=by rfl) (hks:(backToKw pos (keywordEach [⟨some (Str.ofString "key"),.Lambda params body scope lpos,kpos⟩] X.env)).filterMap (·.1)=[Str.ofString "key"]:=by rfl)
  (hs:backTo pos (starEach [e] X.env)=[(false,eval e X.env)]:=by rfl) (hkw:(backToKw pos (keywordEach [⟨some (Str.ofString "key"),.Lambda params body scope lpos,kpos⟩] X.env)).any (·.1.isNone)=false:=by rfl) :
  PE X (.Call (.Name "sorted" p) [e] [⟨some (Str.ofString "key"),.Lambda params body scope lpos,kpos⟩] pos) (tSortLam K P lpos (X.env.qual++"<lambda>") ix ta te):=by
 subst hK
 exact pe_sortLam M (compSc_of hch e1 e2).1 hco hgen hr hg hm ha he hb hdef hall hks hs hkw
end
theorem isTx_at {z:Str} {ws:List Str} {us:List Value} (r:Vals (ws.map V.str) us) {i:Nat} (hi:i<us.length):∃ w t,ws[i]?=some w∧us[i]=.str w t:=by
 have hl:us.length=ws.length:=by rw [← r.length,List.length_map]
 have hw:ws[i]?=some ws[i]:=List.getElem?_eq_getElem (by omega)
 obtain ⟨u,hu,ru⟩:=r.get (show (ws.map V.str)[i]?=some (.str ws[i]) by rw [List.getElem?_map,hw];rfl)
 obtain ⟨t,rfl⟩:=ru
 rw [List.getElem?_eq_getElem hi] at hu
 exact ⟨_,t,hw,Option.some.inj hu⟩
theorem mt_lindexK {X:Cx} {K:PySem.W.Frag} (hK:X.K=K):MtR X "list.index" (fun x xs H Q=>∃ (a:Addr) (ws:List Str) (z:Str) (j:Nat),x=.ref a∧xs=[.str z]∧SqL K H a (ws.map V.str)∧ws[j]?=some z∧(∀ m,m<j→ws[m]?≠some z)∧j<1000∧Q (.int ((j:Nat):Int)) H):=by
 subst hK
 intro pins s σ H x xs v us Q I rx rs h
 obtain ⟨a,ws,z,j,rfl,rfl,hq,hj,hno,hsm,q⟩:=h
 cases rx
 obtain ⟨u,rfl,ru⟩:=rs.one
 obtain ⟨t,rfl⟩:=ru
 obtain ⟨its,r,pl,_⟩:=I.list hq
 obtain ⟨_,hall⟩:=count_tx z r
 obtain ⟨⟨cls,dd,data,sl⟩,ho,hc,n,hd⟩:=id pl.isList
 simp only at hc hd
 subst hc hd
 have hl:its.length=ws.length:=by rw [← r.length,List.length_map]
 have hj':j<its.length:=by rw [hl];exact (List.getElem?_eq_some_iff.mp hj).1
 refine call_meets PySem.F.slot_list_index ⟨_,ho,rfl⟩ PySem.F.entry_list_index (PySem.F.args_list_index_2 _ _) (SeqAt.list_indexAt a its.toArray n dd sl (.str z t) (isTx z) j (by simpa using hj') (by omega) ?_ ?_) ⟨ho,fun y hy=>?_,?_⟩
 ·obtain ⟨w,tw,h1,h2⟩:=isTx_at (z:=z) r hj'
  rw [hj] at h1
  cases h1
  show isTx z its[j]=true
  rw [h2]
  exact beq_self_eq_true z
 ·intro m hm hmj
  have hm':m<its.length:=by simpa using hm
  obtain ⟨w,tw,h1,h2⟩:=isTx_at (z:=z) r hm'
  show isTx z its[m]=false
  rw [h2]
  refine beq_eq_false_iff_ne.mpr fun e=>hno m hmj ?_
  rw [h1,e]
 ·obtain ⟨w,tw,rfl⟩:=hall y (by simpa using hy)
  exact SeqAt.EqAt.str_str w tw z t
 ·exact ⟨.int _,H,I.tok _,⟨_,rfl⟩,q⟩
end L2
namespace Lw
open PySem PySem.Spec PyProof.Rows L2 Ma MaR
def stdP (x:List Nat) (c:Nat):Bool:=decide (c∈x) || decide (con c∈x)
def stdg (n:Nat) (x:List Nat):List Nat:=(letsN n).filter (stdP x)
theorem stdg_nd {n:Nat} {x:List Nat} (h1:1≤n) (h4:n≤4):(stdg n x).Nodup:=(lets_nodup h1 h4).filter _
theorem stdg_lets {n:Nat} {x:List Nat} {c:Nat} (h:c∈stdg n x):c∈letsN n:=(List.mem_filter.mp h).1
theorem stdg_std {n:Nat} {x:List Nat} {c:Nat} (h:c∈stdg n x):stdP x c=true:=(List.mem_filter.mp h).2
theorem stdg_sub {n:Nat} {x:List Nat}:(stdg n x).Sublist (letsN n):=List.filter_sublist
theorem stdg_four {n:Nat} {x:List Nat} (h1:1≤n) (h4:n≤4) (hx:OfN n x):(letsN (4:Nat)).filter (stdP x)=stdg n x:=by
 have out:∀ c,isL c→¬ c∈letsN n→stdP x c=false:=fun c hc hn=>by
  unfold stdP
  have a:¬ c∈x:=fun z=>hn (hx c z)
  have b:¬ con c∈x:=fun z=>hn (by have:=letsN_con (n:=(n:Nat)) (by omega) (by omega) (hx _ z);rwa [con_con hc] at this)
  rw [decide_eq_false a,decide_eq_false b];rfl
 unfold stdg
 rcases n14 h1 h4 with rfl | rfl | rfl | rfl
 ·have q:∀ c∈[98,66,99,67,100,68],stdP x c=false:=fun c hc=>out c (by revert hc;revert c;decide) (by revert hc;revert c;decide)
  show [97,65,98,66,99,67,100,68].filter (stdP x)=[97,65].filter (stdP x)
  rw [show [97,65,98,66,99,67,100,68]=[97,65]++[98,66,99,67,100,68] from rfl,List.filter_append,show [98,66,99,67,100,68].filter (stdP x)=[] from List.filter_eq_nil_iff.mpr (fun c hc=>by rw [q c hc];exact Bool.false_ne_true),List.append_nil]
 ·have q:∀ c∈[99,67,100,68],stdP x c=false:=fun c hc=>out c (by revert hc;revert c;decide) (by revert hc;revert c;decide)
  show [97,65,98,66,99,67,100,68].filter (stdP x)=[97,65,98,66].filter (stdP x)
  rw [show [97,65,98,66,99,67,100,68]=[97,65,98,66]++[99,67,100,68] from rfl,List.filter_append,show [99,67,100,68].filter (stdP x)=[] from List.filter_eq_nil_iff.mpr (fun c hc=>by rw [q c hc];exact Bool.false_ne_true),List.append_nil]
 ·have q:∀ c∈[100,68],stdP x c=false:=fun c hc=>out c (by revert hc;revert c;decide) (by revert hc;revert c;decide)
  show [97,65,98,66,99,67,100,68].filter (stdP x)=[97,65,98,66,99,67].filter (stdP x)
  rw [show [97,65,98,66,99,67,100,68]=[97,65,98,66,99,67]++[100,68] from rfl,List.filter_append,show [100,68].filter (stdP x)=[] from List.filter_eq_nil_iff.mpr (fun c hc=>by rw [q c hc];exact Bool.false_ne_true),List.append_nil]
 ·rfl
theorem ct_pos {x:List Nat} {c:Nat}:0<ctN x c↔c∈x:=by
 unfold ctN
 rw [List.countP_pos_iff]
 exact ⟨fun ⟨a,h,e⟩=>by have:=of_decide_eq_true e;rw [← this];exact h,fun h=>⟨c,h,decide_eq_true rfl⟩⟩
theorem cnt_std (x:List Nat) (c:Nat):decide (cntR [x] c > 0)=stdP x c:=by
 have h:cntR [x] c=((ctN x c+ctN x (con c):Nat):Int):=by rw [cnt_row];simp
 rw [h]
 unfold stdP
 by_cases a:c∈x
 ·have:=ct_pos.mpr a
  rw [decide_eq_true a,Bool.true_or]
  exact decide_eq_true (by omega)
 ·rw [decide_eq_false a,Bool.false_or]
  have z:ctN x c=0:=Nat.eq_zero_of_not_pos fun z=>a (ct_pos.mp z)
  by_cases b:con c∈x
  ·have:=ct_pos.mpr b
   rw [decide_eq_true b]
   exact decide_eq_true (by omega)
  ·have z2:ctN x (con c)=0:=Nat.eq_zero_of_not_pos fun z=>b (ct_pos.mp z)
   rw [decide_eq_false b]
   exact decide_eq_false (by omega)
def Kd (x:List Nat):Prop:=∃ L:List Nat,L.length≤3∧∀ c∈x,isL c∧lo c∈L
theorem nd_le {α:Type} [DecidableEq α]:∀ {L M:List α},L.Nodup→(∀ x∈L,x∈M)→L.length≤M.length
 | [],_,_,_=>Nat.zero_le _
 | a::L,M,hn,h=>by
  obtain ⟨h1,h2⟩:=List.nodup_cons.mp hn
  have ha:=h a List.mem_cons_self
  have ih:=nd_le (L:=L) (M:=M.erase a) h2 fun x hx=>(List.mem_erase_of_ne (fun z:x=a=>h1 (z ▸ hx))).mpr (h x (List.mem_cons_of_mem _ hx))
  rw [List.length_erase_of_mem ha] at ih
  have:=List.length_pos_of_mem ha
  rw [List.length_cons]
  omega
theorem stdg_six {n:Nat} {x:List Nat} (h1:1≤n) (h4:n≤4) (h:Kd x):(stdg n x).length≤6:=by
 obtain ⟨L,hl,hL⟩:=h
 have key:∀ c∈stdg n x,c∈L.flatMap fun d=>[d,con d]:=fun c hc=>by
  have hcL:=letsN_isL (stdg_lets hc)
  have hs:=stdg_std hc
  unfold stdP at hs
  rw [Bool.or_eq_true,decide_eq_true_iff,decide_eq_true_iff] at hs
  have hlo:lo c∈L:=by
   rcases hs with z | z
   ·exact (hL c z).2
   ·have:=(hL _ z).2
    rwa [lo_con' hcL] at this
  refine List.mem_flatMap.mpr ⟨lo c,hlo,?_⟩
  rcases isL_cases hcL with rfl | rfl | rfl | rfl | rfl | rfl | rfl | rfl <;> decide
 have a:=nd_le (stdg_nd h1 h4) key
 have b:∀ L:List Nat,(L.flatMap fun d=>[d,con d]).length=2 * L.length:=by
  intro L
  induction L with
  | nil=>rfl
  | cons d L ih =>
   rw [List.flatMap_cons,List.length_append,ih]
   show 2+2 * L.length=2 * (L.length+1)
   omega
 rw [b] at a
 omega
theorem Kd.sub {x y:List Nat} (h:Kd x) (hs:∀ c∈y,c∈x):Kd y:=by
 obtain ⟨L,hl,hL⟩:=h
 exact ⟨L,hl,fun c hc=>hL c (hs c hc)⟩
theorem Kd.ring {x r:List Nat} (h:Kd x) (hr:RingR x r):Kd r:=h.sub hr.sub
theorem Kd.few {m:Nat} {x:List Nat} (h1:1≤m) (h3:m≤3) (hx:OfN m x):Kd x:=by
 refine ⟨lowN m,by rw [lowN_len (by omega)];exact h3,fun c hc=>⟨letsN_isL (hx c hc),?_⟩⟩
 have:=hx c hc
 have hL:=isL_cases (letsN_isL this)
 have:m=1∨m=2∨m=3:=by omega
 rcases this with rfl | rfl | rfl <;> rcases hL with rfl | rfl | rfl | rfl | rfl | rfl | rfl | rfl <;> revert this <;> decide
theorem lay_mem {x:List Nat} {c:Nat} (h:c∈lay x):c∈x:=lay_sub h
theorem Kd.exch {n m:Nat} {cs x:List Nat} (h1:1≤m) (h3:m≤3) (hmn:m≤n) (h4:n≤4) (e:Exch n cs) (hx:OfN m x):Kd (retl (ones' cs) x):=by
 have hxn:OfN n x:=fun c hc=>by
  have:=hx c hc
  have hL:=isL_cases (letsN_isL this)
  rcases n14 (by omega) h4 with rfl | rfl | rfl | rfl <;> (have:m=1∨m=2∨m=3:=by omega) <;> rcases this with rfl | rfl | rfl <;> first | exact this | (exfalso;omega) | (rcases hL with rfl | rfl | rfl | rfl | rfl | rfl | rfl | rfl <;> revert this <;> decide)
 refine ⟨(cs.take m).map lo,by rw [List.length_map,List.length_take];omega,fun c hc=>?_⟩
 unfold retl at hc
 have hc:=lay_mem hc
 rw [e.told (by omega) h4 hxn] at hc
 obtain ⟨d,hd,rfl⟩:=List.mem_map.mp hc
 obtain ⟨y,hy,ym,hg⟩:=e.at (by omega) h4 (hxn d hd)
 have hyL:=letsN_isL ym
 have hlo:lo (gX cs d)=lo y:=by rw [hg];split <;> first | rfl | exact lo_con' hyL
 refine ⟨letsN_isL (e.gmem (by omega) h4 (hxn d hd)),?_⟩
 rw [hlo]
 have hi:=ixL_lt h1 (by omega) (hx d hd)
 exact List.mem_map.mpr ⟨y,List.mem_of_getElem? (by rw [List.getElem?_take_of_lt hi];exact hy),rfl⟩
theorem tel_mem {c e d:Nat} {sd:List Nat} (h:d∈tel c sd e):d=e∨d=c∨d=con c:=by
 unfold tel at h
 simp only [List.mem_append] at h
 rcases h with (h | h) | h
 ·unfold bef at h;split at h <;> simp at h;exact .inr (.inr h)
 ·unfold own1 at h;split at h <;> simp at h <;> exact .inl h
 ·unfold aft at h;split at h <;> simp at h;exact .inr (.inl h)
theorem Kd.chg {n c:Nat} {sd x:List Nat} (n1:1≤n) (n4:n≤4) (g:GoodS n c sd) (hx:OfN n x) (hs:stdP x c=true) (h:Kd x):Kd (retl (chgR n c sd) x):=by
 obtain ⟨L,hl,hL⟩:=h
 have hcL:=letsN_isL g.base.let'
 have hlo:lo c∈L:=by
  unfold stdP at hs
  rw [Bool.or_eq_true,decide_eq_true_iff,decide_eq_true_iff] at hs
  rcases hs with z | z
  ·exact (hL c z).2
  ·have:=(hL _ z).2
   rwa [lo_con' hcL] at this
 refine ⟨L,hl,fun d hd=>?_⟩
 unfold retl at hd
 have hd:=lay_mem hd
 rw [told_chg n1 n4 g.base.let' g.inn g.out hx] at hd
 obtain ⟨e,he,hd⟩:=List.mem_flatMap.mp hd
 rcases tel_mem hd with rfl | rfl | rfl
 ·exact hL _ he
 ·exact ⟨hcL,hlo⟩
 ·exact ⟨isL_con hcL,by rw [lo_con' hcL];exact hlo⟩
theorem sum_nonneg (sd:List Nat) (ks:List KP):0≤sumL sd (Dk ks):=by rw [sumL_Dk];omega
theorem sho_std {n c:Nat} {x:List Nat} (h:sho n [x]=some c):stdP x c=true:=by
 have:=sho_pos h
 unfold fallO at this
 have h2:=sum_nonneg (lsd n [x] c) (tiesR [x])
 rw [← cnt_std]
 exact decide_eq_true (by omega)
theorem Kd.short {n:Nat} (n1:1≤n) (n4:n≤4):∀ {rs zs:List (List Nat)} {cs:List (Nat×List Nat)},ShortR n rs cs zs→∀ x,rs=[x]→RgN n x→Kd x→∃ z,zs=[z]∧Kd z∧RgN n z:=by
 intro rs zs cs h
 induction h with
 | stop hn=>intro x hx hr hk;exact ⟨x,hx,hk,hr⟩
 | @step rs qs zs c cs hs hr hg _ ih =>
  intro x hx hrx hk
  subst hx
  obtain ⟨q,rfl⟩:∃ q,qs=[q]:=by
   have:=hr.1
   match qs,this with
   | [q],_=>exact ⟨q,rfl⟩
  have hring:=hr.2 0 x q rfl rfl
  have gs:=lsd_good n1 n4 (sho_lets n1 n4 hs) [x]
  exact ih q rfl (hg q (by simp)) ((hk.chg n1 n4 gs hrx.ofn (sho_std hs)).ring hring)
def rkL (sd:List Nat):List Int:=sd.map fun d=>((rk d:Nat):Int)
def leS (x y:List Nat):Prop:=HT.lexLt (rkL y) (rkL x)=false
theorem rkL_inj:∀ {a b:List Nat},(∀ d∈a,isL d)→(∀ d∈b,isL d)→rkL a=rkL b→a=b
 | [],[],_,_,_=>rfl
 | [],_::_,_,_,h=>by cases h
 | _::_,[],_,_,h=>by cases h
 | x::a,y::b,ha,hb,h=>by
  have h1:((rk x:Nat):Int)=((rk y:Nat):Int):=(List.cons.inj h).1
  have h2:rkL a=rkL b:=(List.cons.inj h).2
  rw [rk_inj (ha x List.mem_cons_self) (hb y List.mem_cons_self) (by omega),rkL_inj (fun d hd=>ha d (List.mem_cons_of_mem _ hd)) (fun d hd=>hb d (List.mem_cons_of_mem _ hd)) h2]
theorem sort_uniq:∀ {L M:List (List Nat)},(∀ s∈L,∀ d∈s,isL d)→L.Perm M→L.Pairwise leS→M.Pairwise leS→L=M
 | [],M,_,hp,_,_=>(List.perm_nil.mp hp.symm).symm
 | a::L,M,hl,hp,h1,h2=>by
  cases M with
  | nil=>exact absurd (List.perm_nil.mp hp) (by simp)
  | cons b M =>
   obtain ⟨p1,p2⟩:=List.pairwise_cons.mp h1
   obtain ⟨q1,q2⟩:=List.pairwise_cons.mp h2
   have hM:∀ s∈b::M,∀ d∈s,isL d:=fun s hs=>hl s (hp.mem_iff.mpr hs)
   have e:a=b:=by
    have ha:a∈b::M:=hp.mem_iff.mp List.mem_cons_self
    have hb:b∈a::L:=hp.mem_iff.mpr List.mem_cons_self
    rcases List.mem_cons.mp ha with z | z
    ·exact z
    ·rcases List.mem_cons.mp hb with w | w
     ·exact w.symm
     ·exact rkL_inj (hl a List.mem_cons_self) (hM b List.mem_cons_self) (L2.lex_eq _ _ (q1 a z) (p1 b w))
   subst e
   rw [sort_uniq (fun s hs=>hl s (List.mem_cons_of_mem _ hs)) (List.Perm.cons_inv hp) p2 q2]
def keepP (x:List Nat) (c:Nat) (sd:List Nat):Prop:=sumL sd (Dk (tiesR [x]))=cntR [x] c
structure LvR (n:Nat) (x:List Nat) (c:Nat) (L:List (List Nat)):Prop where
 nd:L.Nodup
 ord:L.Pairwise leS
 mem:∀ sd,sd∈L↔sd∈sidesF c (stdg n x)∧keepP x c sd
theorem side_st {n:Nat} {x:List Nat} {c:Nat} {sd:List Nat} (n1:1≤n) (n4:n≤4) (hc:c∈stdg n x):sd∈sidesF c (stdg n x)↔sd∈sidesL n c∧∀ d∈sd,d∈stdg n x:=by
 have hcl:=stdg_lets hc
 have hne:=(con_ne (letsN_isL hcl)).symm
 unfold sidesL
 rw [mem_sides hne _ _ rfl (stdg_nd n1 n4),mem_sides hne _ _ rfl (lets_nodup n1 n4)]
 constructor
 ·rintro ⟨h1,h2,h3⟩
  exact ⟨⟨h1.trans stdg_sub,h2,fun _=>h3 hc⟩,fun d hd=>h1.subset hd⟩
 ·rintro ⟨⟨h1,h2,h3⟩,h4⟩
  refine ⟨?_,h2,fun _=>h3 hcl⟩
  have e:sd.filter (stdP x)=sd:=List.filter_eq_self.mpr fun d hd=>stdg_std (h4 d hd)
  rw [← e]
  exact h1.filter (stdP x)
theorem LvR.isl {n:Nat} {x:List Nat} {c:Nat} {L:List (List Nat)} (n1:1≤n) (n4:n≤4) (hc:c∈stdg n x) (h:LvR n x c L):∀ s∈L,∀ d∈s,isL d:=fun s hs d hd =>
 letsN_isL (stdg_lets (((side_st n1 n4 hc).mp ((h.mem s).mp hs).1).2 d hd))
theorem LvR.inj {n:Nat} {x:List Nat} {c:Nat} {L M:List (List Nat)} (n1:1≤n) (n4:n≤4) (hc:c∈stdg n x) (h:LvR n x c L) (g:LvR n x c M):L=M :=
 sort_uniq (h.isl n1 n4 hc) ((List.perm_ext_iff_of_nodup h.nd g.nd).mpr fun sd=>by rw [h.mem,g.mem]) h.ord g.ord
def LvAll (n:Nat) (x:List Nat):List Nat→List (Nat×List Nat)→Prop
 | [],M=>M=[]
 | c::r,M=>∃ L M',LvR n x c L∧M=L.map (fun sd=>(c,sd))++M'∧LvAll n x r M'
theorem LvAll.snoc {n:Nat} {x:List Nat} {c:Nat} {L:List (List Nat)} (h:LvR n x c L):∀ {r:List Nat} {M:List (Nat×List Nat)},LvAll n x r M→LvAll n x (r++[c]) (M++L.map fun sd=>(c,sd))
 | [],M,e=>by subst e;exact ⟨L,[],h,by simp,rfl⟩
 | d::r,M,⟨L',M',h1,h2,h3⟩=>⟨L',M'++L.map (fun sd=>(c,sd)),h1,by rw [h2,List.append_assoc],h3.snoc h⟩
theorem LvAll.inj {n:Nat} {x:List Nat} (n1:1≤n) (n4:n≤4):∀ {r:List Nat} {M M':List (Nat×List Nat)},(∀ c∈r,c∈stdg n x)→LvAll n x r M→LvAll n x r M'→M=M'
 | [],_,_,_,h,g=>h.trans g.symm
 | c::r,_,_,hr,⟨L,A,h1,h2,h3⟩,⟨L',A',g1,g2,g3⟩=>by
  rw [h2,g2,h1.inj n1 n4 (hr c List.mem_cons_self) g1,LvAll.inj n1 n4 (fun d hd=>hr d (List.mem_cons_of_mem _ hd)) h3 g3]
theorem LvAll.side {n:Nat} {x:List Nat} (n1:1≤n) (n4:n≤4):∀ {r:List Nat} {M:List (Nat×List Nat)},(∀ c∈r,c∈stdg n x)→LvAll n x r M→∀ p∈M,p.2.length≤8
 | [],_,_,h,p,hp=>by rw [show _=[] from h] at hp;cases hp
 | c::r,_,hr,⟨L,A,h1,h2,h3⟩,p,hp=>by
  rw [h2] at hp
  rcases List.mem_append.mp hp with z | z
  ·obtain ⟨sd,hs,rfl⟩:=List.mem_map.mp z
   have hc:=hr c List.mem_cons_self
   exact (side_good n1 n4 (stdg_lets hc) ((side_st n1 n4 hc).mp ((h1.mem sd).mp hs).1).1).base.le
  ·exact LvAll.side n1 n4 (fun d hd=>hr d (List.mem_cons_of_mem _ hd)) h3 p z
theorem keep_len {n:Nat} {x r:List Nat} {c:Nat} {sd:List Nat} (n1:1≤n) (n4:n≤4) (hx:RgN n x) (g:GoodS n c sd) (hr:RingR (retl (chgR n c sd) x) r):keepP x c sd↔r.length=x.length:=by
 have:=ahead_len n1 n4 g (rs:=[x]) (qs:=[r]) (fun y hy=>by rw [List.mem_singleton.mp hy];exact hx) ⟨rfl,fun i a b h1 h2=>by
  match i,h1,h2 with
  | 0,h1,h2=>cases h1;cases h2;exact hr⟩
 unfold keepP
 have e1:totL [x]=x.length:=by unfold totL;simp
 have e2:totL [r]=r.length:=by unfold totL;simp
 rw [e1,e2] at this
 omega
theorem lex_same {f g:Nat→Int} {L:List Nat} (h1:∀ d∈L,∀ e∈L,(f d=f e↔g d=g e)) (h2:∀ d∈L,∀ e∈L,(f d<f e↔g d<g e)):∀ {a b:List Nat},(∀ d∈a,d∈L)→(∀ d∈b,d∈L)→HT.lexLt (a.map f) (b.map f)=HT.lexLt (a.map g) (b.map g)
 | [],[],_,_=>rfl
 | [],_::_,_,_=>rfl
 | _::_,[],_,_=>rfl
 | x::a,y::b,ha,hb=>by
  have hx:=ha x List.mem_cons_self
  have hy:=hb y List.mem_cons_self
  rw [List.map_cons,List.map_cons,List.map_cons,List.map_cons,HT.lexLt_cons,HT.lexLt_cons,lex_same h1 h2 (fun d hd=>ha d (List.mem_cons_of_mem _ hd)) (fun d hd=>hb d (List.mem_cons_of_mem _ hd))]
  by_cases e:f x=f y
  ·rw [if_pos e,if_pos ((h1 x hx y hy).mp e)]
  ·rw [if_neg e,if_neg (fun z=>e ((h1 x hx y hy).mpr z))]
   by_cases l:f x<f y
   ·rw [decide_eq_true l,decide_eq_true ((h2 x hx y hy).mp l)]
   ·rw [decide_eq_false l,decide_eq_false (fun z=>l ((h2 x hx y hy).mpr z))]
end Lw
namespace L2
open PySem PySem.Spec PyProof.Rows
def compChkI (sc0 scope:Scope) (N:List Str) (x:Str) (ix:List Nat):Bool:=compChk sc0 scope N x ix && sc0.names.all (fun y=>decide (y.2≠.cell))
theorem compSc_in {X:Cx} {scope0:Scope} {x0:Str} {ix0:List Nat} {fp:List Addr} {s:Shared} {H:Hp} {scope:Scope} {N:List Str} {x:Str} {ix:List Nat} (h:compChkI scope0 scope N x ix=true) (e2:(compCx X scope0 x0 ix0 fp s H).N=N):CompSc (compCx X scope0 x0 ix0 fp s H) scope x ix∧(compN (compCx X scope0 x0 ix0 fp s H) x ix).Nodup:=by
 subst e2
 simp only [compChkI,compChk,Bool.and_eq_true,List.all_eq_true,decide_eq_true_eq] at h
 obtain ⟨⟨⟨⟨⟨⟨⟨h1,h2⟩,h3⟩,h4⟩,h5⟩,h6⟩,h7⟩,h8⟩:=h
 refine ⟨⟨h1,h2,h3,h4,fun y hy hf=>?_,h6⟩,h7⟩
 have hfr:scope0.names.lookup y.1=some .free:=by
  rcases h5 y hy hf with z | z
  ·exact absurd rfl (h8 _ (PySem.mem_of_lookup z))
  ·exact z
 exact relabel_free (env:=X.env) hfr
theorem pe_compcI {X:Cx} {scope0:Scope} {x0:Str} {ix0:List Nat} {fp:List Addr} {s:Shared} {H:Hp} {scope:Scope} {N:List Str} {x:Str} {ix:List Nat} {px pos:Pos} {elt iter:Expr} {ifs:List Expr} {wi:TI} {ti:TT} {te:TE} (h:compChkI scope0 scope N x ix=true) (e2:(compCx X scope0 x0 ix0 fp s H).N=N) (hc:X.calm=true)
  (hi:PI (compCx X scope0 x0 ix0 fp s H) (.Name x px) iter wi) (hif:∀ fp' s' H',PIfs (compCx (compCx X scope0 x0 ix0 fp s H) scope x ix fp' s' H') ifs ti) (he:∀ fp' s' H',PE (compCx (compCx X scope0 x0 ix0 fp s H) scope x ix fp' s' H') elt te)
  (hs:∀ z,foldedSetIterable iter (compCx X scope0 x0 ix0 fp s H).env z=pure z:=by intro _;rfl):PE (compCx X scope0 x0 ix0 fp s H) (.ListComp elt [⟨.Name x px,iter,ifs,0⟩] scope pos) (tComp wi ix ti te) :=
 pe_comp (compSc_in h e2).1 (compSc_in h e2).2 hc hi hif he hs
end L2
namespace Lw
open PySem PySem.Spec PyProof.Rows L2 Ma MaR
abbrev PS2:=Addr×List Nat
def PvS (H:Hp) (ps:List PS2) (kf:List Nat→List Int) (S:Addr) (i:Nat) (ks:List V) (H1:Hp):Prop :=
 H S=none∧Same H H1∧H1 S=some (.lst ks)∧ks.length=i∧∀ (j:Nat) (v:V) (p:PS2),ks[j]?=some v→ps[j]?=some p→∃ a:Addr,v=.ref a∧a≠S∧H1 a=some (.lst ((kf p.2).map V.int))
theorem PvS.zero {H:Hp} {ps:List PS2} {kf:List Nat→List Int} {S:Addr} (h:H S=none):PvS H ps kf S 0 [] (upd H S (.lst [])):=⟨h,Same.new h,upd_same,rfl,fun j v p hv=>by simp at hv⟩
theorem PvS.step {H H1 H2:Hp} {ps:List PS2} {kf:List Nat→List Int} {S:Addr} {i:Nat} {ks:List V} {p:PS2} {a:Addr} (h:PvS H ps kf S i ks H1) (hp:ps[i]?=some p) (s2:Same H1 H2) (ha:H1 a=none) (ea:H2 a=some (.lst ((kf p.2).map V.int))) :
  H2 S=some (.lst ks)∧ks.length=i∧PvS H ps kf S (i+1) (ks++[.ref a]) (upd H2 S (.lst (ks++[.ref a]))):=by
 obtain ⟨hS,s1,eS,hkl,hks⟩:=h
 have haS:a≠S:=(ne_of_none eS ha).symm
 refine ⟨s2 _ _ eS,hkl,hS,(s1.trans s2).upd hS,upd_same,by rw [List.length_append,hkl];rfl,fun j v q hv hq=>?_⟩
 by_cases hj:j<ks.length
 ·rw [List.getElem?_append_left hj] at hv
  obtain ⟨a',e0,e1,e2⟩:=hks j v q hv hq
  exact ⟨a',e0,e1,by rw [upd_ne e1];exact s2 _ _ e2⟩
 ·have ej:j=ks.length:=by
   have:=(List.getElem?_eq_some_iff.mp hv).1
   rw [List.length_append,List.length_singleton] at this
   omega
  subst ej
  rw [hkl,hp] at hq
  cases hq
  have ev:v=.ref a:=by simpa using hv.symm
  subst ev
  exact ⟨a,rfl,haS,by rw [upd_ne haS];exact ea⟩
theorem perm_get {ps:List PS2} {p:Array Nat} (h:PermN ps.length p):(p.toList.map fun i=>ps.getD i (0,[])).Perm ps:=by
 have h1:=(Array.perm_iff_toList_perm.mp h).map fun i=>ps.getD i (0,[])
 have e:(List.range ps.length).map (fun i=>ps.getD i (0,[]))=ps:=by
  refine List.ext_getElem? fun i=>?_
  by_cases hi:i<ps.length
  ·simp [hi]
  ·simp [hi]
 simp only [List.toList_toArray] at h1
 rw [e] at h1
 exact h1
theorem sorted_get {ps:List PS2} {kf:List Nat→List Int} {p:Array Nat} {n:Nat} (hn:ps.length=n) (h:PermN n p) (so:SoTo (fun i j=>HT.lexLt ((ps.map fun q=>kf q.2).getD i []) ((ps.map fun q=>kf q.2).getD j [])) p n):(p.toList.map fun i=>ps.getD i (0,[])).Pairwise fun x y=>HT.lexLt (kf y.2) (kf x.2)=false:=by
 rw [List.pairwise_iff_getElem]
 intro i j hi hj hij
 have hs:=h.size
 rw [List.length_map,Array.length_toList] at hi hj
 have hb:∀ k∈p.toList,k<ps.length:=fun k hk=>by
  have:=(Array.perm_iff_toList_perm.mp h).mem_iff.mp hk
  rw [hn]
  simpa using this
 have:=so i j (by omega) (by omega)
 have e1:p.getD i 0=p.toList[i]'(by rw [Array.length_toList];exact hi):=by simp [Array.getD,hi]
 have e2:p.getD j 0=p.toList[j]'(by rw [Array.length_toList];exact hj):=by simp [Array.getD,hj]
 have gd:∀ k,k<ps.length→(ps.map fun q=>kf q.2).getD k []=kf (ps.getD k (0,[])).2:=fun k hk=>by simp [List.getD_eq_getElem?_getD,hk]
 dsimp only at this
 rw [gd _ (by rw [e2];exact hb _ (List.getElem_mem _)),gd _ (by rw [e1];exact hb _ (List.getElem_mem _)),e1,e2] at this
 rw [List.getElem_map,List.getElem_map]
 exact this
theorem PvS.fin {H:Hp} {ps:List PS2} {kf:List Nat→List Int} {Q:VK} (k:∀ (D:Addr) (qs:List PS2) (H':Hp),H D=none→Same H H'→H' D=some (.lst (qs.map fun p=>V.ref p.1))→qs.Perm ps→(qs.Pairwise fun x y=>HT.lexLt (kf y.2) (kf x.2)=false)→Q (.ref D) H') :
  sortEnd (ps.map fun p=>V.ref p.1) (ps.map fun p=>kf p.2) (PvS H ps kf) Q:=by
 rintro S ks H1 ⟨hS,s1,eS,hkl,hks⟩
 rw [List.length_map] at hkl
 refine ⟨eS,by rw [hkl,List.length_map],fun i v q hv hq=>?_,fun p hp so D hD=>?_⟩
 ·rw [List.getElem?_map] at hq
  obtain ⟨x,hx,rfl⟩:=Option.map_eq_some_iff.mp hq
  obtain ⟨a,e0,_,e2⟩:=hks i v x hv hx
  exact ⟨a,e0,e2⟩
 ·rw [List.length_map] at hp so
  have hb:∀ i∈p.toList,i<ps.length:=fun i hi=>by
   have:=(Array.perm_iff_toList_perm.mp hp).mem_iff.mp hi
   simpa using this
  have e:(p.toList.map fun i=>(ps.map fun p=>V.ref p.1).getD i .non)=(p.toList.map fun i=>ps.getD i (0,[])).map fun p=>V.ref p.1:=by
   rw [List.map_map]
   refine List.map_congr_left fun i hi=>?_
   have:=hb i hi
   simp [List.getD_eq_getElem?_getD,this]
  rw [e]
  have sS:Same H (upd H1 S (.lst [])):=s1.upd hS
  exact k D _ _ (sS.free hD) (sS.upd' hD) upd_same (perm_get hp) (sorted_get rfl hp so)
def RefT (H:Hp) (l:Addr) (ps:List PS2):Prop:=H l=some (.lst (ps.map fun p=>V.ref p.1))∧∀ p∈ps,H p.1=some (.tup (lstC p.2))
def spStd (K:PySem.W.Frag):Sp:=fun vs H Q _=>∃ (n:Nat) (a:Addr) (x:List Nat),vs=[.int (n:Nat),.ref a]∧1≤n∧n≤4∧SqT K H a (wds [x])∧∀ (l:Addr) (H':Hp),H l=none→Same H H'→H' l=some (.lst (lstC (stdg n x)))→Q (.ref l) H'
def spStdL:Sp:=fun vs H Q _=>∃ (n:Nat) (x:List Nat),vs=[.str (S x)]∧1≤n∧n≤4∧OfN n x∧∀ (l:Addr) (H':Hp),H l=none→Same H H'→H' l=some (.lst (lstC (stdg n x)))→Q (.ref l) H'
def spRanks:Sp:=fun vs H Q _=>∃ (p:Addr) (sd:List Nat),vs=[.ref p]∧H p=some (.tup (lstC sd))∧(∀ d∈sd,isL d)∧sd.length≤100∧∀ (l:Addr) (H':Hp),H l=none→Same H H'→H' l=some (.lst ((rkL sd).map V.int))→Q (.ref l) H'
def stF (st:List Nat) (sd:List Nat):Bool:=sd.all fun d=>decide (d∈st)
def spSStd:Sp:=fun vs H Q _=>∃ (n:Nat) (ls:Addr) (c:Nat) (st:List Nat),vs=[.int (n:Nat),.ref ls,.str (S [c])]∧1≤n∧n≤4∧c∈letsN n∧H ls=some (.lst (lstC st))∧∀ (l:Addr) (ps:List PS2) (H':Hp),H l=none→Same H H'→RefT H' l ps→ps.map (·.2)=(sidesL n c).filter (stF st)→Q (.ref l) H'
def IsLv (H:Hp) (l:Addr) (n:Nat) (x:List Nat):Prop:=∃ ps:List (Addr×Nat×List Nat),H l=some (.lst (ps.map fun p=>V.ref p.1))∧(∀ p∈ps,IsChg H p.1 p.2.1 p.2.2)∧LvAll n x (stdg n x) (ps.map (·.2))∧ps.length≤100
def spLevel:Sp:=fun vs H Q _=>∃ (n:Nat) (x:List Nat),vs=[.int (n:Nat),.str (S x)]∧1≤n∧n≤4∧RgN n x∧Kd x∧x.length≤100∧∀ (l:Addr) (H':Hp),H l=none→Same H H'→IsLv H' l n x→Q (.ref l) H'
def spAllS (ts:List Tb):Sp:=fun vs H Q _=>∃ (n:Nat) (ls:Addr) (c:Nat) (x:List Nat),vs=[.ref ls,.str (S [c])]∧1≤n∧n≤4∧c∈stdg n x∧(stdg n x).length≤6∧H ls=some (.lst (lstC (stdg n x)))∧TabsH ts H∧∀ (l:Addr) (ps:List PS2) (H':Hp),H l=none→SameT ts H H'→RefT H' l ps→(ps.map (·.2)).Perm (sidesF c (stdg n x))→(ps.map (·.2)).Pairwise leS→Q (.ref l) H'
def spKept (ts:List Tb):Sp:=fun vs H Q _=>∃ (n:Nat) (x:List Nat),vs=[.int (n:Nat),.str (S x)]∧1≤n∧n≤4∧RgN n x∧Kd x∧x.length≤100∧TabsH ts H∧∀ (l:Addr) (H':Hp),H l=none→SameT ts H H'→IsLv H' l n x→Q (.ref l) H'
def spStage:Sp:=fun vs H Q _=>∃ (fl sc:Addr) (n:Nat),vs=[.ref fl,.int (n:Nat)]∧IsFl H fl sc∧1≤n∧n≤4∧∀ (w:List Nat) (H':Hp),OfN n w→Plain w→Kd w→w.length≤10→IsFl H' fl sc→Kp fl H H'→Q (.str (S w)) H'
def spShRing (ts:List Tb):Sp:=fun vs H Q _=>∃ (n:Nat) (x:List Nat),vs=[.int (n:Nat),.str (S x)]∧1≤n∧n≤4∧OfN n x∧Plain x∧Kd x∧x.length≤100∧TabsH ts H∧∀ (z:List Nat) (H':Hp),SameT ts H H'→RgN n z→Kd z→z.length≤100→Q (.str (S z)) H'
theorem side_nd {c:Nat} (hc:c≠con c):∀ (k:Nat) (L:List Nat),L.length=k→L.Nodup→(sidesF c L).Nodup
 | 0,L,hk,_=>by
  have:L=[]:=List.length_eq_zero_iff.mp hk
  subst this
  exact List.nodup_cons.mpr ⟨by simp,List.nodup_nil⟩
 | k+1,L,hk,hn=>by
  obtain ⟨L',o,rfl⟩:∃ L' o,L=L'++[o]:=by
   have hne:L≠[]:=fun z=>by rw [z] at hk;simp at hk
   exact ⟨L.dropLast,L.getLast hne,(List.dropLast_concat_getLast hne).symm⟩
  have hl':L'.length=k:=by rw [List.length_append,List.length_singleton] at hk;omega
  have hnd:L'.Nodup:=hn.sublist (List.sublist_append_left _ _)
  have ho:¬ o∈L':=fun z=>by
   rw [List.nodup_append] at hn
   exact hn.2.2 o z o (by simp) rfl
  have ih:=side_nd hc k L' hl' hnd
  have hsub:∀ s∈sidesF c L',¬ o∈s:=fun s hs z=>ho (((mem_sides hc _ _ rfl hnd s).mp hs).1.subset z)
  have hinj:((sidesF c L').map (·++[o])).Nodup:=by
   rw [List.nodup_iff_pairwise_ne,List.pairwise_map]
   refine (List.nodup_iff_pairwise_ne.mp ih).imp fun h z=>h (List.append_cancel_right z)
  rw [sidesF_snoc]
  unfold stepS
  split
  ·exact ih
  ·split
   ·exact hinj
   ·rw [List.nodup_append]
    refine ⟨ih,hinj,fun a ha b hb e=>?_⟩
    obtain ⟨s,hs,rfl⟩:=List.mem_map.mp hb
    rw [e] at ha
    exact hsub _ ha (by simp)
theorem lv_of {n:Nat} {x:List Nat} {c:Nat} {L:List (List Nat)} (n1:1≤n) (n4:n≤4) (hc:c∈stdg n x) (hp:L.Perm (((sidesL n c).filter (stF (stdg n x))).filter fun sd=>decide (sumL sd (Dk (tiesR [x]))=cntR [x] c))) (ho:L.Pairwise leS):LvR n x c L:=by
 have hne:=(con_ne (letsN_isL (stdg_lets hc))).symm
 refine ⟨hp.nodup_iff.mpr (((side_nd hne _ _ rfl (lets_nodup n1 n4)).filter _).filter _),ho,fun sd=>?_⟩
 rw [hp.mem_iff,List.mem_filter,List.mem_filter,side_st n1 n4 hc,decide_eq_true_iff]
 unfold stF keepP
 rw [List.all_eq_true]
 simp only [decide_eq_true_eq]
theorem lv_keep {n:Nat} {x:List Nat} {c:Nat} {L M:List (List Nat)} (n1:1≤n) (n4:n≤4) (hc:c∈stdg n x) (hp:M.Perm (sidesF c (stdg n x))) (ho:M.Pairwise leS) {P:List Nat→Bool} (hP:∀ sd∈M,P sd=true↔keepP x c sd) (hL:L=M.filter P):LvR n x c L:=by
 subst hL
 have hne:=(con_ne (letsN_isL (stdg_lets hc))).symm
 refine ⟨(hp.nodup_iff.mpr (side_nd hne _ _ rfl (stdg_nd n1 n4))).filter _,ho.filter _,fun sd=>?_⟩
 rw [List.mem_filter,hp.mem_iff]
 exact ⟨fun ⟨a,b⟩=>⟨a,(hP sd (hp.mem_iff.mpr a)).mp b⟩,fun ⟨a,b⟩=>⟨a,(hP sd (hp.mem_iff.mpr a)).mpr b⟩⟩
theorem side_lenC {c:Nat} (hc:c≠con c):∀ (k:Nat) (L:List Nat),L.length=k→L.Nodup→(sidesF c L).length * (if c∈L then 2 else 1) * (if con c∈L then 2 else 1)≤2 ^ k
 | 0,L,hk,_=>by
  have:L=[]:=List.length_eq_zero_iff.mp hk
  subst this
  exact Nat.le_refl _
 | k+1,L,hk,hn=>by
  obtain ⟨L',o,rfl⟩:∃ L' o,L=L'++[o]:=by
   have hne:L≠[]:=fun z=>by rw [z] at hk;simp at hk
   exact ⟨L.dropLast,L.getLast hne,(List.dropLast_concat_getLast hne).symm⟩
  have hl':L'.length=k:=by rw [List.length_append,List.length_singleton] at hk;omega
  have hnd:L'.Nodup:=hn.sublist (List.sublist_append_left _ _)
  have ho:¬ o∈L':=fun z=>by
   rw [List.nodup_append] at hn
   exact hn.2.2 o z o (by simp) rfl
  have ih:=side_lenC hc k L' hl' hnd
  have mem:∀ d,o≠d→((d∈L'++[o])↔d∈L'):=fun d hd=>by
   rw [List.mem_append,List.mem_singleton]
   exact ⟨fun z=>z.resolve_right fun w=>hd w.symm,.inl⟩
  have ite:∀ d,o≠d→(if d∈L'++[o] then 2 else 1:Nat)=if d∈L' then 2 else 1:=fun d hd=>by
   by_cases q:d∈L'
   ·rw [if_pos q,if_pos ((mem d hd).mpr q)]
   ·rw [if_neg q,if_neg fun z=>q ((mem d hd).mp z)]
  rw [sidesF_snoc,Nat.pow_succ]
  unfold stepS
  by_cases e1:o=con c
  ·have e2:o≠c:=fun z=>hc (z.symm.trans e1)
   rw [if_pos e1,ite c e2,if_pos (show con c∈L'++[o] by rw [← e1];simp)]
   rw [if_neg (show ¬ con c∈L' by rw [← e1];exact ho),Nat.mul_one] at ih
   exact Nat.mul_le_mul_right 2 ih
  ·rw [if_neg e1]
   by_cases e2:o=c
   ·rw [if_pos e2,List.length_map,ite (con c) e1,if_pos (show c∈L'++[o] by rw [← e2];simp)]
    rw [if_neg (show ¬ c∈L' by rw [← e2];exact ho),Nat.mul_one] at ih
    rw [Nat.mul_assoc,Nat.mul_comm 2,← Nat.mul_assoc]
    exact Nat.mul_le_mul_right 2 ih
   ·rw [if_neg e2,List.length_append,List.length_map,ite c e2,ite (con c) e1,← Nat.mul_two,Nat.mul_assoc (sidesF c L').length 2,Nat.mul_comm 2,← Nat.mul_assoc,Nat.mul_assoc _ 2,Nat.mul_comm 2,← Nat.mul_assoc]
    exact Nat.mul_le_mul_right 2 ih
theorem stdg_con {n:Nat} {x:List Nat} {c:Nat} (n1:1≤n) (n4:n≤4) (h:c∈stdg n x):con c∈stdg n x:=by
 have hl:=stdg_lets h
 have hs:=stdg_std h
 refine List.mem_filter.mpr ⟨letsN_con (by omega) (by omega) hl,?_⟩
 unfold stdP at hs ⊢
 rw [con_con (letsN_isL hl),Bool.or_comm]
 exact hs
theorem side_len {n:Nat} {x:List Nat} {c:Nat} (n1:1≤n) (n4:n≤4) (hc:c∈stdg n x) (h6:(stdg n x).length≤6):(sidesF c (stdg n x)).length≤16:=by
 have h:=side_lenC (con_ne (letsN_isL (stdg_lets hc))).symm _ _ rfl (stdg_nd n1 n4 (x:=x))
 rw [if_pos hc,if_pos (stdg_con n1 n4 hc)] at h
 have:2 ^ (stdg n x).length≤2 ^ 6:=Nat.pow_le_pow_right (by decide) h6
 omega
theorem side_len2 {n:Nat} {x:List Nat} {c:Nat} (n1:1≤n) (n4:n≤4) (hc:c∈stdg n x) (h6:(stdg n x).length≤6):((sidesL n c).filter (stF (stdg n x))).length≤16:=by
 have hne:=(con_ne (letsN_isL (stdg_lets hc))).symm
 refine Nat.le_trans (nd_le ((side_nd hne _ _ rfl (lets_nodup n1 n4)).filter _) fun sd hs=>?_) (side_len n1 n4 hc h6)
 rw [side_st n1 n4 hc]
 obtain ⟨a,b⟩:=List.mem_filter.mp hs
 unfold stF at b
 rw [List.all_eq_true] at b
 exact ⟨a,fun d hd=>of_decide_eq_true (b d hd)⟩
theorem ofn_le {n m:Nat} {x:List Nat} (h1:1≤m) (hmn:m≤n) (h4:n≤4) (hx:OfN m x):OfN n x:=fun c hc=>by
 have:=hx c hc
 have hL:=isL_cases (letsN_isL this)
 rcases n14 (by omega) h4 with rfl | rfl | rfl | rfl <;> (have:m=1∨m=2∨m=3∨m=4:=by omega) <;> rcases this with rfl | rfl | rfl | rfl <;> first | exact this | (exfalso;omega) | (rcases hL with rfl | rfl | rfl | rfl | rfl | rfl | rfl | rfl <;> revert this <;> decide)
def ixS (L:List Nat) (d:Nat):Int:=((L.idxOf d:Nat):Int)
theorem ix_get {L:List Nat} {d:Nat} (h:d∈L):L[L.idxOf d]?=some d:=by
 rw [List.getElem?_eq_getElem (List.idxOf_lt_length_iff.mpr h),List.getElem_idxOf]
theorem rk_mono {n:Nat} {x:List Nat} (h1:1≤n) (h4:n≤4):(stdg n x).Pairwise fun d e=>rk d<rk e:=by
 have:(letsN n).Pairwise fun d e=>rk d<rk e:=by rcases n14 h1 h4 with rfl | rfl | rfl | rfl <;> decide
 exact this.filter _
theorem ix_lt {n:Nat} {x:List Nat} (h1:1≤n) (h4:n≤4) {d e:Nat} (hd:d∈stdg n x) (he:e∈stdg n x):ixS (stdg n x) d<ixS (stdg n x) e↔((rk d:Nat):Int)<((rk e:Nat):Int):=by
 have pw:=List.pairwise_iff_getElem.mp (rk_mono (x:=x) h1 h4)
 have ld:=List.idxOf_lt_length_iff.mpr hd
 have le:=List.idxOf_lt_length_iff.mpr he
 have gd:(stdg n x)[(stdg n x).idxOf d]=d:=List.getElem_idxOf _
 have ge:(stdg n x)[(stdg n x).idxOf e]=e:=List.getElem_idxOf _
 unfold ixS
 constructor
 ·intro h
  have:=pw _ _ ld le (by omega)
  rw [gd,ge] at this
  omega
 ·intro h
  rcases Nat.lt_trichotomy ((stdg n x).idxOf d) ((stdg n x).idxOf e) with z | z | z
  ·omega
  ·have:d=e:=by rw [← gd,← ge];congr 1
   subst this
   omega
  ·have:=pw _ _ le ld z
   rw [gd,ge] at this
   omega
theorem ix_eq {n:Nat} {x:List Nat} {d e:Nat} (hd:d∈stdg n x) (he:e∈stdg n x):ixS (stdg n x) d=ixS (stdg n x) e↔((rk d:Nat):Int)=((rk e:Nat):Int):=by
 have gd:(stdg n x)[(stdg n x).idxOf d]?=some d:=ix_get hd
 have ge:(stdg n x)[(stdg n x).idxOf e]?=some e:=ix_get he
 unfold ixS
 constructor
 ·intro h
  have h:(stdg n x).idxOf d=(stdg n x).idxOf e:=by omega
  rw [h,ge] at gd
  cases gd
  rfl
 ·intro h
  rw [rk_inj (letsN_isL (stdg_lets hd)) (letsN_isL (stdg_lets he)) (by omega)]
theorem lex_ix {n:Nat} {x:List Nat} (h1:1≤n) (h4:n≤4) {a b:List Nat} (ha:∀ d∈a,d∈stdg n x) (hb:∀ d∈b,d∈stdg n x):HT.lexLt (a.map (ixS (stdg n x))) (b.map (ixS (stdg n x)))=HT.lexLt (rkL a) (rkL b) :=
 lex_same (L:=stdg n x) (fun d hd e he=>ix_eq hd he) (fun d hd e he=>ix_lt h1 h4 hd he) ha hb
theorem lq_items {K:PySem.W.Frag} {H:Hp} {ps qs:List (Addr×Nat×List Nat)} (h1:∀ p∈ps,IsChg H p.1 p.2.1 p.2.2) (h2:∀ p∈qs,IsChg H p.1 p.2.1 p.2.2) (h8:∀ p∈ps.map (·.2),p.2.length≤8) (e:ps.map (·.2)=qs.map (·.2)) :
  ∀ (i:Nat) (x y:V),(ps.map fun p=>V.ref p.1)[i]?=some x→(qs.map fun p=>V.ref p.1)[i]?=some y→Lq K H 2 x y:=fun i x y hx hy=>by
 rw [List.getElem?_map] at hx hy
 obtain ⟨p,hp,rfl⟩:=Option.map_eq_some_iff.mp hx
 obtain ⟨q,hq,rfl⟩:=Option.map_eq_some_iff.mp hy
 have e2:p.2=q.2:=by
  have a:(ps.map (·.2))[i]?=some p.2:=by rw [List.getElem?_map,hp];rfl
  have b:(qs.map (·.2))[i]?=some q.2:=by rw [List.getElem?_map,hq];rfl
  rw [e,b] at a
  exact (Option.some.inj a).symm
 have i1:=h1 p (List.mem_of_getElem? hp)
 have i2:=h2 q (List.mem_of_getElem? hq)
 rw [← e2] at i2
 exact lq_chg i1 i2 (by have:=h8 p.2 (List.mem_map.mpr ⟨p,List.mem_of_getElem? hp,rfl⟩);omega)
theorem IsLv.two {K:PySem.W.Frag} {H:Hp} {l m:Addr} {n:Nat} {x:List Nat} (n1:1≤n) (n4:n≤4) (h:IsLv H l n x) (g:IsLv H m n x):∃ xs ys:List V,H l=some (.lst xs)∧H m=some (.lst ys)∧xs.length=ys.length∧xs.length≤100∧∀ (i:Nat) (a b:V),xs[i]?=some a→ys[i]?=some b→Lq K H 2 a b:=by
 obtain ⟨ps,e1,h1,h2,h3⟩:=h
 obtain ⟨qs,e2,g1,g2,g3⟩:=g
 have e:=LvAll.inj n1 n4 (fun c hc=>hc) h2 g2
 have hl:ps.length=qs.length:=by have:=congrArg List.length e;rwa [List.length_map,List.length_map] at this
 exact ⟨_,_,e1,e2,by rw [List.length_map,List.length_map,hl],by rw [List.length_map];exact h3,lq_items h1 g1 (LvAll.side n1 n4 (fun c hc=>hc) h2) e⟩
theorem lq_lv {K:PySem.W.Frag} {H:Hp} {l m:Addr} {n:Nat} {x:List Nat} (n1:1≤n) (n4:n≤4) (h:IsLv H l n x) (g:IsLv H m n x):Lq K H 3 (.ref l) (.ref m):=by
 obtain ⟨xs,ys,e1,e2,hl,hm,hall⟩:=IsLv.two (K:=K) n1 n4 h g
 exact .lst e1 e2 hl hm hall
theorem IsLv.sameT {ts:List Tb} {H H':Hp} {l:Addr} {n:Nat} {x:List Nat} (s:SameT ts H H') (h:IsLv H l n x):IsLv H' l n x:=by
 obtain ⟨ps,e1,h1,h2,h3⟩:=h
 exact ⟨ps,s.lst e1,fun p hp=>IsChg.sameT (h1 p hp) s,h2,h3⟩
theorem IsLv.set {H:Hp} {l d:Addr} {n:Nat} {x:List Nat} {xs:List V} {o:HO} (e:H d=some (.lst xs)) (hne:l≠d) (h:IsLv H l n x):IsLv (upd H d o) l n x:=by
 obtain ⟨ps,e1,h1,h2,h3⟩:=h
 have tup:∀ {b:Addr} {ys:List V},H b=some (.tup ys)→upd H d o b=some (.tup ys):=fun h=>by rw [upd_ne (ne_of h e (by intro z;cases z))];exact h
 exact ⟨ps,by rw [upd_ne hne];exact e1,fun p hp=>by obtain ⟨q,a,b⟩:=h1 p hp;exact ⟨q,tup a,tup b⟩,h2,h3⟩
end Lw
namespace L2
open PySem PySem.Spec PyProof.Rows
def lamOf (st:Stmt):Option (Scope×Pos):=match (defBody st).getLast? with
 | some (.Return (some (.Call _ _ [⟨_,.Lambda _ _ sc pos,_⟩] _)) _)=>some (sc,pos)
 | _=>none
def lamPos2 (st:Stmt):Pos:=((lamOf st).map (·.2)).getD ⟨0,0,0,0⟩
def lamSc2 (st:Stmt):Scope:=((lamOf st).map (·.1)).getD (defScope st)
def lamTb2 (P:Addr) (x:Str) (st:Stmt):Tb:=⟨P,lamPos2 st,(x++".<locals>.")++"<lambda>"⟩
end L2
namespace Lw
open PySem PySem.Spec PyProof.Rows L2 Ma
def top (i:Nat):Stmt:=PySem.Challenge.pw_newletters_k42_changes_that_keep_the_len.main.body.getD i (.Pass ⟨0,0,0,0⟩)
abbrev fnX (x:Str) (st:Stmt) (kV dc pm:Value) (an:Option Addr) (cd ct:Value):FuncData:=PySem.W.fnOf x x (defArgs st) (defBody st) (defScope st) .none kV dc pm an cd ct
theorem dmk {K:PySem.W.Frag} {mg:Str→Option Value} {x:Str} {st:Stmt} {ps:List Str} {f:Addr} {oc:Value} {od an:Option Addr} {osl:Array (Option Value)} {kV doc pm cdv ct:Value} (l:K.lookup f=some ⟨oc,od,.func (fnX x st kV doc pm an cdv ct),osl⟩)
  (c:PySem.W.codeIn K cdv x=true) (k:PySem.W.keepIn K (.ref f)=true) (m:mg x=some (.ref f)) (h:∀ (kV doc pm:Value) (an:Option Addr) (cdv ct:Value) (us:List Value),us.length=ps.length→bindArgs (fnX x st kV doc pm an cdv ct) ⟨us,[]⟩=pure (ps.zip us)):Df K mg x st ps f (fnX x st kV doc pm an cdv ct) :=
 ⟨fun_mk l c k,(fun_mk l c k).binds h,m⟩
abbrev s_zt:Stmt:=top 4
theorem sc_zt:FnScope ["n"] ["n"] (defScope s_zt):=⟨rfl,rfl,rfl,by decide +kernel,rfl,by decide +kernel,by decide +kernel⟩
abbrev s_z4:Stmt:=top 5
theorem sc_z4:FnScope ["letter"] ["letter"] (defScope s_z4):=⟨rfl,rfl,rfl,by decide +kernel,rfl,by decide +kernel,by decide +kernel⟩
abbrev s_za1:Stmt:=top 6
theorem sc_za1:FnScope ["letter"] ["letter"] (defScope s_za1):=⟨rfl,rfl,rfl,by decide +kernel,rfl,by decide +kernel,by decide +kernel⟩
abbrev s_zn:Stmt:=top 8
theorem sc_zn:FnScope ["ties","side"] ["ties","side"] (defScope s_zn):=⟨rfl,rfl,rfl,by decide +kernel,rfl,by decide +kernel,by decide +kernel⟩
abbrev s_zu:Stmt:=top 9
theorem sc_zu:FnScope ["n","letter","sides","other","wider"] ["n","letter"] (defScope s_zu):=⟨rfl,rfl,rfl,by decide +kernel,rfl,by decide +kernel,by decide +kernel⟩
abbrev s_zv:Stmt:=top 11
theorem sc_zv:FnScope ["one","other"] ["one","other"] (defScope s_zv):=⟨rfl,rfl,rfl,by decide +kernel,rfl,by decide +kernel,by decide +kernel⟩
abbrev s_z9:Stmt:=top 12
theorem sc_z9:FnScope ["rings","ties","ring","place","letter","pair"] ["rings"] (defScope s_z9):=⟨rfl,rfl,rfl,by decide +kernel,rfl,by decide +kernel,by decide +kernel⟩
abbrev s_z1:Stmt:=top 13
theorem sc_z1:FnScope ["rings","letter"] ["rings","letter"] (defScope s_z1):=⟨rfl,rfl,rfl,by decide +kernel,rfl,by decide +kernel,by decide +kernel⟩
abbrev s_za:Stmt:=top 14
theorem sc_za:FnScope ["n","rings"] ["n","rings"] (defScope s_za):=⟨rfl,rfl,rfl,by decide +kernel,rfl,by decide +kernel,by decide +kernel⟩
abbrev s_zk:Stmt:=top 16
theorem sc_zk:FnScope ["side"] ["side"] (defScope s_zk):=⟨rfl,rfl,rfl,by decide +kernel,rfl,by decide +kernel,by decide +kernel⟩
abbrev s_zg:Stmt:=top 17
theorem sc_zg:FnScope ["n","standing","letter"] ["n","standing","letter"] (defScope s_zg):=⟨rfl,rfl,rfl,by decide +kernel,rfl,by decide +kernel,by decide +kernel⟩
abbrev s_zj:Stmt:=top 18
theorem sc_zj:FnScope ["n","ring","standing","ties","changes","letter","count","sides"] ["n","ring"] (defScope s_zj):=⟨rfl,rfl,rfl,by decide +kernel,rfl,by decide +kernel,by decide +kernel⟩
abbrev s_z7:Stmt:=top 20
theorem sc_z7:FnScope ["_law_script"] ["_law_script"] (defScope s_z7):=⟨rfl,rfl,rfl,by decide +kernel,rfl,by decide +kernel,by decide +kernel⟩
abbrev s_z6:Stmt:=top 21
theorem sc_z6:FnScope ["_law_flow_here","_law_many","_law_cell","_law_digit"] ["_law_flow_here","_law_many"] (defScope s_z6):=⟨rfl,rfl,rfl,by decide +kernel,rfl,by decide +kernel,by decide +kernel⟩
abbrev s_zx:Stmt:=top 22
theorem sc_zx:FnScope ["_law_found","_law_due"] ["_law_found","_law_due"] (defScope s_zx):=⟨rfl,rfl,rfl,by decide +kernel,rfl,by decide +kernel,by decide +kernel⟩
abbrev s_zr:Stmt:=top 23
theorem sc_zr:FnScope ["_law_n"] ["_law_n"] (defScope s_zr):=⟨rfl,rfl,rfl,by decide +kernel,rfl,by decide +kernel,by decide +kernel⟩
abbrev s_zm:Stmt:=top 24
theorem sc_zm:FnScope ["_law_letter"] ["_law_letter"] (defScope s_zm):=⟨rfl,rfl,rfl,by decide +kernel,rfl,by decide +kernel,by decide +kernel⟩
abbrev s_zb1:Stmt:=top 25
theorem sc_zb1:FnScope ["_law_word_here"] ["_law_word_here"] (defScope s_zb1):=⟨rfl,rfl,rfl,by decide +kernel,rfl,by decide +kernel,by decide +kernel⟩
abbrev s_z0:Stmt:=top 26
theorem sc_z0:FnScope ["_law_word_here"] ["_law_word_here"] (defScope s_z0):=⟨rfl,rfl,rfl,by decide +kernel,rfl,by decide +kernel,by decide +kernel⟩
abbrev s_z5:Stmt:=top 27
theorem sc_z5:FnScope ["_law_text","_law_found","_law_letter"] ["_law_text"] (defScope s_z5):=⟨rfl,rfl,rfl,by decide +kernel,rfl,by decide +kernel,by decide +kernel⟩
abbrev s_z3:Stmt:=top 28
theorem sc_z3:FnScope ["_law_flow_here","_law_n","_law_most","_law_found","_law_letters_here","_law_k","_law_some"] ["_law_flow_here","_law_n","_law_most"] (defScope s_z3):=⟨rfl,rfl,rfl,by decide +kernel,rfl,by decide +kernel,by decide +kernel⟩
abbrev s_z8:Stmt:=top 29
theorem sc_z8:FnScope ["_law_word_here"] ["_law_word_here"] (defScope s_z8):=⟨rfl,rfl,rfl,by decide +kernel,rfl,by decide +kernel,by decide +kernel⟩
abbrev s_zs:Stmt:=top 30
theorem sc_zs:FnScope ["_law_retelling","_law_word_here","_law_found","_law_letter","_law_told"] ["_law_retelling","_law_word_here"] (defScope s_zs):=⟨rfl,rfl,rfl,by decide +kernel,rfl,by decide +kernel,by decide +kernel⟩
abbrev s_zb:Stmt:=top 31
theorem sc_zb:FnScope ["_law_retelling","_law_rings"] ["_law_retelling","_law_rings"] (defScope s_zb):=⟨rfl,rfl,rfl,by decide +kernel,rfl,by decide +kernel,by decide +kernel⟩
abbrev s_z2:Stmt:=top 32
theorem sc_z2:FnScope ["_law_rings","_law_found","_law_ring_here","_law_k","_law_pair"] ["_law_rings"] (defScope s_z2):=⟨rfl,rfl,rfl,by decide +kernel,rfl,by decide +kernel,by decide +kernel⟩
abbrev s_zz:Stmt:=top 33
theorem sc_zz:FnScope ["_law_rings","_law_letter"] ["_law_rings","_law_letter"] (defScope s_zz):=⟨rfl,rfl,rfl,by decide +kernel,rfl,by decide +kernel,by decide +kernel⟩
abbrev s_zp:Stmt:=top 34
theorem sc_zp:FnScope ["_law_ties_here","_law_side"] ["_law_ties_here","_law_side"] (defScope s_zp):=⟨rfl,rfl,rfl,by decide +kernel,rfl,by decide +kernel,by decide +kernel⟩
abbrev s_zy:Stmt:=top 35
theorem sc_zy:FnScope ["_law_n","_law_letter","_law_found","_law_other"] ["_law_n","_law_letter"] (defScope s_zy):=⟨rfl,rfl,rfl,by decide +kernel,rfl,by decide +kernel,by decide +kernel⟩
abbrev s_ze:Stmt:=top 36
theorem sc_ze:FnScope ["_law_n","_law_ties_here","_law_letter"] ["_law_n","_law_ties_here","_law_letter"] (defScope s_ze):=⟨rfl,rfl,rfl,by decide +kernel,rfl,by decide +kernel,by decide +kernel⟩
abbrev s_zd:Stmt:=top 37
theorem sc_zd:FnScope ["_law_n","_law_change","_law_letter","_law_side","_law_found","_law_other","_law_told"] ["_law_n","_law_change"] (defScope s_zd):=⟨rfl,rfl,rfl,by decide +kernel,rfl,by decide +kernel,by decide +kernel⟩
abbrev s_zq:Stmt:=top 38
theorem sc_zq:FnScope ["_law_n","_law_rings","_law_ties_here","_law_letter","_law_side"] ["_law_n","_law_rings"] (defScope s_zq):=⟨rfl,rfl,rfl,by decide +kernel,rfl,by decide +kernel,by decide +kernel⟩
abbrev s_zw:Stmt:=top 39
theorem sc_zw:FnScope ["_law_n","_law_rings","_law_changes","_law_change"] ["_law_n","_law_rings"] (defScope s_zw):=⟨rfl,rfl,rfl,by decide +kernel,rfl,by decide +kernel,by decide +kernel⟩
abbrev s_zo:Stmt:=top 40
theorem sc_zo:FnScope ["_law_flow_here","_law_n","_law_left","_law_found","_law_k","_law_letter"] ["_law_flow_here","_law_n"] (defScope s_zo):=⟨rfl,rfl,rfl,by decide +kernel,rfl,by decide +kernel,by decide +kernel⟩
abbrev s_zl:Stmt:=top 41
theorem sc_zl:FnScope ["_law_ring_here"] ["_law_ring_here"] (defScope s_zl):=⟨rfl,rfl,rfl,by decide +kernel,rfl,by decide +kernel,by decide +kernel⟩
abbrev s_zh:Stmt:=top 42
theorem sc_zh:FnScope ["_law_n","_law_word_here"] ["_law_n","_law_word_here"] (defScope s_zh):=⟨rfl,rfl,rfl,by decide +kernel,rfl,by decide +kernel,by decide +kernel⟩
abbrev s_zf:Stmt:=top 43
theorem sc_zf:FnScope ["_law_flow_here","_law_n","_law_many","_law_word_here"] ["_law_flow_here","_law_n"] (defScope s_zf):=⟨rfl,rfl,rfl,by decide +kernel,rfl,by decide +kernel,by decide +kernel⟩
abbrev s_zi:Stmt:=top 44
theorem sc_zi:FnScope ["_law_some","_law_letter","_law_sides_here","_law_other"] ["_law_some","_law_letter"] (defScope s_zi):=⟨rfl,rfl,rfl,by decide +kernel,rfl,by decide +kernel,by decide +kernel⟩
abbrev s_zc:Stmt:=top 45
theorem sc_zc:FnScope ["_law_n","_law_ring_here","_law_some","_law_found","_law_letter","_law_side"] ["_law_n","_law_ring_here"] (defScope s_zc):=⟨rfl,rfl,rfl,by decide +kernel,rfl,by decide +kernel,by decide +kernel⟩
abbrev s_law:Stmt:=top 46
theorem sc_law:FnScope ["_law_script","_law_flow_here","_law_n","_law_ring_here","_law_other","_law_due","_law_found"] ["_law_script"] (defScope s_law):=⟨rfl,rfl,rfl,by decide +kernel,rfl,by decide +kernel,by decide +kernel⟩
structure Txt (P:Program) (w:World) (K:PySem.W.Frag) (mg:Str→Option Value) (a_CONTRARIES:Addr) (a_LETTERS:Addr) (a_RANKS:Addr):Prop where
 b_all:mg "all"=none
 b_bool:mg "bool"=none
 b_enumerate:mg "enumerate"=none
 b_int:mg "int"=none
 b_isinstance:mg "isinstance"=none
 b_len:mg "len"=none
 b_list:mg "list"=none
 b_max:mg "max"=none
 b_min:mg "min"=none
 b_range:mg "range"=none
 b_reversed:mg "reversed"=none
 b_sorted:mg "sorted"=none
 b_sum:mg "sum"=none
 b_tuple:mg "tuple"=none
 m_CONTRARIES:mg "CONTRARIES"=some (.ref a_CONTRARIES)
 t_CONTRARIES:∀ h,K.In h→StrTab P w h a_CONTRARIES conTab
 m_LETTERS:mg "LETTERS"=some (.ref a_LETTERS)
 t_LETTERS:∀ H,SqT K H a_LETTERS letV
 m_RANKS:mg "RANKS"=some (.ref a_RANKS)
 t_RANKS:∀ h,K.In h→StrTab P w h a_RANKS rankTab
def tbs (P1 P2:Addr):List Tb:=[lamTb2 P1 "_law_all_sides" s_zi,lamTb P2 "_law_least_side" s_ze]
section
variable {P:Program} {w:World} {K:PySem.W.Frag} {mg:Str→Option Value} {base:Heap} {a_CONTRARIES:Addr} {a_LETTERS:Addr} {a_RANKS:Addr} {P1 P2:Addr}
theorem ok_z7 {f:Addr} {fd:FuncData} (D:Df K mg "_law_flow" s_z7 ["_law_script"] f fd) (T:Txt P w K mg a_CONTRARIES a_LETTERS a_RANKS):Cl P w K mg base "_law_flow" ["_law_script"] 1 (spFlow K):=by
 refine D.cl (D.F.ok sc_z7 (fun vs H Q E h=>?_) (fun cdv A outer s H vs Q E hr h=>?_))
 ·obtain ⟨a,ns,rfl,_⟩:=h
  rfl
 ·obtain ⟨a,ns,rfl,hs,hl,k⟩:=h
  refine ⟨_,(pss_one (ps_ret (pe_lst (pa_cons (pe_callTy (call_listK (K:=K) rfl) (by rfl) T.b_list boot_list (pa_cons (pv 0) pa_nil)) (pa_cons pe_int (pa_cons pe_int (pa_cons pe_int (pa_cons pe_int pa_nil)))))))),?_⟩
  refine ⟨_,rfl,a,_,rfl,.inl hs,fun l hl0=>⟨len_1000 (by simp),fun fl hf=>?_⟩⟩
  have ne:l≠fl:=(ne_of_none (upd_same (H:=H) (a:=l) (o:=HO.lst (ns.map V.int))) hf)
  have hH:H fl=none:=by rw [upd_ne ne.symm] at hf;exact hf
  refine k fl l _ hH ((Same.new hl0).upd' hf) ⟨ns,0,0,1,0,upd_same,?_,hl,by decide,by decide,by decide⟩
  rw [upd_ne ne,upd_same]
theorem ok_z6 {f:Addr} {fd:FuncData} (D:Df K mg "_law_pick" s_z6 ["_law_flow_here","_law_many"] f fd) (T:Txt P w K mg a_CONTRARIES a_LETTERS a_RANKS):Cl P w K mg base "_law_pick" ["_law_flow_here","_law_many"] 1 spPick:=by
 refine D.cl (D.F.ok sc_z6 (fun vs H Q E h=>?_) (fun cdv A outer s H vs Q E hr h=>?_))
 ·obtain ⟨fl,sc,m,rfl,_⟩:=h
  rfl
 ·obtain ⟨fl,sc,m,rfl,hf,h0,hm,k⟩:=h
  obtain ⟨ns,i,a,b,c,h1,h2,hl,hi,ha,hb⟩:=id hf
  have hne:sc≠fl:=ne_of h2 h1 (by intro z;cases ns with | nil=>cases z | cons n ns=>cases z)
  refine ⟨_,(pss_mid (ps_if (pw_and (pt_cmpR op_eq (pe_ix (ix_listK (K:=K) rfl) (pv 0) pe_int (fun _ _=>rfl)) pe_int (nomark _)) (pw_and1 (pt_cmpR op_lt (pe_ix (ix_listK (K:=K) rfl) (pv 0) pe_int (fun _ _=>rfl)) (pe_callB (call_lenK (K:=K) rfl) (by rfl) T.b_len PySem.boot_len (pa_cons (pe_ix (ix_listK (K:=K) rfl) (pv 0) pe_int (fun _ _=>rfl)) pa_nil)) (nomark _)))).pt (pss_cons (ps_set (i:=2) sc_z6.nd rfl (Or.inl rfl) (pe_ix (ix_listK (K:=K) rfl) (pe_ix (ix_listK (K:=K) rfl) (pv 0) pe_int (fun _ _=>rfl)) (pe_ix (ix_listK (K:=K) rfl) (pv 0) pe_int (fun _ _=>rfl)) (fun _ _=>rfl)))
   (pss_cons (ps_asg (pe_op op_add (pe_ix (ix_listK (K:=K) rfl) (pv 0) pe_int (fun _ _=>rfl)) pe_int) (pg_sub (pv 0) pe_int set_list))
   (pss_one (ps_if (pt_cmpR op_ge (pv 2) (pe_op op_pow pe_int pe_int) (nomark _)) (pss_one (ps_asg (pv 2) (pg_sub (pv 0) pe_int set_list))) (pss_one (ps_asg (pe_op op_mod (pe_op op_add (pe_op op_add (pe_op op_mul (pe_ix (ix_listK (K:=K) rfl) (pv 0) pe_int (fun _ _=>rfl)) pe_int) (pe_op op_mod (pv 2) pe_int)) pe_int) pe_int) (pg_sub (pv 0) pe_int set_list))))))) pss_nil)
   (pss_cons (ps_if (pt_cmpR op_gt (pe_ix (ix_listK (K:=K) rfl) (pv 0) pe_int (fun _ _=>rfl)) pe_int (nomark _)) (pss_cons (ps_set (i:=3) sc_z6.nd rfl (Or.inl rfl) (pe_op op_mod (pe_ix (ix_listK (K:=K) rfl) (pv 0) pe_int (fun _ _=>rfl)) (pv 1)))
   (pss_cons (ps_asg (pe_op op_fdiv (pe_ix (ix_listK (K:=K) rfl) (pv 0) pe_int (fun _ _=>rfl)) (pv 1)) (pg_sub (pv 0) pe_int set_list))
   (pss_one (ps_ret (pv 3))))) pss_nil)
   (pss_cons (ps_asg (pe_op op_add (pe_ix (ix_listK (K:=K) rfl) (pv 0) pe_int (fun _ _=>rfl)) pe_int) (pg_sub (pv 0) pe_int set_list))
   (pss_cons (ps_asg (pe_op op_mod (pe_op op_add (pe_op op_add (pe_op op_mul (pe_ix (ix_listK (K:=K) rfl) (pv 0) pe_int (fun _ _=>rfl)) pe_int) pe_int) (pe_ix (ix_listK (K:=K) rfl) (pv 0) pe_int (fun _ _=>rfl))) pe_int) (pg_sub (pv 0) pe_int set_list))
   (pss_one (ps_ret (pe_op op_mod (pe_op op_fdiv (pe_op op_mod (pe_op op_mul (pe_op op_add (pe_op op_mod (pe_ix (ix_listK (K:=K) rfl) (pv 0) pe_int (fun _ _=>rfl)) pe_int) pe_int) (pe_op op_add (pe_op op_fdiv (pe_ix (ix_listK (K:=K) rfl) (pv 0) pe_int (fun _ _=>rfl)) pe_int) pe_int)) pe_int) pe_int) (pv 1)))))))),?_⟩
  refine ⟨fun σ H1=>(∃ v,σ=[some (.ref fl),some (.int m),v,none])∧IsFl H1 fl sc∧Kp fl H H1,?_,?_⟩
  ·refine ⟨_,rfl,fl,_,2,_,rfl,rfl,SqL.of h1,rfl,rfl,_,rfl,ite2 (fun e=>?_) (fun _=>iteF ⟨⟨none,rfl⟩,hf,Kp.refl _ _⟩)⟩
   refine ⟨_,rfl,fl,_,1,_,rfl,rfl,SqL.of h1,rfl,_,rfl,fl,_,0,_,rfl,rfl,SqL.of h1,rfl,sc,_,rfl,.inl (SqL.of h2),_,_,rfl,rfl,_,rfl,ite2 (fun e2=>?_) (fun _=>⟨⟨none,rfl⟩,hf,Kp.refl _ _⟩)⟩
   have hlt:i<((ns.map V.int).length:Int):=of_decide_eq_true e2
   rw [List.length_map] at hlt
   have hil:i.toNat<ns.length:=by omega
   have hat:atI (ns.map V.int) i=some (.int ns[i.toNat]):=by
    have q:(ns.map V.int)[i.toNat]?=some (.int ns[i.toNat]):=by rw [List.getElem?_map,List.getElem?_eq_getElem hil];rfl
    have q2:=atI_nat q
    rwa [Int.toNat_of_nonneg hi] at q2
   refine ⟨_,rfl,fl,_,0,_,rfl,rfl,SqL.of h1,rfl,_,rfl,fl,_,1,_,rfl,rfl,SqL.of h1,rfl,sc,_,i,_,rfl,rfl,SqL.of h2,hat,?_⟩
   refine ⟨_,rfl,fl,_,1,_,rfl,rfl,SqL.of h1,rfl,_,_,rfl,rfl,_,rfl,fl,_,1,1,rfl,rfl,h1,rfl,?_⟩
   refine ⟨_,rfl,_,_,rfl,rfl,⟨by decide,by decide,by decide⟩,_,_,rfl,rfl,_,rfl,ite2 (fun e3=>?_) (fun _=>?_)⟩
   ·have hc:(10:Int) ^ (18:Int).toNat≤ns[i.toNat]:=of_decide_eq_true e3
    have hp:(0:Int)≤10 ^ (18:Int).toNat:=by decide
    refine ⟨_,rfl,_,rfl,fl,_,2,2,rfl,rfl,upd_same,rfl,⟨_,rfl⟩,⟨ns,i+1,ns[i.toNat],b,c,upd_same,?_,hl,by omega,by omega,hb⟩,((Kp.refl fl H).self).self⟩
    rw [upd_ne hne,upd_ne hne];exact h2
   ·refine ⟨_,rfl,fl,_,3,_,rfl,rfl,SqL.of upd_same,rfl,_,_,rfl,rfl,.inr ⟨by decide,by decide⟩,_,rfl,_,_,rfl,rfl,(by show (0:Int)<1000003;decide),_,_,rfl,rfl,_,_,rfl,rfl,_,_,rfl,rfl,(by show (0:Int)<2147483647;decide),_,rfl,fl,_,3,3,rfl,rfl,upd_same,rfl,⟨_,rfl⟩,⟨ns,i+1,a,_,c,upd_same,?_,hl,by omega,ha,Int.emod_nonneg _ (by decide)⟩,((Kp.refl fl H).self).self⟩
    rw [upd_ne hne,upd_ne hne];exact h2
  ·rintro _ H1 ⟨⟨v,rfl⟩,⟨ns,i,a,b,c,h1,h2,hl,hi,ha,hb⟩,kp⟩
   have hne:sc≠fl:=ne_of h2 h1 (by intro z;cases ns with | nil=>cases z | cons n ns=>cases z)
   refine ⟨_,rfl,fl,_,2,_,rfl,rfl,SqL.of h1,rfl,_,_,rfl,rfl,_,rfl,ite2 (fun e=>?_) (fun _=>?_)⟩
   ·refine ⟨_,rfl,fl,_,2,_,rfl,rfl,SqL.of h1,rfl,_,rfl,_,_,rfl,rfl,h0,?_⟩
    refine ⟨_,rfl,fl,_,2,_,rfl,rfl,SqL.of h1,rfl,_,rfl,_,_,rfl,rfl,⟨h0,hm⟩,_,rfl,fl,_,2,2,rfl,rfl,h1,rfl,?_⟩
    refine ⟨_,rfl,k _ _ (Int.emod_nonneg _ (by omega)) (Int.emod_lt_of_pos _ h0) ⟨ns,i,a / m,b,c,upd_same,?_,hl,hi,Int.ediv_nonneg ha (by omega),hb⟩ kp.self⟩
    rw [upd_ne hne];exact h2
   ·refine ⟨_,rfl,fl,_,4,_,rfl,rfl,SqL.of h1,rfl,_,_,rfl,rfl,_,rfl,fl,_,4,4,rfl,rfl,h1,rfl,?_⟩
    refine ⟨_,rfl,fl,_,3,_,rfl,rfl,SqL.of upd_same,rfl,_,_,rfl,rfl,.inr ⟨by decide,by decide⟩,_,_,rfl,rfl,_,rfl,fl,_,4,_,rfl,rfl,SqL.of upd_same,rfl,_,_,rfl,rfl,_,_,rfl,rfl,(by show (0:Int)<2147483647;decide),_,rfl,fl,_,3,3,rfl,rfl,upd_same,rfl,?_⟩
    have hb3:∀ x:Int,0≤x % 2147483647∧x % 2147483647<2147483647:=fun x=>⟨Int.emod_nonneg _ (by decide),Int.emod_lt_of_pos _ (by decide)⟩
    refine ⟨_,rfl,fl,_,3,_,rfl,rfl,SqL.of upd_same,rfl,_,_,rfl,rfl,(by show (0:Int)<65521;decide),_,_,rfl,rfl,_,rfl,fl,_,3,_,rfl,rfl,SqL.of upd_same,rfl,_,_,rfl,rfl,⟨by decide,by decide⟩,_,_,rfl,rfl,_,_,rfl,rfl,.inl ⟨?_,?_⟩,_,_,rfl,rfl,(by show (0:Int)<1000003;decide),_,_,rfl,rfl,⟨by decide,by decide⟩,_,rfl,_,_,rfl,rfl,h0,?_⟩
    ·have:=Int.emod_nonneg ((b * 48271+12820163+(c+1)) % 2147483647) (show (65521:Int)≠0 by decide);omega
    ·have:=Int.emod_lt_of_pos ((b * 48271+12820163+(c+1)) % 2147483647) (show (0:Int)<65521 by decide);omega
    ·refine k _ _ (Int.emod_nonneg _ (by omega)) (Int.emod_lt_of_pos _ h0) ⟨ns,i,a,_,c+1,upd_same,?_,hl,hi,ha,(hb3 _).1⟩ kp.self.self
     rw [upd_ne hne,upd_ne hne];exact h2
theorem ok_zm {f:Addr} {fd:FuncData} (D:Df K mg "_law_contrary" s_zm ["_law_letter"] f fd) (T:Txt P w K mg a_CONTRARIES a_LETTERS a_RANKS):Cl P w K mg base "_law_contrary" ["_law_letter"] 1 spCon:=by
 refine D.cl (D.F.ok sc_zm (fun vs H Q E h=>?_) (fun cdv A outer s H vs Q E hr h=>?_))
 ·obtain ⟨c,rfl,_⟩:=h
  rfl
 ·obtain ⟨c,rfl,hc,k⟩:=h
  refine ⟨_,(pss_cons (ps_if (pt_val (pe_bm0K (K:=K) rfl PySem.F.plainAttrs_str PySem.F.slot_str_islower PySem.F.type_str_islower mt_islower (pv 0))) (pss_one (ps_ret (pe_bm0K (K:=K) rfl PySem.F.plainAttrs_str PySem.F.slot_str_upper PySem.F.type_str_upper mt_upper (pv 0)))) pss_nil)
   (pss_one (ps_ret (pe_bm0K (K:=K) rfl PySem.F.plainAttrs_str PySem.F.slot_str_lower PySem.F.type_str_lower mt_lower (pv 0))))),?_⟩
  refine ⟨_,rfl,rfl,_,rfl,rfl,_,rfl,?_⟩
  dsimp only
  rw [islower_S hc]
  refine ite2 (fun e=>?_) (fun e=>?_)
  ·refine ⟨_,rfl,rfl,_,rfl,rfl,?_,?_⟩
   ·rw [upper_S hc e];exact short1 _
   ·rw [upper_S hc e];exact k H (Same.refl H)
  ·have e':isLow c=false:=by simpa using e
   refine ⟨_,rfl,rfl,_,rfl,rfl,?_,?_⟩
   ·rw [lower_S hc e'];exact short1 _
   ·rw [lower_S hc e'];exact k H (Same.refl H)
theorem ok_zr {f:Addr} {fd:FuncData} (D:Df K mg "_law_letters" s_zr ["_law_n"] f fd) (T:Txt P w K mg a_CONTRARIES a_LETTERS a_RANKS):Cl P w K mg base "_law_letters" ["_law_n"] 1 spLetters:=by
 refine D.cl (D.F.ok sc_zr (fun vs H Q E h=>?_) (fun cdv A outer s H vs Q E hr h=>?_))
 ·obtain ⟨n,rfl,_⟩:=h
  rfl
 ·obtain ⟨n,rfl,h1,h4,k⟩:=h
  refine ⟨_,(pss_one (ps_ret (pe_callTy (call_listStr rfl) (by rfl) T.b_list boot_list (pa_cons (pe_slice sl_str pe_str po_none (po_some (pe_op op_mul pe_int (pv 0)))) pa_nil)))),?_⟩
  have e:Txt.slice (Str.ofString "aAbBcCdD") none (some (2 * n))=S (letsN n):=by
   rw [show Str.ofString "aAbBcCdD"=S lets by decide +kernel,slice_to lets (by omega) (by show (2 * n)≤(8:Int);omega)]
   rfl
  refine ⟨_,rfl,_,_,rfl,rfl,.inl ⟨by decide,by decide⟩,_,rfl,_,rfl,by decide +kernel,letsN n,by rw [e],?_,fun l hl=>k l _ hl (Same.new hl) upd_same⟩
  rw [letsN_len h1 h4];omega
theorem ok_z5 {f:Addr} {fd:FuncData} (D:Df K mg "_law_laid" s_z5 ["_law_text"] f fd) (T:Txt P w K mg a_CONTRARIES a_LETTERS a_RANKS) (c_zm:Cl P w K mg base "_law_contrary" ["_law_letter"] 1 spCon):Cl P w K mg base "_law_laid" ["_law_text"] 2 spLay:=by
 obtain ⟨f_zm,fd_zm,G_zm,m_zm,k_zm,b_zm⟩:=c_zm
 refine D.cl (D.F.ok sc_z5 (fun vs H Q E h=>?_) (fun cdv A outer s H vs Q E hr h=>?_))
 ·obtain ⟨x,rfl,_⟩:=h
  rfl
 ·obtain ⟨x,rfl,hx,hlen,k⟩:=h
  refine ⟨_,(pss_cons (ps_set (i:=1) sc_z5.nd rfl (Or.inl rfl) (pe_lst pa_nil))
   (pss_cons (ps_for PassesOwn.never rfl (pi_str (pv 0)) (pg_name (i:=2) sc_z5.nd rfl (Or.inl rfl)) (pss_one (ps_if (pw_and (pt_cmpR op_gt (pe_callB (call_lenK (K:=K) rfl) (by rfl) T.b_len PySem.boot_len (pa_cons (pv 1) pa_nil)) pe_int (nomark _)) (pw_and1 (pt_cmpR op_eq (pe_ix (ix_listK (K:=K) rfl) (pv 1) (pe_un un_neg pe_int) (fun _ _=>rfl)) (pe_call G_zm (hr.mono (by decide)) (by rfl) m_zm k_zm b_zm .nil pass0 (pa_cons (pv 2) pa_nil)) (nomark _)))).pt (pss_one (ps_expr (pe_bm0K (K:=K) rfl PySem.F.plainAttrs_list PySem.F.slot_list_pop PySem.F.type_list_pop mt_pop (pv 1)))) (pss_one (ps_expr (pe_bmK (K:=K) rfl PySem.F.plainAttrs_list PySem.F.slot_list_append PySem.F.type_list_append mt_append (pv 1) (pa_cons (pv 2) pa_nil)))))))
   (pss_one (ps_ret (pe_bmK (K:=K) rfl PySem.F.plainAttrs_str PySem.F.slot_str_join PySem.F.type_str_join (mt_joinK (K:=K) rfl) pe_str (pa_cons (pv 1) pa_nil)))))),?_⟩
  refine ⟨len_1000 (by simp),fun l hl=>?_⟩
  refine ⟨_,rfl,S x,rfl,for_str (w:=x) (fun i σ H1=>(∃ v,σ=[some (.str (S x)),some (.ref l),v])∧Same H H1∧H1 l=some (.lst (lstC (act [] (x.take i)).reverse))) ⟨⟨none,rfl⟩,Same.new hl,upd_same⟩ ?_ ?_⟩
  ·rintro i c σ H1 hc ⟨⟨v,rfl⟩,s1,e1⟩
   have hi:i<x.length:=(List.getElem?_eq_some_iff.mp hc).1
   have hcL:isL c:=hx c (List.mem_of_getElem? hc)
   have hn:act [] (x.take (i+1))=push (act [] (x.take i)) c:=by rw [take_snoc hc,act_snoc]
   have hsz:(act [] (x.take i)).length≤10000:=by
    have:=act_len (x.take i) []
    rw [List.length_take] at this
    simp at this
    omega
   refine ⟨_,rfl,l,_,rfl,.inl (SqL.of e1),_,_,rfl,rfl,_,rfl,ite2 (fun e=>?_) (fun e=>?_)⟩
   ·have hne:0<(act [] (x.take i)).length:=by
     have e':=of_decide_eq_true e
     rw [lstC_len,List.length_reverse] at e'
     omega
    obtain ⟨y,r,hk⟩:∃ y r,act [] (x.take i)=y::r:=by
     cases hq:act [] (x.take i) with
     | nil=>rw [hq] at hne;simp at hne
     | cons y r=>exact ⟨y,r,rfl⟩
    rw [hk] at e1 hn hsz
    have e2:H1 l=some (.lst (lstC r.reverse++[.str (S [y])])):=by rw [e1,List.reverse_cons,lstC_snoc]
    refine ⟨_,rfl,_,rfl,l,_,_,_,rfl,rfl,SqL.of e2,atI_last _ _,_,rfl,c,rfl,hcL,fun H2 s2=>⟨rfl,_,rfl,ite2 (fun q=>?_) (fun q=>?_)⟩⟩
    ·rw [VS_dec] at q
     have q':y=con c:=by simpa using q
     have hp:push (y::r) c=r:=by unfold push;dsimp only;rw [if_pos q']
     rw [hp] at hn
     refine ⟨_,rfl,.inl ⟨rfl,_,SqL.of (s2 _ _ e2)⟩,l,_,_,rfl,rfl,s2 _ _ e2,by simp;rfl,⟨_,rfl⟩,(s1.trans s2).upd hl,?_⟩
     rw [upd_same,hn]
     simp
    ·rw [VS_dec] at q
     have q':¬ y=con c:=by simpa using q
     have hp:push (y::r) c=c::y::r:=by unfold push;dsimp only;rw [if_neg q']
     rw [hp] at hn
     refine ⟨_,rfl,.inl ⟨rfl,_,SqL.of (s2 _ _ e2)⟩,_,rfl,l,_,_,rfl,rfl,s2 _ _ e2,?_,⟨_,rfl⟩,(s1.trans s2).upd hl,?_⟩
     ·rw [List.length_append,lstC_len,List.length_reverse]
      rw [List.length_cons] at hsz
      have h9:r.length+1≤100000:=by omega
      exact Nat.lt_of_le_of_lt h9 (by decide)
     ·rw [upd_same,hn,List.reverse_cons,List.reverse_cons,lstC_snoc,lstC_snoc]
   ·have hk:act [] (x.take i)=[]:=by
     cases hq:act [] (x.take i) with
     | nil=>rfl
     | cons y r =>
      exfalso
      apply e
      apply decide_eq_true
      rw [lstC_len,List.length_reverse,hq]
      simp
    rw [hk] at e1 hn
    refine iteF ⟨_,rfl,.inl ⟨rfl,_,SqL.of e1⟩,_,rfl,l,_,_,rfl,rfl,e1,?_,⟨_,rfl⟩,s1.upd hl,?_⟩
    ·show (0:Nat)<sizeLine;decide
    ·rw [upd_same,hn]
     rfl
  ·rintro σ H1 ⟨⟨v,rfl⟩,s1,e1⟩
   rw [List.take_length] at e1
   have e2:SqL K H1 l ((lay x).map (fun c=>S [c]) |>.map V.str):=by
    rw [← lstC_eq];exact SqL.of e1
   refine ⟨rfl,_,rfl,_,l,_,rfl,rfl,e2,join_letsB _ (Nat.le_trans (lay_len x) (by omega)),?_⟩
   rw [join_lets]
   exact k H1 s1
theorem ok_z3 {f:Addr} {fd:FuncData} (D:Df K mg "_law_word" s_z3 ["_law_flow_here","_law_n","_law_most"] f fd) (T:Txt P w K mg a_CONTRARIES a_LETTERS a_RANKS) (c_z6:Cl P w K mg base "_law_pick" ["_law_flow_here","_law_many"] 1 spPick) (c_zr:Cl P w K mg base "_law_letters" ["_law_n"] 1 spLetters) (c_zm:Cl P w K mg base "_law_contrary" ["_law_letter"] 1 spCon):Cl P w K mg base "_law_word" ["_law_flow_here","_law_n","_law_most"] 2 spWord:=by
 obtain ⟨f_z6,fd_z6,G_z6,m_z6,k_z6,b_z6⟩:=c_z6
 obtain ⟨f_zr,fd_zr,G_zr,m_zr,k_zr,b_zr⟩:=c_zr
 obtain ⟨f_zm,fd_zm,G_zm,m_zm,k_zm,b_zm⟩:=c_zm
 refine D.cl (D.F.ok sc_z3 (fun vs H Q E h=>?_) (fun cdv A outer s H vs Q E hr h=>?_))
 ·obtain ⟨fl,sc,n,most,rfl,_⟩:=h
  rfl
 ·obtain ⟨fl,sc,n,most,rfl,hf,h1,h4,hm,hm2,k⟩:=h
  refine ⟨_,(pss_cons (ps_set (i:=3) sc_z3.nd rfl (Or.inr rfl) pe_str)
   (pss_cons (ps_set (i:=4) sc_z3.nd rfl (Or.inl rfl) (pe_call G_zr (hr.mono (by decide)) (by rfl) m_zr k_zr b_zr .nil pass0 (pa_cons (pv 1) pa_nil)))
   (pss_cons (ps_for PassesOwn.never rfl (pi_range1 (by rfl) T.b_range (pa_cons (pe_call G_z6 (hr.mono (by decide)) (by rfl) m_z6 k_z6 b_z6 .nil pass0 (pa_cons (pv 0) (pa_cons (pe_op op_add (pv 2) pe_int) pa_nil))) pa_nil)) (pg_name (i:=5) sc_z3.nd rfl (Or.inl rfl)) (pss_cons (ps_setcc (i:=6) (sc0:=defScope s_z3) (N:=["_law_flow_here","_law_n","_law_most","_law_found","_law_letters_here","_law_k","_law_some"]) (ix:=[3]) sc_z3.nd rfl rfl (by decide +kernel) rfl rfl rfl (pi_listK (K:=K) rfl (pv 4)) (fun _ _ _=>pifs_one (pw_or (pt_cmpR op_eq (pv 1) pe_str (nomark _)) (pw_or1 (pt_cmpR op_ne (pv 0) (pe_call G_zm (hr.mono (by decide)) (by rfl) m_zm k_zm b_zm .nil pass0 (pa_cons (pe_ix ix_str (pv 1) (pe_un un_neg pe_int) (fun _ _=>rfl)) pa_nil)) (nomark _)))).pt) (fun _ _ _=>(pv 0)))
   (pss_one (ps_set (i:=3) sc_z3.nd rfl (Or.inr rfl) (pe_op op_add_str (pv 3) (pe_ix (ix_listK (K:=K) rfl) (pv 6) (pe_call G_z6 (hr.mono (by decide)) (by rfl) m_z6 k_z6 b_z6 .nil pass0 (pa_cons (pv 0) (pa_cons (pe_callB (call_lenK (K:=K) rfl) (by rfl) T.b_len PySem.boot_len (pa_cons (pv 6) pa_nil)) pa_nil))) (fun _ _=>rfl)))))))
   (pss_one (ps_ret (pv 3)))))),?_⟩
  refine ⟨_,rfl,n,rfl,h1,h4,fun l H1 hl s1 e1=>?_⟩
  have hlf:l≠fl:=hf.ne hl
  refine ⟨_,rfl,_,rfl,_,_,rfl,rfl,fl,sc,most+1,rfl,hf.same s1,by omega,by omega,fun d H2 d0 d1 f2 k2=>⟨d,rfl,by omega,by omega,?_⟩⟩
  refine for_range (lo:=0) (n:=d.toNat) (fun i σ H3=>∃ (x:List Nat) (v5 v6:Option V),σ=[some (.ref fl),some (.int n),some (.int most),some (.str (S x)),some (.ref l),v5,v6]∧OfN n x∧Plain x∧x.length=i∧IsFl H3 fl sc∧Kp fl H H3∧H3 l=some (.lst (lstC (letsN n)))) ?_ ?_ ?_
  ·refine ⟨[],none,none,?_,fun c hc=>(nomatch hc),trivial,rfl,f2,(s1.kp).trans k2,k2 _ _ e1 hlf⟩
   rw [← S_nil];rfl
  ·rintro i _ H3 hi ⟨x,v5,v6,rfl,ho,hp,hxl,f3,k3,e3⟩
   have hxd:(x.length:Int)<most+1:=by omega
   refine ⟨_,rfl,l,rfl,⟨_,SqL.of e3⟩,fun Dd hD=>comp_listIf (xs:=lstC (letsN n)) (fun j H4=>Same H3 H4∧H4 Dd=some (.lst (lstC (((letsN n).take j).filter (okc x))))) ⟨Same.new hD,upd_same⟩ (fun j H4 _ p=>SqL.of (p.1 _ _ e3)) ?_ ?_⟩
   ·rintro j y H4 hy ⟨s4,e4⟩
    obtain ⟨c,hc,rfl⟩:∃ c,(letsN n)[j]?=some c∧y=.str (S [c]):=by
     unfold lstC at hy
     rw [List.getElem?_map] at hy
     cases hq:(letsN n)[j]? with
     | none=>rw [hq] at hy;cases hy
     | some c=>rw [hq] at hy;exact ⟨c,rfl,(Option.some.inj hy).symm⟩
    have hcL:isL c:=letsN_isL (List.mem_of_getElem? hc)
    have ht:((letsN n).take (j+1)).filter (okc x)=((letsN n).take j).filter (okc x)++(if okc x c then [c] else []):=take_succ_filter (okc x) (letsN n) j c hc
    have hsz:(((letsN n).take j).filter (okc x)).length≤100:=by
     have q1:=List.length_filter_le (okc x) ((letsN n).take j)
     have q2:((letsN n).take j).length≤(letsN n).length:=by rw [List.length_take];omega
     rw [letsN_len h1 h4] at q2
     omega
    have app:okc x c=true→∀ H5,Same H4 H5→∃ ys,H5 Dd=some (.lst ys)∧ys.length<sizeLine∧Same H3 (upd H5 Dd (.lst (ys++[.str (S [c])])))∧upd H5 Dd (.lst (ys++[.str (S [c])])) Dd=some (.lst (lstC (((letsN n).take (j+1)).filter (okc x)))):=fun ok H5 s5=>by
     refine ⟨_,s5 _ _ e4,?_,(s4.trans s5).upd hD,?_⟩
     ·rw [lstC_len];exact small1000 (by omega)
     ·rw [upd_same,ht,ok]
      show some (HO.lst _)=some (HO.lst (lstC (_++[c])))
      rw [lstC_snoc]
    refine ⟨_,rfl,rfl,_,rfl,ite2 (fun e=>?_) (fun e=>?_)⟩
    ·rw [S_nil,VS_dec] at e
     have e':x=[]:=by simpa using e
     refine iteT ⟨_,rfl,app (by rw [e'];rfl) H4 (Same.refl _)⟩
    ·rw [S_nil,VS_dec] at e
     have e':x≠[]:=by simpa using e
     obtain ⟨u,z,rfl⟩:∃ u z,x=u++[z]:=⟨x.dropLast,x.getLast e',(List.dropLast_concat_getLast e').symm⟩
     have hz:isL z:=letsN_isL (ho z (by simp))
     refine ⟨_,rfl,_,rfl,_,rfl,_,_,z,rfl,rfl,by rw [S_len];exact len_1000 (by simp at hxd ⊢;omega),by rw [S_at];exact atI_last u z,z,rfl,hz,fun H5 s5=>⟨rfl,_,rfl,?_⟩⟩
     rw [VS_dec]
     have ok:okc (u++[z]) c=!decide ([c]=[con z]):=by
      unfold okc
      simp
     rw [← ok]
     refine ite2 (fun q=>⟨_,rfl,app q H5 s5⟩) (fun q=>⟨s4.trans s5,?_⟩)
     have q':okc (u++[z]) c=false:=by simpa using q
     rw [s5 _ _ e4,ht,q']
     simp
   ·rintro H4 ⟨s4,e4⟩
    rw [lstC_len,List.take_length] at e4
    have hpos:=okc_pos (x:=x) h1 h4
    have hsz:((letsN n).filter (okc x)).length≤8:=by
     have q1:=List.length_filter_le (okc x) (letsN n)
     rw [letsN_len h1 h4] at q1
     omega
    have hDf:Dd≠fl:=f3.ne hD
    refine ⟨_,rfl,_,rfl,_,rfl,_,rfl,Dd,_,rfl,.inl (SqL.of e4),fl,sc,_,rfl,f3.same s4,?_,?_,fun g H5 g0 g1 f5 k5=>?_⟩
    ·rw [lstC_len];omega
    ·rw [lstC_len];omega
    rw [lstC_len] at g1
    have hg:g.toNat<((letsN n).filter (okc x)).length:=by omega
    have hmem:=List.getElem_mem hg
    have hat:atI (lstC ((letsN n).filter (okc x))) g=some (.str (S [((letsN n).filter (okc x))[g.toNat]])):=atI_of g0 (lstC_get (List.getElem?_eq_getElem hg))
    generalize ((letsN n).filter (okc x))[g.toNat]=c at hat hmem
    obtain ⟨hm1,hm2⟩:=List.mem_filter.mp hmem
    refine ⟨Dd,_,g,_,rfl,rfl,SqL.of (k5 _ _ e4 hDf),hat,_,_,rfl,rfl,?_,?_⟩
    ·rw [S_len,S_len];exact len_1000 (by simp;omega)
    ·rw [S_app]
     refine ⟨x++[c],_,_,rfl,?_,okc_plain (OfN.all ho) (letsN_isL hm1) hp hm2,?_,f5,(k3.trans s4.kp).trans k5,k5 _ _ (s4 _ _ e3) hlf⟩
     ·intro c' hc'
      rcases List.mem_append.mp hc' with q | q
      ·exact ho c' q
      ·rw [List.mem_singleton.mp q];exact hm1
     ·rw [List.length_append,hxl];rfl
  ·rintro _ H3 ⟨x,v5,v6,rfl,ho,hp,hxl,f3,k3,e3⟩
   exact ⟨_,rfl,k x H3 ho hp (by omega) f3 k3⟩
theorem ok_z0 {f:Addr} {fd:FuncData} (D:Df K mg "_law_back" s_z0 ["_law_word_here"] f fd) (T:Txt P w K mg a_CONTRARIES a_LETTERS a_RANKS) (c_zm:Cl P w K mg base "_law_contrary" ["_law_letter"] 1 spCon):Cl P w K mg base "_law_back" ["_law_word_here"] 2 spBack:=by
 obtain ⟨f_zm,fd_zm,G_zm,m_zm,k_zm,b_zm⟩:=c_zm
 refine D.cl (D.F.ok sc_z0 (fun vs H Q E h=>?_) (fun cdv A outer s H vs Q E hr h=>?_))
 ·obtain ⟨x,rfl,_⟩:=h
  rfl
 ·obtain ⟨x,rfl,hx,hlen,k⟩:=h
  refine ⟨_,(pss_one (ps_ret (pe_bmK (K:=K) rfl PySem.F.plainAttrs_str PySem.F.slot_str_join PySem.F.type_str_join (mt_joinK (K:=K) rfl) pe_str (pa_cons (pe_compc (sc0:=defScope s_z0) (N:=["_law_word_here"]) (ix:=[]) (by decide +kernel) rfl rfl rfl (pi_rev (by rfl) T.b_reversed (pa_cons (pv 0) pa_nil)) (fun _ _ _=>pifs_nil) (fun _ _ _=>(pe_call G_zm (hr.mono (by decide)) (by rfl) m_zm k_zm b_zm .nil pass0 (pa_cons (pv 0) pa_nil)))) pa_nil)))),?_⟩
  refine ⟨rfl,_,rfl,S x,rfl,by rw [S_len];exact hlen,fun Dd hD=>?_⟩
  refine comp_revIf (w:=x) (fun i H1=>Same H H1∧H1 Dd=some (.lst (lstC ((x.reverse.take i).map con)))) ⟨Same.new hD,upd_same⟩ ?_ ?_
  ·rintro i c H1 hc ⟨s1,e1⟩
   have hcL:isL c:=hx c (List.mem_reverse.mp (List.mem_of_getElem? hc))
   have hi:i<x.length:=by have:=(List.getElem?_eq_some_iff.mp hc).1;simpa using this
   refine ⟨_,rfl,c,rfl,hcL,fun H2 s2=>⟨_,s2 _ _ e1,?_,(s1.trans s2).upd hD,?_⟩⟩
   ·rw [lstC_len,List.length_map,List.length_take];exact small1000 (by omega)
   ·rw [upd_same,take_snoc hc,List.map_append,← lstC_snoc];rfl
  ·rintro H1 ⟨s1,e1⟩
   have eb:(x.reverse.take x.length).map con=back x:=by
    rw [List.take_of_length_le (by simp)]
    unfold back
    rw [List.map_reverse]
   rw [eb] at e1
   have e2:SqL K H1 Dd (((back x).map fun c=>S [c]).map V.str):=by rw [← lstC_eq];exact SqL.of e1
   refine ⟨_,Dd,_,rfl,rfl,e2,join_letsB _ (by rw [back_len];omega),?_⟩
   rw [join_lets]
   exact k H1 s1
theorem ok_z4 {f:Addr} {fd:FuncData} (D:Df K mg "contrary" s_z4 ["letter"] f fd) (T:Txt P w K mg a_CONTRARIES a_LETTERS a_RANKS):Cl P w K mg base "contrary" ["letter"] 1 spCon:=by
 refine D.cl (D.F.ok sc_z4 (fun vs H Q E h=>?_) (fun cdv A outer s H vs Q E hr h=>?_))
 ·obtain ⟨c,rfl,_⟩:=h
  rfl
 ·obtain ⟨c,rfl,hc,k⟩:=h
  refine ⟨_,(pss_one (ps_ret (pe_ix (ix_tab T.t_CONTRARIES) (pe_glob (v:=.ref a_CONTRARIES) (by rfl) T.m_CONTRARIES rfl) (pv 0) (fun _ _=>rfl)))),?_⟩
  exact ⟨_,rfl,rfl,_,rfl,.inl ⟨_,conTab_look hc,k H (Same.refl H)⟩⟩
theorem ok_zx {f:Addr} {fd:FuncData} (D:Df K mg "_law_alike" s_zx ["_law_found","_law_due"] f fd) (T:Txt P w K mg a_CONTRARIES a_LETTERS a_RANKS):Cl P w K mg base "_law_alike" ["_law_found","_law_due"] 1 (spLq K 0):=by
 refine D.cl (D.F.ok sc_zx (fun vs H Q E h=>?_) (fun cdv A outer s H vs Q E hr h=>?_))
 ·obtain ⟨x,y,rfl,_⟩:=h
  rfl
 ·obtain ⟨x,y,rfl,hk,k⟩:=h
  cases hk with
  | flat hfl =>
   refine ⟨_,(pss_cons (ps_if (pt_val (pe_callB (call_isiK (K:=K) rfl) (by rfl) T.b_isinstance boot_isinstance (pa_cons (pv 1) (pa_cons (pe_tup (pa_cons (pe_ty (by rfl) T.b_list boot_list) (pa_cons (pe_ty (by rfl) T.b_tuple boot_tuple) pa_nil))) pa_nil)))) pss_never pss_nil)
   (pss_one (ps_ret (pe_and (pe_cmpR op_eq (pe_callB (call_isiK (K:=K) rfl) (by rfl) T.b_isinstance boot_isinstance (pa_cons (pv 0) (pa_cons (pe_ty (by rfl) T.b_bool boot_bool) pa_nil))) (pe_callB (call_isiK (K:=K) rfl) (by rfl) T.b_isinstance boot_isinstance (pa_cons (pv 1) (pa_cons (pe_ty (by rfl) T.b_bool boot_bool) pa_nil))) (nomark _)) (pe_one (pe_cmpR op_eq (pv 0) (pv 1) (nomark _))))))),?_⟩
   obtain ⟨t,ty,t1,t2⟩:=flat_ty K H hfl
   refine ⟨_,rfl,len_1000 (by simp),fun p hp=>?_⟩
   have s1:Same H (upd H p (.tup [.ty "list",.ty "tuple"])):=Same.new hp
   have e1:upd H p (.tup [.ty "list",.ty "tuple"]) p=some (.tup [.ty "list",.ty "tuple"]):=upd_same
   generalize upd H p (.tup [.ty "list",.ty "tuple"])=H1 at s1 e1
   obtain ⟨t',ty',t1',t2'⟩:=flat_ty K H1 hfl
   refine ⟨x,t',ty',.inr ⟨"list","tuple",p,rfl,e1,by decide,by decide,_,rfl,?_⟩⟩
   rw [t1',t2']
   refine iteF ?_
   refine ⟨_,rfl,x,t',ty',.inl ⟨"bool",rfl,by decide,_,rfl,x,t',ty',.inl ⟨"bool",rfl,by decide,rfl,_,rfl,?_⟩⟩⟩
   rw [decide_eq_true rfl]
   refine iteT ⟨_,rfl,_,rfl,?_,?_⟩
   ·cases x <;> first | rfl | exact absurd (show false=true from hfl) Bool.false_ne_true
   ·rw [decide_eq_true rfl];exact k H1 s1
theorem ok_zx_X {f:Addr} {fd:FuncData} (D:Df K mg "_law_alike" s_zx ["_law_found","_law_due"] f fd) {j d:Nat} (T:Txt P w K mg a_CONTRARIES a_LETTERS a_RANKS) (c_zx:Cl P w K mg base "_law_alike" ["_law_found","_law_due"] j (spLq K d)):Cl P w K mg base "_law_alike" ["_law_found","_law_due"] (j+1) (spLq K (d+1)):=by
 obtain ⟨f_zx,fd_zx,G_zx,m_zx,k_zx,b_zx⟩:=c_zx
 refine D.cl (D.F.ok sc_zx (fun vs H Q E h=>?_) (fun cdv A outer s H vs Q E hr h=>?_))
 ·obtain ⟨x,y,rfl,_⟩:=h
  rfl
 ·obtain ⟨x,y,rfl,hk,k⟩:=h
  cases hk with
  | flat hfl =>
   refine ⟨_,(pss_cons (ps_if (pt_val (pe_callB (call_isiK (K:=K) rfl) (by rfl) T.b_isinstance boot_isinstance (pa_cons (pv 1) (pa_cons (pe_tup (pa_cons (pe_ty (by rfl) T.b_list boot_list) (pa_cons (pe_ty (by rfl) T.b_tuple boot_tuple) pa_nil))) pa_nil)))) pss_never pss_nil)
   (pss_one (ps_ret (pe_and (pe_cmpR op_eq (pe_callB (call_isiK (K:=K) rfl) (by rfl) T.b_isinstance boot_isinstance (pa_cons (pv 0) (pa_cons (pe_ty (by rfl) T.b_bool boot_bool) pa_nil))) (pe_callB (call_isiK (K:=K) rfl) (by rfl) T.b_isinstance boot_isinstance (pa_cons (pv 1) (pa_cons (pe_ty (by rfl) T.b_bool boot_bool) pa_nil))) (nomark _)) (pe_one (pe_cmpR op_eq (pv 0) (pv 1) (nomark _))))))),?_⟩
   obtain ⟨t,ty,t1,t2⟩:=flat_ty K H hfl
   refine ⟨_,rfl,len_1000 (by simp),fun p hp=>?_⟩
   have s1:Same H (upd H p (.tup [.ty "list",.ty "tuple"])):=Same.new hp
   have e1:upd H p (.tup [.ty "list",.ty "tuple"]) p=some (.tup [.ty "list",.ty "tuple"]):=upd_same
   generalize upd H p (.tup [.ty "list",.ty "tuple"])=H1 at s1 e1
   obtain ⟨t',ty',t1',t2'⟩:=flat_ty K H1 hfl
   refine ⟨x,t',ty',.inr ⟨"list","tuple",p,rfl,e1,by decide,by decide,_,rfl,?_⟩⟩
   rw [t1',t2']
   refine iteF ?_
   refine ⟨_,rfl,x,t',ty',.inl ⟨"bool",rfl,by decide,_,rfl,x,t',ty',.inl ⟨"bool",rfl,by decide,rfl,_,rfl,?_⟩⟩⟩
   rw [decide_eq_true rfl]
   refine iteT ⟨_,rfl,_,rfl,?_,?_⟩
   ·cases x <;> first | rfl | exact absurd (show false=true from hfl) Bool.false_ne_true
   ·rw [decide_eq_true rfl];exact k H1 s1
  | @tup _ a b xs ys h1 h2 hl hm hall =>
   refine ⟨_,(pss_cons (ps_if (pt_val (pe_callB (call_isiK (K:=K) rfl) (by rfl) T.b_isinstance boot_isinstance (pa_cons (pv 1) (pa_cons (pe_tup (pa_cons (pe_ty (by rfl) T.b_list boot_list) (pa_cons (pe_ty (by rfl) T.b_tuple boot_tuple) pa_nil))) pa_nil)))) (pss_cons (ps_if (pt_cmpR op_ne (pe_callB (call_isiK (K:=K) rfl) (by rfl) T.b_isinstance boot_isinstance (pa_cons (pv 0) (pa_cons (pe_ty (by rfl) T.b_list boot_list) pa_nil))) (pe_callB (call_isiK (K:=K) rfl) (by rfl) T.b_isinstance boot_isinstance (pa_cons (pv 1) (pa_cons (pe_ty (by rfl) T.b_list boot_list) pa_nil))) (nomark _)) (pss_one (ps_ret pe_bl)) pss_nil)
   (pss_cons (ps_if (pt_cmpR op_ne (pe_callB (call_isiK (K:=K) rfl) (by rfl) T.b_isinstance boot_isinstance (pa_cons (pv 0) (pa_cons (pe_ty (by rfl) T.b_tuple boot_tuple) pa_nil))) (pe_callB (call_isiK (K:=K) rfl) (by rfl) T.b_isinstance boot_isinstance (pa_cons (pv 1) (pa_cons (pe_ty (by rfl) T.b_tuple boot_tuple) pa_nil))) (nomark _)) (pss_one (ps_ret pe_bl)) pss_nil)
   (pss_one (ps_ret (pe_and (pe_cmpR op_eq (pe_callB (call_lenK (K:=K) rfl) (by rfl) T.b_len PySem.boot_len (pa_cons (pv 0) pa_nil)) (pe_callB (call_lenK (K:=K) rfl) (by rfl) T.b_len PySem.boot_len (pa_cons (pv 1) pa_nil)) (nomark _)) (pe_one (pe_callB (call_allK (K:=K) rfl rfl) (by rfl) T.b_all boot_all (pa_cons (pe_compc (sc0:=defScope s_zx) (N:=["_law_found","_law_due"]) (ix:=[0,1]) (by decide +kernel) rfl rfl rfl (pi_range1 (by rfl) T.b_range (pa_cons (pe_callB (call_lenK (K:=K) rfl) (by rfl) T.b_len PySem.boot_len (pa_cons (pv 1) pa_nil)) pa_nil)) (fun _ _ _=>pifs_nil) (fun _ _ _=>(pe_call G_zx hr (by rfl) m_zx k_zx b_zx .nil pass0 (pa_cons (pe_ix (ix_tupK (K:=K) rfl) (pv 1) (pv 0) (fun _ _=>rfl)) (pa_cons (pe_ix (ix_tupK (K:=K) rfl) (pv 2) (pv 0) (fun _ _=>rfl)) pa_nil))))) pa_nil)))))))) pss_nil)
   (pss_one (ps_ret (pe_and (pe_cmpR op_eq (pe_callB (call_isiK (K:=K) rfl) (by rfl) T.b_isinstance boot_isinstance (pa_cons (pv 0) (pa_cons (pe_ty (by rfl) T.b_bool boot_bool) pa_nil))) (pe_callB (call_isiK (K:=K) rfl) (by rfl) T.b_isinstance boot_isinstance (pa_cons (pv 1) (pa_cons (pe_ty (by rfl) T.b_bool boot_bool) pa_nil))) (nomark _)) (pe_one (pe_cmpR (op_eqLK (K:=K) rfl hr.units0) (pv 0) (pv 1) (nomark _))))))),?_⟩
   refine ⟨_,rfl,len_1000 (by simp),fun p hp=>?_⟩
   have s1:Same H (upd H p (.tup [.ty "list",.ty "tuple"])):=Same.new hp
   have e1:upd H p (.tup [.ty "list",.ty "tuple"]) p=some (.tup [.ty "list",.ty "tuple"]):=upd_same
   have ha1:=L2.SqT.same s1 h1
   have hb1:=L2.SqT.same s1 h2
   generalize upd H p (.tup [.ty "list",.ty "tuple"])=H1 at s1 e1 ha1 hb1
   refine ⟨.ref b,"tuple",.tup hb1,.inr ⟨"list","tuple",p,rfl,e1,by decide,by decide,_,rfl,ite2 (fun _=>?_) (fun e=>absurd (by decide) e)⟩⟩
   refine ⟨_,rfl,.ref a,"tuple",.tup ha1,.inl ⟨"list",rfl,by decide,_,rfl,.ref b,"tuple",.tup hb1,.inl ⟨"list",rfl,by decide,rfl,_,rfl,ite2 (fun e=>absurd e (by decide)) (fun _=>?_)⟩⟩⟩
   refine ⟨_,rfl,.ref a,"tuple",.tup ha1,.inl ⟨"tuple",rfl,by decide,_,rfl,.ref b,"tuple",.tup hb1,.inl ⟨"tuple",rfl,by decide,rfl,_,rfl,ite2 (fun e=>absurd e (by decide)) (fun _=>?_)⟩⟩⟩
   refine ⟨_,rfl,a,_,rfl,.inr ha1,_,rfl,b,_,rfl,.inr hb1,rfl,_,rfl,?_⟩
   rw [hl,decide_eq_true rfl]
   refine iteT ?_
   refine ⟨_,rfl,b,_,rfl,.inr hb1,(ys.length:Nat),rfl,by omega,by omega,fun Dd hD=>?_⟩
   refine comp_range (lo:=0) (n:=((ys.length:Nat):Int).toNat) (fun i H2=>Same H1 H2∧H2 Dd=some (.lst ((List.replicate i true).map V.bl))) ⟨Same.new hD,upd_same⟩ ?_ ?_
   ·rintro i H2 hi ⟨s2,e2⟩
    have hi':i<ys.length:=by omega
    obtain ⟨x,hx⟩:∃ x,xs[i]?=some x:=⟨_,List.getElem?_eq_getElem (by omega)⟩
    obtain ⟨y,hy⟩:∃ y,ys[i]?=some y:=⟨_,List.getElem?_eq_getElem hi'⟩
    refine ⟨_,rfl,_,rfl,a,xs,_,x,rfl,rfl,L2.SqT.same s2 ha1,atI_of (by omega) (by rw [show ((0:Int)+(i:Nat)).toNat=i by omega];exact hx),_,rfl,_,rfl,b,ys,_,y,rfl,rfl,L2.SqT.same s2 hb1,atI_of (by omega) (by rw [show ((0:Int)+(i:Nat)).toNat=i by omega];exact hy),x,y,rfl,(hall i x y hx hy).same (s1.trans s2),fun H3 s3=>⟨_,s3 _ _ e2,?_,(s2.trans s3).upd hD,?_⟩⟩
    ·rw [List.length_map,List.length_replicate];exact small1000 (by omega)
    ·rw [upd_same,List.replicate_succ',List.map_append];rfl
   ·rintro H2 ⟨s2,e2⟩
    refine ⟨Dd,_,rfl,SqL.of e2,?_⟩
    rw [show (List.replicate ((ys.length:Nat):Int).toNat true).all id=true by rw [List.all_eq_true];intro b hb;exact (List.mem_replicate.mp hb).2]
    exact k H2 (s1.trans s2)
  | @lst _ a b xs ys h1 h2 hl hm hall =>
   refine ⟨_,(pss_cons (ps_if (pt_val (pe_callB (call_isiK (K:=K) rfl) (by rfl) T.b_isinstance boot_isinstance (pa_cons (pv 1) (pa_cons (pe_tup (pa_cons (pe_ty (by rfl) T.b_list boot_list) (pa_cons (pe_ty (by rfl) T.b_tuple boot_tuple) pa_nil))) pa_nil)))) (pss_cons (ps_if (pt_cmpR op_ne (pe_callB (call_isiK (K:=K) rfl) (by rfl) T.b_isinstance boot_isinstance (pa_cons (pv 0) (pa_cons (pe_ty (by rfl) T.b_list boot_list) pa_nil))) (pe_callB (call_isiK (K:=K) rfl) (by rfl) T.b_isinstance boot_isinstance (pa_cons (pv 1) (pa_cons (pe_ty (by rfl) T.b_list boot_list) pa_nil))) (nomark _)) (pss_one (ps_ret pe_bl)) pss_nil)
   (pss_cons (ps_if (pt_cmpR op_ne (pe_callB (call_isiK (K:=K) rfl) (by rfl) T.b_isinstance boot_isinstance (pa_cons (pv 0) (pa_cons (pe_ty (by rfl) T.b_tuple boot_tuple) pa_nil))) (pe_callB (call_isiK (K:=K) rfl) (by rfl) T.b_isinstance boot_isinstance (pa_cons (pv 1) (pa_cons (pe_ty (by rfl) T.b_tuple boot_tuple) pa_nil))) (nomark _)) (pss_one (ps_ret pe_bl)) pss_nil)
   (pss_one (ps_ret (pe_and (pe_cmpR op_eq (pe_callB (call_lenK (K:=K) rfl) (by rfl) T.b_len PySem.boot_len (pa_cons (pv 0) pa_nil)) (pe_callB (call_lenK (K:=K) rfl) (by rfl) T.b_len PySem.boot_len (pa_cons (pv 1) pa_nil)) (nomark _)) (pe_one (pe_callB (call_allK (K:=K) rfl rfl) (by rfl) T.b_all boot_all (pa_cons (pe_compc (sc0:=defScope s_zx) (N:=["_law_found","_law_due"]) (ix:=[0,1]) (by decide +kernel) rfl rfl rfl (pi_range1 (by rfl) T.b_range (pa_cons (pe_callB (call_lenK (K:=K) rfl) (by rfl) T.b_len PySem.boot_len (pa_cons (pv 1) pa_nil)) pa_nil)) (fun _ _ _=>pifs_nil) (fun _ _ _=>(pe_call G_zx hr (by rfl) m_zx k_zx b_zx .nil pass0 (pa_cons (pe_ix (ix_listK (K:=K) rfl) (pv 1) (pv 0) (fun _ _=>rfl)) (pa_cons (pe_ix (ix_listK (K:=K) rfl) (pv 2) (pv 0) (fun _ _=>rfl)) pa_nil))))) pa_nil)))))))) pss_nil)
   (pss_one (ps_ret (pe_and (pe_cmpR op_eq (pe_callB (call_isiK (K:=K) rfl) (by rfl) T.b_isinstance boot_isinstance (pa_cons (pv 0) (pa_cons (pe_ty (by rfl) T.b_bool boot_bool) pa_nil))) (pe_callB (call_isiK (K:=K) rfl) (by rfl) T.b_isinstance boot_isinstance (pa_cons (pv 1) (pa_cons (pe_ty (by rfl) T.b_bool boot_bool) pa_nil))) (nomark _)) (pe_one (pe_cmpR (op_eqLK (K:=K) rfl hr.units0) (pv 0) (pv 1) (nomark _))))))),?_⟩
   refine ⟨_,rfl,len_1000 (by simp),fun p hp=>?_⟩
   have s1:Same H (upd H p (.tup [.ty "list",.ty "tuple"])):=Same.new hp
   have e1:upd H p (.tup [.ty "list",.ty "tuple"]) p=some (.tup [.ty "list",.ty "tuple"]):=upd_same
   have ha1:=s1 _ _ h1
   have hb1:=s1 _ _ h2
   generalize upd H p (.tup [.ty "list",.ty "tuple"])=H1 at s1 e1 ha1 hb1
   refine ⟨.ref b,"list",.lst (SqL.of hb1),.inr ⟨"list","tuple",p,rfl,e1,by decide,by decide,_,rfl,ite2 (fun _=>?_) (fun e=>absurd (by decide) e)⟩⟩
   refine ⟨_,rfl,.ref a,"list",.lst (SqL.of ha1),.inl ⟨"list",rfl,by decide,_,rfl,.ref b,"list",.lst (SqL.of hb1),.inl ⟨"list",rfl,by decide,rfl,_,rfl,ite2 (fun e=>absurd e (by decide)) (fun _=>?_)⟩⟩⟩
   refine ⟨_,rfl,.ref a,"list",.lst (SqL.of ha1),.inl ⟨"tuple",rfl,by decide,_,rfl,.ref b,"list",.lst (SqL.of hb1),.inl ⟨"tuple",rfl,by decide,rfl,_,rfl,ite2 (fun e=>absurd e (by decide)) (fun _=>?_)⟩⟩⟩
   refine ⟨_,rfl,a,_,rfl,.inl (SqL.of ha1),_,rfl,b,_,rfl,.inl (SqL.of hb1),rfl,_,rfl,?_⟩
   rw [hl,decide_eq_true rfl]
   refine iteT ?_
   refine ⟨_,rfl,b,_,rfl,.inl (SqL.of hb1),(ys.length:Nat),rfl,by omega,by omega,fun Dd hD=>?_⟩
   refine comp_range (lo:=0) (n:=((ys.length:Nat):Int).toNat) (fun i H2=>Same H1 H2∧H2 Dd=some (.lst ((List.replicate i true).map V.bl))) ⟨Same.new hD,upd_same⟩ ?_ ?_
   ·rintro i H2 hi ⟨s2,e2⟩
    have hi':i<ys.length:=by omega
    obtain ⟨x,hx⟩:∃ x,xs[i]?=some x:=⟨_,List.getElem?_eq_getElem (by omega)⟩
    obtain ⟨y,hy⟩:∃ y,ys[i]?=some y:=⟨_,List.getElem?_eq_getElem hi'⟩
    refine ⟨_,rfl,_,rfl,a,xs,_,x,rfl,rfl,SqL.of (s2 _ _ ha1),atI_of (by omega) (by rw [show ((0:Int)+(i:Nat)).toNat=i by omega];exact hx),_,rfl,_,rfl,b,ys,_,y,rfl,rfl,SqL.of (s2 _ _ hb1),atI_of (by omega) (by rw [show ((0:Int)+(i:Nat)).toNat=i by omega];exact hy),x,y,rfl,(hall i x y hx hy).same (s1.trans s2),fun H3 s3=>⟨_,s3 _ _ e2,?_,(s2.trans s3).upd hD,?_⟩⟩
    ·rw [List.length_map,List.length_replicate];exact small1000 (by omega)
    ·rw [upd_same,List.replicate_succ',List.map_append];rfl
   ·rintro H2 ⟨s2,e2⟩
    refine ⟨Dd,_,rfl,SqL.of e2,?_⟩
    rw [show (List.replicate ((ys.length:Nat):Int).toNat true).all id=true by rw [List.all_eq_true];intro b hb;exact (List.mem_replicate.mp hb).2]
    exact k H2 (s1.trans s2)
theorem ok_zb1 {f:Addr} {fd:FuncData} (D:Df K mg "_law_key" s_zb1 ["_law_word_here"] f fd) (T:Txt P w K mg a_CONTRARIES a_LETTERS a_RANKS):Cl P w K mg base "_law_key" ["_law_word_here"] 1 spKey:=by
 refine D.cl (D.F.ok sc_zb1 (fun vs H Q E h=>?_) (fun cdv A outer s H vs Q E hr h=>?_))
 ·obtain ⟨x,rfl,_⟩:=h
  rfl
 ·obtain ⟨x,rfl,hx,hlen,k⟩:=h
  refine ⟨_,(pss_one (ps_ret (pe_tup (pa_cons (pe_callB call_len_str (by rfl) T.b_len PySem.boot_len (pa_cons (pv 0) pa_nil)) (pa_cons (pe_compc (sc0:=defScope s_zb1) (N:=["_law_word_here"]) (ix:=[]) (by decide +kernel) rfl rfl rfl (pi_str (pv 0)) (fun _ _ _=>pifs_nil) (fun _ _ _=>(pe_bmK (K:=K) rfl PySem.F.plainAttrs_str PySem.F.slot_str_index PySem.F.type_str_index (mt_index rfl) pe_str (pa_cons (pv 0) pa_nil)))) pa_nil))))),?_⟩
  refine ⟨_,rfl,_,rfl,by rw [S_len];exact len_1000 (by omega),_,rfl,S x,rfl,fun Dd hD=>comp_strIf (w:=x) (fun i H1=>Same H H1∧H1 Dd=some (.lst ((rks (x.take i)).map V.int))) ⟨Same.new hD,upd_same⟩ ?_ ?_⟩
  ·rintro i c H1 hc ⟨s1,e1⟩
   have hi:i<x.length:=(List.getElem?_eq_some_iff.mp hc).1
   have hcL:=hx c (List.mem_of_getElem? hc)
   refine ⟨rfl,_,rfl,_,_,rfl,rfl,(idx_S hcL).1,?_⟩
   rw [(idx_S hcL).2]
   refine ⟨_,e1,?_,s1.upd hD,?_⟩
   ·rw [List.length_map,rks_len,List.length_take];exact small1000 (by omega)
   ·rw [upd_same,take_snoc hc];unfold rks;rw [List.map_append,List.map_append];rfl
  ·rintro H1 ⟨s1,e1⟩
   rw [List.take_length] at e1
   refine ⟨len_1000 (by simp),fun p hp=>?_⟩
   rw [S_len]
   exact k p Dd _ (s1.free hp) hD (s1.upd' hp) upd_same (by rw [upd_ne (ne_of_none e1 hp)];exact e1)
theorem ok_z8 {f:Addr} {fd:FuncData} (D:Df K mg "_law_ring" s_z8 ["_law_word_here"] f fd) (T:Txt P w K mg a_CONTRARIES a_LETTERS a_RANKS) (c_zm:Cl P w K mg base "_law_contrary" ["_law_letter"] 1 spCon) (c_zb1:Cl P w K mg base "_law_key" ["_law_word_here"] 1 spKey):Cl P w K mg base "_law_ring" ["_law_word_here"] 3 spRingOf:=by
 obtain ⟨f_zm,fd_zm,G_zm,m_zm,k_zm,b_zm⟩:=c_zm
 obtain ⟨f_zb1,fd_zb1,G_zb1,m_zb1,k_zb1,b_zb1⟩:=c_zb1
 refine D.cl (D.F.ok sc_z8 (fun vs H Q E h=>?_) (fun cdv A outer s H vs Q E hr h=>?_))
 ·obtain ⟨x,rfl,_⟩:=h
  rfl
 ·obtain ⟨x,rfl,hx,hlen,k⟩:=h
  refine ⟨_,(pss_mid (ps_while PassesOwn.never (pw_and (pt_cmpR op_gt (pe_callB call_len_str (by rfl) T.b_len PySem.boot_len (pa_cons (pv 0) pa_nil)) pe_int (nomark _)) (pw_and1 (pt_cmpR op_eq (pe_ix ix_str (pv 0) (pe_un un_neg pe_int) (fun _ _=>rfl)) (pe_call G_zm (hr.mono (by decide)) (by rfl) m_zm k_zm b_zm .nil pass0 (pa_cons (pe_ix ix_str (pv 0) pe_int (fun _ _=>rfl)) pa_nil)) (nomark _)))).pt (pss_one (ps_set (i:=0) sc_z8.nd rfl (Or.inr rfl) (pe_slice sl_str (pv 0) (po_some pe_int) (po_some (pe_un un_neg pe_int))))))
   (pss_one (ps_ret (pe_minKK (K:=K) rfl G_zb1 (hr.mono (by decide)) b_zb1 (op_ltKey1 hr) rfl (by rfl) T.b_min (by rfl) m_zb1 (pa_cons (pe_compc (sc0:=defScope s_z8) (N:=["_law_word_here"]) (ix:=[0]) (by decide +kernel) rfl rfl rfl (pi_range1 (by rfl) T.b_range (pa_cons (pe_callB (call_max2 rfl) (by rfl) T.b_max boot_max (pa_cons pe_int (pa_cons (pe_callB call_len_str (by rfl) T.b_len PySem.boot_len (pa_cons (pv 0) pa_nil)) pa_nil))) pa_nil)) (fun _ _ _=>pifs_nil) (fun _ _ _=>(pe_op op_add_str (pe_slice sl_str (pv 1) (po_some (pv 0)) po_none) (pe_slice sl_str (pv 1) po_none (po_some (pv 0)))))) pa_nil))))),?_⟩
  have isx:∀ i:Nat,i<x.length→isL (x.getD i 0):=fun i hi=>getD_isL hx hi
  refine ⟨fun σ H1=>∃ t:Nat,σ=[some (.str (S (mid x t)))]∧Same H H1∧Ends x t,?_,?_⟩
  ·refine ⟨fun m σ H1=>∃ t:Nat,m=x.length - t∧σ=[some (.str (S (mid x t)))]∧Same H H1∧2 * t≤x.length∧∀ j,j<t→2 * j+1<x.length∧x.getD j 0=con (x.getD (x.length - 1 - j) 0),⟨_,0,rfl,by rw [mid_zero];rfl,Same.refl H,by omega,fun j hj=>absurd hj (Nat.not_lt_zero _)⟩,?_⟩
   rintro m _ H1 ⟨t,rfl,rfl,s1,ht,hall⟩
   have ml:=mid_len ht
   refine ⟨_,rfl,_,rfl,by rw [S_len];exact len_1000 (by omega),_,_,rfl,rfl,_,rfl,ite2 (fun q=>?_) (fun q=>iteF ⟨t,rfl,s1,hall,fun c=>q (decide_eq_true ?_)⟩)⟩
   ·have q':=of_decide_eq_true q
    rw [S_len] at q'
    have hz:isL (x.getD t 0):=isx _ (by omega)
    refine ⟨_,rfl,_,rfl,_,_,x.getD (x.length - 1 - t) 0,rfl,rfl,by rw [S_len];exact len_1000 (by omega),?_,_,rfl,_,_,x.getD t 0,rfl,rfl,by rw [S_len];exact len_1000 (by omega),by rw [S_at];exact atI_of (by decide) (by have:=mid_get (x:=x) (t:=t) (i:=0) (by omega);simpa using this),_,rfl,hz,fun H2 s2=>⟨rfl,_,rfl,?_⟩⟩
    ·rw [S_at]
     refine atI_end ?_
     rw [mid_get (by omega)]
     congr 2
     omega
    rw [VS_dec]
    refine ite2 (fun z=>?_) (fun z=>⟨t,rfl,s1.trans s2,hall,fun c=>z (decide_eq_true ?_)⟩)
    ·have z':x.getD (x.length - 1 - t) 0=con (x.getD t 0):=by simpa using z
     have z2:x.getD t 0=con (x.getD (x.length - 1 - t) 0):=by rw [z',con_con hz]
     refine ⟨fun σ' H'=>σ'=[some (.str (S (mid x (t+1))))]∧Same H H',fun σ' H' ⟨a1,a2⟩=>⟨x.length - (t+1),by omega,t+1,rfl,a1,a2,by omega,fun j hj=>?_⟩,?_⟩
     ·by_cases c:j=t
      ·subst c;exact ⟨by omega,z2⟩
      ·exact hall j (by omega)
     refine ⟨_,rfl,_,rfl,_,rfl,_,rfl,_,rfl,by rw [S_len];exact len_1000 (by omega),?_,s1.trans s2⟩
     show [some (V.str (Txt.slice (S (mid x t)) (some 1) (some (-1))))]=_
     rw [slice_1m _ (by omega),ml,mid_succ (by omega)]
    ·rw [c.2,con_con (isx _ (by omega))]
   ·show (1:Int)<((S (mid x t)).length:Int)
    rw [S_len]
    omega
  rintro _ H1 ⟨t,rfl,s1,he⟩
  have ml:=mid_len he.le
  have hy:=mid_all (m:=t) hx
  generalize hyy:mid x t=y at ml hy
  obtain ⟨N,hN0,hN1,hN2,hN3⟩:∃ N:Nat,(if ((S y).length:Int) > 1 then ((S y).length:Int) else 1)=(N:Int)∧1≤N∧N≤900∧(N=y.length∨(y=[]∧N=1)):=by
   rw [S_len]
   by_cases c:(y.length:Int) > 1
   ·exact ⟨y.length,by rw [if_pos c],by omega,by omega,.inl rfl⟩
   ·refine ⟨1,by rw [if_neg c];rfl,by omega,by omega,?_⟩
    by_cases c2:y=[]
    ·exact .inr ⟨c2,rfl⟩
    ·have:=List.length_pos_iff.mpr c2
     exact .inl (by omega)
  refine ⟨_,rfl,_,rfl,by rw [S_len];exact len_1000 (by omega),_,_,rfl,N,by show [V.int (if ((S y).length:Int) > 1 then ((S y).length:Int) else 1)]=_;rw [hN0],by omega,by omega,fun Dd hD=>?_⟩
  refine comp_range (lo:=0) (n:=(N:Int).toNat) (fun i H2=>Same H1 H2∧H2 Dd=some (.lst ((List.range i).map fun j=>V.str (S (rot y j))))) ⟨Same.new hD,upd_same⟩ ?_ ?_
  ·rintro i H2 hi ⟨s2,e2⟩
   have hi':i≤y.length:=by
    rcases hN3 with h | ⟨h,h'⟩
    ·omega
    ·omega
   refine ⟨_,rfl,_,rfl,_,rfl,_,rfl,by rw [S_len];exact len_1000 (by omega),_,rfl,_,rfl,_,rfl,_,rfl,by rw [S_len];exact len_1000 (by omega),_,_,rfl,rfl,?_,?_⟩
   ·rw [slice_from _ (by omega) (by omega),slice_to _ (by omega) (by omega),S_len,S_len,List.length_drop,List.length_take];exact len_1000 (by omega)
   rw [slice_from _ (by omega) (by omega),slice_to _ (by omega) (by omega),S_app,show ((0:Int)+(i:Nat)).toNat=i by omega]
   refine ⟨_,e2,by rw [List.length_map,List.length_range];exact small1000 (by omega),s2.upd hD,?_⟩
   rw [upd_same,List.range_succ,List.map_append]
   rfl
  rintro H2 ⟨s2,e2⟩
  rw [Int.toNat_natCast] at e2
  have len:∀ j,j<N→(rot y j).length=y.length:=fun j hj=>rot_len (by rcases hN3 with h | ⟨h,h'⟩ <;> omega)
  have xget:∀ i z,((List.range N).map fun j=>V.str (S (rot y j)))[i]?=some z→i<N∧z=.str (S (rot y i)):=fun i z hz=>by
   rw [List.getElem?_map] at hz
   by_cases c:i<N
   ·rw [List.getElem?_range c] at hz
    exact ⟨c,(Option.some.inj hz).symm⟩
   ·rw [List.getElem?_eq_none (by simp;omega)] at hz;cases hz
  refine ⟨Dd,(List.range N).map fun j=>V.str (S (rot y j)),fun i b kb H3=>Same H1 H3∧1≤i∧H3 Dd=some (.lst ((List.range N).map fun j=>V.str (S (rot y j))))∧∃ (j:Nat) (p a:Addr),j<N∧b=.str (S (rot y j))∧kb=.ref p∧H3 p=some (.tup [.int (y.length:Nat),.ref a])∧H3 a=some (.lst ((rks (rot y j)).map V.int))∧∀ j',j' < i→¬ MaR.Lt (gr y) y.length j' j,rfl,SqL.of e2,fun i b kb H3 h=>SqL.of h.2.2.1,⟨.str (S (rot y 0)),?_,rot y 0,rfl,rot_all hy,by rw [len 0 (by omega)];omega,fun p a H3 hp ha s3 ep ea=>⟨s2.trans s3,Nat.le_refl _,s3 _ _ e2,0,p,a,by omega,rfl,rfl,by rw [← len 0 (by omega)];exact ep,ea,fun j' hj'=>?_⟩⟩,?_,?_⟩
  ·rw [List.getElem?_map,List.getElem?_range (by omega)];rfl
  ·have:j'=0:=by omega
   subst this
   exact MaR.Lt.irrefl _
  ·rintro i b kb H3 ⟨s3,hi1,e3,j,p,a,hj,rfl,rfl,ep,ea,hall⟩ z hz
   obtain ⟨hi,rfl⟩:=xget i z hz
   have hNy:N=y.length:=by
    rcases hN3 with h | ⟨h,h'⟩
    ·exact h
    ·omega
   refine ⟨rot y i,rfl,rot_all hy,by rw [len i hi];omega,fun p' a' H4 hp' ha' s4 ep' ea'=>?_⟩
   rw [len i hi] at ep'
   refine ⟨p',p,a',a,_,_,_,rfl,rfl,ep',s4 _ _ ep,ea',s4 _ _ ea,by rw [rks_len,rks_len,len i hi,len j hj],(ne_of_none ea ha').symm,_,rfl,?_⟩
   cases ht:HT.lexLt (rks (rot y i)) (rks (rot y j)) with
   | true =>
    have z':=(key_lt (by omega) (by omega)).mp ht
    refine ⟨s3.trans s4,by omega,s4 _ _ e3,i,p',a',hi,rfl,rfl,ep',ea',fun j' hj'=>?_⟩
    by_cases c0:j'=i
    ·subst c0;exact MaR.Lt.irrefl _
    ·exact fun z2=>hall j' (by omega) (z2.trans z')
   | false =>
    refine ⟨s3.trans s4,by omega,s4 _ _ e3,j,p,a,hj,rfl,rfl,s4 _ _ ep,s4 _ _ ea,fun j' hj'=>?_⟩
    by_cases c0:j'=i
    ·subst c0
     intro z2
     rw [(key_lt (by omega) (by omega)).mpr z2] at ht
     cases ht
    ·exact hall j' (by omega)
  ·rintro b kb H3 ⟨s3,hi1,e3,j,p,a,hj,rfl,rfl,ep,ea,hall⟩
   refine k _ H3 ⟨t,j,he,?_,by rw [hyy]⟩ (s1.trans s3)
   rw [hyy]
   rcases hN3 with h | ⟨h,h'⟩
   ·refine .inr ⟨by omega,fun j' hj'=>hall j' ?_⟩
    rw [List.length_map,List.length_range];omega
   ·exact .inl ⟨h,by omega⟩
theorem ok_zs {f:Addr} {fd:FuncData} (D:Df K mg "_law_retold" s_zs ["_law_retelling","_law_word_here"] f fd) (T:Txt P w K mg a_CONTRARIES a_LETTERS a_RANKS) (c_z0:Cl P w K mg base "_law_back" ["_law_word_here"] 2 spBack) (c_z5:Cl P w K mg base "_law_laid" ["_law_text"] 2 spLay):Cl P w K mg base "_law_retold" ["_law_retelling","_law_word_here"] 3 (spRetold K):=by
 obtain ⟨f_z0,fd_z0,G_z0,m_z0,k_z0,b_z0⟩:=c_z0
 obtain ⟨f_z5,fd_z5,G_z5,m_z5,k_z5,b_z5⟩:=c_z5
 refine D.cl (D.F.ok sc_zs (fun vs H Q E h=>?_) (fun cdv A outer s H vs Q E hr h=>?_))
 ·obtain ⟨a,rs,n,M,x,rfl,_⟩:=h
  rfl
 ·obtain ⟨a,rs,n,M,x,rfl,hq,hr0,h1,h4,hM,hox,hxl,hxm,k⟩:=h
  refine ⟨_,(pss_cons (ps_set (i:=2) sc_zs.nd rfl (Or.inl rfl) pe_str)
   (pss_cons (ps_for PassesOwn.never rfl (pi_str (pv 1)) (pg_name (i:=3) sc_zs.nd rfl (Or.inl rfl)) (pss_cons (ps_set (i:=4) sc_zs.nd rfl (Or.inl rfl) (pe_ix (ix_tupK (K:=K) rfl) (pv 0) (pe_bmK (K:=K) rfl PySem.F.plainAttrs_str PySem.F.slot_str_index PySem.F.type_str_index (mt_index rfl) pe_str (pa_cons (pe_bm0K (K:=K) rfl PySem.F.plainAttrs_str PySem.F.slot_str_lower PySem.F.type_str_lower mt_lower (pv 3)) pa_nil)) (fun _ _=>rfl)))
   (pss_mid (ps_if (pt_val (pe_bm0K (K:=K) rfl PySem.F.plainAttrs_str PySem.F.slot_str_isupper PySem.F.type_str_isupper mt_isupper (pv 3))) (pss_one (ps_set (i:=4) sc_zs.nd rfl (Or.inl rfl) (pe_call G_z0 (hr.mono (by decide)) (by rfl) m_z0 k_z0 b_z0 .nil pass0 (pa_cons (pv 4) pa_nil)))) pss_nil)
   (pss_one (ps_set (i:=2) sc_zs.nd rfl (Or.inl rfl) (pe_op op_add_str (pv 2) (pv 4)))))))
   (pss_one (ps_ret (pe_call G_z5 (hr.mono (by decide)) (by rfl) m_z5 k_z5 b_z5 .nil pass0 (pa_cons (pv 2) pa_nil)))))),?_⟩
  refine ⟨_,rfl,S x,rfl,for_str (w:=x) (fun i σ H1=>∃ v3 v4:Option V,σ=[some (.ref a),some (.str (S x)),some (.str (S (told rs (x.take i)))),v3,v4]∧Same H H1) ⟨none,none,by rw [S_nil];rfl,Same.refl H⟩ ?_ ?_⟩
  ·rintro i c σ H1 hc ⟨v3,v4,rfl,s1⟩
   have hi:i<x.length:=(List.getElem?_eq_some_iff.mp hc).1
   have hcn:=hox c (List.mem_of_getElem? hc)
   have hcL:isL c:=letsN_isL hcn
   have hc1:AllL [c]:=fun d hd=>by rw [List.mem_singleton.mp hd];exact hcL
   have tl:=told_len hr0 (x.take i)
   have tm:(x.take i).length * M≤x.length * M:=Nat.mul_le_mul_right _ (by rw [List.length_take];omega)
   have htk:told rs (x.take (i+1))=told rs (x.take i)++tell rs c:=by rw [take_snoc hc,told_app,told_cons,told_nil,List.append_nil]
   have hll:=tell_len hr0 c
   obtain ⟨r,hr9⟩:∃ r,rs[lo c - 97]?=some r:=⟨_,List.getElem?_eq_getElem (lo_lt hcn hr0.len h1 h4)⟩
   have hra:=hr0.all r (List.mem_of_getElem? hr9)
   have hrl:=hr0.le r (List.mem_of_getElem? hr9)
   refine ⟨_,rfl,rfl,_,rfl,rfl,S [c],rfl,rfl,lower_fit [c] hc1 (by simp),_,_,rfl,rfl,?_,a,wds rs,_,.str (S r),rfl,rfl,L2.SqT.same s1 hq,?_,?_⟩
   ·rw [lower_all hc1];exact (abcd_ix hcL).1
   ·rw [lower_all hc1]
    show atI (wds rs) (Txt.find (Str.ofString "abcd") (S [lo c]))=some (.str (S r))
    rw [(abcd_ix hcL).2]
    exact atI_nat (wds_at hr9)
   refine ⟨fun σ H2=>σ=[some (.ref a),some (.str (S x)),some (.str (S (told rs (x.take i)))),some (.str (S [c])),some (.str (S (tell rs c)))]∧Same H H2,?_,?_⟩
   ·refine ⟨_,rfl,rfl,_,rfl,rfl,_,rfl,?_⟩
    rw [isupper_S hcL]
    have ht:tell rs c=if isLow c=true then r else back r:=by
     unfold tell lo at *
     unfold isLow
     by_cases q:96<c
     ·rw [if_pos q] at hr9
      rw [if_pos (decide_eq_true q),if_pos (decide_eq_true q),List.getD_eq_getElem?_getD,hr9];rfl
     ·rw [if_neg q] at hr9
      rw [if_neg (by simpa using q),if_neg (by simpa using q),List.getD_eq_getElem?_getD,show c - 65=c+32 - 97 by omega,hr9];rfl
    cases hlow:isLow c with
    | true =>
     rw [hlow,if_pos rfl] at ht
     rw [ht]
     exact iteF ⟨rfl,s1⟩
    | false =>
     rw [hlow,if_neg (by decide)] at ht
     rw [ht]
     exact iteT ⟨_,rfl,r,rfl,hra,by omega,fun H2 s2=>⟨rfl,s1.trans s2⟩⟩
   rintro _ H2 ⟨rfl,s2⟩
   refine ⟨_,rfl,_,rfl,_,_,rfl,rfl,by rw [S_len,S_len];exact len_1000 (by omega),some (.str (S [c])),some (.str (S (tell rs c))),?_,s2⟩
   rw [htk,S_app]
   rfl
  ·rintro _ H1 ⟨v3,v4,rfl,s1⟩
   rw [List.take_length]
   have tl:=told_len hr0 x
   exact ⟨_,rfl,told rs x,rfl,told_all hr0 x,by omega,fun H2 s2=>k H2 (s1.trans s2)⟩
theorem ok_zd {f:Addr} {fd:FuncData} (D:Df K mg "_law_change_told" s_zd ["_law_n","_law_change"] f fd) (T:Txt P w K mg a_CONTRARIES a_LETTERS a_RANKS) (c_zm:Cl P w K mg base "_law_contrary" ["_law_letter"] 1 spCon):Cl P w K mg base "_law_change_told" ["_law_n","_law_change"] 2 spChTold:=by
 obtain ⟨f_zm,fd_zm,G_zm,m_zm,k_zm,b_zm⟩:=c_zm
 refine D.cl (D.F.ok sc_zd (fun vs H Q E h=>?_) (fun cdv A outer s H vs Q E hr h=>?_))
 ·obtain ⟨n,p,c,sd,rfl,_⟩:=h
  rfl
 ·obtain ⟨n,p,c,sd,rfl,h1,h4,⟨q,ep,eq⟩,hc,hsd,k⟩:=h
  refine ⟨_,(pss_cons (ps_asg (pv 1) (pg_seq (K:=K) rfl rfl (pgs_cons (pg_name (i:=2) sc_zd.nd rfl (Or.inl rfl)) (pgs_cons (pg_name (i:=3) sc_zd.nd rfl (Or.inl rfl)) pgs_nil))))
   (pss_cons (ps_set (i:=4) sc_zd.nd rfl (Or.inl rfl) (pe_lst pa_nil))
   (pss_cons (ps_for PassesOwn.never rfl (pi_str (pe_slice sl_str pe_str po_none (po_some (pv 0)))) (pg_name (i:=5) sc_zd.nd rfl (Or.inl rfl)) (pss_cons (ps_set (i:=6) sc_zd.nd rfl (Or.inl rfl) (pv 5))
   (pss_mid (ps_if (pt_cmpR op_ne (pv 5) (pe_bm0K (K:=K) rfl PySem.F.plainAttrs_str PySem.F.slot_str_lower PySem.F.type_str_lower mt_lower (pv 2)) (nomark _)) (pss_cons (ps_set (i:=6) sc_zd.nd rfl (Or.inl rfl) (pe_op op_add_str (pv 5) (pe_op op_mul_str (pv 2) (pe_callTy call_int1 (by rfl) T.b_int boot_int (pa_cons (pe_cmpR (op_inK (K:=K) rfl) (pv 5) (pv 3) (by rfl)) pa_nil)))))
   (pss_one (ps_set (i:=6) sc_zd.nd rfl (Or.inl rfl) (pe_op op_add_str (pe_op op_mul_str (pe_call G_zm (hr.mono (by decide)) (by rfl) m_zm k_zm b_zm .nil pass0 (pa_cons (pv 2) pa_nil)) (pe_callTy call_int1 (by rfl) T.b_int boot_int (pa_cons (pe_cmpR (op_inK (K:=K) rfl) (pe_call G_zm (hr.mono (by decide)) (by rfl) m_zm k_zm b_zm .nil pass0 (pa_cons (pv 5) pa_nil)) (pv 3) (by rfl)) pa_nil))) (pv 6))))) pss_nil)
   (pss_one (ps_expr (pe_bmK (K:=K) rfl PySem.F.plainAttrs_list PySem.F.slot_list_append PySem.F.type_list_append mt_append (pv 4) (pa_cons (pv 6) pa_nil)))))))
   (pss_one (ps_ret (pe_callTy (call_tupleK (K:=K) rfl) (by rfl) T.b_tuple boot_tuple (pa_cons (pv 4) pa_nil))))))),?_⟩
  refine ⟨_,rfl,p,_,rfl,.inr (SqT.of ep),rfl,_,_,rfl,_,_,rfl,rfl,?_⟩
  refine ⟨len_1000 (by simp),fun l hl=>?_⟩
  refine ⟨_,rfl,_,rfl,_,rfl,by decide +kernel,S (lowN n),?_,?_⟩
  ·show V.str (Txt.slice (Str.ofString "abcd") none (some ((n:Nat):Int)))=_
   rw [abcd_S,slice_to _ (by omega) (by simp;omega)]
   rfl
  refine for_str (w:=lowN n) (fun i σ H1=>∃ v5 v6:Option V,σ=[some (.int (n:Nat)),some (.ref p),some (.str (S [c])),some (.ref q),some (.ref l),v5,v6]∧Same H H1∧H1 l=some (.lst (wds (((lowN n).take i).map (chg c sd))))) ⟨none,none,rfl,Same.new hl,upd_same⟩ ?_ ?_
  ·rintro i d σ H1 hd ⟨v5,v6,rfl,s1,e1⟩
   have hm:=List.mem_of_getElem? hd
   have hdL:=low_isL hm
   have hdl:=low_low hm
   have hi:i<4:=by have:=(List.getElem?_eq_some_iff.mp hd).1;rw [lowN_len h4] at this;omega
   have hc1:=one_all hc
   refine ⟨_,rfl,?_⟩
   refine ⟨fun σ H2=>σ=[some (.int (n:Nat)),some (.ref p),some (.str (S [c])),some (.ref q),some (.ref l),some (.str (S [d])),some (.str (S (chg c sd d)))]∧Same H1 H2,?_,?_⟩
   ·refine ⟨_,rfl,_,rfl,rfl,S [c],rfl,rfl,lower_fit [c] hc1 (by simp),?_⟩
    rw [lower_all hc1]
    refine ⟨rfl,_,rfl,?_⟩
    show if (!decide (V.str (S [d])=V.str (S [lo c])))=true then _ else _
    rw [lo_str]
    by_cases hlo:d=lo c
    ·rw [decide_eq_true hlo]
     have e:chg c sd d=[d]:=by unfold chg;rw [if_pos hlo]
     rw [e]
     exact iteF ⟨rfl,Same.refl _⟩
    ·rw [decide_eq_false hlo]
     refine iteT ⟨_,rfl,_,rfl,_,rfl,_,rfl,q,lstC sd,rfl,.inr (SqT.of (s1 _ _ eq)),rfl,lstC_flat sd,.inr ⟨_,rfl,?_⟩⟩
     refine ⟨S [c],(if inV (.str (S [d])) (lstC sd)=true then 1 else 0),rfl,rfl,mul_bok _ _,?_⟩
     rw [mul_b,in_lst]
     have hu1:(if decide (d∈sd)=true then [c] else []).length≤1:=by split <;> simp
     have hu2:(if decide (d∈sd)=true then [c] else [])=(if d∈sd then [c] else []):=by simp only [decide_eq_true_iff]
     generalize (if decide (d∈sd)=true then [c] else [])=u at hu1 hu2
     refine ⟨_,_,rfl,rfl,by rw [S_len,S_len];exact len_1000 (by simp;omega),?_⟩
     rw [S_app]
     refine ⟨_,rfl,c,rfl,hc,fun H2 s2=>⟨_,rfl,d,rfl,hdL,fun H3 s3=>⟨_,rfl,q,lstC sd,rfl,.inr (SqT.of (s3 _ _ (s2 _ _ (s1 _ _ eq)))),rfl,lstC_flat sd,.inr ⟨_,rfl,S [con c],(if inV (.str (S [con d])) (lstC sd)=true then 1 else 0),rfl,rfl,mul_bok _ _,?_⟩⟩⟩⟩
     rw [mul_b,in_lst]
     have hv1:(if decide (con d∈sd)=true then [con c] else []).length≤1:=by split <;> simp
     have hv2:(if decide (con d∈sd)=true then [con c] else [])=(if con d∈sd then [con c] else []):=by simp only [decide_eq_true_iff]
     generalize (if decide (con d∈sd)=true then [con c] else [])=v at hv1 hv2
     refine ⟨_,rfl,_,_,rfl,rfl,by rw [S_len,S_len,List.length_append];exact len_1000 (by simp;omega),?_,s2.trans s3⟩
     rw [S_app,← List.append_assoc,hu2,hv2]
     have e:chg c sd d=(if con d∈sd then [con c] else [])++[d]++(if d∈sd then [c] else []):=by unfold chg;rw [if_neg hlo]
     rw [e]
     rfl
   rintro _ H2 ⟨rfl,s2⟩
   have e2:=s2 _ _ e1
   refine ⟨_,rfl,.inl ⟨rfl,_,SqL.of e2⟩,_,rfl,l,_,_,rfl,rfl,e2,?_,_,_,rfl,(s1.trans s2).upd hl,?_⟩
   ·rw [wds_len,List.length_map,List.length_take];exact small1000 (by omega)
   ·rw [upd_same,take_snoc hd,List.map_append]
    unfold wds
    rw [List.map_append]
    rfl
  ·rintro _ H1 ⟨v5,v6,rfl,s1,e1⟩
   rw [List.take_length] at e1
   exact ⟨_,rfl,l,_,rfl,.inl ⟨SqL.of e1,fun t ht=>k t _ (s1.free ht) (s1.upd' ht) upd_same⟩⟩
theorem ok_za1 {f:Addr} {fd:FuncData} (D:Df K mg "rank_of" s_za1 ["letter"] f fd) (T:Txt P w K mg a_CONTRARIES a_LETTERS a_RANKS):Cl P w K mg base "rank_of" ["letter"] 1 spRank:=by
 refine D.cl (D.F.ok sc_za1 (fun vs H Q E h=>?_) (fun cdv A outer s H vs Q E hr h=>?_))
 ·obtain ⟨c,rfl,_⟩:=h
  rfl
 ·obtain ⟨c,rfl,hc,k⟩:=h
  refine ⟨_,(pss_one (ps_ret (pe_ix (ix_tab T.t_RANKS) (pe_glob (v:=.ref a_RANKS) (by rfl) T.m_RANKS rfl) (pv 0) (fun _ _=>rfl)))),?_⟩
  exact ⟨_,rfl,rfl,_,rfl,.inr ⟨_,rankTab_look hc,k H (Same.refl H)⟩⟩
theorem ok_zv {f:Addr} {fd:FuncData} (D:Df K mg "tied_pair" s_zv ["one","other"] f fd) (T:Txt P w K mg a_CONTRARIES a_LETTERS a_RANKS) (c_za1:Cl P w K mg base "rank_of" ["letter"] 1 spRank):Cl P w K mg base "tied_pair" ["one","other"] 2 spPair:=by
 obtain ⟨f_za1,fd_za1,G_za1,m_za1,k_za1,b_za1⟩:=c_za1
 refine D.cl (D.F.ok sc_zv (fun vs H Q E h=>?_) (fun cdv A outer s H vs Q E hr h=>?_))
 ·obtain ⟨c,d,rfl,_⟩:=h
  rfl
 ·obtain ⟨c,d,rfl,hc,hd,k⟩:=h
  refine ⟨_,(pss_one (ps_ret (pe_ifExp (pt_cmpR op_lt (pe_call G_za1 (hr.mono (by decide)) (by rfl) m_za1 k_za1 b_za1 .nil pass0 (pa_cons (pv 0) pa_nil)) (pe_call G_za1 (hr.mono (by decide)) (by rfl) m_za1 k_za1 b_za1 .nil pass0 (pa_cons (pv 1) pa_nil)) (nomark _)) (pe_tup (pa_cons (pv 0) (pa_cons (pv 1) pa_nil))) (pe_tup (pa_cons (pv 1) (pa_cons (pv 0) pa_nil)))))),?_⟩
  refine ⟨_,rfl,c,rfl,hc,fun H1 s1=>⟨_,rfl,d,rfl,hd,fun H2 s2=>⟨_,_,rfl,rfl,_,rfl,ite2 (fun q=>?_) (fun q=>?_)⟩⟩⟩
  ·have q':=of_decide_eq_true q
   refine ⟨_,rfl,_,rfl,len_1000 (by simp),fun p hp=>k p _ ((s1.trans s2).free hp) ((s1.trans s2).upd' hp) ?_⟩
   rw [upd_same]
   unfold tieK
   rw [if_pos (by omega)]
   rfl
  ·have q':¬ ((rk c:Nat):Int)<((rk d:Nat):Int):=fun z=>q (decide_eq_true z)
   refine ⟨_,rfl,_,rfl,len_1000 (by simp),fun p hp=>k p _ ((s1.trans s2).free hp) ((s1.trans s2).upd' hp) ?_⟩
   rw [upd_same]
   unfold tieK
   rw [if_neg (by omega)]
   rfl
theorem ok_z9 {f:Addr} {fd:FuncData} (D:Df K mg "ties_of" s_z9 ["rings"] f fd) (T:Txt P w K mg a_CONTRARIES a_LETTERS a_RANKS) (c_z4:Cl P w K mg base "contrary" ["letter"] 1 spCon) (c_zv:Cl P w K mg base "tied_pair" ["one","other"] 2 spPair):Cl P w K mg base "ties_of" ["rings"] 3 (spTies K):=by
 obtain ⟨f_z4,fd_z4,G_z4,m_z4,k_z4,b_z4⟩:=c_z4
 obtain ⟨f_zv,fd_zv,G_zv,m_zv,k_zv,b_zv⟩:=c_zv
 refine D.cl (D.F.ok sc_z9 (fun vs H Q E h=>?_) (fun cdv A outer s H vs Q E hr h=>?_))
 ·obtain ⟨a,rs,rfl,_⟩:=h
  rfl
 ·obtain ⟨a,rs,rfl,hq,hall,htot,k⟩:=h
  refine ⟨_,(pss_cons (ps_set (i:=1) sc_z9.nd rfl (Or.inl rfl) pe_dnewT)
   (pss_cons (ps_for PassesOwn.never rfl (pi_tupK (K:=K) rfl (pv 0)) (pg_name (i:=2) sc_z9.nd rfl (Or.inl rfl)) (pss_one (ps_for PassesOwn.never rfl (pi_enum (by rfl) T.b_enumerate (pa_cons (pv 2) pa_nil)) (pg_seq (K:=K) rfl rfl (pgs_cons (pg_name (i:=3) sc_z9.nd rfl (Or.inl rfl)) (pgs_cons (pg_name (i:=4) sc_z9.nd rfl (Or.inl rfl)) pgs_nil))) (pss_cons (ps_set (i:=5) sc_z9.nd rfl (Or.inl rfl) (pe_call G_zv (hr.mono (by decide)) (by rfl) m_zv k_zv b_zv .nil pass0 (pa_cons (pe_ix ix_str (pv 2) (pe_op op_sub (pv 3) pe_int) (fun _ _=>rfl)) (pa_cons (pe_call G_z4 (hr.mono (by decide)) (by rfl) m_z4 k_z4 b_z4 .nil pass0 (pa_cons (pv 4) pa_nil)) pa_nil))))
   (pss_one (ps_dput (Nat.lt_of_le_of_lt (Nat.add_le_add_left (by decide:1≤64) _) hr.units) (pv 1) (pv 5) (pe_op op_add (pe_dget2 (Nat.lt_of_le_of_lt (Nat.add_le_add_left (by decide:1≤64) _) hr.units) (pv 1) (pv 5) pe_int ⟨rfl,rfl,rfl,rfl⟩) pe_int) (by rfl)))))))
   (pss_one (ps_ret (pv 1))))),?_⟩
  refine fun p hp=>?_
  refine ⟨_,rfl,a,rfl,⟨_,Lw.SqT.new hq hp⟩,?_⟩
  refine for_tup (K:=K) (a:=a) (xs:=wds rs) (fun j σ H1=>∃ v2 v3 v4 v5:Option V,σ=[some (.ref a),some (.ref p),v2,v3,v4,v5]∧Same H H1∧H1 p=some (.dT (Dk (tiesR (rs.take j))))) ⟨none,none,none,none,rfl,Same.new hp,upd_same⟩ (fun j σ H1 _ ⟨_,_,_,_,_,s1,_⟩=>L2.SqT.same s1 hq) ?_ ?_
  ·rintro j v _ H1 hv ⟨v2,v3,v4,v5,rfl,s1,e1⟩
   obtain ⟨x,hx,rfl⟩:=wds_get hv
   have hxa:=hall x (List.mem_of_getElem? hx)
   have htj:(tiesR (rs.take j)).length+x.length≤900:=by
    have h1:=tiesR_len (rs.take (j+1))
    rw [List.take_add_one,hx] at h1
    have h2:=sum_take_le (rs.map List.length) (j+1)
    rw [← List.map_take,List.take_add_one,hx] at h2
    rw [show tiesR (rs.take j++(some x).toList)=tiesR (rs.take j)++tiesW x from tiesR_snoc _ _,List.length_append,tiesW_len] at h1
    unfold totL at htot
    omega
   refine ⟨_,rfl,S x,rfl,?_⟩
   refine for_enum (w:=x) (fun i σ H2=>∃ v3 v4 v5:Option V,σ=[some (.ref a),some (.ref p),some (.str (S x)),v3,v4,v5]∧Same H H2∧H2 p=some (.dT (Dk (tiesR (rs.take j)++(tiesW x).take i)))) ⟨v3,v4,v5,rfl,s1,by rw [List.take_zero,List.append_nil];exact e1⟩ ?_ ?_
   ·rintro i c q _ H2 hc hq2 ⟨v3,v4,v5,rfl,s2,e2⟩
    have hi:i<x.length:=(List.getElem?_eq_some_iff.mp hc).1
    have hcL:=hxa c (List.mem_of_getElem? hc)
    have hcd:x.getD i 0=c:=by rw [List.getD_eq_getElem?_getD,hc];rfl
    have s3:Same H (upd H2 q (.tup [.int (i:Nat),.str (S [c])])):=s2.upd' hq2
    have e3:upd H2 q (.tup [.int (i:Nat),.str (S [c])]) p=some (.dT (Dk (tiesR (rs.take j)++(tiesW x).take i))):=by rw [upd_ne (ne_of_none e2 hq2)];exact e2
    refine ⟨q,_,rfl,.inr (SqT.of upd_same),rfl,_,_,rfl,_,_,rfl,rfl,?_⟩
    generalize upd H2 q (.tup [.int (i:Nat),.str (S [c])])=H3 at s3 e3
    have hpL:=prev_isL hxa hi
    refine ⟨_,rfl,_,rfl,_,_,rfl,rfl,_,_,prevL x i,rfl,rfl,by rw [S_len];exact len_1000 (by omega),prev_at hi,?_⟩
    refine ⟨_,rfl,c,rfl,hcL,fun H4 s4=>?_⟩
    refine ⟨prevL x i,con c,rfl,hpL,isL_con hcL,fun t H5 ht s5 et=>?_⟩
    have e5:=s5 _ _ (s4 _ _ e3)
    refine ⟨_,rfl,p,rfl,.inr ⟨_,.inl e5⟩,_,rfl,_,DGet.t e5 et,?_⟩
    rw [Dk_getD]
    refine ⟨_,_,rfl,rfl,_,rfl,_,rfl,p,_,rfl,DPut.t e5 et (small1000 ?_),_,_,_,rfl,((s3.trans s4).trans s5).upd hp,?_⟩
    ·have h1:=Dk_len (tiesR (rs.take j)++(tiesW x).take i)
     rw [List.length_append,List.length_take,tiesW_len] at h1
     omega
    ·rw [upd_same,tiesW_take hi,← List.append_assoc,Dk_snoc,hcd]
     rfl
   ·rintro _ H2 ⟨v3,v4,v5,rfl,s2,e2⟩
    refine ⟨_,_,_,_,rfl,s2,?_⟩
    rw [e2,List.take_of_length_le (l:=tiesW x) (by rw [tiesW_len];exact Nat.le_refl _),List.take_add_one,hx]
    rw [show tiesR (rs.take j++(some x).toList)=tiesR (rs.take j)++tiesW x from tiesR_snoc _ _]
  ·rintro _ H1 ⟨v2,v3,v4,v5,rfl,s1,e1⟩
   rw [wds_len,List.take_length] at e1
   exact ⟨_,rfl,k p H1 hp s1 e1⟩
theorem ok_z1 {f:Addr} {fd:FuncData} (D:Df K mg "count_of" s_z1 ["rings","letter"] f fd) (T:Txt P w K mg a_CONTRARIES a_LETTERS a_RANKS) (c_z4:Cl P w K mg base "contrary" ["letter"] 1 spCon):Cl P w K mg base "count_of" ["rings","letter"] 2 (spCount K):=by
 obtain ⟨f_z4,fd_z4,G_z4,m_z4,k_z4,b_z4⟩:=c_z4
 refine D.cl (D.F.ok sc_z1 (fun vs H Q E h=>?_) (fun cdv A outer s H vs Q E hr h=>?_))
 ·obtain ⟨a,rs,c,rfl,_⟩:=h
  rfl
 ·obtain ⟨a,rs,c,rfl,hq,hlen,hc,k⟩:=h
  refine ⟨_,(pss_one (ps_ret (pe_callB (call_sumK (K:=K) rfl rfl) (by rfl) T.b_sum boot_sum (pa_cons (pe_compc (sc0:=defScope s_z1) (N:=["rings","letter"]) (ix:=[1]) (by decide +kernel) rfl rfl rfl (pi_tupK (K:=K) rfl (pv 0)) (fun _ _ _=>pifs_nil) (fun _ _ _=>(pe_op op_add (pe_bmK (K:=K) rfl PySem.F.plainAttrs_str PySem.F.slot_str_count PySem.F.type_str_count mt_scount (pv 0) (pa_cons (pv 1) pa_nil)) (pe_bmK (K:=K) rfl PySem.F.plainAttrs_str PySem.F.slot_str_count PySem.F.type_str_count mt_scount (pv 0) (pa_cons (pe_call G_z4 (hr.mono (by decide)) (by rfl) m_z4 k_z4 b_z4 .nil pass0 (pa_cons (pv 1) pa_nil)) pa_nil))))) pa_nil)))),?_⟩
  refine ⟨_,rfl,a,rfl,⟨_,hq⟩,fun Dd hD=>comp_tupIf (K:=K) (a:=a) (xs:=wds rs) (fun i H1=>Same H H1∧H1 Dd=some (.lst (((rs.take i).map fun x=>cntS (S x) (S [c])+cntS (S x) (S [con c])).map V.int))) ⟨Same.new hD,upd_same⟩ (fun i H1 _ p=>L2.SqT.same p.1 hq) ?_ ?_⟩
  ·rintro i v H1 hv ⟨s1,e1⟩
   obtain ⟨x,hx,rfl⟩:=wds_get hv
   have hi:i<rs.length:=(List.getElem?_eq_some_iff.mp hx).1
   refine ⟨_,rfl,rfl,_,rfl,_,_,rfl,rfl,?_⟩
   refine ⟨_,rfl,rfl,_,rfl,c,rfl,hc,fun H2 s2=>⟨_,_,rfl,rfl,_,_,rfl,rfl,_,s2 _ _ e1,?_,(s1.trans s2).upd hD,?_⟩⟩
   ·rw [List.length_map,List.length_map,List.length_take];exact small1000 (by omega)
   ·rw [upd_same,List.take_add_one,hx,List.map_append,List.map_append];rfl
  ·rintro H1 ⟨s1,e1⟩
   rw [wds_len,List.take_length] at e1
   exact ⟨Dd,_,rfl,SqL.of e1,k H1 s1⟩
theorem ok_zb {f:Addr} {fd:FuncData} (D:Df K mg "_law_rings_retold" s_zb ["_law_retelling","_law_rings"] f fd) (T:Txt P w K mg a_CONTRARIES a_LETTERS a_RANKS) (c_z8:Cl P w K mg base "_law_ring" ["_law_word_here"] 3 spRingOf) (c_zs:Cl P w K mg base "_law_retold" ["_law_retelling","_law_word_here"] 3 (spRetold K)):Cl P w K mg base "_law_rings_retold" ["_law_retelling","_law_rings"] 4 (spRingsX K):=by
 obtain ⟨f_z8,fd_z8,G_z8,m_z8,k_z8,b_z8⟩:=c_z8
 obtain ⟨f_zs,fd_zs,G_zs,m_zs,k_zs,b_zs⟩:=c_zs
 refine D.cl (D.F.ok sc_zb (fun vs H Q E h=>?_) (fun cdv A outer s H vs Q E hr h=>?_))
 ·obtain ⟨a,b,f,rs,n,rfl,_⟩:=h
  rfl
 ·obtain ⟨a,b,f,rs,n,rfl,ha,hb,hf,hfo,h1,h4,hlen,hrs,k⟩:=h
  refine ⟨_,(pss_one (ps_ret (pe_callTy (call_tupleK (K:=K) rfl) (by rfl) T.b_tuple boot_tuple (pa_cons (pe_compc (sc0:=defScope s_zb) (N:=["_law_retelling","_law_rings"]) (ix:=[0]) (by decide +kernel) rfl rfl rfl (pi_tupK (K:=K) rfl (pv 1)) (fun _ _ _=>pifs_nil) (fun _ _ _=>(pe_call G_z8 (hr.mono (by decide)) (by rfl) m_z8 k_z8 b_z8 .nil pass0 (pa_cons (pe_call G_zs (hr.mono (by decide)) (by rfl) m_zs k_zs b_zs .nil pass0 (pa_cons (pv 1) (pa_cons (pv 0) pa_nil))) pa_nil)))) pa_nil)))),?_⟩
  refine ⟨_,rfl,b,rfl,⟨_,hb⟩,fun Dd hD=>comp_tupIf (K:=K) (a:=b) (xs:=wds rs) (fun i H1=>Same H H1∧∃ qs:List (List Nat),qs.length=i∧(∀ (j:Nat) (x q:List Nat),rs[j]?=some x→qs[j]?=some q→RingR (retl f x) q)∧(∀ y∈qs,RgN n y∧y.length≤300)∧H1 Dd=some (.lst (wds qs))) ⟨Same.new hD,[],rfl,(fun j x q _ h=>by simp at h),fun y hy=>(nomatch hy),upd_same⟩ (fun i H1 _ p=>L2.SqT.same p.1 hb) ?_ ?_⟩
  ·rintro i v H1 hv ⟨s1,qs,hql,hrow,hqs,e1⟩
   obtain ⟨x,hx,rfl⟩:=wds_get hv
   have hi:i<rs.length:=(List.getElem?_eq_some_iff.mp hx).1
   obtain ⟨hxo,hxl⟩:=hrs x (List.mem_of_getElem? hx)
   have hrl:=retl_len hf x
   refine ⟨_,rfl,_,rfl,a,f,n,3,x,rfl,L2.SqT.same s1 ha,hf,h1,h4,by decide,hxo,by omega,by omega,fun H2 s2=>?_⟩
   refine ⟨retl f x,rfl,retl_all hf x,by omega,fun r H3 hr s3=>⟨_,s3 _ _ (s2 _ _ e1),?_,((s1.trans s2).trans s3).upd hD,qs++[r],?_,?_,?_,?_⟩⟩
   ·rw [wds_len];exact small1000 (by omega)
   ·rw [List.length_append,hql];rfl
   ·intro j x' q hx' hq'
    by_cases hj:j<qs.length
    ·rw [List.getElem?_append_left hj] at hq'
     exact hrow j x' q hx' hq'
    ·have ej:j=i:=by
      have:=(List.getElem?_eq_some_iff.mp hq').1
      rw [List.length_append,List.length_singleton] at this
      omega
     subst ej
     rw [hx] at hx'
     cases hx'
     have eq':q=r:=by
      rw [← hql] at hq'
      simpa using hq'.symm
     rw [eq'];exact hr
   ·intro y hy
    rcases List.mem_append.mp hy with q | q
    ·exact hqs y q
    ·rw [List.mem_singleton.mp q]
     exact ⟨⟨_,retl_ofn h1 h4 hfo x,lay_plain _,hr⟩,by have:=hr.len;omega⟩
   ·rw [upd_same];unfold wds;rw [List.map_append];rfl
  ·rintro H1 ⟨s1,qs,hql,hrow,hqs,e1⟩
   rw [wds_len] at hql
   refine ⟨Dd,_,rfl,.inl ⟨SqL.of e1,fun p hp=>?_⟩⟩
   exact k p qs _ (s1.free hp) (s1.upd' hp) ⟨hql,hrow⟩ hqs upd_same
theorem ok_z2 {f:Addr} {fd:FuncData} (D:Df K mg "_law_ties" s_z2 ["_law_rings"] f fd) (T:Txt P w K mg a_CONTRARIES a_LETTERS a_RANKS) (c_zm:Cl P w K mg base "_law_contrary" ["_law_letter"] 1 spCon) (c_zb1:Cl P w K mg base "_law_key" ["_law_word_here"] 1 spKey):Cl P w K mg base "_law_ties" ["_law_rings"] 4 (spTies K):=by
 obtain ⟨f_zm,fd_zm,G_zm,m_zm,k_zm,b_zm⟩:=c_zm
 obtain ⟨f_zb1,fd_zb1,G_zb1,m_zb1,k_zb1,b_zb1⟩:=c_zb1
 refine D.cl (D.F.ok sc_z2 (fun vs H Q E h=>?_) (fun cdv A outer s H vs Q E hr h=>?_))
 ·obtain ⟨a,rs,rfl,_⟩:=h
  rfl
 ·obtain ⟨a,rs,rfl,hq,hall,htot,k⟩:=h
  refine ⟨_,(pss_cons (ps_set (i:=1) sc_z2.nd rfl (Or.inl rfl) pe_dnewT)
   (pss_cons (ps_for PassesOwn.never rfl (pi_tupK (K:=K) rfl (pv 0)) (pg_name (i:=2) sc_z2.nd rfl (Or.inl rfl)) (pss_one (ps_for PassesOwn.never rfl (pi_range1 (by rfl) T.b_range (pa_cons (pe_callB call_len_str (by rfl) T.b_len PySem.boot_len (pa_cons (pv 2) pa_nil)) pa_nil)) (pg_name (i:=3) sc_z2.nd rfl (Or.inl rfl)) (pss_cons (ps_set (i:=4) sc_z2.nd rfl (Or.inl rfl) (pe_sortK (K:=K) rfl G_zb1 (hr.mono (by decide)) b_zb1 (by rfl) T.b_sorted (by rfl) m_zb1 (pa_cons (pe_lst (pa_cons (pe_ix ix_str (pv 2) (pe_op op_sub (pv 3) pe_int) (fun _ _=>rfl)) (pa_cons (pe_call G_zm (hr.mono (by decide)) (by rfl) m_zm k_zm b_zm .nil pass0 (pa_cons (pe_ix ix_str (pv 2) (pv 3) (fun _ _=>rfl)) pa_nil)) pa_nil))) pa_nil)))
   (pss_one (ps_dput (Nat.lt_of_le_of_lt (Nat.add_le_add_left (by decide:1≤64) _) hr.units) (pv 1) (pe_callTy (call_tupleK (K:=K) rfl) (by rfl) T.b_tuple boot_tuple (pa_cons (pv 4) pa_nil)) (pe_op op_add (pe_dget2 (Nat.lt_of_le_of_lt (Nat.add_le_add_left (by decide:1≤64) _) hr.units) (pv 1) (pe_callTy (call_tupleK (K:=K) rfl) (by rfl) T.b_tuple boot_tuple (pa_cons (pv 4) pa_nil)) pe_int ⟨rfl,rfl,rfl,rfl⟩) pe_int) (by rfl)))))))
   (pss_one (ps_ret (pv 1))))),?_⟩
  refine fun p hp=>?_
  refine ⟨_,rfl,a,rfl,⟨_,Lw.SqT.new hq hp⟩,?_⟩
  refine for_tup (K:=K) (a:=a) (xs:=wds rs) (fun j σ H1=>∃ v2 v3 v4:Option V,σ=[some (.ref a),some (.ref p),v2,v3,v4]∧Same H H1∧H1 p=some (.dT (Dk (tiesR (rs.take j))))) ⟨none,none,none,rfl,Same.new hp,upd_same⟩ (fun j σ H1 _ ⟨_,_,_,_,s1,_⟩=>L2.SqT.same s1 hq) ?_ ?_
  ·rintro j v _ H1 hv ⟨v2,v3,v4,rfl,s1,e1⟩
   obtain ⟨x,hx,rfl⟩:=wds_get hv
   have hxa:=hall x (List.mem_of_getElem? hx)
   have htj:(tiesR (rs.take j)).length+x.length≤900:=by
    have h1:=tiesR_len (rs.take (j+1))
    rw [List.take_add_one,hx] at h1
    have h2:=sum_take_le (rs.map List.length) (j+1)
    rw [← List.map_take,List.take_add_one,hx] at h2
    rw [show tiesR (rs.take j++(some x).toList)=tiesR (rs.take j)++tiesW x from tiesR_snoc _ _,List.length_append,tiesW_len] at h1
    unfold totL at htot
    omega
   refine ⟨_,rfl,_,rfl,by rw [S_len];exact len_1000 (by omega),(x.length:Nat),by rw [S_len],by omega,by omega,?_⟩
   refine for_range (lo:=0) (n:=((x.length:Nat):Int).toNat) (fun i σ H2=>∃ v3 v4:Option V,σ=[some (.ref a),some (.ref p),some (.str (S x)),v3,v4]∧Same H H2∧H2 p=some (.dT (Dk (tiesR (rs.take j)++(tiesW x).take i)))) ⟨v3,v4,rfl,s1,by rw [List.take_zero,List.append_nil];exact e1⟩ ?_ ?_
   ·rintro i _ H2 hi' ⟨v3,v4,rfl,s2,e2⟩
    have hi:i<x.length:=by omega
    have hpL:=prev_isL hxa hi
    have hcL:isL (x.getD i 0):=getD_isL hxa hi
    have hi0:((0:Int)+(i:Nat))=(i:Nat):=by omega
    refine ⟨_,rfl,_,rfl,_,_,rfl,rfl,_,_,prevL x i,rfl,rfl,by rw [S_len];exact len_1000 (by omega),by rw [hi0];exact prev_at hi,?_⟩
    refine ⟨_,rfl,_,rfl,_,_,x.getD i 0,rfl,rfl,by rw [S_len];exact len_1000 (by omega),atI_S (by omega) (by rw [show ((0:Int)+(i:Nat)).toNat=i by omega,List.getD_eq_getElem?_getD,List.getElem?_eq_getElem hi];rfl),_,rfl,hcL,fun H3 s3=>⟨len_1000 (by simp),fun l2 hl2=>?_⟩⟩
    have s4:Same H3 (upd H3 l2 (.lst [.str (S [prevL x i]),.str (S [con (x.getD i 0)])])):=Same.new hl2
    have e4:upd H3 l2 (.lst [.str (S [prevL x i]),.str (S [con (x.getD i 0)])]) l2=some (.lst (wds [[prevL x i],[con (x.getD i 0)]])):=upd_same
    generalize upd H3 l2 (.lst [.str (S [prevL x i]),.str (S [con (x.getD i 0)])])=H4 at s4 e4
    obtain ⟨l',xs',kz,Pv,el,a0,a1,a2,a3,a4,a5,a6,a7⟩:=sort_wds (K:=K) (Q:=fun v H''=>∃ D ws',v=V.ref D∧H4 D=none∧Same H4 H''∧H'' D=some (.lst (wds ws'))∧ws'.Perm [[prevL x i],[con (x.getD i 0)]]∧ws'.Pairwise leW) (SqL.of e4) (by show 2<64;decide) (fun y hy=>by
     simp only [List.mem_cons,List.not_mem_nil,or_false] at hy
     rcases hy with rfl | rfl
     ·exact ⟨fun z hz=>by rw [List.mem_singleton.mp hz];exact hpL,by simp⟩
     ·exact ⟨fun z hz=>by rw [List.mem_singleton.mp hz];exact isL_con hcL,by simp⟩) (fun D ws' H' a b c d e=>⟨D,ws',rfl,a,b,c,d,e⟩)
    refine ⟨l',xs',kz,Pv,el,a0,a1,a2,a3,a4,a5,a6,fun S' ks H5' hP=>?_⟩
    obtain ⟨b1,b2,b3,b4⟩:=a7 S' ks H5' hP
    refine ⟨b1,b2,b3,fun pp hpp so L hL=>?_⟩
    obtain ⟨L',ws,eL,_,s5,e5,hp5,ho5⟩:=b4 pp hpp so L hL
    cases eL
    generalize upd (upd H5' S' (.lst [])) L (.lst (pp.toList.map fun i=>xs'.getD i .non))=H5 at s5 e5
    rw [tie_sorted hpL (isL_con hcL) hp5 ho5] at e5
    have ep5:=s5 _ _ (s4 _ _ (s3 _ _ e2))
    refine ⟨_,rfl,p,rfl,.inr ⟨_,.inl ep5⟩,_,rfl,L,_,rfl,.inl ⟨SqL.of e5,fun t ht=>?_⟩⟩
    have et6:upd H5 t (.tup ((tieK (prevL x i) (con (x.getD i 0))).map kV)) t=some (.tup ((tieK (prevL x i) (con (x.getD i 0))).map kV)):=upd_same
    have ep6:upd H5 t (.tup ((tieK (prevL x i) (con (x.getD i 0))).map kV)) p=_:=(upd_ne (ne_of_none ep5 ht)).trans ep5
    have el6:upd H5 t (.tup ((tieK (prevL x i) (con (x.getD i 0))).map kV)) L=_:=(upd_ne (ne_of_none e5 ht)).trans e5
    have s6:Same H (upd H5 t (.tup ((tieK (prevL x i) (con (x.getD i 0))).map kV))):=(((s2.trans s3).trans s4).trans s5).upd' ht
    generalize upd H5 t (.tup ((tieK (prevL x i) (con (x.getD i 0))).map kV))=H6 at et6 ep6 el6 s6
    refine ⟨_,DGet.t ep6 et6,?_⟩
    rw [Dk_getD]
    refine ⟨_,_,rfl,rfl,_,rfl,_,rfl,L,_,rfl,.inl ⟨SqL.of el6,fun t2 ht2=>?_⟩⟩
    have ep7:=(upd_ne (o:=HO.tup ((tieK (prevL x i) (con (x.getD i 0))).map kV)) (ne_of_none ep6 ht2)).trans ep6
    refine ⟨p,_,rfl,DPut.t ep7 upd_same (small1000 ?_),_,_,rfl,(s6.upd' ht2).upd hp,?_⟩
    ·have h1:=Dk_len (tiesR (rs.take j)++(tiesW x).take i)
     rw [List.length_append,List.length_take,tiesW_len] at h1
     omega
    ·rw [upd_same,tiesW_take hi,← List.append_assoc,Dk_snoc]
     rfl
   ·rintro _ H2 ⟨v3,v4,rfl,s2,e2⟩
    refine ⟨_,_,_,rfl,s2,?_⟩
    rw [e2,Int.toNat_natCast,List.take_of_length_le (l:=tiesW x) (by rw [tiesW_len];exact Nat.le_refl _),List.take_add_one,hx]
    rw [show tiesR (rs.take j++(some x).toList)=tiesR (rs.take j)++tiesW x from tiesR_snoc _ _]
  ·rintro _ H1 ⟨v2,v3,v4,rfl,s1,e1⟩
   rw [wds_len,List.take_length] at e1
   exact ⟨_,rfl,k p H1 hp s1 e1⟩
theorem ok_zz {f:Addr} {fd:FuncData} (D:Df K mg "_law_count" s_zz ["_law_rings","_law_letter"] f fd) (T:Txt P w K mg a_CONTRARIES a_LETTERS a_RANKS) (c_zm:Cl P w K mg base "_law_contrary" ["_law_letter"] 1 spCon):Cl P w K mg base "_law_count" ["_law_rings","_law_letter"] 2 (spCount K):=by
 obtain ⟨f_zm,fd_zm,G_zm,m_zm,k_zm,b_zm⟩:=c_zm
 refine D.cl (D.F.ok sc_zz (fun vs H Q E h=>?_) (fun cdv A outer s H vs Q E hr h=>?_))
 ·obtain ⟨a,rs,c,rfl,_⟩:=h
  rfl
 ·obtain ⟨a,rs,c,rfl,hq,hlen,hc,k⟩:=h
  refine ⟨_,(pss_one (ps_ret (pe_callB (call_sumK (K:=K) rfl rfl) (by rfl) T.b_sum boot_sum (pa_cons (pe_compc (sc0:=defScope s_zz) (N:=["_law_rings","_law_letter"]) (ix:=[1]) (by decide +kernel) rfl rfl rfl (pi_tupK (K:=K) rfl (pv 0)) (fun _ _ _=>pifs_nil) (fun _ _ _=>(pe_op op_add (pe_bmK (K:=K) rfl PySem.F.plainAttrs_str PySem.F.slot_str_count PySem.F.type_str_count mt_scount (pv 0) (pa_cons (pv 1) pa_nil)) (pe_bmK (K:=K) rfl PySem.F.plainAttrs_str PySem.F.slot_str_count PySem.F.type_str_count mt_scount (pv 0) (pa_cons (pe_call G_zm (hr.mono (by decide)) (by rfl) m_zm k_zm b_zm .nil pass0 (pa_cons (pv 1) pa_nil)) pa_nil))))) pa_nil)))),?_⟩
  refine ⟨_,rfl,a,rfl,⟨_,hq⟩,fun Dd hD=>comp_tupIf (K:=K) (a:=a) (xs:=wds rs) (fun i H1=>Same H H1∧H1 Dd=some (.lst (((rs.take i).map fun x=>cntS (S x) (S [c])+cntS (S x) (S [con c])).map V.int))) ⟨Same.new hD,upd_same⟩ (fun i H1 _ p=>L2.SqT.same p.1 hq) ?_ ?_⟩
  ·rintro i v H1 hv ⟨s1,e1⟩
   obtain ⟨x,hx,rfl⟩:=wds_get hv
   have hi:i<rs.length:=(List.getElem?_eq_some_iff.mp hx).1
   refine ⟨_,rfl,rfl,_,rfl,_,_,rfl,rfl,?_⟩
   refine ⟨_,rfl,rfl,_,rfl,c,rfl,hc,fun H2 s2=>⟨_,_,rfl,rfl,_,_,rfl,rfl,_,s2 _ _ e1,?_,(s1.trans s2).upd hD,?_⟩⟩
   ·rw [List.length_map,List.length_map,List.length_take];exact small1000 (by omega)
   ·rw [upd_same,List.take_add_one,hx,List.map_append,List.map_append];rfl
  ·rintro H1 ⟨s1,e1⟩
   rw [wds_len,List.take_length] at e1
   exact ⟨Dd,_,rfl,SqL.of e1,k H1 s1⟩
theorem ok_zn {f:Addr} {fd:FuncData} (D:Df K mg "ties_leaving" s_zn ["ties","side"] f fd) (T:Txt P w K mg a_CONTRARIES a_LETTERS a_RANKS):Cl P w K mg base "ties_leaving" ["ties","side"] 1 spLeave:=by
 refine D.cl (D.F.ok sc_zn (fun vs H Q E h=>?_) (fun cdv A outer s H vs Q E hr h=>?_))
 ·obtain ⟨t,q,rs,sd,rfl,_⟩:=h
  rfl
 ·obtain ⟨t,q,rs,sd,rfl,et,eq,htot,k⟩:=h
  refine ⟨_,(pss_one (ps_ret (pe_callB (call_sumK (K:=K) rfl rfl) (by rfl) T.b_sum boot_sum (pa_cons (pe_thaw (H0:=H) rfl (pe_compc2 (sc0:=defScope s_zn) (N:=["ties","side"]) (ix:=[1]) (by decide +kernel) (K:=K) rfl rfl rfl rfl (pi_items (pv 0)) (fun _ _ _=>pifs_one (pt_cmpR op_ne (pe_cmpR (op_inK (K:=K) rfl) (pe_ix (ix_tupK (K:=K) rfl) (pv 0) pe_int (fun _ _=>rfl)) (pv 2) (by rfl)) (pe_cmpR (op_inK (K:=K) rfl) (pe_ix (ix_tupK (K:=K) rfl) (pv 0) pe_int (fun _ _=>rfl)) (pv 2) (by rfl)) (nomark _))) (fun _ _ _=>(pv 1)))) pa_nil)))),?_⟩
  refine ⟨_,rfl,t,_,rfl,.inl ⟨et,fun o Dd hD=>?_⟩⟩
  have hdl:=Dk_len (tiesR rs)
  have htl:=tiesR_len rs
  unfold totL at htot
  have htq:q≠t:=ne_of eq et (by intro z;cases z)
  have eF:upd H t (.frz o (.dT (Dk (tiesR rs)))) t=some (.frz o (.dT (Dk (tiesR rs)))):=upd_same
  have qF:upd H t (.frz o (.dT (Dk (tiesR rs)))) q=some (.tup (lstC sd)):=by rw [upd_ne htq];exact eq
  have sF:∀ b u,b≠t→H b=some u→upd H t (.frz o (.dT (Dk (tiesR rs)))) b=some u:=fun b u hb hu=>by rw [upd_ne hb];exact hu
  generalize upd H t (.frz o (.dT (Dk (tiesR rs))))=HF at eF qF sF hD
  have hDt:Dd≠t:=(ne_of_none eF hD).symm
  refine comp2_items (K:=K) (fun i H1=>Same HF H1∧H1 Dd=some (.lst (((((Dk (tiesR rs)).take i).filter fun kv=>lvP sd kv.1).map fun kv=>valI kv.2).map V.int))) ⟨Same.new hD,upd_same⟩ (fun i H1 _ p=>p.1 _ _ eF) ?_ ?_
  ·rintro i key v p q2 H1 hk hp hq2 ⟨s1,e1⟩
   have hi:i<(Dk (tiesR rs)).length:=(List.getElem?_eq_some_iff.mp hk).1
   have hmem:=List.mem_of_getElem? hk
   obtain ⟨hv,hin⟩:=Dk_mem hmem
   obtain ⟨c1,c2,ek0⟩:=tie_pair hin
   obtain ⟨u1,u2,eu⟩:=tie_two c1 c2
   have ekk:key=[lk u1,lk u2]:=by rw [show key=tieK c1 c2 from ek0,eu]
   have hv:v=.int ((ctK (tiesR rs) key:Nat):Int):=hv
   subst hv
   have ht:((Dk (tiesR rs)).take (i+1)).filter (fun kv=>lvP sd kv.1)=((Dk (tiesR rs)).take i).filter (fun kv=>lvP sd kv.1)++(if lvP sd key then [(key,V.int ((ctK (tiesR rs) key:Nat):Int))] else []):=take_succ_filterG (fun kv=>lvP sd kv.1) (Dk (tiesR rs)) i _ hk
   have s2:Same HF (upd H1 p (.tup [.ref q2,.int ((ctK (tiesR rs) key:Nat):Int)])):=s1.upd' hp
   have q2':upd H1 p (.tup [.ref q2,.int ((ctK (tiesR rs) key:Nat):Int)]) q2=some (.tup [.str (S [u1]),.str (S [u2])]):=by
    rw [upd_ne (ne_of_none hq2 hp),hq2,ekk];rfl
   have e2:upd H1 p (.tup [.ref q2,.int ((ctK (tiesR rs) key:Nat):Int)]) Dd=_:=(upd_ne (ne_of_none e1 hp)).trans e1
   generalize upd H1 p (.tup [.ref q2,.int ((ctK (tiesR rs) key:Nat):Int)])=H2 at s2 q2' e2
   have fl1:(lstC sd).all flatV=true:=by
    rw [List.all_eq_true];intro z hz;obtain ⟨d,_,rfl⟩:=List.mem_map.mp hz;rfl
   refine ⟨_,rfl,q2,_,_,.str (S [u1]),rfl,rfl,SqT.of q2',rfl,_,rfl,q,_,rfl,.inr (SqT.of (s2 _ _ qF)),rfl,fl1,?_⟩
   refine ⟨_,rfl,q2,_,_,.str (S [u2]),rfl,rfl,SqT.of q2',rfl,_,rfl,q,_,rfl,.inr (SqT.of (s2 _ _ qF)),rfl,fl1,rfl,_,rfl,?_⟩
   rw [if_neg Bool.false_ne_true,if_neg Bool.false_ne_true]
   have el:(!decide (V.bl (inV (.str (S [u1])) (lstC sd))=V.bl (inV (.str (S [u2])) (lstC sd))))=lvP sd key:=by
    rw [ekk]
    show _=(inV (.str (S [u1])) (lstC sd) != inV (.str (S [u2])) (lstC sd))
    cases inV (.str (S [u1])) (lstC sd) <;> cases inV (.str (S [u2])) (lstC sd) <;> rfl
   rw [el]
   refine ite2 (fun z=>?_) (fun z=>?_)
   ·refine ⟨_,rfl,_,e2,?_,s2.upd hD,?_⟩
    ·rw [List.length_map,List.length_map]
     have q1:=List.length_filter_le (fun kv:KP×V=>lvP sd kv.1) ((Dk (tiesR rs)).take i)
     rw [List.length_take] at q1
     exact small1000 (by omega)
    ·rw [upd_same,ht,if_pos z,List.map_append,List.map_append];rfl
   ·refine ⟨s2,?_⟩
    rw [e2,ht,if_neg z,List.append_nil]
  ·rintro H1 ⟨s1,e1⟩
   rw [List.take_length] at e1
   have eF1:=s1 _ _ eF
   refine ⟨upd H1 t (.dT (Dk (tiesR rs))),.inr ⟨t,o,_,eF1,(fun o v c=>by rw [et] at c;cases c),rfl⟩,Dd,_,rfl,SqL.of (by rw [upd_ne hDt];exact e1),?_⟩
   refine k _ fun b u hu=>?_
   by_cases hb:b=t
   ·subst hb
    rw [et] at hu
    cases hu
    exact upd_same
   ·rw [upd_ne hb];exact s1 _ _ (sF b u hb hu)
theorem ok_zp {f:Addr} {fd:FuncData} (D:Df K mg "_law_leaving" s_zp ["_law_ties_here","_law_side"] f fd) (T:Txt P w K mg a_CONTRARIES a_LETTERS a_RANKS):Cl P w K mg base "_law_leaving" ["_law_ties_here","_law_side"] 1 spLeave:=by
 refine D.cl (D.F.ok sc_zp (fun vs H Q E h=>?_) (fun cdv A outer s H vs Q E hr h=>?_))
 ·obtain ⟨t,q,rs,sd,rfl,_⟩:=h
  rfl
 ·obtain ⟨t,q,rs,sd,rfl,et,eq,htot,k⟩:=h
  refine ⟨_,(pss_one (ps_ret (pe_callB (call_sumK (K:=K) rfl rfl) (by rfl) T.b_sum boot_sum (pa_cons (pe_thaw (H0:=H) rfl (pe_compc (sc0:=defScope s_zp) (N:=["_law_ties_here","_law_side"]) (ix:=[0,1]) (by decide +kernel) rfl rfl rfl (pi_dictK (pv 0)) (fun _ _ _=>pifs_one (pt_cmpR op_ne (pe_cmpR (op_inK (K:=K) rfl) (pe_ix (ix_tupK (K:=K) rfl) (pv 0) pe_int (fun _ _=>rfl)) (pv 2) (by rfl)) (pe_cmpR (op_inK (K:=K) rfl) (pe_ix (ix_tupK (K:=K) rfl) (pv 0) pe_int (fun _ _=>rfl)) (pv 2) (by rfl)) (nomark _))) (fun _ _ _=>(pe_dget (Nat.lt_of_le_of_lt (Nat.add_le_add_left (by decide:1≤64) _) hr.units) (pv 1) (pv 0) (fun _ _=>rfl))))) pa_nil)))),?_⟩
  refine ⟨_,rfl,t,_,rfl,.inl ⟨et,fun o Dd hD=>?_⟩⟩
  have hdl:=Dk_len (tiesR rs)
  have htl:=tiesR_len rs
  unfold totL at htot
  have htq:q≠t:=ne_of eq et (by intro z;cases z)
  have eF:upd H t (.frz o (.dT (Dk (tiesR rs)))) t=some (.frz o (.dT (Dk (tiesR rs)))):=upd_same
  have qF:upd H t (.frz o (.dT (Dk (tiesR rs)))) q=some (.tup (lstC sd)):=by rw [upd_ne htq];exact eq
  have sF:∀ b u,b≠t→H b=some u→upd H t (.frz o (.dT (Dk (tiesR rs)))) b=some u:=fun b u hb hu=>by rw [upd_ne hb];exact hu
  generalize upd H t (.frz o (.dT (Dk (tiesR rs))))=HF at eF qF sF hD
  have hDt:Dd≠t:=(ne_of_none eF hD).symm
  refine comp_keyIf (fun i H1=>Same HF H1∧H1 Dd=some (.lst (((((Dk (tiesR rs)).take i).filter fun kv=>lvP sd kv.1).map fun kv=>valI kv.2).map V.int))) ⟨Same.new hD,upd_same⟩ (fun i H1 _ p=>p.1 _ _ eF) ?_ ?_
  ·rintro i key v q2 H1 hk hq2 ⟨s1,e1⟩
   have hi:i<(Dk (tiesR rs)).length:=(List.getElem?_eq_some_iff.mp hk).1
   have hmem:=List.mem_of_getElem? hk
   obtain ⟨hv,hin⟩:=Dk_mem hmem
   obtain ⟨c1,c2,ek0⟩:=tie_pair hin
   obtain ⟨u1,u2,eu⟩:=tie_two c1 c2
   have ekk:key=[lk u1,lk u2]:=by rw [show key=tieK c1 c2 from ek0,eu]
   have hv:v=.int ((ctK (tiesR rs) key:Nat):Int):=hv
   subst hv
   have hv1:valV (Dk (tiesR rs)) key=some (.int ((ctK (tiesR rs) key:Nat):Int)):=val_mem (Dk_nd _) hmem
   have ht:((Dk (tiesR rs)).take (i+1)).filter (fun kv=>lvP sd kv.1)=((Dk (tiesR rs)).take i).filter (fun kv=>lvP sd kv.1)++(if lvP sd key then [(key,V.int ((ctK (tiesR rs) key:Nat):Int))] else []):=take_succ_filterG (fun kv=>lvP sd kv.1) (Dk (tiesR rs)) i _ hk
   have q2':H1 q2=some (.tup [.str (S [u1]),.str (S [u2])]):=by rw [hq2,ekk];rfl
   have fl1:(lstC sd).all flatV=true:=by
    rw [List.all_eq_true];intro z hz;obtain ⟨d,_,rfl⟩:=List.mem_map.mp hz;rfl
   refine ⟨_,rfl,q2,_,_,.str (S [u1]),rfl,rfl,SqT.of q2',rfl,_,rfl,q,_,rfl,.inr (SqT.of (s1 _ _ qF)),rfl,fl1,?_⟩
   refine ⟨_,rfl,q2,_,_,.str (S [u2]),rfl,rfl,SqT.of q2',rfl,_,rfl,q,_,rfl,.inr (SqT.of (s1 _ _ qF)),rfl,fl1,rfl,_,rfl,?_⟩
   rw [if_neg Bool.false_ne_true,if_neg Bool.false_ne_true]
   have el:(!decide (V.bl (inV (.str (S [u1])) (lstC sd))=V.bl (inV (.str (S [u2])) (lstC sd))))=lvP sd key:=by
    rw [ekk]
    show _=(inV (.str (S [u1])) (lstC sd) != inV (.str (S [u2])) (lstC sd))
    cases inV (.str (S [u1])) (lstC sd) <;> cases inV (.str (S [u2])) (lstC sd) <;> rfl
   rw [el]
   have g1:=DGet.f (s1 _ _ eF) hq2
   rw [hv1] at g1
   refine ite2 (fun z=>?_) (fun z=>?_)
   ·refine ⟨_,rfl,_,rfl,t,_,rfl,g1,_,e1,?_,s1.upd hD,?_⟩
    ·rw [List.length_map,List.length_map]
     have q1:=List.length_filter_le (fun kv:KP×V=>lvP sd kv.1) ((Dk (tiesR rs)).take i)
     rw [List.length_take] at q1
     exact small1000 (by omega)
    ·rw [upd_same,ht,if_pos z,List.map_append,List.map_append];rfl
   ·refine ⟨s1,?_⟩
    rw [e1,ht,if_neg z,List.append_nil]
  ·rintro H1 ⟨s1,e1⟩
   rw [List.take_length] at e1
   have eF1:=s1 _ _ eF
   refine ⟨upd H1 t (.dT (Dk (tiesR rs))),.inr ⟨t,o,_,eF1,(fun o v c=>by rw [et] at c;cases c),rfl⟩,Dd,_,rfl,SqL.of (by rw [upd_ne hDt];exact e1),?_⟩
   refine k _ fun b u hu=>?_
   by_cases hb:b=t
   ·subst hb
    rw [et] at hu
    cases hu
    exact upd_same
   ·rw [upd_ne hb];exact s1 _ _ (sF b u hb hu)
theorem ok_zt {f:Addr} {fd:FuncData} (D:Df K mg "letters_of" s_zt ["n"] f fd) (T:Txt P w K mg a_CONTRARIES a_LETTERS a_RANKS):Cl P w K mg base "letters_of" ["n"] 1 (spLetT K):=by
 refine D.cl (D.F.ok sc_zt (fun vs H Q E h=>?_) (fun cdv A outer s H vs Q E hr h=>?_))
 ·obtain ⟨n,rfl,_⟩:=h
  rfl
 ·obtain ⟨n,rfl,h1,h4,k⟩:=h
  refine ⟨_,(pss_one (ps_ret (pe_slice (sl_tupB (K:=K) rfl) (pe_glob (v:=.ref a_LETTERS) (by rfl) T.m_LETTERS rfl) po_none (po_some (pe_op op_mul pe_int (pv 0)))))),?_⟩
  refine ⟨_,rfl,_,_,rfl,rfl,.inl ⟨by decide,by decide⟩,_,rfl,a_LETTERS,letV,2 * n,rfl,T.t_LETTERS _,rfl,?_,?_,fun _ p hp=>?_,fun e=>?_⟩
  ·show some (2 * ((n:Nat):Int))=_;congr 1
  ·rw [letV_len];omega
  ·exact k p _ (Same.new hp) (by rw [← letV_take h1 h4];exact SqT.of upd_same)
  ·refine k _ _ (Same.refl H) ?_
   rw [← letV_take h1 h4,List.take_of_length_le (by omega)]
   exact T.t_LETTERS _
theorem ok_zu {f:Addr} {fd:FuncData} (D:Df K mg "sides_for" s_zu ["n","letter"] f fd) (T:Txt P w K mg a_CONTRARIES a_LETTERS a_RANKS) (c_zt:Cl P w K mg base "letters_of" ["n"] 1 (spLetT K)) (c_z4:Cl P w K mg base "contrary" ["letter"] 1 spCon):Cl P w K mg base "sides_for" ["n","letter"] 2 spSidesD:=by
 obtain ⟨f_zt,fd_zt,G_zt,m_zt,k_zt,b_zt⟩:=c_zt
 obtain ⟨f_z4,fd_z4,G_z4,m_z4,k_z4,b_z4⟩:=c_z4
 refine D.cl (D.F.ok sc_zu (fun vs H Q E h=>?_) (fun cdv A outer s H vs Q E hr h=>?_))
 ·obtain ⟨n,c,rfl,_⟩:=h
  rfl
 ·obtain ⟨n,c,rfl,n1,n4,hc,k⟩:=h
  refine ⟨_,(pss_cons (ps_set (i:=2) sc_zu.nd rfl (Or.inl rfl) (pe_lst (pa_cons (pe_tup pa_nil) pa_nil)))
   (pss_cons (ps_for PassesOwn.never rfl (pi_tupK (K:=K) rfl (pe_call G_zt (hr.mono (by decide)) (by rfl) m_zt k_zt b_zt .nil pass0 (pa_cons (pv 0) pa_nil))) (pg_name (i:=3) sc_zu.nd rfl (Or.inr rfl)) (pss_cons (ps_if (pt_cmpR op_eq (pv 3) (pe_call G_z4 (hr.mono (by decide)) (by rfl) m_z4 k_z4 b_z4 .nil pass0 (pa_cons (pv 1) pa_nil)) (nomark _)) (pss_one ps_continue) pss_nil)
   (pss_cons (ps_setcc (i:=4) (sc0:=defScope s_zu) (N:=["n","letter","sides","other","wider"]) (ix:=[3]) sc_zu.nd rfl rfl (by decide +kernel) rfl rfl rfl (pi_listK (K:=K) rfl (pv 2)) (fun _ _ _=>pifs_nil) (fun _ _ _=>(pe_op op_catD (pv 0) (pe_tup (pa_cons (pv 1) pa_nil)))))
   (pss_one (ps_set (i:=2) sc_zu.nd rfl (Or.inl rfl) (pe_ifExp (pt_cmpR op_eq (pv 3) (pv 1) (nomark _)) (pv 4) (pe_op op_cat (pv 2) (pv 4))))))))
   (pss_one (ps_ret (pv 2))))),?_⟩
  have hcL:=letsN_isL hc
  refine ⟨len_1000 (by simp),fun t0 ht0=>⟨len_1000 (by simp),fun l0 hl0=>?_⟩⟩
  have e0:=(upd_ne (o:=HO.lst [.ref t0]) (ne_of_none (upd_same (H:=H) (a:=t0) (o:=HO.tup [])) hl0)).trans (upd_same (H:=H) (a:=t0) (o:=HO.tup []))
  have s0:Same H (upd (upd H t0 (.tup [])) l0 (.lst [.ref t0])):=(Same.new ht0).upd' hl0
  have el0:upd (upd H t0 (.tup [])) l0 (.lst [.ref t0]) l0=some (.lst [.ref t0]):=upd_same
  generalize upd (upd H t0 (.tup [])) l0 (.lst [.ref t0])=H0 at e0 s0 el0
  refine ⟨_,rfl,n,rfl,n1,n4,fun p H1 s1 hq=>⟨p,rfl,⟨_,hq⟩,?_⟩⟩
  have hln:(letsN (n:Nat)).length=2 * n:=by have:=letsN_len (n:=(n:Nat)) (by omega) (by omega);omega
  refine for_tup (K:=K) (a:=p) (xs:=lstC (letsN (n:Nat))) (fun i σ H2=>∃ (l:Addr) (ps:List (Addr×List Nat)) (v3 v4:Option V),σ=[some (.int (n:Nat)),some (.str (S [c])),some (.ref l),v3,v4]∧Same H H2∧SqT K H2 p (lstC (letsN (n:Nat)))∧H2 l=some (.lst (ps.map fun p=>V.ref p.1))∧(∀ q∈ps,H2 q.1=some (.tup (lstC q.2)))∧ps.map (·.2)=sidesF c ((letsN (n:Nat)).take i)) ⟨l0,[(t0,[])],none,none,rfl,s0.trans s1,hq,s1 _ _ el0,?_,rfl⟩ (fun i σ H2 _ ⟨_,_,_,_,_,_,e,_⟩=>e) ?_ ?_
  ·intro q hq'
   rw [List.mem_singleton.mp hq']
   exact s1 _ _ e0
  ·rintro i v _ H2 hv ⟨l,ps,v3,v4,rfl,s2,q2,e2,hps,hF⟩
   obtain ⟨o,ho,rfl⟩:∃ o,(letsN (n:Nat))[i]?=some o∧v=.str (S [o]):=by
    unfold lstC at hv
    rw [List.getElem?_map] at hv
    cases hq:(letsN (n:Nat))[i]? with
    | none=>rw [hq] at hv;cases hv
    | some o=>rw [hq] at hv;exact ⟨o,rfl,(Option.some.inj hv).symm⟩
   have hi:i<2 * n:=by have:=(List.getElem?_eq_some_iff.mp ho).1;omega
   have tk:(letsN (n:Nat)).take (i+1)=(letsN (n:Nat)).take i++[o]:=take_snoc ho
   have hlen:=sidesF_len c i ((letsN (n:Nat)).take i) (by rw [List.length_take,hln];omega)
   rw [← hF,List.length_map] at hlen
   have h128:2 ^ i≤2 ^ 7:=Nat.pow_le_pow_right (by decide) (by omega)
   refine ⟨_,rfl,_,rfl,c,rfl,hcL,fun H3 s3=>⟨rfl,_,rfl,?_⟩⟩
   rw [VS_dec]
   refine ite2 (fun z=>?_) (fun z=>?_)
   ·have z':o=con c:=by simpa using of_decide_eq_true z
    refine ⟨l,ps,_,_,rfl,s2.trans s3,L2.SqT.same s3 q2,s3 _ _ e2,fun q hq=>s3 _ _ (hps q hq),?_⟩
    rw [hF,tk,sidesF_snoc]
    unfold stepS
    rw [if_pos z']
   ·have z':¬ o=con c:=fun e=>z (decide_eq_true (by rw [e]))
    have s23:=s2.trans s3
    have e3:=s3 _ _ e2
    have q3:=L2.SqT.same s3 q2
    have hps3:∀ q∈ps,H3 q.1=some (.tup (lstC q.2)):=fun q hq=>s3 _ _ (hps q hq)
    refine ⟨_,rfl,l,rfl,⟨_,SqL.of e3⟩,fun Dd hD=>?_⟩
    refine comp_listIf (K:=K) (a:=l) (xs:=ps.map fun p=>V.ref p.1) (fun j H4=>Same H3 H4∧∃ qs:List (Addr×List Nat),H4 Dd=some (.lst (qs.map fun p=>V.ref p.1))∧(∀ q∈qs,H4 q.1=some (.tup (lstC q.2)))∧qs.length=j∧qs.map (·.2)=((ps.map (·.2)).take j).map (·++[o])) ⟨Same.new hD,[],upd_same,fun q hq=>(nomatch hq),rfl,rfl⟩ (fun j H4 _ pr=>SqL.of (pr.1 _ _ e3)) ?_ ?_
    ·rintro j v H4 hv ⟨s4,qs,e4,hqs,hql,hqF⟩
     rw [List.getElem?_map] at hv
     obtain ⟨pr,hpr,rfl⟩:∃ pr,ps[j]?=some pr∧V.ref pr.1=v:=by
      cases hz:ps[j]? with
      | none=>rw [hz] at hv;cases hv
      | some pr=>rw [hz] at hv;exact ⟨pr,rfl,Option.some.inj hv⟩
     have hj:j<ps.length:=(List.getElem?_eq_some_iff.mp hpr).1
     have hpm:=List.mem_of_getElem? hpr
     have hsd:pr.2.length≤8:=by
      have hm:pr.2∈sidesF c ((letsN (n:Nat)).take i):=by rw [← hF];exact List.mem_map.mpr ⟨pr,hpm,rfl⟩
      have:=((mem_sides (con_ne hcL).symm _ _ rfl ((lets_nodup n1 n4).sublist (List.take_sublist _ _)) pr.2).mp hm).1.length_le
      rw [List.length_take,hln] at this
      omega
     refine ⟨_,rfl,_,rfl,len_1000 (by simp),fun t ht=>?_⟩
     have s5:Same H4 (upd H4 t (.tup [.str (S [o])])):=Same.new ht
     have e5:upd H4 t (.tup [.str (S [o])]) t=some (.tup (lstC [o])):=upd_same
     generalize upd H4 t (.tup [.str (S [o])])=H5 at s5 e5
     refine ⟨pr.1,t,_,_,rfl,rfl,s5 _ _ (s4 _ _ (hps3 pr hpm)),e5,by simp [lstC],?_,fun p' H6 t6 q6=>?_⟩
     ·rw [lstC_len,lstC_len];exact len_1000 (by simp;omega)
     have s6:=s5.trans t6
     have q6':H6 p'=some (.tup (lstC (pr.2++[o]))):=by rw [lstC_snoc];exact q6
     have e6:=s6 _ _ e4
     refine ⟨_,e6,?_,(s4.trans s6).upd hD,qs++[(p',pr.2++[o])],?_,?_,?_,?_⟩
     ·rw [List.length_map];exact small1000 (by omega)
     ·rw [upd_same,List.map_append];rfl
     ·intro q hq
      rcases List.mem_append.mp hq with z | z
      ·have w6:=s6 _ _ (hqs q z)
       exact (upd_ne (ne_of w6 e6 (by intro z;cases z))).trans w6
      ·rw [List.mem_singleton.mp z];exact (upd_ne (ne_of q6' e6 (by intro z;cases z))).trans q6'
     ·rw [List.length_append,hql];rfl
     ·rw [List.map_append,hqF,List.take_add_one,List.getElem?_map,hpr,List.map_append];rfl
    ·rintro H4 ⟨s4,qs,e4,hqs,hql,hqF⟩
     rw [List.length_map] at hql
     rw [List.take_of_length_le (by rw [List.length_map,List.length_map];exact Nat.le_refl _)] at hqF
     have s24:=s23.trans s4
     refine ⟨_,rfl,_,rfl,rfl,_,rfl,?_⟩
     rw [VS_dec]
     refine ite2 (fun y=>?_) (fun y=>?_)
     ·have y':o=c:=by simpa using of_decide_eq_true y
      refine ⟨_,rfl,Dd,qs,_,_,rfl,s24,L2.SqT.same s4 q3,e4,hqs,?_⟩
      rw [hqF,hF,tk,sidesF_snoc]
      unfold stepS
      rw [if_neg z',if_pos y']
     ·have y':¬ o=c:=fun e=>y (decide_eq_true (by rw [e]))
      refine ⟨_,rfl,_,rfl,l,Dd,_,_,rfl,rfl,s4 _ _ e3,e4,?_,fun L hL=>?_⟩
      ·rw [List.length_map,List.length_map,hql];exact len_1000 (by omega)
      refine ⟨L,ps++qs,_,_,rfl,s24.upd' hL,L2.SqT.same (s4.trans (Same.new hL)) q3,?_,?_,?_⟩
      ·rw [upd_same,List.map_append]
      ·intro q hq
       rcases List.mem_append.mp hq with z | z
       ·exact (s4.trans (Same.new hL)) _ _ (hps3 q z)
       ·exact (Same.new hL) _ _ (hqs q z)
      ·rw [List.map_append,hqF,hF,tk,sidesF_snoc]
       unfold stepS
       rw [if_neg z',if_neg y']
  ·rintro _ H2 ⟨l,ps,v3,v4,rfl,s2,q2,e2,hps,hF⟩
   rw [lstC_len,List.take_length] at hF
   exact ⟨_,rfl,k l ps H2 s2 e2 hps hF⟩
theorem ok_zy {f:Addr} {fd:FuncData} (D:Df K mg "_law_sides" s_zy ["_law_n","_law_letter"] f fd) (T:Txt P w K mg a_CONTRARIES a_LETTERS a_RANKS) (c_zr:Cl P w K mg base "_law_letters" ["_law_n"] 1 spLetters) (c_zm:Cl P w K mg base "_law_contrary" ["_law_letter"] 1 spCon):Cl P w K mg base "_law_sides" ["_law_n","_law_letter"] 2 spSidesD:=by
 obtain ⟨f_zr,fd_zr,G_zr,m_zr,k_zr,b_zr⟩:=c_zr
 obtain ⟨f_zm,fd_zm,G_zm,m_zm,k_zm,b_zm⟩:=c_zm
 refine D.cl (D.F.ok sc_zy (fun vs H Q E h=>?_) (fun cdv A outer s H vs Q E hr h=>?_))
 ·obtain ⟨n,c,rfl,_⟩:=h
  rfl
 ·obtain ⟨n,c,rfl,n1,n4,hc,k⟩:=h
  refine ⟨_,(pss_cons (ps_set (i:=2) sc_zy.nd rfl (Or.inl rfl) (pe_lst (pa_cons (pe_tup pa_nil) pa_nil)))
   (pss_cons (ps_for PassesOwn.never rfl (pi_listK (K:=K) rfl (pe_call G_zr (hr.mono (by decide)) (by rfl) m_zr k_zr b_zr .nil pass0 (pa_cons (pv 0) pa_nil))) (pg_name (i:=3) sc_zy.nd rfl (Or.inr rfl)) (pss_one (ps_if (pt_cmpR op_eq (pv 3) (pv 1) (nomark _)) (pss_one (ps_setcc (i:=2) (sc0:=defScope s_zy) (N:=["_law_n","_law_letter","_law_found","_law_other"]) (ix:=[3]) sc_zy.nd rfl rfl (by decide +kernel) rfl rfl rfl (pi_listK (K:=K) rfl (pv 2)) (fun _ _ _=>pifs_nil) (fun _ _ _=>(pe_op op_catD (pv 0) (pe_tup (pa_cons (pv 1) pa_nil)))))) (pss_one (ps_if (pt_cmpR op_ne (pv 3) (pe_call G_zm (hr.mono (by decide)) (by rfl) m_zm k_zm b_zm .nil pass0 (pa_cons (pv 1) pa_nil)) (nomark _)) (pss_one (ps_set (i:=2) sc_zy.nd rfl (Or.inl rfl) (pe_op op_cat (pv 2) (pe_compc (sc0:=defScope s_zy) (N:=["_law_n","_law_letter","_law_found","_law_other"]) (ix:=[3]) (by decide +kernel) rfl rfl rfl (pi_listK (K:=K) rfl (pv 2)) (fun _ _ _=>pifs_nil) (fun _ _ _=>(pe_op op_catD (pv 0) (pe_tup (pa_cons (pv 1) pa_nil)))))))) pss_nil)))))
   (pss_one (ps_ret (pv 2))))),?_⟩
  have hcL:=letsN_isL hc
  refine ⟨len_1000 (by simp),fun t0 ht0=>⟨len_1000 (by simp),fun l0 hl0=>?_⟩⟩
  have e0:=(upd_ne (o:=HO.lst [.ref t0]) (ne_of_none (upd_same (H:=H) (a:=t0) (o:=HO.tup [])) hl0)).trans (upd_same (H:=H) (a:=t0) (o:=HO.tup []))
  have s0:Same H (upd (upd H t0 (.tup [])) l0 (.lst [.ref t0])):=(Same.new ht0).upd' hl0
  have el0:upd (upd H t0 (.tup [])) l0 (.lst [.ref t0]) l0=some (.lst [.ref t0]):=upd_same
  generalize upd (upd H t0 (.tup [])) l0 (.lst [.ref t0])=H0 at e0 s0 el0
  have i1:(1:Int)≤(n:Nat):=by omega
  have i4:((n:Nat):Int)≤4:=by omega
  refine ⟨_,rfl,(n:Nat),rfl,i1,i4,fun p H1 hp1 s1 e1=>⟨p,rfl,⟨_,SqL.of e1⟩,?_⟩⟩
  have hln:(letsN (n:Nat)).length=2 * n:=by have:=letsN_len (n:=(n:Nat)) (by omega) (by omega);omega
  refine for_list (K:=K) (a:=p) (xs:=lstC (letsN (n:Nat))) (fun i σ H2=>∃ (l:Addr) (ps:List (Addr×List Nat)) (v3:Option V),σ=[some (.int (n:Nat)),some (.str (S [c])),some (.ref l),v3]∧Same H H2∧H2 p=some (.lst (lstC (letsN (n:Nat))))∧H2 l=some (.lst (ps.map fun p=>V.ref p.1))∧(∀ q∈ps,H2 q.1=some (.tup (lstC q.2)))∧ps.map (·.2)=sidesF c ((letsN (n:Nat)).take i)) ⟨l0,[(t0,[])],none,rfl,s0.trans s1,e1,s1 _ _ el0,?_,rfl⟩ (fun i σ H2 _ ⟨_,_,_,_,_,e,_⟩=>SqL.of e) ?_ ?_
  ·intro q hq'
   rw [List.mem_singleton.mp hq']
   exact s1 _ _ e0
  ·rintro i v _ H2 hv ⟨l,ps,v3,rfl,s2,q2,e2,hps,hF⟩
   obtain ⟨o,ho,rfl⟩:∃ o,(letsN (n:Nat))[i]?=some o∧v=.str (S [o]):=by
    unfold lstC at hv
    rw [List.getElem?_map] at hv
    cases hq:(letsN (n:Nat))[i]? with
    | none=>rw [hq] at hv;cases hv
    | some o=>rw [hq] at hv;exact ⟨o,rfl,(Option.some.inj hv).symm⟩
   have hi:i<2 * n:=by have:=(List.getElem?_eq_some_iff.mp ho).1;omega
   have tk:(letsN (n:Nat)).take (i+1)=(letsN (n:Nat)).take i++[o]:=take_snoc ho
   have hlen:=sidesF_len c i ((letsN (n:Nat)).take i) (by rw [List.length_take,hln];omega)
   rw [← hF,List.length_map] at hlen
   have h128:2 ^ i≤2 ^ 7:=Nat.pow_le_pow_right (by decide) (by omega)
   refine ⟨_,rfl,_,rfl,rfl,_,rfl,?_⟩
   rw [VS_dec]
   refine ite2 (fun z=>?_) (fun z=>?_)
   ·have z':o=c:=by simpa using of_decide_eq_true z
    have zc:¬ o=con c:=fun e=>(con_ne hcL) (e.symm.trans z')
    refine ⟨_,rfl,l,rfl,⟨_,SqL.of e2⟩,fun Dd hD=>?_⟩
    refine comp_listIf (K:=K) (a:=l) (xs:=ps.map fun p=>V.ref p.1) (fun j H4=>Same H2 H4∧∃ qs:List (Addr×List Nat),H4 Dd=some (.lst (qs.map fun p=>V.ref p.1))∧(∀ q∈qs,H4 q.1=some (.tup (lstC q.2)))∧qs.length=j∧qs.map (·.2)=((ps.map (·.2)).take j).map (·++[o])) ⟨Same.new hD,[],upd_same,fun q hq=>(nomatch hq),rfl,rfl⟩ (fun j H4 _ pr=>SqL.of (pr.1 _ _ e2)) ?_ ?_
    ·rintro j v H4 hv ⟨s4,qs,e4,hqs,hql,hqF⟩
     rw [List.getElem?_map] at hv
     obtain ⟨pr,hpr,rfl⟩:∃ pr,ps[j]?=some pr∧V.ref pr.1=v:=by
      cases hz:ps[j]? with
      | none=>rw [hz] at hv;cases hv
      | some pr=>rw [hz] at hv;exact ⟨pr,rfl,Option.some.inj hv⟩
     have hj:j<ps.length:=(List.getElem?_eq_some_iff.mp hpr).1
     have hpm:=List.mem_of_getElem? hpr
     have hsd:pr.2.length≤8:=by
      have hm:pr.2∈sidesF c ((letsN (n:Nat)).take i):=by rw [← hF];exact List.mem_map.mpr ⟨pr,hpm,rfl⟩
      have:=((mem_sides (con_ne hcL).symm _ _ rfl ((lets_nodup n1 n4).sublist (List.take_sublist _ _)) pr.2).mp hm).1.length_le
      rw [List.length_take,hln] at this
      omega
     refine ⟨_,rfl,_,rfl,len_1000 (by simp),fun t ht=>?_⟩
     have s5:Same H4 (upd H4 t (.tup [.str (S [o])])):=Same.new ht
     have e5:upd H4 t (.tup [.str (S [o])]) t=some (.tup (lstC [o])):=upd_same
     generalize upd H4 t (.tup [.str (S [o])])=H5 at s5 e5
     refine ⟨pr.1,t,_,_,rfl,rfl,s5 _ _ (s4 _ _ (hps pr hpm)),e5,by simp [lstC],?_,fun p' H6 t6 q6=>?_⟩
     ·rw [lstC_len,lstC_len];exact len_1000 (by simp;omega)
     have s6:=s5.trans t6
     have q6':H6 p'=some (.tup (lstC (pr.2++[o]))):=by rw [lstC_snoc];exact q6
     have e6:=s6 _ _ e4
     refine ⟨_,e6,?_,(s4.trans s6).upd hD,qs++[(p',pr.2++[o])],?_,?_,?_,?_⟩
     ·rw [List.length_map];exact small1000 (by omega)
     ·rw [upd_same,List.map_append];rfl
     ·intro q hq
      rcases List.mem_append.mp hq with z | z
      ·have w6:=s6 _ _ (hqs q z)
       exact (upd_ne (ne_of w6 e6 (by intro z;cases z))).trans w6
      ·rw [List.mem_singleton.mp z];exact (upd_ne (ne_of q6' e6 (by intro z;cases z))).trans q6'
     ·rw [List.length_append,hql];rfl
     ·rw [List.map_append,hqF,List.take_add_one,List.getElem?_map,hpr,List.map_append];rfl
    ·rintro H4 ⟨s4,qs,e4,hqs,hql,hqF⟩
     rw [List.length_map] at hql
     rw [List.take_of_length_le (by rw [List.length_map,List.length_map];exact Nat.le_refl _)] at hqF
     refine ⟨Dd,qs,_,rfl,s2.trans s4,s4 _ _ q2,e4,hqs,?_⟩
     rw [hqF,hF,tk,sidesF_snoc]
     unfold stepS
     rw [if_neg zc,if_pos z']
   ·have z':¬ o=c:=fun e=>z (decide_eq_true (by rw [e]))
    refine ⟨_,rfl,_,rfl,c,rfl,hcL,fun H3 s3=>⟨rfl,_,rfl,?_⟩⟩
    rw [VS_dec]
    have e3:=s3 _ _ e2
    have hps3:∀ q∈ps,H3 q.1=some (.tup (lstC q.2)):=fun q hq=>s3 _ _ (hps q hq)
    by_cases hoc:[o]=[con c]
    ·have zc:o=con c:=by simpa using hoc
     rw [decide_eq_true hoc]
     refine iteF ⟨l,ps,_,rfl,s2.trans s3,s3 _ _ q2,e3,hps3,?_⟩
     rw [hF,tk,sidesF_snoc]
     unfold stepS
     rw [if_pos zc]
    ·have zc:¬ o=con c:=fun e=>hoc (by rw [e])
     rw [decide_eq_false hoc]
     refine iteT ?_
     refine ⟨_,rfl,_,rfl,l,rfl,⟨_,SqL.of e3⟩,fun Dd hD=>?_⟩
     refine comp_listIf (K:=K) (a:=l) (xs:=ps.map fun p=>V.ref p.1) (fun j H4=>Same H3 H4∧∃ qs:List (Addr×List Nat),H4 Dd=some (.lst (qs.map fun p=>V.ref p.1))∧(∀ q∈qs,H4 q.1=some (.tup (lstC q.2)))∧qs.length=j∧qs.map (·.2)=((ps.map (·.2)).take j).map (·++[o])) ⟨Same.new hD,[],upd_same,fun q hq=>(nomatch hq),rfl,rfl⟩ (fun j H4 _ pr=>SqL.of (pr.1 _ _ e3)) ?_ ?_
     ·rintro j v H4 hv ⟨s4,qs,e4,hqs,hql,hqF⟩
      rw [List.getElem?_map] at hv
      obtain ⟨pr,hpr,rfl⟩:∃ pr,ps[j]?=some pr∧V.ref pr.1=v:=by
       cases hz:ps[j]? with
       | none=>rw [hz] at hv;cases hv
       | some pr=>rw [hz] at hv;exact ⟨pr,rfl,Option.some.inj hv⟩
      have hj:j<ps.length:=(List.getElem?_eq_some_iff.mp hpr).1
      have hpm:=List.mem_of_getElem? hpr
      have hsd:pr.2.length≤8:=by
       have hm:pr.2∈sidesF c ((letsN (n:Nat)).take i):=by rw [← hF];exact List.mem_map.mpr ⟨pr,hpm,rfl⟩
       have:=((mem_sides (con_ne hcL).symm _ _ rfl ((lets_nodup n1 n4).sublist (List.take_sublist _ _)) pr.2).mp hm).1.length_le
       rw [List.length_take,hln] at this
       omega
      refine ⟨_,rfl,_,rfl,len_1000 (by simp),fun t ht=>?_⟩
      have s5:Same H4 (upd H4 t (.tup [.str (S [o])])):=Same.new ht
      have e5:upd H4 t (.tup [.str (S [o])]) t=some (.tup (lstC [o])):=upd_same
      generalize upd H4 t (.tup [.str (S [o])])=H5 at s5 e5
      refine ⟨pr.1,t,_,_,rfl,rfl,s5 _ _ (s4 _ _ (hps3 pr hpm)),e5,by simp [lstC],?_,fun p' H6 t6 q6=>?_⟩
      ·rw [lstC_len,lstC_len];exact len_1000 (by simp;omega)
      have s6:=s5.trans t6
      have q6':H6 p'=some (.tup (lstC (pr.2++[o]))):=by rw [lstC_snoc];exact q6
      have e6:=s6 _ _ e4
      refine ⟨_,e6,?_,(s4.trans s6).upd hD,qs++[(p',pr.2++[o])],?_,?_,?_,?_⟩
      ·rw [List.length_map];exact small1000 (by omega)
      ·rw [upd_same,List.map_append];rfl
      ·intro q hq
       rcases List.mem_append.mp hq with z | z
       ·have w6:=s6 _ _ (hqs q z)
        exact (upd_ne (ne_of w6 e6 (by intro z;cases z))).trans w6
       ·rw [List.mem_singleton.mp z];exact (upd_ne (ne_of q6' e6 (by intro z;cases z))).trans q6'
      ·rw [List.length_append,hql];rfl
      ·rw [List.map_append,hqF,List.take_add_one,List.getElem?_map,hpr,List.map_append];rfl
     ·rintro H4 ⟨s4,qs,e4,hqs,hql,hqF⟩
      rw [List.length_map] at hql
      rw [List.take_of_length_le (by rw [List.length_map,List.length_map];exact Nat.le_refl _)] at hqF
      refine ⟨l,Dd,_,_,rfl,rfl,s4 _ _ e3,e4,?_,fun L hL=>?_⟩
      ·rw [List.length_map,List.length_map,hql];exact len_1000 (by omega)
      refine ⟨L,ps++qs,_,rfl,((s2.trans s3).trans s4).upd' hL,(s4.trans (Same.new hL)) _ _ (s3 _ _ q2),?_,?_,?_⟩
      ·rw [upd_same,List.map_append]
      ·intro q hq
       rcases List.mem_append.mp hq with z | z
       ·exact (s4.trans (Same.new hL)) _ _ (hps3 q z)
       ·exact (Same.new hL) _ _ (hqs q z)
      ·rw [List.map_append,hqF,hF,tk,sidesF_snoc]
       unfold stepS
       rw [if_neg zc,if_neg z']
  ·rintro _ H2 ⟨l,ps,v3,rfl,s2,q2,e2,hps,hF⟩
   rw [lstC_len,List.take_length] at hF
   exact ⟨_,rfl,k l ps H2 s2 e2 hps hF⟩
theorem ok_ze {f:Addr} {fd:FuncData} (D:Df K mg "_law_least_side" s_ze ["_law_n","_law_ties_here","_law_letter"] f fd) (T:Txt P w K mg a_CONTRARIES a_LETTERS a_RANKS) {c0:Addr} (hM:MkOf K fd c0 P2) (hB:BM base mg) (c_zp:Cl P w K mg base "_law_leaving" ["_law_ties_here","_law_side"] 1 spLeave) (c_zy:Cl P w K mg base "_law_sides" ["_law_n","_law_letter"] 2 spSidesD):Cl P w K mg base "_law_least_side" ["_law_n","_law_ties_here","_law_letter"] 4 (spLeastT (tbs P1 P2)):=by
 obtain ⟨f_zp,fd_zp,G_zp,m_zp,k_zp,b_zp⟩:=c_zp
 obtain ⟨f_zy,fd_zy,G_zy,m_zy,k_zy,b_zy⟩:=c_zy
 refine D.cl (D.F.okM sc_ze (fun vs H Q E h=>?_) (fun cdv A outer s H vs Q E hcv hr h=>?_))
 ·obtain ⟨n,td,rs,c,rfl,_⟩:=h
  rfl
 ·obtain ⟨n,td,rs,c,rfl,n1,n4,hc,et,htot,hT,k⟩:=h
  refine ⟨_,(pss_one (ps_ret (pe_minLamK (K:=K) (k:=1) (sc0:=defScope s_ze) (N:=["_law_n","_law_ties_here","_law_letter"]) (ix:=[1]) rfl ⟨hcv.symm.trans hM.1,hM.2,hB⟩ (by decide +kernel) rfl rfl rfl rfl (hr.mono (by decide)) (op_ltI1 hr) rfl (by rfl) T.b_min (pa_cons (pe_call G_zy (hr.mono (by decide)) (by rfl) m_zy k_zy b_zy .nil pass0 (pa_cons (pv 0) (pa_cons (pv 2) pa_nil))) pa_nil) (fun _ _ _ _=>(pe_tup (pa_cons (pe_call G_zp (((hr.mono (by decide)).in1).deeper _) (by rfl) m_zp k_zp b_zp .nil pass0 (pa_cons (pv 1) (pa_cons (pv 0) pa_nil))) (pa_cons (pe_callB (call_lenK (K:=K) rfl) (by rfl) T.b_len PySem.boot_len (pa_cons (pv 0) pa_nil)) pa_nil)))) (fun _ _ _ _ _=>rfl) rfl))),?_⟩
  refine ⟨_,rfl,_,rfl,n,c,rfl,n1,n4,hc,fun l ps H1 s1 el hps hF=>?_⟩
  have sT:SameT (tbs P1 P2) H H1:=.of s1
  have hne:ps≠[]:=fun z=>sidesL_ne n c (by rw [← hF,z];rfl)
  refine read_min (t:=lamTb P2 "_law_least_side" s_ze) (ts:=tbs P1 P2) (f:=lsKey rs) (by simp [tbs]) (sT.tabs hT) el hne (fun H' p Q hp s2 kk=>?_) (fun p H' hp hm s2=>k p.1 H' (sT.trans s2) ?_)
  ·refine ⟨_,rfl,_,rfl,td,p.1,rs,p.2,rfl,SameT.dT (sT.trans s2) et,s2.tup (hps p hp),htot,fun H3 s3=>?_⟩
   refine ⟨_,rfl,p.1,_,rfl,.inr (SqT.of (s3 _ _ (s2.tup (hps p hp)))),len_1000 (by simp),fun u hu=>kk u _ (s3.upd' hu) ?_⟩
   rw [upd_same,lstC_len]
   rfl
  ·have:=s2.tup (hps p hp)
   rw [hm,hF] at this
   exact this
theorem ok_zq {f:Addr} {fd:FuncData} (D:Df K mg "_law_shorter" s_zq ["_law_n","_law_rings"] f fd) (T:Txt P w K mg a_CONTRARIES a_LETTERS a_RANKS) (c_z2:Cl P w K mg base "_law_ties" ["_law_rings"] 4 (spTies K)) (c_zz:Cl P w K mg base "_law_count" ["_law_rings","_law_letter"] 2 (spCount K)) (c_zp:Cl P w K mg base "_law_leaving" ["_law_ties_here","_law_side"] 1 spLeave) (c_ze:Cl P w K mg base "_law_least_side" ["_law_n","_law_ties_here","_law_letter"] 4 (spLeastT (tbs P1 P2))):Cl P w K mg base "_law_shorter" ["_law_n","_law_rings"] 5 (spShort K (tbs P1 P2)):=by
 obtain ⟨f_z2,fd_z2,G_z2,m_z2,k_z2,b_z2⟩:=c_z2
 obtain ⟨f_zz,fd_zz,G_zz,m_zz,k_zz,b_zz⟩:=c_zz
 obtain ⟨f_zp,fd_zp,G_zp,m_zp,k_zp,b_zp⟩:=c_zp
 obtain ⟨f_ze,fd_ze,G_ze,m_ze,k_ze,b_ze⟩:=c_ze
 refine D.cl (D.F.ok sc_zq (fun vs H Q E h=>?_) (fun cdv A outer s H vs Q E hr h=>?_))
 ·obtain ⟨n,a,rs,rfl,_⟩:=h
  rfl
 ·obtain ⟨n,a,rs,rfl,ha,n1,n4,hrl,hall,htot,hT,kN,kS⟩:=h
  refine ⟨_,(pss_cons (ps_set (i:=2) sc_zq.nd rfl (Or.inl rfl) (pe_call G_z2 (hr.mono (by decide)) (by rfl) m_z2 k_z2 b_z2 .nil pass0 (pa_cons (pv 1) pa_nil)))
   (pss_cons (ps_for PassesOwn.never rfl (pi_str (pe_slice sl_str pe_str po_none (po_some (pv 0)))) (pg_name (i:=3) sc_zq.nd rfl (Or.inl rfl)) (pss_cons (ps_set (i:=4) sc_zq.nd rfl (Or.inl rfl) (pe_call G_ze (hr.mono (by decide)) (by rfl) m_ze k_ze b_ze .nil pass0 (pa_cons (pv 0) (pa_cons (pv 2) (pa_cons (pv 3) pa_nil)))))
   (pss_one (ps_if (pt_cmpR op_lt (pe_call G_zp (hr.mono (by decide)) (by rfl) m_zp k_zp b_zp .nil pass0 (pa_cons (pv 2) (pa_cons (pv 4) pa_nil))) (pe_call G_zz (hr.mono (by decide)) (by rfl) m_zz k_zz b_zz .nil pass0 (pa_cons (pv 1) (pa_cons (pv 3) pa_nil))) (nomark _)) (pss_one (ps_ret (pe_tup (pa_cons (pv 3) (pa_cons (pv 4) pa_nil))))) pss_nil))))
   (pss_one (ps_ret pe_non)))),?_⟩
  refine ⟨_,rfl,a,rs,rfl,ha,hall,htot,fun td H2 htd s1 e1=>?_⟩
  have s12:SameT (tbs P1 P2) H H2:=.of s1
  refine ⟨_,rfl,_,rfl,_,rfl,by decide +kernel,S (lowN n),?_,?_⟩
  ·show V.str (Txt.slice (Str.ofString "abcd") none (some ((n:Nat):Int)))=_
   rw [abcd_S,slice_to _ (by omega) (by simp;omega)]
   rfl
  refine for_str (w:=lowN n) (fun i σ H3=>∃ v4 v5:Option V,σ=[some (.int (n:Nat)),some (.ref a),some (.ref td),v4,v5]∧SameT (tbs P1 P2) H2 H3∧∀ y∈(lowN n).take i,shoP n rs y=false) ⟨none,none,rfl,.refl,fun y hy=>by simp at hy⟩ ?_ ?_
  ·rintro i c _ H3 hc ⟨v4,v5,rfl,s3,hno⟩
   have hcm:=List.mem_of_getElem? hc
   have hcl:=low_lets n1 n4 hcm
   have hcL:=letsN_isL hcl
   have s13:=s12.trans s3
   have et3:=SameT.dT s3 e1
   refine ⟨_,rfl,_,rfl,_,rfl,n,td,rs,c,rfl,n1,n4,hcl,et3,htot,s13.tabs hT,fun q H4 s4 e4=>?_⟩
   have s14:=s13.trans s4
   refine ⟨_,rfl,_,rfl,td,q,rs,lsd n rs c,rfl,SameT.dT s4 et3,e4,htot,fun H5 s5=>?_⟩
   refine ⟨_,rfl,_,rfl,a,rs,c,rfl,L2.SqT.same s5 (s14.sqT ha),hrl,hcL,fun H6 s6=>⟨_,_,rfl,rfl,_,rfl,?_⟩⟩
   have s46:SameT (tbs P1 P2) H4 H6:=.of (s5.trans s6)
   have el:decide (sumL (lsd n rs c) (Dk (tiesR rs))<cntR rs c)=shoP n rs c:=by
    unfold shoP fallO
    exact decide_eq_decide.mpr ⟨fun h=>by omega,fun h=>by omega⟩
   refine ite2 (fun z=>?_) (fun z=>?_)
   ·have e6:=s46.tup e4
    refine ⟨_,rfl,_,rfl,len_1000 (by simp),fun ch hch=>?_⟩
    exact kS c ch _ (find_take hc hno (el.symm.trans z)) (s14.trans (s46.trans (.of (Same.new hch)))) ⟨q,upd_same,(Same.new hch) _ _ e6⟩
   ·refine ⟨_,_,rfl,s3.trans (s4.trans s46),fun y hy=>?_⟩
    rw [take_snoc hc] at hy
    rcases List.mem_append.mp hy with w | w
    ·exact hno y w
    ·rw [List.mem_singleton.mp w,← el]
     exact Bool.eq_false_iff.mpr z
  ·rintro _ H3 ⟨v4,v5,rfl,s3,hno⟩
   refine kN (List.find?_eq_none.mpr fun y hy=>?_) _ (s12.trans s3)
   rw [hno y (by rw [List.take_length];exact hy)]
   simp
theorem ok_zw {f:Addr} {fd:FuncData} (D:Df K mg "_law_short" s_zw ["_law_n","_law_rings"] f fd) (T:Txt P w K mg a_CONTRARIES a_LETTERS a_RANKS) (c_zb:Cl P w K mg base "_law_rings_retold" ["_law_retelling","_law_rings"] 4 (spRingsX K)) (c_zd:Cl P w K mg base "_law_change_told" ["_law_n","_law_change"] 2 spChTold) (c_zq:Cl P w K mg base "_law_shorter" ["_law_n","_law_rings"] 5 (spShort K (tbs P1 P2))):Cl P w K mg base "_law_short" ["_law_n","_law_rings"] 6 (spShortM K (tbs P1 P2)):=by
 obtain ⟨f_zb,fd_zb,G_zb,m_zb,k_zb,b_zb⟩:=c_zb
 obtain ⟨f_zd,fd_zd,G_zd,m_zd,k_zd,b_zd⟩:=c_zd
 obtain ⟨f_zq,fd_zq,G_zq,m_zq,k_zq,b_zq⟩:=c_zq
 refine D.cl (D.F.ok sc_zw (fun vs H Q E h=>?_) (fun cdv A outer s H vs Q E hr h=>?_))
 ·obtain ⟨n,a,rs,rfl,_⟩:=h
  rfl
 ·obtain ⟨n,a,rs,rfl,ha,n1,n4,hrl,hrg,htot,hT,k⟩:=h
  refine ⟨_,(pss_cons (ps_set (i:=2) sc_zw.nd rfl (Or.inl rfl) (pe_lst pa_nil))
   (pss_mid (ps_set (i:=3) sc_zw.nd rfl (Or.inl rfl) (pe_call G_zq (hr.mono (by decide)) (by rfl) m_zq k_zq b_zq .nil pass0 (pa_cons (pv 0) (pa_cons (pv 1) pa_nil))))
   (pss_cons (ps_while PassesOwn.never (pt_cmpR op_notN (pv 3) pe_non (nomark _)) (pss_cons (ps_expr (pe_bmK (K:=K) rfl PySem.F.plainAttrs_list PySem.F.slot_list_append PySem.F.type_list_append mt_append (pv 2) (pa_cons (pv 3) pa_nil)))
   (pss_cons (ps_set (i:=1) sc_zw.nd rfl (Or.inl rfl) (pe_call G_zb (hr.mono (by decide)) (by rfl) m_zb k_zb b_zb .nil pass0 (pa_cons (pe_call G_zd (hr.mono (by decide)) (by rfl) m_zd k_zd b_zd .nil pass0 (pa_cons (pv 0) (pa_cons (pv 3) pa_nil))) (pa_cons (pv 1) pa_nil))))
   (pss_one (ps_set (i:=3) sc_zw.nd rfl (Or.inl rfl) (pe_call G_zq (hr.mono (by decide)) (by rfl) m_zq k_zq b_zq .nil pass0 (pa_cons (pv 0) (pa_cons (pv 1) pa_nil))))))))
   (pss_one (ps_ret (pe_tup (pa_cons (pv 2) (pa_cons (pv 1) pa_nil)))))))),?_⟩
  refine ⟨len_1000 (by simp),fun l hl=>?_⟩
  have s1:SameT (tbs P1 P2) H (upd H l (.lst [])):=.of (Same.new hl)
  have el:upd H l (.lst []) l=some (.lst (([]:List (Addr×Nat×List Nat)).map fun p=>V.ref p.1)):=upd_same
  generalize upd H l (.lst [])=H1 at s1 el
  have all900:∀ {qs:List (List Nat)},(∀ x∈qs,RgN n x)→∀ x∈qs,AllL x:=fun h x hx=>(h x hx).ofn.all
  refine ⟨fun σ H2=>∃ v:V,σ=[some (.int (n:Nat)),some (.ref a),some (.ref l),some v]∧SameT (tbs P1 P2) H1 H2∧ShW H2 n rs v,?_,?_⟩
  ·exact ⟨_,rfl,_,rfl,n,a,rs,rfl,s1.sqT ha,n1,n4,by omega,all900 hrg,by omega,s1.tabs hT,fun hn H2 s2=>⟨_,rfl,s2,.inl ⟨rfl,hn⟩⟩,fun c p H2 hs s2 ic=>⟨_,rfl,s2,.inr ⟨c,p,rfl,hs,ic⟩⟩⟩
  rintro _ H2 ⟨v,rfl,s2,hv⟩
  refine ⟨fun m σ H3=>∃ (z:Addr) (ps:List (Addr×Nat×List Nat)) (qs:List (List Nat)) (v:V),σ=[some (.int (n:Nat)),some (.ref z),some (.ref l),some v]∧LoopS K (tbs P1 P2) H l n rs m z ps qs H3∧ShW H3 n qs v,⟨totL rs,a,[],rs,v,rfl,⟨rfl,s1.trans s2,s2.lst el,(fun p hp=>nomatch hp),(s1.trans s2).sqT ha,rfl,hrg,by simp,fun _ _ h=>h⟩,hv⟩,?_⟩
  clear s2 hv
  rintro m _ H3 ⟨z,ps,qs,v,rfl,L,hv⟩
  refine ⟨_,rfl,rfl,_,rfl,?_⟩
  have hqt:=L.tot
  have hql:=L.len
  rcases hv with ⟨rfl,hn⟩ | ⟨c,p,rfl,hs,ic⟩
  ·refine iteF ?_
   refine ⟨_,rfl,_,rfl,len_1000 (by simp),fun o ho=>?_⟩
   have sN:Same H3 (upd H3 o (.tup [.ref l,.ref z])):=Same.new ho
   refine k o l _ hl (L.same.trans (.of sN)) ⟨z,ps,qs,upd_same,sN _ _ L.el,fun p hp=>(L.ch p hp).same sN,L2.SqT.same sN L.row,?_⟩
   have:=L.ext [] qs (.stop hn)
   rwa [List.append_nil] at this
  ·refine iteT ⟨fun σ' H'=>∃ m',m' < m∧∃ (z:Addr) (ps:List (Addr×Nat×List Nat)) (qs:List (List Nat)) (v:V),σ'=[some (.int (n:Nat)),some (.ref z),some (.ref l),some v]∧LoopS K (tbs P1 P2) H l n rs m' z ps qs H'∧ShW H' n qs v,fun _ _ h=>h,?_⟩
   have hcl:=sho_lets n1 n4 hs
   have hcL:=letsN_isL hcl
   have gs:=lsd_good n1 n4 hcl qs
   refine ⟨_,rfl,.inl ⟨rfl,_,SqL.of L.el⟩,_,rfl,l,_,_,rfl,rfl,L.el,by rw [List.length_map];exact small1000 (by omega),?_⟩
   obtain ⟨sP,tupP,rowP,elP,chP⟩:=L.put hl ic
   generalize upd H3 l (.lst ((ps.map fun p=>V.ref p.1)++[.ref p]))=H4 at sP tupP rowP elP chP
   have ic4:=chP (p,c,lsd n qs c) (by simp)
   refine ⟨_,rfl,_,rfl,n,p,c,lsd n qs c,rfl,n1,n4,ic4,hcL,fun d hd=>letsN_isL (gs.base.side d hd),fun u H4' hu s4 eu=>?_⟩
   have hrt:=chgR_rt (sd:=lsd n qs c) n4 hcL
   refine ⟨_,rfl,u,z,_,qs,n,rfl,SqT.of eu,L2.SqT.same s4 rowP,hrt,chgR_ofn n1 n4 gs.base.let',n1,n4,by omega,fun x hx=>⟨(L.rg x hx).ofn,L.le hx htot⟩,fun t qs' H5 ht s45 hrow hqs et=>?_⟩
   have s5:=s4.trans s45
   have hrg':∀ y∈qs',RgN n y:=fun y hy=>(hqs y hy).1
   have hfl:=fall_len n1 n4 hs L.rg hrow
   have hlm:=L.m
   have s5':SameT (tbs P1 P2) H H5:=sP.trans (.of s5)
   have fin:∀ H6,SameT (tbs P1 P2) H5 H6→LoopS K (tbs P1 P2) H l n rs (totL qs') t (ps++[(p,c,lsd n qs c)]) qs' H6:=fun H6 s6=>⟨rfl,s5'.trans s6,s6.lst (s5 _ _ elP),fun y hy=>IsChg.sameT ((chP y hy).same s5) s6,s6.sqT (SqT.of et),by rw [hrow.1];exact hql,hrg',by rw [List.length_append,List.length_singleton];omega,fun cs zs h=>by
    rw [List.map_append,List.append_assoc]
    exact L.ext _ _ (.step hs hrow hrg' h)⟩
   have hl':qs'.length=qs.length:=hrow.1
   exact ⟨_,rfl,_,rfl,n,t,qs',rfl,SqT.of et,n1,n4,by omega,all900 hrg',by omega,s5'.tabs hT,fun hn H6 s6=>⟨_,by rw [hlm];exact hfl,_,_,_,_,rfl,fin H6 s6,.inl ⟨rfl,hn⟩⟩,fun c p H6 hs s6 ic=>⟨_,by rw [hlm];exact hfl,_,_,_,_,rfl,fin H6 s6,.inr ⟨c,p,rfl,hs,ic⟩⟩⟩
theorem ok_zo {f:Addr} {fd:FuncData} (D:Df K mg "_law_exchange" s_zo ["_law_flow_here","_law_n"] f fd) (T:Txt P w K mg a_CONTRARIES a_LETTERS a_RANKS) (c_z6:Cl P w K mg base "_law_pick" ["_law_flow_here","_law_many"] 1 spPick):Cl P w K mg base "_law_exchange" ["_law_flow_here","_law_n"] 2 spExchP:=by
 obtain ⟨f_z6,fd_z6,G_z6,m_z6,k_z6,b_z6⟩:=c_z6
 refine D.cl (D.F.ok sc_zo (fun vs H Q E h=>?_) (fun cdv A outer s H vs Q E hr h=>?_))
 ·obtain ⟨fl,sc,n,rfl,_⟩:=h
  rfl
 ·obtain ⟨fl,sc,n,rfl,hf,h1,h4,k⟩:=h
  refine ⟨_,(pss_cons (ps_set (i:=2) sc_zo.nd rfl (Or.inl rfl) (pe_callTy (call_listStr rfl) (by rfl) T.b_list boot_list (pa_cons (pe_slice sl_str pe_str po_none (po_some (pv 1))) pa_nil)))
   (pss_cons (ps_set (i:=3) sc_zo.nd rfl (Or.inl rfl) (pe_lst pa_nil))
   (pss_cons (ps_for PassesOwn.never rfl (pi_range1 (by rfl) T.b_range (pa_cons (pv 1) pa_nil)) (pg_name (i:=4) sc_zo.nd rfl (Or.inl rfl)) (pss_cons (ps_set (i:=5) sc_zo.nd rfl (Or.inl rfl) (pe_bmK (K:=K) rfl PySem.F.plainAttrs_list PySem.F.slot_list_pop PySem.F.type_list_pop mt_popAt (pv 2) (pa_cons (pe_call G_z6 (hr.mono (by decide)) (by rfl) m_z6 k_z6 b_z6 .nil pass0 (pa_cons (pv 0) (pa_cons (pe_callB (call_lenK (K:=K) rfl) (by rfl) T.b_len PySem.boot_len (pa_cons (pv 2) pa_nil)) pa_nil))) pa_nil)))
   (pss_one (ps_expr (pe_bmK (K:=K) rfl PySem.F.plainAttrs_list PySem.F.slot_list_append PySem.F.type_list_append mt_append (pv 3) (pa_cons (pe_ix (ix_listK (K:=K) rfl) (pe_lst (pa_cons (pv 5) (pa_cons (pe_bm0K (K:=K) rfl PySem.F.plainAttrs_str PySem.F.slot_str_upper PySem.F.type_str_upper mt_upper (pv 5)) pa_nil))) (pe_call G_z6 (hr.mono (by decide)) (by rfl) m_z6 k_z6 b_z6 .nil pass0 (pa_cons (pv 0) (pa_cons pe_int pa_nil))) (fun _ _=>rfl)) pa_nil))))))
   (pss_one (ps_ret (pe_callTy (call_tupleK (K:=K) rfl) (by rfl) T.b_tuple boot_tuple (pa_cons (pv 3) pa_nil))))))),?_⟩
  refine ⟨_,rfl,_,rfl,_,rfl,by decide +kernel,lowN n,?_,?_,fun l hl=>?_⟩
  ·show [V.str (Txt.slice (Str.ofString "abcd") none (some ((n:Nat):Int)))]=_
   rw [abcd_S,slice_to _ (by omega) (by simp;omega)]
   rfl
  ·rw [lowN_len h4];omega
  refine ⟨len_1000 (by simp),fun fd hfd=>?_⟩
  have hlf:l≠fl:=hf.ne hl
  have hls:l≠sc:=hf.ne2 hl
  have hff:fd≠fl:=(hf.upd hl).ne hfd
  have hfs:fd≠sc:=(hf.upd hl).ne2 hfd
  have hld:l≠fd:=ne_of_none (upd_same (H:=H) (a:=l) (o:=HO.lst ((lowN n).map fun c=>V.str (S [c])))) hfd
  have hfd0:H fd=none:=by rw [upd_ne hld.symm] at hfd;exact hfd
  refine ⟨_,rfl,(n:Nat),rfl,by omega,by omega,for_range (lo:=0) (n:=((n:Nat):Int).toNat) (fun i σ H1=>∃ (v4 v5:Option V) (ls cs:List Nat),σ=[some (.ref fl),some (.int (n:Nat)),some (.ref l),some (.ref fd),v4,v5]∧IsFl H1 fl sc∧Kp fl H H1∧H1 l=some (.lst (lstC ls))∧H1 fd=some (.lst (wds (ones' cs)))∧(∀ d∈ls,d∈lowN n)∧ls.length+i=n∧cs.length=i∧(∀ c∈cs,c∈letsN (n:Nat))∧(cs.map lo++ls).Perm (lowN n)) ?_ ?_ ?_⟩
  ·refine ⟨none,none,lowN n,[],rfl,(hf.upd hl).upd hfd,((Kp.refl fl H).upd hl).upd hfd0,?_,upd_same,fun d hd=>hd,by rw [lowN_len h4];rfl,rfl,(fun x hx=>nomatch hx),List.Perm.refl _⟩
   rw [upd_ne hld,upd_same]
   rfl
  ·rintro i _ H1 hi ⟨v4,v5,ls,cs,rfl,f1,k1,el,ef,hls',hll,hsl,hst,hpm⟩
   have hpos:0<ls.length:=by omega
   refine ⟨_,rfl,.inl ⟨rfl,_,SqL.of el⟩,_,rfl,_,rfl,l,_,rfl,.inl (SqL.of el),fl,sc,_,rfl,f1,by rw [lstC_len];omega,by rw [lstC_len];omega,fun g H2 g0 g1 f2 k2=>?_⟩
   rw [lstC_len] at g1
   obtain ⟨d,hd⟩:∃ d,ls[g.toNat]?=some d:=⟨_,List.getElem?_eq_getElem (by omega)⟩
   have hdm:=hls' d (List.mem_of_getElem? hd)
   have hdL:=low_isL hdm
   have hdl:=low_low hdm
   have hdn:=low_lets h1 h4 hdm
   have el2:=k2 _ _ el hlf
   refine ⟨l,_,g,g.toNat,.str (S [d]),rfl,rfl,el2,by omega,by omega,?_,lstC_get hd,?_⟩
   ·rw [lstC_len]
    exact PySem.StrLaws.seqIndex_nonneg g0 (by omega)
   rw [lstC_erase]
   have hel:(ls.eraseIdx g.toNat).length=ls.length - 1:=by rw [List.length_eraseIdx,if_pos (by omega)]
   have hes:∀ d∈ls.eraseIdx g.toNat,d∈lowN n:=fun d hd=>hls' d (List.mem_of_mem_eraseIdx hd)
   have hpe:=erase_perm hd
   generalize ls.eraseIdx g.toNat=ls2 at hel hes hpe
   have f3:IsFl (upd H2 l (.lst (lstC ls2))) fl sc:=f2.set hlf hls
   have hl0:H l=none:=hl
   have k3:Kp fl H (upd H2 l (.lst (lstC ls2))):=(k1.trans k2).upd hl0
   have el3:upd H2 l (.lst (lstC ls2)) l=some (.lst (lstC ls2)):=upd_same
   have ef3:upd H2 l (.lst (lstC ls2)) fd=some (.lst (wds (ones' cs))):=by rw [upd_ne hld.symm];exact k2 _ _ ef hff
   generalize upd H2 l (.lst (lstC ls2))=H3 at f3 k3 el3 ef3
   refine ⟨_,rfl,.inl ⟨rfl,_,SqL.of ef3⟩,_,rfl,_,rfl,rfl,S [d],rfl,rfl,by rw [upper_S hdL hdl];exact short1 _,len_1000 (by simp),fun q hq=>?_⟩
   rw [upper_S hdL hdl]
   refine ⟨_,rfl,fl,sc,2,rfl,f3.upd hq,by decide,by decide,fun e H4 e0 e1 f4 k4=>?_⟩
   obtain ⟨x,hx,hxn,hxl⟩:∃ x,atI [V.str (S [d]),V.str (S [con d])] e=some (.str (S [x]))∧x∈letsN (n:Nat)∧lo x=d:=by
    have:e=0∨e=1:=by omega
    rcases this with rfl | rfl
    ·exact ⟨d,rfl,hdn,lo_low hdL hdl⟩
    ·exact ⟨con d,rfl,letsN_con (by omega) (by omega) hdn,lo_con hdL hdl⟩
   have hqf:q≠fl:=f3.ne hq
   have ef4:=k4 _ _ (show upd H3 q (.lst [.str (S [d]),.str (S [con d])]) fd=some (.lst (wds (ones' cs))) by rw [upd_ne (ne_of_none ef3 hq)];exact ef3) hff
   have el4:=k4 _ _ (show upd H3 q (.lst [.str (S [d]),.str (S [con d])]) l=some (.lst (lstC ls2)) by rw [upd_ne (ne_of_none el3 hq)];exact el3) hlf
   have eq4:=k4 _ _ (upd_same (H:=H3) (a:=q) (o:=HO.lst [.str (S [d]),.str (S [con d])])) hqf
   refine ⟨q,_,_,_,rfl,rfl,SqL.of eq4,hx,fd,_,_,rfl,rfl,ef4,by rw [wds_len];unfold ones';rw [List.length_map];exact small1000 (by omega),_,_,ls2,cs++[x],rfl,f4.set hff hfs,((k3.upd (k3.free hq hqf)).trans k4).upd hfd0,by rw [upd_ne hld];exact el4,?_,hes,by omega,by rw [List.length_append,hsl];rfl,fun y hy=>?_,?_⟩
   ·rw [upd_same];unfold wds ones';rw [List.map_append,List.map_append];rfl
   ·rcases List.mem_append.mp hy with z | z
    ·exact hst y z
    ·rw [List.mem_singleton.mp z];exact hxn
   ·rw [List.map_append,List.append_assoc]
    show (cs.map lo++(lo x::ls2)).Perm _
    rw [hxl]
    exact (hpe.append_left _).trans hpm
  ·rintro _ H1 ⟨v4,v5,ls,cs,rfl,f1,k1,el,ef,hls',hll,hsl,hst,hpm⟩
   rw [Int.toNat_natCast] at hsl
   have hls0:ls=[]:=List.length_eq_zero_iff.mp (by have:ls.length+((n:Nat):Int).toNat=n:=hll;rw [Int.toNat_natCast] at this;omega)
   subst hls0
   rw [List.append_nil] at hpm
   refine ⟨_,rfl,fd,_,rfl,.inl ⟨SqL.of ef,fun p hp=>k p cs _ (k1.free hp (f1.ne hp)) ⟨hsl,hst,hpm⟩ ⟨by unfold ones';rw [List.length_map];exact hsl,fun x hx=>?_,fun x hx=>?_⟩ (fun x hx=>?_) upd_same (f1.upd hp) (k1.upd (k1.free hp (f1.ne hp)))⟩⟩
   ·obtain ⟨e,he,rfl⟩:=List.mem_map.mp hx
    exact one_all (letsN_isL (hst e he))
   ·obtain ⟨e,he,rfl⟩:=List.mem_map.mp hx
    exact Nat.le_refl _
   ·obtain ⟨e,he,rfl⟩:=List.mem_map.mp hx
    intro z hz
    rw [List.mem_singleton.mp hz];exact hst e he
theorem ok_za {f:Addr} {fd:FuncData} (D:Df K mg "letters_standing" s_za ["n","rings"] f fd) (T:Txt P w K mg a_CONTRARIES a_LETTERS a_RANKS) (c_zt:Cl P w K mg base "letters_of" ["n"] 1 (spLetT K)) (c_z1:Cl P w K mg base "count_of" ["rings","letter"] 2 (spCount K)):Cl P w K mg base "letters_standing" ["n","rings"] 3 (spStd K):=by
 obtain ⟨f_zt,fd_zt,G_zt,m_zt,k_zt,b_zt⟩:=c_zt
 obtain ⟨f_z1,fd_z1,G_z1,m_z1,k_z1,b_z1⟩:=c_z1
 refine D.cl (D.F.ok sc_za (fun vs H Q E h=>?_) (fun cdv A outer s H vs Q E hr h=>?_))
 ·obtain ⟨n,a,x,rfl,_⟩:=h
  rfl
 ·obtain ⟨n,a,x,rfl,n1,n4,ha,k⟩:=h
  refine ⟨_,(pss_one (ps_ret (pe_compc (sc0:=defScope s_za) (N:=["n","rings"]) (ix:=[1]) (by decide +kernel) rfl rfl rfl (pi_tupK (K:=K) rfl (pe_call G_zt (hr.mono (by decide)) (by rfl) m_zt k_zt b_zt .nil pass0 (pa_cons (pv 0) pa_nil))) (fun _ _ _=>pifs_one (pt_cmpR op_gt (pe_call G_z1 (hr.mono (by decide)) (by rfl) m_z1 k_z1 b_z1 .nil pass0 (pa_cons (pv 1) (pa_cons (pv 0) pa_nil))) pe_int (nomark _))) (fun _ _ _=>(pv 0))))),?_⟩
  have hln:(letsN (n:Nat)).length=2 * n:=by have:=letsN_len (n:=(n:Nat)) (by omega) (by omega);omega
  refine ⟨_,rfl,n,rfl,n1,n4,fun t H1 s1 ht=>⟨t,rfl,⟨_,ht⟩,fun Dd hD=>comp_tupIf (K:=K) (a:=t) (xs:=lstC (letsN (n:Nat))) (fun i H2=>Same H1 H2∧H2 Dd=some (.lst (lstC (((letsN (n:Nat)).take i).filter (stdP x))))) ⟨Same.new hD,upd_same⟩ (fun i H2 _ pr=>L2.SqT.same pr.1 ht) ?_ ?_⟩⟩
  ·rintro i v H2 hv ⟨s2,e2⟩
   obtain ⟨o,ho,rfl⟩:∃ o,(letsN (n:Nat))[i]?=some o∧v=.str (S [o]):=by
    unfold lstC at hv
    rw [List.getElem?_map] at hv
    obtain ⟨o,h1,h2⟩:=Option.map_eq_some_iff.mp hv
    exact ⟨o,h1,h2.symm⟩
   have hi:=(List.getElem?_eq_some_iff.mp ho).1
   have tk:=take_succ_filterG (stdP x) (letsN (n:Nat)) i o ho
   refine ⟨_,rfl,_,rfl,a,[x],o,rfl,L2.SqT.same (s1.trans s2) ha,by simp,letsN_isL (List.mem_of_getElem? ho),fun H3 s3=>⟨_,_,rfl,rfl,_,rfl,?_⟩⟩
   rw [show decide ((0:Int)<cntR [x] o)=stdP x o from cnt_std x o]
   refine ite2 (fun z=>?_) (fun z=>?_)
   ·refine ⟨_,rfl,_,s3 _ _ e2,?_,(s2.trans s3).upd hD,?_⟩
    ·rw [lstC_len]
     have:=List.length_filter_le (stdP x) ((letsN (n:Nat)).take i)
     rw [List.length_take] at this
     exact small1000 (by omega)
    ·rw [upd_same,tk,if_pos z];unfold lstC;rw [List.map_append];rfl
   ·refine ⟨s2.trans s3,?_⟩
    rw [s3 _ _ e2,tk,if_neg z,List.append_nil]
  ·rintro H2 ⟨s2,e2⟩
   rw [lstC_len,List.take_length] at e2
   exact k Dd H2 (s1.free hD) (s1.trans s2) e2
theorem ok_zk {f:Addr} {fd:FuncData} (D:Df K mg "ranks_in_side" s_zk ["side"] f fd) (T:Txt P w K mg a_CONTRARIES a_LETTERS a_RANKS) (c_za1:Cl P w K mg base "rank_of" ["letter"] 1 spRank):Cl P w K mg base "ranks_in_side" ["side"] 2 spRanks:=by
 obtain ⟨f_za1,fd_za1,G_za1,m_za1,k_za1,b_za1⟩:=c_za1
 refine D.cl (D.F.ok sc_zk (fun vs H Q E h=>?_) (fun cdv A outer s H vs Q E hr h=>?_))
 ·obtain ⟨p,sd,rfl,_⟩:=h
  rfl
 ·obtain ⟨p,sd,rfl,hp,hL,hl,k⟩:=h
  refine ⟨_,(pss_one (ps_ret (pe_compc (sc0:=defScope s_zk) (N:=["side"]) (ix:=[]) (by decide +kernel) rfl rfl rfl (pi_tupK (K:=K) rfl (pv 0)) (fun _ _ _=>pifs_nil) (fun _ _ _=>(pe_call G_za1 (hr.mono (by decide)) (by rfl) m_za1 k_za1 b_za1 .nil pass0 (pa_cons (pv 0) pa_nil)))))),?_⟩
  refine ⟨_,rfl,p,rfl,⟨_,SqT.of hp⟩,fun Dd hD=>comp_tupIf (K:=K) (a:=p) (xs:=lstC sd) (fun i H2=>Same H H2∧H2 Dd=some (.lst ((rkL (sd.take i)).map V.int))) ⟨Same.new hD,upd_same⟩ (fun i H2 _ pr=>SqT.of (pr.1 _ _ hp)) ?_ ?_⟩
  ·rintro i v H2 hv ⟨s2,e2⟩
   obtain ⟨o,ho,rfl⟩:∃ o,sd[i]?=some o∧v=.str (S [o]):=by
    unfold lstC at hv
    rw [List.getElem?_map] at hv
    obtain ⟨o,h1,h2⟩:=Option.map_eq_some_iff.mp hv
    exact ⟨o,h1,h2.symm⟩
   have hi:=(List.getElem?_eq_some_iff.mp ho).1
   refine ⟨_,rfl,o,rfl,hL o (List.mem_of_getElem? ho),fun H3 s3=>⟨_,s3 _ _ e2,?_,(s2.trans s3).upd hD,?_⟩⟩
   ·unfold rkL;rw [List.length_map,List.length_map,List.length_take];exact small1000 (by omega)
   ·unfold rkL;rw [upd_same,List.take_add_one,ho,List.map_append,List.map_append];rfl
  ·rintro H2 ⟨s2,e2⟩
   rw [lstC_len,List.take_length] at e2
   exact k Dd H2 hD s2 e2
theorem ok_zg {f:Addr} {fd:FuncData} (D:Df K mg "sides_standing" s_zg ["n","standing","letter"] f fd) (T:Txt P w K mg a_CONTRARIES a_LETTERS a_RANKS) (c_zu:Cl P w K mg base "sides_for" ["n","letter"] 2 spSidesD):Cl P w K mg base "sides_standing" ["n","standing","letter"] 3 spSStd:=by
 obtain ⟨f_zu,fd_zu,G_zu,m_zu,k_zu,b_zu⟩:=c_zu
 refine D.cl (D.F.ok sc_zg (fun vs H Q E h=>?_) (fun cdv A outer s H vs Q E hr h=>?_))
 ·obtain ⟨n,ls,c,st,rfl,_⟩:=h
  rfl
 ·obtain ⟨n,ls,c,st,rfl,n1,n4,hc,els,k⟩:=h
  refine ⟨_,(pss_one (ps_ret (pe_compc (sc0:=defScope s_zg) (N:=["n","standing","letter"]) (ix:=[1]) (by decide +kernel) rfl rfl rfl (pi_listK (K:=K) rfl (pe_call G_zu (hr.mono (by decide)) (by rfl) m_zu k_zu b_zu .nil pass0 (pa_cons (pv 0) (pa_cons (pv 2) pa_nil)))) (fun _ _ _=>pifs_one (pt_val (pe_callB (call_allK (K:=K) rfl rfl) (by rfl) T.b_all boot_all (pa_cons (pe_compcI (N:=["side","standing"]) (ix:=[1]) (by decide +kernel) rfl rfl (pi_tupK (K:=K) rfl (pv 0)) (fun _ _ _=>pifs_nil) (fun _ _ _=>(pe_cmpR (op_inK (K:=K) rfl) (pv 0) (pv 1) (by rfl)))) pa_nil)))) (fun _ _ _=>(pv 0))))),?_⟩
  refine ⟨_,rfl,_,rfl,n,c,rfl,n1,n4,hc,fun l ps H1 s1 el hps hF=>⟨l,rfl,⟨_,SqL.of el⟩,fun Dd hD=>?_⟩⟩
  have hpl:ps.length≤300:=by
   have:=sidesF_len c _ (letsN (n:Nat)) rfl
   have e:ps.length=(sidesL n c).length:=by rw [← hF,List.length_map]
   have hln:(letsN (n:Nat)).length≤8:=by have:=letsN_len (n:=(n:Nat)) (by omega) (by omega);omega
   have:2 ^ (letsN (n:Nat)).length≤2 ^ 8:=Nat.pow_le_pow_right (by decide) hln
   unfold sidesL at e
   omega
  have hs8:∀ p∈ps,p.2.length≤8:=fun p hp=>(side_good n1 n4 hc (by rw [← hF];exact List.mem_map.mpr ⟨p,hp,rfl⟩)).base.le
  refine comp_listIf (K:=K) (a:=l) (xs:=ps.map fun p=>V.ref p.1) (fun i H2=>Same H1 H2∧H2 Dd=some (.lst (((ps.take i).filter fun p=>stF st p.2).map fun p=>V.ref p.1))) ⟨Same.new hD,upd_same⟩ (fun i H2 _ pr=>SqL.of (pr.1 _ _ el)) ?_ ?_
  ·rintro i v H2 hv ⟨s2,e2⟩
   rw [List.getElem?_map] at hv
   obtain ⟨p,hp,rfl⟩:=Option.map_eq_some_iff.mp hv
   have hpm:=List.mem_of_getElem? hp
   have hi:=(List.getElem?_eq_some_iff.mp hp).1
   have ep:=s2 _ _ (hps p hpm)
   have h8:=hs8 p hpm
   have tk:=take_succ_filterG (fun p:PS2=>stF st p.2) ps i p hp
   refine ⟨_,rfl,p.1,rfl,⟨_,SqT.of ep⟩,fun D2 hD2=>comp_tupIf (K:=K) (a:=p.1) (xs:=lstC p.2) (fun j H3=>Same H2 H3∧H3 D2=some (.lst (((p.2.take j).map fun d=>decide (d∈st)).map V.bl))) ⟨Same.new hD2,upd_same⟩ (fun j H3 _ pr=>SqT.of (pr.1 _ _ ep)) ?_ ?_⟩
   ·rintro j v H3 hv ⟨s3,e3⟩
    obtain ⟨o,ho,rfl⟩:∃ o,p.2[j]?=some o∧v=.str (S [o]):=by
     unfold lstC at hv
     rw [List.getElem?_map] at hv
     obtain ⟨o,h1,h2⟩:=Option.map_eq_some_iff.mp hv
     exact ⟨o,h1,h2.symm⟩
    have hj:=(List.getElem?_eq_some_iff.mp ho).1
    refine ⟨_,rfl,_,rfl,ls,_,rfl,.inl (SqL.of (s3 _ _ (s2 _ _ (s1 _ _ els)))),rfl,lstC_flatT _,?_⟩
    rw [if_neg Bool.false_ne_true,in_lst]
    refine ⟨_,e3,?_,s3.upd hD2,?_⟩
    ·rw [List.length_map,List.length_map,List.length_take];exact small1000 (by omega)
    ·rw [upd_same,List.take_add_one,ho,List.map_append,List.map_append];rfl
   ·rintro H3 ⟨s3,e3⟩
    rw [lstC_len,List.take_length] at e3
    refine ⟨D2,_,rfl,SqL.of e3,_,rfl,?_⟩
    have ef:(p.2.map fun d=>decide (d∈st)).all id=stF st p.2:=by unfold stF;rw [List.all_map];rfl
    rw [ef]
    refine ite2 (fun z=>?_) (fun z=>?_)
    ·refine ⟨_,rfl,_,s3 _ _ e2,?_,(s2.trans s3).upd hD,?_⟩
     ·rw [List.length_map]
      have:=List.length_filter_le (fun p:PS2=>stF st p.2) (ps.take i)
      rw [List.length_take] at this
      exact small1000 (Nat.le_trans this (by omega))
     ·rw [upd_same,tk,if_pos z,List.map_append];rfl
    ·refine ⟨s2.trans s3,?_⟩
     rw [s3 _ _ e2,tk,if_neg z,List.append_nil]
  ·rintro H2 ⟨s2,e2⟩
   rw [List.length_map,List.take_length] at e2
   refine k Dd _ H2 (s1.free hD) (s1.trans s2) ⟨e2,fun p hp=>s2 _ _ (hps p (List.mem_filter.mp hp).1)⟩ ?_
   rw [← hF,List.filter_map]
   rfl
theorem ok_zj {f:Addr} {fd:FuncData} (D:Df K mg "level_changes" s_zj ["n","ring"] f fd) (T:Txt P w K mg a_CONTRARIES a_LETTERS a_RANKS) (c_zn:Cl P w K mg base "ties_leaving" ["ties","side"] 1 spLeave) (c_z9:Cl P w K mg base "ties_of" ["rings"] 3 (spTies K)) (c_z1:Cl P w K mg base "count_of" ["rings","letter"] 2 (spCount K)) (c_za:Cl P w K mg base "letters_standing" ["n","rings"] 3 (spStd K)) (c_zk:Cl P w K mg base "ranks_in_side" ["side"] 2 spRanks) (c_zg:Cl P w K mg base "sides_standing" ["n","standing","letter"] 3 spSStd):Cl P w K mg base "level_changes" ["n","ring"] 5 spLevel:=by
 obtain ⟨f_zn,fd_zn,G_zn,m_zn,k_zn,b_zn⟩:=c_zn
 obtain ⟨f_z9,fd_z9,G_z9,m_z9,k_z9,b_z9⟩:=c_z9
 obtain ⟨f_z1,fd_z1,G_z1,m_z1,k_z1,b_z1⟩:=c_z1
 obtain ⟨f_za,fd_za,G_za,m_za,k_za,b_za⟩:=c_za
 obtain ⟨f_zk,fd_zk,G_zk,m_zk,k_zk,b_zk⟩:=c_zk
 obtain ⟨f_zg,fd_zg,G_zg,m_zg,k_zg,b_zg⟩:=c_zg
 refine D.cl (D.F.ok sc_zj (fun vs H Q E h=>?_) (fun cdv A outer s H vs Q E hr h=>?_))
 ·obtain ⟨n,x,rfl,_⟩:=h
  rfl
 ·obtain ⟨n,x,rfl,n1,n4,hrg,hkd,hxl,k⟩:=h
  refine ⟨_,(pss_cons (ps_set (i:=2) sc_zj.nd rfl (Or.inl rfl) (pe_call G_za (hr.mono (by decide)) (by rfl) m_za k_za b_za .nil pass0 (pa_cons (pv 0) (pa_cons (pe_tup (pa_cons (pv 1) pa_nil)) pa_nil))))
   (pss_cons (ps_set (i:=3) sc_zj.nd rfl (Or.inr rfl) (pe_call G_z9 (hr.mono (by decide)) (by rfl) m_z9 k_z9 b_z9 .nil pass0 (pa_cons (pe_tup (pa_cons (pv 1) pa_nil)) pa_nil)))
   (pss_cons (ps_set (i:=4) sc_zj.nd rfl (Or.inl rfl) (pe_lst pa_nil))
   (pss_cons (ps_for PassesOwn.never rfl (pi_listK (K:=K) rfl (pv 2)) (pg_name (i:=5) sc_zj.nd rfl (Or.inr rfl)) (pss_cons (ps_set (i:=6) sc_zj.nd rfl (Or.inr rfl) (pe_call G_z1 (hr.mono (by decide)) (by rfl) m_z1 k_z1 b_z1 .nil pass0 (pa_cons (pe_tup (pa_cons (pv 1) pa_nil)) (pa_cons (pv 5) pa_nil))))
   (pss_cons (ps_setcc (i:=7) (sc0:=defScope s_zj) (N:=["n","ring","standing","ties","changes","letter","count","sides"]) (ix:=[3,6]) sc_zj.nd rfl rfl (by decide +kernel) rfl rfl rfl (pi_listK (K:=K) rfl (pe_call G_zg (hr.mono (by decide)) (by rfl) m_zg k_zg b_zg .nil pass0 (pa_cons (pv 0) (pa_cons (pv 2) (pa_cons (pv 5) pa_nil))))) (fun _ _ _=>pifs_one (pt_cmpR op_eq (pe_call G_zn (hr.mono (by decide)) (by rfl) m_zn k_zn b_zn .nil pass0 (pa_cons (pv 1) (pa_cons (pv 0) pa_nil))) (pv 2) (nomark _))) (fun _ _ _=>(pv 0)))
   (pss_one (ps_expr (pe_bmK (K:=K) rfl PySem.F.plainAttrs_list PySem.F.slot_list_extend PySem.F.type_list_extend mt_extend (pv 4) (pa_cons (pe_compc (sc0:=defScope s_zj) (N:=["n","ring","standing","ties","changes","letter","count","sides"]) (ix:=[5]) (by decide +kernel) rfl rfl rfl (pi_listK (K:=K) rfl (pe_sortL (K:=K) rfl G_zk (hr.mono (by decide)) b_zk (by rfl) T.b_sorted (by rfl) m_zk (pa_cons (pv 7) pa_nil))) (fun _ _ _=>pifs_nil) (fun _ _ _=>(pe_tup (pa_cons (pv 1) (pa_cons (pv 0) pa_nil))))) pa_nil)))))))
   (pss_one (ps_ret (pv 4))))))),?_⟩
  have h6:=stdg_six n1 n4 hkd
  have hall:∀ y∈[x],AllL y:=fun y hy=>by rw [List.mem_singleton.mp hy];exact hrg.ofn.all
  have htot:totL [x]≤900:=by unfold totL;simp;omega
  refine ⟨_,rfl,_,rfl,len_1000 (by simp),fun t1 ht1=>?_⟩
  have a1:Same H (upd H t1 (.tup [.str (S x)])):=Same.new ht1
  have b1:upd H t1 (.tup [.str (S x)]) t1=some (.tup (wds [x])):=upd_same
  generalize upd H t1 (.tup [.str (S x)])=G1 at a1 b1
  refine ⟨n,t1,x,rfl,n1,n4,SqT.of b1,fun ls H1 hls s1 els=>?_⟩
  refine ⟨_,rfl,len_1000 (by simp),fun t2 ht2=>?_⟩
  have a2:Same H1 (upd H1 t2 (.tup [.str (S x)])):=Same.new ht2
  have b2:upd H1 t2 (.tup [.str (S x)]) t2=some (.tup (wds [x])):=upd_same
  generalize upd H1 t2 (.tup [.str (S x)])=G2 at a2 b2
  refine ⟨t2,[x],rfl,SqT.of b2,hall,htot,fun td H2 htd s2 etd=>?_⟩
  have s02:Same H H2:=((a1.trans s1).trans a2).trans s2
  have els2:=s2 _ _ (a2 _ _ els)
  refine ⟨len_1000 (by simp),fun lc hlc=>?_⟩
  have s23:Same H2 (upd H2 lc (.lst [])):=Same.new hlc
  have e3:upd H2 lc (.lst []) lc=some (.lst []):=upd_same
  have hlc0:H lc=none:=s02.free hlc
  have hlsc:ls≠lc:=ne_of_none els2 hlc
  have htdc:td≠lc:=ne_of_none etd hlc
  generalize upd H2 lc (.lst [])=H3 at s23 e3
  have s03:=s02.trans s23
  refine ⟨_,rfl,ls,rfl,⟨_,SqL.of (s23 _ _ els2)⟩,?_⟩
  refine for_list (K:=K) (a:=ls) (xs:=lstC (stdg n x)) (fun i σ H4=>∃ v5 v6 v7:Option V,σ=[some (.int (n:Nat)),some (.str (S x)),some (.ref ls),some (.ref td),some (.ref lc),v5,v6,v7]∧Same H H4∧(∀ b o,b≠lc→H3 b=some o→H4 b=some o)∧∃ ps:List (Addr×Nat×List Nat),H4 lc=some (.lst (ps.map fun p=>V.ref p.1))∧(∀ p∈ps,IsChg H4 p.1 p.2.1 p.2.2)∧LvAll n x ((stdg n x).take i) (ps.map (·.2))∧ps.length≤16 * i) ⟨none,none,none,rfl,s03,fun _ _ _ e=>e,[],e3,(fun p hp=>nomatch hp),rfl,Nat.zero_le _⟩ (fun i σ H4 _ ⟨_,_,_,_,_,go,_⟩=>SqL.of (go _ _ hlsc (s23 _ _ els2))) ?_ ?_
  ·rintro i v _ H4 hv ⟨v5,v6,v7,rfl,s4,go,ps,elc,hps,hlv,hpl⟩
   obtain ⟨c,hc,rfl⟩:∃ c,(stdg n x)[i]?=some c∧v=.str (S [c]):=by
    unfold lstC at hv
    rw [List.getElem?_map] at hv
    obtain ⟨o,h1,h2⟩:=Option.map_eq_some_iff.mp hv
    exact ⟨o,h1,h2.symm⟩
   have hi:=(List.getElem?_eq_some_iff.mp hc).1
   have hcs:=List.mem_of_getElem? hc
   have hcl:=stdg_lets hcs
   have hcL:=letsN_isL hcl
   refine ⟨_,rfl,len_1000 (by simp),fun t3 ht3=>?_⟩
   have a5:Same H4 (upd H4 t3 (.tup [.str (S x)])):=Same.new ht3
   have b5:upd H4 t3 (.tup [.str (S x)]) t3=some (.tup (wds [x])):=upd_same
   generalize upd H4 t3 (.tup [.str (S x)])=G5 at a5 b5
   refine ⟨_,rfl,t3,[x],c,rfl,SqT.of b5,by simp,hcL,fun H5 s5=>?_⟩
   have s45:=a5.trans s5
   have els5:=s45 _ _ (go _ _ hlsc (s23 _ _ els2))
   have etd5:=s45 _ _ (go _ _ htdc (s23 _ _ etd))
   have elc5:=s45 _ _ elc
   refine ⟨_,rfl,_,rfl,_,rfl,n,ls,c,stdg n x,rfl,n1,n4,hcl,els5,fun l1 qs H6 hl1 s6 hrt hqF=>?_⟩
   have hql:qs.length≤16:=by
    have:=side_len2 n1 n4 hcs h6
    rw [← hqF,List.length_map] at this
    exact this
   refine ⟨l1,rfl,⟨_,SqL.of hrt.1⟩,fun Dd hD=>?_⟩
   have etd6:=s6 _ _ etd5
   refine comp_listIf (K:=K) (a:=l1) (xs:=qs.map fun p=>V.ref p.1) (fun j H7=>Same H6 H7∧H7 Dd=some (.lst (((qs.take j).filter fun p=>decide (sumL p.2 (Dk (tiesR [x]))=cntR [x] c)).map fun p=>V.ref p.1))) ⟨Same.new hD,upd_same⟩ (fun j H7 _ pr=>SqL.of (pr.1 _ _ hrt.1)) ?_ ?_
   ·rintro j v H7 hv ⟨s7,e7⟩
    rw [List.getElem?_map] at hv
    obtain ⟨p,hp,rfl⟩:=Option.map_eq_some_iff.mp hv
    have hpm:=List.mem_of_getElem? hp
    have hj:=(List.getElem?_eq_some_iff.mp hp).1
    have tk:=take_succ_filterG (fun p:PS2=>decide (sumL p.2 (Dk (tiesR [x]))=cntR [x] c)) qs j p hp
    refine ⟨_,rfl,_,rfl,td,p.1,[x],p.2,rfl,s7 _ _ etd6,s7 _ _ (hrt.2 p hpm),htot,fun H8 s8=>⟨_,rfl,rfl,_,rfl,?_⟩⟩
    have ed:decide (V.int (sumL p.2 (Dk (tiesR [x])))=V.int (cntR [x] c))=decide (sumL p.2 (Dk (tiesR [x]))=cntR [x] c):=by
     by_cases q:sumL p.2 (Dk (tiesR [x]))=cntR [x] c
     ·rw [decide_eq_true q,decide_eq_true (by rw [q])]
     ·rw [decide_eq_false q,decide_eq_false (fun z=>q (V.int.inj z))]
    rw [ed]
    refine ite2 (fun z=>?_) (fun z=>?_)
    ·refine ⟨_,rfl,_,s8 _ _ e7,?_,(s7.trans s8).upd hD,?_⟩
     ·rw [List.length_map]
      have:=List.length_filter_le (fun p:PS2=>decide (sumL p.2 (Dk (tiesR [x]))=cntR [x] c)) (qs.take j)
      rw [List.length_take] at this
      exact small1000 (Nat.le_trans this (by omega))
     ·rw [upd_same,tk,if_pos z,List.map_append];rfl
    ·refine ⟨s7.trans s8,?_⟩
     rw [s8 _ _ e7,tk,if_neg z,List.append_nil]
   rintro H7 ⟨s7,e7⟩
   rw [List.length_map,List.take_length] at e7
   obtain ⟨ms,hms⟩:∃ ms:List PS2,ms=qs.filter fun p=>decide (sumL p.2 (Dk (tiesR [x]))=cntR [x] c):=⟨_,rfl⟩
   have e7:H7 Dd=some (.lst (ms.map fun p=>V.ref p.1)):=by rw [hms];exact e7
   have hml:ms.length≤16:=by rw [hms];exact Nat.le_trans (List.length_filter_le _ _) hql
   have hmF:ms.map (·.2)=((sidesL n c).filter (stF (stdg n x))).filter fun sd=>decide (sumL sd (Dk (tiesR [x]))=cntR [x] c):=by
    rw [hms,← hqF,List.filter_map];rfl
   have hmq:∀ p∈ms,p∈qs:=fun p hp=>by rw [hms] at hp;exact (List.mem_filter.mp hp).1
   have hmt:∀ p∈ms,H7 p.1=some (.tup (lstC p.2)):=fun p hp=>s7 _ _ (hrt.2 p (hmq p hp))
   have hmL:∀ p∈ms,(∀ d∈p.2,isL d)∧p.2.length≤8:=fun p hp=>by
    have:p.2∈(sidesL n c).filter (stF (stdg n x)):=by rw [← hqF];exact List.mem_map.mpr ⟨p,hmq p hp,rfl⟩
    have g:=side_good n1 n4 hcl (List.mem_filter.mp this).1
    exact ⟨fun d hd=>letsN_isL (g.base.side d hd),g.base.le⟩
   have s47:=(s45.trans s6).trans s7
   have elc7:=s47 _ _ elc
   refine ⟨_,rfl,.inl ⟨rfl,_,SqL.of elc7⟩,_,rfl,Dd,ms.map (fun p=>V.ref p.1),ms.map (fun p=>rkL p.2),PvS H7 ms rkL,rfl,SqL.of e7,by rw [List.length_map];omega,by rw [List.length_map,List.length_map],fun S hS=>PvS.zero hS,?_,PvS.fin fun D zs H8 hD8 s8 eD8 hperm hord=>?_⟩
   ·intro S j ks H8 hPv y hy
    rw [List.getElem?_map] at hy
    obtain ⟨p,hp,rfl⟩:=Option.map_eq_some_iff.mp hy
    have hpm:=List.mem_of_getElem? hp
    exact ⟨p.1,p.2,rfl,hPv.2.1 _ _ (hmt p hpm),(hmL p hpm).1,by have:=(hmL p hpm).2;omega,fun a H9 ha s9 ea=>hPv.step hp s9 ha ea⟩
   have hzl:zs.length≤16:=by rw [hperm.length_eq];exact hml
   have hzt:∀ p∈zs,H8 p.1=some (.tup (lstC p.2)):=fun p hp=>s8 _ _ (hmt p (hperm.mem_iff.mp hp))
   have hLv:LvR n x c (zs.map (·.2)):=lv_of n1 n4 hcs (by rw [← hmF];exact hperm.map _) (by rw [List.pairwise_map];exact hord)
   refine ⟨D,rfl,⟨_,SqL.of eD8⟩,fun D3 hD3=>?_⟩
   have s48:=s47.trans s8
   have elc8:=s48 _ _ elc
   have hD3c:lc≠D3:=ne_of_none elc8 hD3
   refine comp_listIf (K:=K) (a:=D) (xs:=zs.map fun p=>V.ref p.1) (fun j H9=>Same H8 H9∧∃ ys:List (Addr×Nat×List Nat),ys.length=j∧H9 D3=some (.lst (ys.map fun p=>V.ref p.1))∧(∀ p∈ys,IsChg H9 p.1 p.2.1 p.2.2)∧ys.map (·.2)=(zs.take j).map fun p=>(c,p.2)) ⟨Same.new hD3,[],rfl,upd_same,(fun p hp=>nomatch hp),rfl⟩ (fun j H9 _ pr=>SqL.of (pr.1 _ _ eD8)) ?_ ?_
   ·rintro j v H9 hv ⟨s9,ys,hyl,eD3,hys,hyF⟩
    rw [List.getElem?_map] at hv
    obtain ⟨p,hp,rfl⟩:=Option.map_eq_some_iff.mp hv
    have hpm:=List.mem_of_getElem? hp
    have hj:=(List.getElem?_eq_some_iff.mp hp).1
    refine ⟨_,rfl,_,rfl,len_1000 (by simp),fun t ht=>?_⟩
    have st:Same H9 (upd H9 t (.tup [.str (S [c]),.ref p.1])):=Same.new ht
    have et:upd H9 t (.tup [.str (S [c]),.ref p.1]) t=some (.tup [.str (S [c]),.ref p.1]):=upd_same
    generalize upd H9 t (.tup [.str (S [c]),.ref p.1])=H10 at st et
    have eD10:=st _ _ eD3
    have tset:∀ {b:Addr} {xs:List V},H10 b=some (.tup xs)→upd H10 D3 (.lst ((ys.map fun p=>V.ref p.1)++[.ref t])) b=some (.tup xs):=fun h=>by rw [upd_ne (ne_of h eD10 (by intro z;cases z))];exact h
    refine ⟨_,eD10,by rw [List.length_map];exact small1000 (by omega),(s9.trans st).upd hD3,ys++[(t,c,p.2)],by rw [List.length_append,hyl];rfl,by rw [upd_same,List.map_append];rfl,fun q hq=>?_,?_⟩
    ·rcases List.mem_append.mp hq with z | z
     ·obtain ⟨w,w1,w2⟩:=hys q z
      exact ⟨w,tset (st _ _ w1),tset (st _ _ w2)⟩
     ·rw [List.mem_singleton.mp z]
      exact ⟨p.1,tset et,tset (st _ _ (s9 _ _ (hzt p hpm)))⟩
    ·rw [List.map_append,hyF,List.take_add_one,hp,List.map_append];rfl
   rintro H9 ⟨s9,ys,hyl,eD3,hys,hyF⟩
   rw [List.length_map] at hyl
   rw [List.length_map,List.take_length] at hyF
   have s49:=s48.trans s9
   have elc9:=s49 _ _ elc
   have tset:∀ {b:Addr} {xs:List V},H9 b=some (.tup xs)→upd H9 lc (.lst ((ps.map fun p=>V.ref p.1)++ys.map fun p=>V.ref p.1)) b=some (.tup xs):=fun h=>by rw [upd_ne (ne_of h elc9 (by intro z;cases z))];exact h
   refine ⟨lc,D3,_,_,rfl,rfl,elc9,eD3,len_1000 (by rw [List.length_map,List.length_map];omega),_,_,_,rfl,(s4.trans s49).upd hlc0,fun b o hb e=>by rw [upd_ne hb];exact s49 _ _ (go b o hb e),ps++ys,by rw [upd_same,List.map_append],fun q hq=>?_,?_,by rw [List.length_append];omega⟩
   ·rcases List.mem_append.mp hq with z | z
    ·obtain ⟨w,w1,w2⟩:=hps q z
     exact ⟨w,tset (s49 _ _ w1),tset (s49 _ _ w2)⟩
    ·obtain ⟨w,w1,w2⟩:=hys q z
     exact ⟨w,tset w1,tset w2⟩
   ·rw [List.take_add_one,hc,List.map_append,hyF]
    have:=LvAll.snoc hLv hlv
    rw [List.map_map] at this
    exact this
  ·rintro _ H4 ⟨v5,v6,v7,rfl,s4,go,ps,elc,hps,hlv,hpl⟩
   rw [lstC_len,List.take_length] at hlv
   rw [lstC_len] at hpl
   exact ⟨_,rfl,k lc H4 hlc0 s4 ⟨ps,elc,hps,hlv,by omega⟩⟩
theorem ok_zl {f:Addr} {fd:FuncData} (D:Df K mg "_law_standing" s_zl ["_law_ring_here"] f fd) (T:Txt P w K mg a_CONTRARIES a_LETTERS a_RANKS) (c_zm:Cl P w K mg base "_law_contrary" ["_law_letter"] 1 spCon):Cl P w K mg base "_law_standing" ["_law_ring_here"] 2 spStdL:=by
 obtain ⟨f_zm,fd_zm,G_zm,m_zm,k_zm,b_zm⟩:=c_zm
 refine D.cl (D.F.ok sc_zl (fun vs H Q E h=>?_) (fun cdv A outer s H vs Q E hr h=>?_))
 ·obtain ⟨n,x,rfl,_⟩:=h
  rfl
 ·obtain ⟨n,x,rfl,n1,n4,hx,k⟩:=h
  refine ⟨_,(pss_one (ps_ret (pe_compc (sc0:=defScope s_zl) (N:=["_law_ring_here"]) (ix:=[0]) (by decide +kernel) rfl rfl rfl (pi_str pe_str) (fun _ _ _=>pifs_one (pw_or (pt_cmpR op_in_str (pv 0) (pv 1) (by rfl)) (pw_or1 (pt_cmpR op_in_str (pe_call G_zm (hr.mono (by decide)) (by rfl) m_zm k_zm b_zm .nil pass0 (pa_cons (pv 0) pa_nil)) (pv 1) (by rfl)))).pt) (fun _ _ _=>(pv 0))))),?_⟩
  refine ⟨S (letsN (4:Nat)),congrArg V.str (by decide +kernel),fun Dd hD=>comp_strIf (w:=letsN (4:Nat)) (fun i H2=>Same H H2∧H2 Dd=some (.lst (lstC (((letsN (4:Nat)).take i).filter (stdP x))))) ⟨Same.new hD,upd_same⟩ ?_ ?_⟩
  ·rintro i o H2 ho ⟨s2,e2⟩
   have hi:=(List.getElem?_eq_some_iff.mp ho).1
   have hoL:=letsN_isL (List.mem_of_getElem? ho)
   have h8:(letsN (4:Nat)).length=8:=by decide
   have tk:=take_succ_filterG (stdP x) (letsN (4:Nat)) i o ho
   have yes:stdP x o=true→∀ H3,Same H2 H3→∃ ys,H3 Dd=some (.lst ys)∧ys.length<sizeLine∧Same H (upd H3 Dd (.lst (ys++[.str (S [o])])))∧upd H3 Dd (.lst (ys++[.str (S [o])])) Dd=some (.lst (lstC (((letsN (4:Nat)).take (i+1)).filter (stdP x)))):=fun z H3 s3=>by
    refine ⟨_,s3 _ _ e2,?_,(s2.trans s3).upd hD,?_⟩
    ·rw [lstC_len]
     have:=List.length_filter_le (stdP x) ((letsN (4:Nat)).take i)
     rw [List.length_take] at this
     exact small1000 (by omega)
    ·rw [upd_same,tk,if_pos z];unfold lstC;rw [List.map_append];rfl
   refine ⟨_,rfl,_,rfl,_,_,rfl,rfl,_,rfl,?_⟩
   rw [in_one]
   by_cases q:o∈x
   ·rw [decide_eq_true q]
    exact iteT (iteT ⟨_,rfl,yes (by unfold stdP;rw [decide_eq_true q];rfl) H2 (Same.refl H2)⟩)
   ·rw [decide_eq_false q]
    refine iteF ⟨_,rfl,o,rfl,hoL,fun H3 s3=>⟨_,rfl,_,_,rfl,rfl,_,rfl,?_⟩⟩
    rw [in_one]
    by_cases q2:con o∈x
    ·rw [decide_eq_true q2]
     exact iteT ⟨_,rfl,yes (by unfold stdP;rw [decide_eq_true q2,Bool.or_true]) H3 s3⟩
    ·rw [decide_eq_false q2]
     refine iteF ⟨s2.trans s3,?_⟩
     rw [s3 _ _ e2,tk,if_neg (by unfold stdP;rw [decide_eq_false q,decide_eq_false q2];exact Bool.false_ne_true),List.append_nil]
  ·rintro H2 ⟨s2,e2⟩
   rw [List.take_length,stdg_four n1 n4 hx] at e2
   exact k Dd H2 hD s2 e2
theorem ok_zh {f:Addr} {fd:FuncData} (D:Df K mg "_law_short_ring" s_zh ["_law_n","_law_word_here"] f fd) (T:Txt P w K mg a_CONTRARIES a_LETTERS a_RANKS) (c_z8:Cl P w K mg base "_law_ring" ["_law_word_here"] 3 spRingOf) (c_zw:Cl P w K mg base "_law_short" ["_law_n","_law_rings"] 6 (spShortM K (tbs P1 P2))):Cl P w K mg base "_law_short_ring" ["_law_n","_law_word_here"] 7 (spShRing (tbs P1 P2)):=by
 obtain ⟨f_z8,fd_z8,G_z8,m_z8,k_z8,b_z8⟩:=c_z8
 obtain ⟨f_zw,fd_zw,G_zw,m_zw,k_zw,b_zw⟩:=c_zw
 refine D.cl (D.F.ok sc_zh (fun vs H Q E h=>?_) (fun cdv A outer s H vs Q E hr h=>?_))
 ·obtain ⟨n,x,rfl,_⟩:=h
  rfl
 ·obtain ⟨n,x,rfl,n1,n4,hx,hp,hkd,hxl,hT,k⟩:=h
  refine ⟨_,(pss_one (ps_ret (pe_ix (ix_tupK (K:=K) rfl) (pe_ix (ix_tupK (K:=K) rfl) (pe_call G_zw (hr.mono (by decide)) (by rfl) m_zw k_zw b_zw .nil pass0 (pa_cons (pv 0) (pa_cons (pe_tup (pa_cons (pe_call G_z8 (hr.mono (by decide)) (by rfl) m_z8 k_z8 b_z8 .nil pass0 (pa_cons (pv 1) pa_nil)) pa_nil)) pa_nil))) pe_int (fun _ _=>rfl)) pe_int (fun _ _=>rfl)))),?_⟩
  refine ⟨_,rfl,_,rfl,x,rfl,hx.all,by omega,fun r H1 hr s1=>⟨len_1000 (by simp),fun t ht=>?_⟩⟩
  have rg:RgN n r:=⟨x,hx,hp,hr⟩
  have rl:=hr.len
  have s2:Same H1 (upd H1 t (.tup [.str (S r)])):=Same.new ht
  have e2:upd H1 t (.tup [.str (S r)]) t=some (.tup (wds [r])):=upd_same
  generalize upd H1 t (.tup [.str (S r)])=H2 at s2 e2
  have s02:SameT (tbs P1 P2) H H2:=.of (s1.trans s2)
  have rgs:∀ y∈[r],RgN n y:=fun y hy=>by rw [List.mem_singleton.mp hy];exact rg
  refine ⟨n,t,[r],rfl,SqT.of e2,n1,n4,by simp,rgs,by unfold totL;simp;omega,s02.tabs hT,fun o l H3 hl s3 sh=>?_⟩
  obtain ⟨z,ps,qs,e1,_,_,hz,hsr⟩:=sh
  obtain ⟨q,rfl,hq,hqr⟩:=Kd.short n1 n4 hsr r rfl rg (hkd.ring hr)
  have hfin:=(hsr.fin n1 n4 rgs).2.1
  refine ⟨o,_,1,.ref z,rfl,rfl,SqT.of e1,rfl,z,_,0,.str (S q),rfl,rfl,hz,rfl,k q H3 (s02.trans s3) hqr hq ?_⟩
  unfold totL at hfin
  simp at hfin
  omega
theorem ok_zf {f:Addr} {fd:FuncData} (D:Df K mg "_law_stage_word" s_zf ["_law_flow_here","_law_n"] f fd) (T:Txt P w K mg a_CONTRARIES a_LETTERS a_RANKS) (c_z6:Cl P w K mg base "_law_pick" ["_law_flow_here","_law_many"] 1 spPick) (c_z3:Cl P w K mg base "_law_word" ["_law_flow_here","_law_n","_law_most"] 2 spWord) (c_zs:Cl P w K mg base "_law_retold" ["_law_retelling","_law_word_here"] 3 (spRetold K)) (c_zo:Cl P w K mg base "_law_exchange" ["_law_flow_here","_law_n"] 2 spExchP):Cl P w K mg base "_law_stage_word" ["_law_flow_here","_law_n"] 4 spStage:=by
 obtain ⟨f_z6,fd_z6,G_z6,m_z6,k_z6,b_z6⟩:=c_z6
 obtain ⟨f_z3,fd_z3,G_z3,m_z3,k_z3,b_z3⟩:=c_z3
 obtain ⟨f_zs,fd_zs,G_zs,m_zs,k_zs,b_zs⟩:=c_zs
 obtain ⟨f_zo,fd_zo,G_zo,m_zo,k_zo,b_zo⟩:=c_zo
 refine D.cl (D.F.ok sc_zf (fun vs H Q E h=>?_) (fun cdv A outer s H vs Q E hr h=>?_))
 ·obtain ⟨fl,sc,n,rfl,_⟩:=h
  rfl
 ·obtain ⟨fl,sc,n,rfl,hf,n1,n4,k⟩:=h
  refine ⟨_,(pss_cons (ps_set (i:=2) sc_zf.nd rfl (Or.inl rfl) (pe_op op_add pe_int (pe_call G_z6 (hr.mono (by decide)) (by rfl) m_z6 k_z6 b_z6 .nil pass0 (pa_cons (pv 0) (pa_cons (pe_callB (call_min2 rfl) (by rfl) T.b_min boot_min (pa_cons (pv 1) (pa_cons pe_int pa_nil))) pa_nil)))))
   (pss_cons (ps_set (i:=3) sc_zf.nd rfl (Or.inl rfl) (pe_call G_z3 (hr.mono (by decide)) (by rfl) m_z3 k_z3 b_z3 .nil pass0 (pa_cons (pv 0) (pa_cons (pv 2) (pa_cons (pe_ix (ix_listK (K:=K) rfl) (pe_lst (pa_cons pe_int (pa_cons pe_int (pa_cons pe_int pa_nil)))) (pe_op op_sub (pv 2) pe_int) (fun _ _=>rfl)) pa_nil)))))
   (pss_one (ps_ret (pe_call G_zs (hr.mono (by decide)) (by rfl) m_zs k_zs b_zs .nil pass0 (pa_cons (pe_call G_zo (hr.mono (by decide)) (by rfl) m_zo k_zo b_zo .nil pass0 (pa_cons (pv 0) (pa_cons (pv 1) pa_nil))) (pa_cons (pv 3) pa_nil))))))),?_⟩
  refine ⟨_,rfl,_,rfl,_,_,rfl,?_⟩
  obtain ⟨mm,hmm,m1,m3,mn⟩:∃ mm:Nat,(if (3:Int)<((n:Nat):Int) then 3 else ((n:Nat):Int))=(mm:Int)∧1≤mm∧mm≤3∧mm≤n:=by
   by_cases q:(3:Int)<((n:Nat):Int)
   ·rw [if_pos q];exact ⟨3,rfl,by decide,by decide,by omega⟩
   ·rw [if_neg q];exact ⟨n,rfl,n1,by omega,Nat.le_refl _⟩
  rw [hmm]
  refine ⟨fl,sc,(mm:Int),rfl,hf,by omega,by omega,fun d H1 d0 d1 f1 k1=>⟨_,_,rfl,rfl,?_⟩⟩
  obtain ⟨m,hm⟩:∃ m:Nat,1+d=(m:Int):=⟨(1+d).toNat,by omega⟩
  have hd:(fun i j:Int=>V.int (i+j)) 1 d=V.int (m:Nat):=by rw [← hm]
  rw [hd]
  have q1:1≤m:=by omega
  have q3:m≤3:=by omega
  have qn:m≤n:=by omega
  refine ⟨_,rfl,_,rfl,len_1000 (by simp),fun L hL=>?_⟩
  have hLf:L≠fl:=f1.ne hL
  have f2:=f1.upd (o:=HO.lst [.int 10,.int 10,.int 7]) hL
  have k2:Kp fl H (upd H1 L (.lst [.int 10,.int 10,.int 7])):=k1.upd (k1.free hL hLf)
  have e2:upd H1 L (.lst [.int 10,.int 10,.int 7]) L=some (.lst [.int 10,.int 10,.int 7]):=upd_same
  generalize upd H1 L (.lst [.int 10,.int 10,.int 7])=H2 at f2 k2 e2
  obtain ⟨most,hat,o0,o10⟩:∃ most:Int,atI [V.int 10,V.int 10,V.int 7] (((m:Nat):Int) - 1)=some (.int most)∧0≤most∧most≤10:=by
   have:m=1∨m=2∨m=3:=by omega
   rcases this with rfl | rfl | rfl
   ·exact ⟨10,rfl,by decide,by decide⟩
   ·exact ⟨10,rfl,by decide,by decide⟩
   ·exact ⟨7,rfl,by decide,by decide⟩
  refine ⟨_,rfl,_,_,rfl,rfl,L,_,_,.int most,rfl,rfl,SqL.of e2,hat,fl,sc,(m:Nat),most,rfl,f2,by omega,by omega,o0,by omega,fun w H3 ow pw wl f3 k3=>?_⟩
  have hwn:OfN n w:=ofn_le q1 qn n4 ow
  refine ⟨_,rfl,_,rfl,fl,sc,n,rfl,f3,n1,n4,fun p cs H4 hp ex hrt hofn ep f4 k4=>?_⟩
  refine ⟨_,rfl,p,ones' cs,n,1,w,rfl,SqT.of ep,hrt,n1,n4,by decide,hwn,by omega,by omega,fun H5 s5=>?_⟩
  have hl:=retl_len hrt w
  exact k _ H5 (retl_ofn n1 n4 hofn w) (lay_plain _) (Kd.exch q1 q3 qn n4 ex ow) (by omega) (f4.same s5) (((k2.trans k3).trans k4).trans s5.kp)
theorem ok_zi {f:Addr} {fd:FuncData} (D:Df K mg "_law_all_sides" s_zi ["_law_some","_law_letter"] f fd) (T:Txt P w K mg a_CONTRARIES a_LETTERS a_RANKS) {c0:Addr} (hM:MkOf K fd c0 P1) (hB:BM base mg) (c_zm:Cl P w K mg base "_law_contrary" ["_law_letter"] 1 spCon):Cl P w K mg base "_law_all_sides" ["_law_some","_law_letter"] 4 (spAllS (tbs P1 P2)):=by
 obtain ⟨f_zm,fd_zm,G_zm,m_zm,k_zm,b_zm⟩:=c_zm
 refine D.cl (D.F.okM sc_zi (fun vs H Q E h=>?_) (fun cdv A outer s H vs Q E hcv hr h=>?_))
 ·obtain ⟨n,ls,c,x,rfl,_⟩:=h
  rfl
 ·obtain ⟨n,ls,c,x,rfl,n1,n4,hc,h6,els,hT,k⟩:=h
  refine ⟨_,(pss_cons (ps_set (i:=2) sc_zi.nd rfl (Or.inl rfl) (pe_lst (pa_cons (pe_tup pa_nil) pa_nil)))
   (pss_cons (ps_for PassesOwn.never rfl (pi_listK (K:=K) rfl (pv 0)) (pg_name (i:=3) sc_zi.nd rfl (Or.inr rfl)) (pss_one (ps_if (pt_cmpR op_eq (pv 3) (pv 1) (nomark _)) (pss_one (ps_setcc (i:=2) (sc0:=defScope s_zi) (N:=["_law_some","_law_letter","_law_sides_here","_law_other"]) (ix:=[3]) sc_zi.nd rfl rfl (by decide +kernel) rfl rfl rfl (pi_listK (K:=K) rfl (pv 2)) (fun _ _ _=>pifs_nil) (fun _ _ _=>(pe_op op_catD (pv 0) (pe_tup (pa_cons (pv 1) pa_nil)))))) (pss_one (ps_if (pt_cmpR op_ne (pv 3) (pe_call G_zm (hr.mono (by decide)) (by rfl) m_zm k_zm b_zm .nil pass0 (pa_cons (pv 1) pa_nil)) (nomark _)) (pss_one (ps_set (i:=2) sc_zi.nd rfl (Or.inl rfl) (pe_op op_cat (pv 2) (pe_compc (sc0:=defScope s_zi) (N:=["_law_some","_law_letter","_law_sides_here","_law_other"]) (ix:=[3]) (by decide +kernel) rfl rfl rfl (pi_listK (K:=K) rfl (pv 2)) (fun _ _ _=>pifs_nil) (fun _ _ _=>(pe_op op_catD (pv 0) (pe_tup (pa_cons (pv 1) pa_nil)))))))) pss_nil)))))
   (pss_one (ps_ret (pe_sortLamK (K:=K) (k:=1) (sc0:=defScope s_zi) (N:=["_law_some","_law_letter","_law_sides_here","_law_other"]) (ix:=[0]) rfl ⟨hcv.symm.trans hM.1,hM.2,hB⟩ (by decide +kernel) rfl rfl rfl rfl (hr.mono (by decide)) (by rfl) T.b_sorted (pa_cons (pv 2) pa_nil) (fun _ _ _ _=>(pe_compc (sc0:=lamSc2 s_zi) (N:=["_law_one","_law_some"]) (ix:=[1]) (by decide +kernel) rfl rfl rfl (pi_tupK (K:=K) rfl (pv 0)) (fun _ _ _=>pifs_nil) (fun _ _ _=>(pe_bmK (K:=K) rfl PySem.F.plainAttrs_list PySem.F.slot_list_index PySem.F.type_list_index (mt_lindexK (K:=K) rfl) (pv 1) (pa_cons (pv 0) pa_nil))))) (fun _ _ _ _ _=>rfl) rfl))))),?_⟩
  have hcL:=letsN_isL (stdg_lets hc)
  refine ⟨len_1000 (by simp),fun t0 ht0=>⟨len_1000 (by simp),fun l0 hl0=>?_⟩⟩
  have e0:=(upd_ne (o:=HO.lst [.ref t0]) (ne_of_none (upd_same (H:=H) (a:=t0) (o:=HO.tup [])) hl0)).trans (upd_same (H:=H) (a:=t0) (o:=HO.tup []))
  have s0:Same H (upd (upd H t0 (.tup [])) l0 (.lst [.ref t0])):=(Same.new ht0).upd' hl0
  have el0:upd (upd H t0 (.tup [])) l0 (.lst [.ref t0]) l0=some (.lst [.ref t0]):=upd_same
  generalize upd (upd H t0 (.tup [])) l0 (.lst [.ref t0])=H0 at e0 s0 el0
  have hln:=h6
  have els0:=s0 _ _ els
  refine ⟨_,rfl,ls,rfl,⟨_,SqL.of els0⟩,?_⟩
  refine for_list (K:=K) (a:=ls) (xs:=lstC (stdg n x)) (fun i σ H2=>∃ (l:Addr) (ps:List (Addr×List Nat)) (v3:Option V),σ=[some (.ref ls),some (.str (S [c])),some (.ref l),v3]∧Same H H2∧H2 ls=some (.lst (lstC (stdg n x)))∧H2 l=some (.lst (ps.map fun p=>V.ref p.1))∧(∀ q∈ps,H2 q.1=some (.tup (lstC q.2)))∧ps.map (·.2)=sidesF c ((stdg n x).take i)) ⟨l0,[(t0,[])],none,rfl,s0,els0,el0,?_,rfl⟩ (fun i σ H2 _ ⟨_,_,_,_,_,e,_⟩=>SqL.of e) ?_ ?_
  ·intro q hq'
   rw [List.mem_singleton.mp hq']
   exact e0
  ·rintro i v _ H2 hv ⟨l,ps,v3,rfl,s2,q2,e2,hps,hF⟩
   obtain ⟨o,ho,rfl⟩:∃ o,(stdg n x)[i]?=some o∧v=.str (S [o]):=by
    unfold lstC at hv
    rw [List.getElem?_map] at hv
    cases hq:(stdg n x)[i]? with
    | none=>rw [hq] at hv;cases hv
    | some o=>rw [hq] at hv;exact ⟨o,rfl,(Option.some.inj hv).symm⟩
   have hi:i<6:=by have:=(List.getElem?_eq_some_iff.mp ho).1;omega
   have tk:(stdg n x).take (i+1)=(stdg n x).take i++[o]:=take_snoc ho
   have hlen:=sidesF_len c i ((stdg n x).take i) (by rw [List.length_take];have:=(List.getElem?_eq_some_iff.mp ho).1;omega)
   rw [← hF,List.length_map] at hlen
   have h128:2 ^ i≤2 ^ 7:=Nat.pow_le_pow_right (by decide) (by omega)
   refine ⟨_,rfl,_,rfl,rfl,_,rfl,?_⟩
   rw [VS_dec]
   refine ite2 (fun z=>?_) (fun z=>?_)
   ·have z':o=c:=by simpa using of_decide_eq_true z
    have zc:¬ o=con c:=fun e=>(con_ne hcL) (e.symm.trans z')
    refine ⟨_,rfl,l,rfl,⟨_,SqL.of e2⟩,fun Dd hD=>?_⟩
    refine comp_listIf (K:=K) (a:=l) (xs:=ps.map fun p=>V.ref p.1) (fun j H4=>Same H2 H4∧∃ qs:List (Addr×List Nat),H4 Dd=some (.lst (qs.map fun p=>V.ref p.1))∧(∀ q∈qs,H4 q.1=some (.tup (lstC q.2)))∧qs.length=j∧qs.map (·.2)=((ps.map (·.2)).take j).map (·++[o])) ⟨Same.new hD,[],upd_same,fun q hq=>(nomatch hq),rfl,rfl⟩ (fun j H4 _ pr=>SqL.of (pr.1 _ _ e2)) ?_ ?_
    ·rintro j v H4 hv ⟨s4,qs,e4,hqs,hql,hqF⟩
     rw [List.getElem?_map] at hv
     obtain ⟨pr,hpr,rfl⟩:∃ pr,ps[j]?=some pr∧V.ref pr.1=v:=by
      cases hz:ps[j]? with
      | none=>rw [hz] at hv;cases hv
      | some pr=>rw [hz] at hv;exact ⟨pr,rfl,Option.some.inj hv⟩
     have hj:j<ps.length:=(List.getElem?_eq_some_iff.mp hpr).1
     have hpm:=List.mem_of_getElem? hpr
     have hsd:pr.2.length≤8:=by
      have hm:pr.2∈sidesF c ((stdg n x).take i):=by rw [← hF];exact List.mem_map.mpr ⟨pr,hpm,rfl⟩
      have:=((mem_sides (con_ne hcL).symm _ _ rfl ((stdg_nd n1 n4).sublist (List.take_sublist _ _)) pr.2).mp hm).1.length_le
      rw [List.length_take] at this
      omega
     refine ⟨_,rfl,_,rfl,len_1000 (by simp),fun t ht=>?_⟩
     have s5:Same H4 (upd H4 t (.tup [.str (S [o])])):=Same.new ht
     have e5:upd H4 t (.tup [.str (S [o])]) t=some (.tup (lstC [o])):=upd_same
     generalize upd H4 t (.tup [.str (S [o])])=H5 at s5 e5
     refine ⟨pr.1,t,_,_,rfl,rfl,s5 _ _ (s4 _ _ (hps pr hpm)),e5,by simp [lstC],?_,fun p' H6 t6 q6=>?_⟩
     ·rw [lstC_len,lstC_len];exact len_1000 (by simp;omega)
     have s6:=s5.trans t6
     have q6':H6 p'=some (.tup (lstC (pr.2++[o]))):=by rw [lstC_snoc];exact q6
     have e6:=s6 _ _ e4
     refine ⟨_,e6,?_,(s4.trans s6).upd hD,qs++[(p',pr.2++[o])],?_,?_,?_,?_⟩
     ·rw [List.length_map];exact small1000 (by omega)
     ·rw [upd_same,List.map_append];rfl
     ·intro q hq
      rcases List.mem_append.mp hq with z | z
      ·have w6:=s6 _ _ (hqs q z)
       exact (upd_ne (ne_of w6 e6 (by intro z;cases z))).trans w6
      ·rw [List.mem_singleton.mp z];exact (upd_ne (ne_of q6' e6 (by intro z;cases z))).trans q6'
     ·rw [List.length_append,hql];rfl
     ·rw [List.map_append,hqF,List.take_add_one,List.getElem?_map,hpr,List.map_append];rfl
    ·rintro H4 ⟨s4,qs,e4,hqs,hql,hqF⟩
     rw [List.length_map] at hql
     rw [List.take_of_length_le (by rw [List.length_map,List.length_map];exact Nat.le_refl _)] at hqF
     refine ⟨Dd,qs,_,rfl,s2.trans s4,s4 _ _ q2,e4,hqs,?_⟩
     rw [hqF,hF,tk,sidesF_snoc]
     unfold stepS
     rw [if_neg zc,if_pos z']
   ·have z':¬ o=c:=fun e=>z (decide_eq_true (by rw [e]))
    refine ⟨_,rfl,_,rfl,c,rfl,hcL,fun H3 s3=>⟨rfl,_,rfl,?_⟩⟩
    rw [VS_dec]
    have e3:=s3 _ _ e2
    have hps3:∀ q∈ps,H3 q.1=some (.tup (lstC q.2)):=fun q hq=>s3 _ _ (hps q hq)
    by_cases hoc:[o]=[con c]
    ·have zc:o=con c:=by simpa using hoc
     rw [decide_eq_true hoc]
     refine iteF ⟨l,ps,_,rfl,s2.trans s3,s3 _ _ q2,e3,hps3,?_⟩
     rw [hF,tk,sidesF_snoc]
     unfold stepS
     rw [if_pos zc]
    ·have zc:¬ o=con c:=fun e=>hoc (by rw [e])
     rw [decide_eq_false hoc]
     refine iteT ?_
     refine ⟨_,rfl,_,rfl,l,rfl,⟨_,SqL.of e3⟩,fun Dd hD=>?_⟩
     refine comp_listIf (K:=K) (a:=l) (xs:=ps.map fun p=>V.ref p.1) (fun j H4=>Same H3 H4∧∃ qs:List (Addr×List Nat),H4 Dd=some (.lst (qs.map fun p=>V.ref p.1))∧(∀ q∈qs,H4 q.1=some (.tup (lstC q.2)))∧qs.length=j∧qs.map (·.2)=((ps.map (·.2)).take j).map (·++[o])) ⟨Same.new hD,[],upd_same,fun q hq=>(nomatch hq),rfl,rfl⟩ (fun j H4 _ pr=>SqL.of (pr.1 _ _ e3)) ?_ ?_
     ·rintro j v H4 hv ⟨s4,qs,e4,hqs,hql,hqF⟩
      rw [List.getElem?_map] at hv
      obtain ⟨pr,hpr,rfl⟩:∃ pr,ps[j]?=some pr∧V.ref pr.1=v:=by
       cases hz:ps[j]? with
       | none=>rw [hz] at hv;cases hv
       | some pr=>rw [hz] at hv;exact ⟨pr,rfl,Option.some.inj hv⟩
      have hj:j<ps.length:=(List.getElem?_eq_some_iff.mp hpr).1
      have hpm:=List.mem_of_getElem? hpr
      have hsd:pr.2.length≤8:=by
       have hm:pr.2∈sidesF c ((stdg n x).take i):=by rw [← hF];exact List.mem_map.mpr ⟨pr,hpm,rfl⟩
       have:=((mem_sides (con_ne hcL).symm _ _ rfl ((stdg_nd n1 n4).sublist (List.take_sublist _ _)) pr.2).mp hm).1.length_le
       rw [List.length_take] at this
       omega
      refine ⟨_,rfl,_,rfl,len_1000 (by simp),fun t ht=>?_⟩
      have s5:Same H4 (upd H4 t (.tup [.str (S [o])])):=Same.new ht
      have e5:upd H4 t (.tup [.str (S [o])]) t=some (.tup (lstC [o])):=upd_same
      generalize upd H4 t (.tup [.str (S [o])])=H5 at s5 e5
      refine ⟨pr.1,t,_,_,rfl,rfl,s5 _ _ (s4 _ _ (hps3 pr hpm)),e5,by simp [lstC],?_,fun p' H6 t6 q6=>?_⟩
      ·rw [lstC_len,lstC_len];exact len_1000 (by simp;omega)
      have s6:=s5.trans t6
      have q6':H6 p'=some (.tup (lstC (pr.2++[o]))):=by rw [lstC_snoc];exact q6
      have e6:=s6 _ _ e4
      refine ⟨_,e6,?_,(s4.trans s6).upd hD,qs++[(p',pr.2++[o])],?_,?_,?_,?_⟩
      ·rw [List.length_map];exact small1000 (by omega)
      ·rw [upd_same,List.map_append];rfl
      ·intro q hq
       rcases List.mem_append.mp hq with z | z
       ·have w6:=s6 _ _ (hqs q z)
        exact (upd_ne (ne_of w6 e6 (by intro z;cases z))).trans w6
       ·rw [List.mem_singleton.mp z];exact (upd_ne (ne_of q6' e6 (by intro z;cases z))).trans q6'
      ·rw [List.length_append,hql];rfl
      ·rw [List.map_append,hqF,List.take_add_one,List.getElem?_map,hpr,List.map_append];rfl
     ·rintro H4 ⟨s4,qs,e4,hqs,hql,hqF⟩
      rw [List.length_map] at hql
      rw [List.take_of_length_le (by rw [List.length_map,List.length_map];exact Nat.le_refl _)] at hqF
      refine ⟨l,Dd,_,_,rfl,rfl,s4 _ _ e3,e4,?_,fun L hL=>?_⟩
      ·rw [List.length_map,List.length_map,hql];exact len_1000 (by omega)
      refine ⟨L,ps++qs,_,rfl,((s2.trans s3).trans s4).upd' hL,(s4.trans (Same.new hL)) _ _ (s3 _ _ q2),?_,?_,?_⟩
      ·rw [upd_same,List.map_append]
      ·intro q hq
       rcases List.mem_append.mp hq with z | z
       ·exact (s4.trans (Same.new hL)) _ _ (hps3 q z)
       ·exact (Same.new hL) _ _ (hqs q z)
      ·rw [List.map_append,hqF,hF,tk,sidesF_snoc]
       unfold stepS
       rw [if_neg zc,if_neg z']
  ·rintro _ H2 ⟨l,ps,v3,rfl,s2,q2,e2,hps,hF⟩
   rw [lstC_len,List.take_length] at hF
   have hpl:ps.length≤16:=by
    have:=side_len n1 n4 hc h6
    rw [← hF,List.length_map] at this
    exact this
   have hst:∀ p∈ps,∀ d∈p.2,d∈stdg n x:=fun p hp=>((side_st n1 n4 hc).mp (by rw [← hF];exact List.mem_map.mpr ⟨p,hp,rfl⟩)).2
   have h8:∀ p∈ps,p.2.length≤8:=fun p hp=>(side_good n1 n4 (stdg_lets hc) ((side_st n1 n4 hc).mp (by rw [← hF];exact List.mem_map.mpr ⟨p,hp,rfl⟩)).1).base.le
   have T2:TabsH (tbs P1 P2) H2:=(SameT.of s2).tabs hT
   have ht1:lamTb2 P1 "_law_all_sides" s_zi∈tbs P1 P2:=by simp [tbs]
   refine ⟨_,rfl,l,ps.map (fun p=>V.ref p.1),rfl,T2.2 _ ht1,fun c' H3 eP eC go=>?_⟩
   have s3:SameT (tbs P1 P2) H2 H3:=.made ht1 T2 eP eC go
   have q3:=s3.lst q2
   have hps3:∀ p∈ps,H3 p.1=some (.tup (lstC p.2)):=fun p hp=>s3.tup (hps p hp)
   refine ⟨ps.map (fun p=>p.2.map (ixS (stdg n x))),PvS H3 ps (fun sd=>sd.map (ixS (stdg n x))),SqL.of (s3.lst e2),by rw [List.length_map];omega,by rw [List.length_map,List.length_map],fun Sx hS=>PvS.zero hS,?_,PvS.fin fun D zs H4 hD4 s4 eD4 hperm hord=>?_⟩
   ·intro Sx j ks H4 hPv y hy
    rw [List.getElem?_map] at hy
    obtain ⟨p,hp,rfl⟩:=Option.map_eq_some_iff.mp hy
    have hpm:=List.mem_of_getElem? hp
    have s4:=hPv.2.1
    have ep:=s4 _ _ (hps3 p hpm)
    have p8:=h8 p hpm
    refine ⟨s4 _ _ eC,_,rfl,p.1,rfl,⟨_,SqT.of ep⟩,fun D2 hD2=>comp_tupIf (K:=K) (a:=p.1) (xs:=lstC p.2) (fun i H5=>Same H4 H5∧H5 D2=some (.lst (((p.2.take i).map (ixS (stdg n x))).map V.int))) ⟨Same.new hD2,upd_same⟩ (fun i H5 _ pr=>SqT.of (pr.1 _ _ ep)) ?_ ?_⟩
    ·rintro i v H5 hv ⟨s5,e5⟩
     obtain ⟨o,ho,rfl⟩:∃ o,p.2[i]?=some o∧v=.str (S [o]):=by
      unfold lstC at hv
      rw [List.getElem?_map] at hv
      obtain ⟨o,h1,h2⟩:=Option.map_eq_some_iff.mp hv
      exact ⟨o,h1,h2.symm⟩
     have hi:=(List.getElem?_eq_some_iff.mp ho).1
     have hom:=hst p hpm o (List.mem_of_getElem? ho)
     have hlt:=List.idxOf_lt_length_iff.mpr hom
     refine ⟨_,rfl,.inl ⟨rfl,_,SqL.of (s5 _ _ (s4 _ _ q3))⟩,_,rfl,ls,(stdg n x).map (fun d=>S [d]),S [o],(stdg n x).idxOf o,rfl,rfl,?_,?_,?_,by omega,?_⟩
     ·rw [List.map_map];exact SqL.of (s5 _ _ (s4 _ _ q3))
     ·rw [List.getElem?_map,ix_get hom];rfl
     ·intro m hm z
      rw [List.getElem?_map,List.getElem?_eq_getElem (by omega)] at z
      have z2:S [(stdg n x)[m]'(by omega)]=S [o]:=Option.some.inj z
      have z3:(stdg n x)[m]'(by omega)=o:=by
       have:=congrArg (fun t:Str=>t.cps.toList.headD 0) z2
       exact this
      have z4:(stdg n x)[m]?=some o:=by rw [List.getElem?_eq_getElem (by omega),z3]
      have:=(List.getElem?_inj (by omega) (stdg_nd n1 n4)).mp (z4.trans (ix_get hom).symm)
      omega
     ·refine ⟨_,e5,?_,s5.upd hD2,?_⟩
      ·rw [List.length_map,List.length_map,List.length_take];exact small1000 (by omega)
      ·rw [upd_same,List.take_add_one,ho,List.map_append,List.map_append];rfl
    ·rintro H5 ⟨s5,e5⟩
     rw [lstC_len,List.take_length] at e5
     exact hPv.step hp s5 hD2 e5
   ·have hz:∀ p∈zs,p∈ps:=fun p hp=>hperm.mem_iff.mp hp
    have s24:SameT (tbs P1 P2) H2 H4:=s3.trans (.of s4)
    refine k D zs H4 ?_ ((SameT.of s2).trans s24) ⟨eD4,fun p hp=>s4 _ _ (hps3 p (hz p hp))⟩ (by rw [← hF];exact hperm.map _) ?_
    ·refine s2.free ?_
     cases hq:H2 D with
     | none=>rfl
     | some o =>
      by_cases hd:D=P1
      ·rw [hd] at hD4
       have:H3 P1=some (.tbl (tabOf (lamPos2 s_zi) c')):=eP
       rw [this] at hD4
       cases hD4
      ·have:=go D o hq hd
       rw [this] at hD4
       cases hD4
    ·rw [List.pairwise_map]
     refine hord.imp_of_mem fun {a b} ha hb h=>?_
     unfold leS
     rw [← lex_ix n1 n4 (hst b (hz b hb)) (hst a (hz a ha))]
     exact h
theorem ok_zc {f:Addr} {fd:FuncData} (D:Df K mg "_law_kept_lengths" s_zc ["_law_n","_law_ring_here"] f fd) (T:Txt P w K mg a_CONTRARIES a_LETTERS a_RANKS) (c_z8:Cl P w K mg base "_law_ring" ["_law_word_here"] 3 spRingOf) (c_zs:Cl P w K mg base "_law_retold" ["_law_retelling","_law_word_here"] 3 (spRetold K)) (c_zd:Cl P w K mg base "_law_change_told" ["_law_n","_law_change"] 2 spChTold) (c_zl:Cl P w K mg base "_law_standing" ["_law_ring_here"] 2 spStdL) (c_zi:Cl P w K mg base "_law_all_sides" ["_law_some","_law_letter"] 4 (spAllS (tbs P1 P2))):Cl P w K mg base "_law_kept_lengths" ["_law_n","_law_ring_here"] 5 (spKept (tbs P1 P2)):=by
 obtain ⟨f_z8,fd_z8,G_z8,m_z8,k_z8,b_z8⟩:=c_z8
 obtain ⟨f_zs,fd_zs,G_zs,m_zs,k_zs,b_zs⟩:=c_zs
 obtain ⟨f_zd,fd_zd,G_zd,m_zd,k_zd,b_zd⟩:=c_zd
 obtain ⟨f_zl,fd_zl,G_zl,m_zl,k_zl,b_zl⟩:=c_zl
 obtain ⟨f_zi,fd_zi,G_zi,m_zi,k_zi,b_zi⟩:=c_zi
 refine D.cl (D.F.ok sc_zc (fun vs H Q E h=>?_) (fun cdv A outer s H vs Q E hr h=>?_))
 ·obtain ⟨n,x,rfl,_⟩:=h
  rfl
 ·obtain ⟨n,x,rfl,n1,n4,hrg,hkd,hxl,hT,k⟩:=h
  refine ⟨_,(pss_cons (ps_set (i:=2) sc_zc.nd rfl (Or.inl rfl) (pe_call G_zl (hr.mono (by decide)) (by rfl) m_zl k_zl b_zl .nil pass0 (pa_cons (pv 1) pa_nil)))
   (pss_cons (ps_set (i:=3) sc_zc.nd rfl (Or.inl rfl) (pe_lst pa_nil))
   (pss_cons (ps_for PassesOwn.never rfl (pi_listK (K:=K) rfl (pv 2)) (pg_name (i:=4) sc_zc.nd rfl (Or.inl rfl)) (pss_one (ps_for PassesOwn.never rfl (pi_listK (K:=K) rfl (pe_call G_zi (hr.mono (by decide)) (by rfl) m_zi k_zi b_zi .nil pass0 (pa_cons (pv 2) (pa_cons (pv 4) pa_nil)))) (pg_name (i:=5) sc_zc.nd rfl (Or.inl rfl)) (pss_one (ps_if (pt_cmpR op_eq (pe_callB call_len_str (by rfl) T.b_len PySem.boot_len (pa_cons (pe_call G_z8 (hr.mono (by decide)) (by rfl) m_z8 k_z8 b_z8 .nil pass0 (pa_cons (pe_call G_zs (hr.mono (by decide)) (by rfl) m_zs k_zs b_zs .nil pass0 (pa_cons (pe_call G_zd (hr.mono (by decide)) (by rfl) m_zd k_zd b_zd .nil pass0 (pa_cons (pv 0) (pa_cons (pe_tup (pa_cons (pv 4) (pa_cons (pv 5) pa_nil))) pa_nil))) (pa_cons (pv 1) pa_nil))) pa_nil)) pa_nil)) (pe_callB call_len_str (by rfl) T.b_len PySem.boot_len (pa_cons (pv 1) pa_nil)) (nomark _)) (pss_one (ps_expr (pe_bmK (K:=K) rfl PySem.F.plainAttrs_list PySem.F.slot_list_append PySem.F.type_list_append mt_append (pv 3) (pa_cons (pe_tup (pa_cons (pv 4) (pa_cons (pv 5) pa_nil))) pa_nil)))) pss_nil)))))
   (pss_one (ps_ret (pv 3)))))),?_⟩
  have h6:=stdg_six n1 n4 hkd
  refine ⟨_,rfl,n,x,rfl,n1,n4,hrg.ofn,fun ls H1 hls s1 els=>?_⟩
  refine ⟨len_1000 (by simp),fun lf hlf=>?_⟩
  have s2:Same H1 (upd H1 lf (.lst [])):=Same.new hlf
  have e2:upd H1 lf (.lst []) lf=some (.lst []):=upd_same
  have hlf0:H lf=none:=s1.free hlf
  have hlsf:ls≠lf:=ne_of_none els hlf
  generalize upd H1 lf (.lst [])=H2 at s2 e2
  have s02:=s1.trans s2
  have T2:TabsH (tbs P1 P2) H2:=(SameT.of s02).tabs hT
  refine ⟨_,rfl,ls,rfl,⟨_,SqL.of (s2 _ _ els)⟩,?_⟩
  refine for_list (K:=K) (a:=ls) (xs:=lstC (stdg n x)) (fun i σ H4=>∃ v4 v5:Option V,σ=[some (.int (n:Nat)),some (.str (S x)),some (.ref ls),some (.ref lf),v4,v5]∧(∀ b o,H b=some o→(∀ x,o≠.tbl x)→H4 b=some o)∧TabsH (tbs P1 P2) H4∧H4 ls=some (.lst (lstC (stdg n x)))∧∃ ps:List (Addr×Nat×List Nat),H4 lf=some (.lst (ps.map fun p=>V.ref p.1))∧(∀ p∈ps,IsChg H4 p.1 p.2.1 p.2.2)∧LvAll n x ((stdg n x).take i) (ps.map (·.2))∧ps.length≤16 * i) ⟨none,none,rfl,fun b o e _=>s02 b o e,T2,s2 _ _ els,[],e2,(fun p hp=>nomatch hp),rfl,Nat.zero_le _⟩ (fun i σ H4 _ ⟨_,_,_,_,_,e,_⟩=>SqL.of e) ?_ ?_
  ·rintro i v _ H4 hv ⟨v4,v5,rfl,kp4,T4,els4,ps,elf,hps,hlv,hpl⟩
   obtain ⟨c,hc,rfl⟩:∃ c,(stdg n x)[i]?=some c∧v=.str (S [c]):=by
    unfold lstC at hv
    rw [List.getElem?_map] at hv
    obtain ⟨o,h1,h2⟩:=Option.map_eq_some_iff.mp hv
    exact ⟨o,h1,h2.symm⟩
   have hi:=(List.getElem?_eq_some_iff.mp hc).1
   have hcs:=List.mem_of_getElem? hc
   have hcl:=stdg_lets hcs
   have hcL:=letsN_isL hcl
   refine ⟨_,rfl,_,rfl,n,ls,c,x,rfl,n1,n4,hcs,h6,els4,T4,fun l1 qs H5 hl1 s5 hrt hperm hord=>?_⟩
   have hql:qs.length≤16:=by
    have:=side_len n1 n4 hcs h6
    rw [← hperm.length_eq,List.length_map] at this
    exact this
   have hgood:∀ p∈qs,GoodS n c p.2:=fun p hp=>side_good n1 n4 hcl ((side_st n1 n4 hcs).mp (hperm.mem_iff.mp (List.mem_map.mpr ⟨p,hp,rfl⟩))).1
   have elf5:=s5.lst elf
   have hl1f:l1≠lf:=(ne_of_none elf hl1).symm
   refine ⟨l1,rfl,⟨_,SqL.of hrt.1⟩,?_⟩
   refine for_list (K:=K) (a:=l1) (xs:=qs.map fun p=>V.ref p.1) (fun j σ H6=>∃ v5:Option V,σ=[some (.int (n:Nat)),some (.str (S x)),some (.ref ls),some (.ref lf),some (.str (S [c])),v5]∧(∀ b o,b≠lf→H5 b=some o→H6 b=some o)∧∃ ys:List (Addr×Nat×List Nat),H6 lf=some (.lst ((ps++ys).map fun p=>V.ref p.1))∧(∀ p∈ps++ys,IsChg H6 p.1 p.2.1 p.2.2)∧ys.length≤j∧ys.map (·.2)=((qs.take j).filter fun p=>decide (sumL p.2 (Dk (tiesR [x]))=cntR [x] c)).map fun p=>(c,p.2)) ?_ (fun j σ H6 _ ⟨_,_,go,_⟩=>SqL.of (go _ _ hl1f hrt.1)) ?_ ?_
   ·exact ⟨v5,rfl,fun _ _ _ e=>e,[],by rw [List.append_nil];exact elf5,fun p hp=>IsChg.sameT (hps p (by rw [List.append_nil] at hp;exact hp)) s5,Nat.le_refl _,rfl⟩
   ·rintro j v _ H6 hv ⟨v5,rfl,go,ys,elf6,hys,hyl,hyF⟩
    rw [List.getElem?_map] at hv
    obtain ⟨p,hp,rfl⟩:=Option.map_eq_some_iff.mp hv
    have hpm:=List.mem_of_getElem? hp
    have hj:=(List.getElem?_eq_some_iff.mp hp).1
    have g:=hgood p hpm
    have tk:=take_succ_filterG (fun p:PS2=>decide (sumL p.2 (Dk (tiesR [x]))=cntR [x] c)) qs j p hp
    have hpf:p.1≠lf:=ne_of (hrt.2 p hpm) elf5 (by intro z;cases z)
    have ep6:=go _ _ hpf (hrt.2 p hpm)
    refine ⟨_,rfl,_,rfl,_,rfl,len_1000 (by simp),fun t ht=>?_⟩
    have s7:Same H6 (upd H6 t (.tup [.str (S [c]),.ref p.1])):=Same.new ht
    have e7:upd H6 t (.tup [.str (S [c]),.ref p.1]) t=some (.tup [.str (S [c]),.ref p.1]):=upd_same
    generalize upd H6 t (.tup [.str (S [c]),.ref p.1])=H7 at s7 e7
    refine ⟨n,t,c,p.2,rfl,n1,n4,⟨p.1,e7,s7 _ _ ep6⟩,hcL,fun d hd=>letsN_isL (g.base.side d hd),fun u H8 hu s8 eu=>?_⟩
    have hrt':=chgR_rt (sd:=p.2) n4 hcL
    have hrl:=retl_len hrt' x
    refine ⟨_,rfl,u,chgR n c p.2,n,3,x,rfl,SqT.of eu,hrt',n1,n4,by decide,hrg.ofn,by omega,by omega,fun H9 s9=>⟨_,rfl,retl_all hrt' x,by omega,fun r H10 hr s10=>?_⟩⟩
    have hrlen:=hr.len
    have hkl:=keep_len n1 n4 hrg g hr
    have s610:=((s7.trans s8).trans s9).trans s10
    refine ⟨_,rfl,by rw [S_len];exact len_1000 (by omega),_,rfl,_,rfl,by rw [S_len];exact len_1000 (by omega),rfl,_,rfl,?_⟩
    have ed:decide (V.int (((S r).length:Nat):Int)=V.int (((S x).length:Nat):Int))=decide (sumL p.2 (Dk (tiesR [x]))=cntR [x] c):=by
     rw [S_len,S_len]
     by_cases q:sumL p.2 (Dk (tiesR [x]))=cntR [x] c
     ·rw [decide_eq_true q,decide_eq_true (by rw [hkl.mp q])]
     ·rw [decide_eq_false q,decide_eq_false (fun z=>q (hkl.mpr (by have:=V.int.inj z;omega)))]
    rw [ed]
    have elf10:=s610 _ _ elf6
    refine ite2 (fun z=>?_) (fun z=>?_)
    ·refine ⟨_,rfl,.inl ⟨rfl,_,SqL.of elf10⟩,_,rfl,_,rfl,len_1000 (by simp),fun t2 ht2=>?_⟩
     have s11:Same H10 (upd H10 t2 (.tup [.str (S [c]),.ref p.1])):=Same.new ht2
     have e11:upd H10 t2 (.tup [.str (S [c]),.ref p.1]) t2=some (.tup [.str (S [c]),.ref p.1]):=upd_same
     generalize upd H10 t2 (.tup [.str (S [c]),.ref p.1])=H11 at s11 e11
     have s611:=s610.trans s11
     have elf11:=s11 _ _ elf10
     have tset:∀ {b:Addr} {xs:List V},H11 b=some (.tup xs)→upd H11 lf (.lst (((ps++ys).map fun p=>V.ref p.1)++[.ref t2])) b=some (.tup xs):=fun h=>by rw [upd_ne (ne_of h elf11 (by intro z;cases z))];exact h
     refine ⟨lf,_,_,rfl,rfl,elf11,by rw [List.length_map,List.length_append];exact small1000 (by omega),_,rfl,fun b o hb e=>by rw [upd_ne hb];exact s611 _ _ (go b o hb e),ys++[(t2,c,p.2)],by rw [upd_same,← List.append_assoc,List.map_append (l₁:=ps++ys)];rfl,fun q hq=>?_,by rw [List.length_append,List.length_singleton];omega,?_⟩
     ·rw [← List.append_assoc] at hq
      rcases List.mem_append.mp hq with z | z
      ·obtain ⟨w,w1,w2⟩:=hys q z
       exact ⟨w,tset (s611 _ _ w1),tset (s611 _ _ w2)⟩
      ·rw [List.mem_singleton.mp z]
       exact ⟨p.1,tset e11,tset (s611 _ _ ep6)⟩
     ·rw [List.map_append,hyF,tk,if_pos z,List.map_append];rfl
    ·refine ⟨_,rfl,fun b o hb e=>s610 _ _ (go b o hb e),ys,elf10,fun q hq=>(hys q hq).same s610,by omega,?_⟩
     rw [hyF,tk,if_neg z,List.append_nil]
   ·rintro _ H6 ⟨v5,rfl,go,ys,elf6,hys,hyl,hyF⟩
    rw [List.length_map] at hyl
    rw [List.length_map,List.take_length] at hyF
    have hLv:LvR n x c ((qs.map (·.2)).filter fun sd=>decide (sumL sd (Dk (tiesR [x]))=cntR [x] c)):=lv_keep n1 n4 hcs hperm hord (P:=fun sd=>decide (sumL sd (Dk (tiesR [x]))=cntR [x] c)) (fun sd _=>decide_eq_true_iff) rfl
    refine ⟨_,_,rfl,fun b o e nt=>go b o (fun z=>by rw [z,hlf0] at e;cases e) (s5.keep b o (kp4 b o e nt) nt),tabs_keep (fun b o e nl=>go b o (fun z=>by rw [z,elf5] at e;cases e;exact nl _ rfl) e) (s5.tabs T4),go _ _ hlsf (s5.lst els4),ps++ys,elf6,hys,?_,by rw [List.length_append];omega⟩
    rw [List.take_add_one,hc,List.map_append,hyF]
    have:=LvAll.snoc hLv hlv
    rw [List.filter_map,List.map_map] at this
    exact this
  ·rintro _ H4 ⟨v4,v5,rfl,kp4,T4,els4,ps,elf,hps,hlv,hpl⟩
   rw [lstC_len,List.take_length] at hlv
   rw [lstC_len] at hpl
   exact ⟨_,rfl,k lf H4 hlf0 ⟨kp4,fun _=>T4⟩ ⟨ps,elf,hps,hlv,by omega⟩⟩
theorem ok_law {f:Addr} {fd:FuncData} (D:Df K mg "law" s_law ["_law_script"] f fd) (T:Txt P w K mg a_CONTRARIES a_LETTERS a_RANKS) (c_zj:Cl P w K mg base "level_changes" ["n","ring"] 5 spLevel) (c_z7:Cl P w K mg base "_law_flow" ["_law_script"] 1 (spFlow K)) (c_z6:Cl P w K mg base "_law_pick" ["_law_flow_here","_law_many"] 1 spPick) (c_zx:Cl P w K mg base "_law_alike" ["_law_found","_law_due"] 4 (spLq K 3)) (c_z3:Cl P w K mg base "_law_word" ["_law_flow_here","_law_n","_law_most"] 2 spWord) (c_z8:Cl P w K mg base "_law_ring" ["_law_word_here"] 3 spRingOf) (c_zh:Cl P w K mg base "_law_short_ring" ["_law_n","_law_word_here"] 7 (spShRing (tbs P1 P2))) (c_zf:Cl P w K mg base "_law_stage_word" ["_law_flow_here","_law_n"] 4 spStage) (c_zc:Cl P w K mg base "_law_kept_lengths" ["_law_n","_law_ring_here"] 5 (spKept (tbs P1 P2))):FnOk P w K mg base CX0 8 f fd ["_law_script"] (spLawT K (tbs P1 P2)):=by
 obtain ⟨f_zj,fd_zj,G_zj,m_zj,k_zj,b_zj⟩:=c_zj
 obtain ⟨f_z7,fd_z7,G_z7,m_z7,k_z7,b_z7⟩:=c_z7
 obtain ⟨f_z6,fd_z6,G_z6,m_z6,k_z6,b_z6⟩:=c_z6
 obtain ⟨f_zx,fd_zx,G_zx,m_zx,k_zx,b_zx⟩:=c_zx
 obtain ⟨f_z3,fd_z3,G_z3,m_z3,k_z3,b_z3⟩:=c_z3
 obtain ⟨f_z8,fd_z8,G_z8,m_z8,k_z8,b_z8⟩:=c_z8
 obtain ⟨f_zh,fd_zh,G_zh,m_zh,k_zh,b_zh⟩:=c_zh
 obtain ⟨f_zf,fd_zf,G_zf,m_zf,k_zf,b_zf⟩:=c_zf
 obtain ⟨f_zc,fd_zc,G_zc,m_zc,k_zc,b_zc⟩:=c_zc
 refine D.F.ok sc_law (fun vs H Q E h=>?_) (fun cdv A outer s H vs Q E hr h=>?_)
 ·obtain ⟨a,ns,rfl,_⟩:=h
  rfl
 ·obtain ⟨a,ns,rfl,hs,hl,hT,k⟩:=h
  refine ⟨_,(pss_cons (ps_set (i:=1) sc_law.nd rfl (Or.inl rfl) (pe_call G_z7 (hr.mono (by decide)) (by rfl) m_z7 k_z7 b_z7 .nil pass0 (pa_cons (pv 0) pa_nil)))
   (pss_cons (ps_set (i:=2) sc_law.nd rfl (Or.inl rfl) (pe_op op_add pe_int (pe_call G_z6 (hr.mono (by decide)) (by rfl) m_z6 k_z6 b_z6 .nil pass0 (pa_cons (pv 1) (pa_cons pe_int pa_nil)))))
   (pss_cons (ps_set (i:=3) sc_law.nd rfl (Or.inl rfl) (pe_call G_z8 (hr.mono (by decide)) (by rfl) m_z8 k_z8 b_z8 .nil pass0 (pa_cons (pe_call G_zf (hr.mono (by decide)) (by rfl) m_zf k_zf b_zf .nil pass0 (pa_cons (pv 1) (pa_cons (pv 2) pa_nil))) pa_nil)))
   (pss_mid (ps_if (pt_cmpR op_eq (pe_call G_z6 (hr.mono (by decide)) (by rfl) m_z6 k_z6 b_z6 .nil pass0 (pa_cons (pv 1) (pa_cons pe_int pa_nil))) pe_int (nomark _)) (pss_one (ps_set (i:=3) sc_law.nd rfl (Or.inl rfl) (pe_call G_zh (hr.mono (by decide)) (by rfl) m_zh k_zh b_zh .nil pass0 (pa_cons (pv 2) (pa_cons (pv 3) pa_nil))))) pss_nil)
   (pss_cons (ps_set (i:=4) sc_law.nd rfl (Or.inl rfl) (pe_call G_z8 (hr.mono (by decide)) (by rfl) m_z8 k_z8 b_z8 .nil pass0 (pa_cons (pe_call G_z3 (hr.mono (by decide)) (by rfl) m_z3 k_z3 b_z3 .nil pass0 (pa_cons (pv 1) (pa_cons (pe_callB (call_min2 rfl) (by rfl) T.b_min boot_min (pa_cons (pv 2) (pa_cons pe_int pa_nil))) (pa_cons pe_int pa_nil)))) pa_nil)))
   (pss_cons (ps_set (i:=5) sc_law.nd rfl (Or.inl rfl) (pe_call G_zc (hr.mono (by decide)) (by rfl) m_zc k_zc b_zc .nil pass0 (pa_cons (pv 2) (pa_cons (pv 3) pa_nil))))
   (pss_cons (ps_set (i:=6) sc_law.nd rfl (Or.inl rfl) (pe_call G_zj (hr.mono (by decide)) (by rfl) m_zj k_zj b_zj .nil pass0 (pa_cons (pv 2) (pa_cons (pv 3) pa_nil))))
   (pss_cons (ps_if (pt_not (pt_val (pe_call G_zx (hr.mono (by decide)) (by rfl) m_zx k_zx b_zx .nil pass0 (pa_cons (pv 6) (pa_cons (pv 5) pa_nil))))) (pss_one (ps_ret pe_bl)) pss_nil)
   (pss_cons (ps_expr (pe_bm0K (K:=K) rfl PySem.F.plainAttrs_list PySem.F.slot_list_clear PySem.F.type_list_clear mt_clear (pv 6)))
   (pss_cons (ps_if (pt_cmpR (op_neQ (K:=K) rfl hr.units) (pe_call G_zj (hr.mono (by decide)) (by rfl) m_zj k_zj b_zj .nil pass0 (pa_cons (pv 2) (pa_cons (pv 4) pa_nil))) (pe_call G_zc (hr.mono (by decide)) (by rfl) m_zc k_zc b_zc .nil pass0 (pa_cons (pv 2) (pa_cons (pv 4) pa_nil))) (nomark _)) (pss_one (ps_ret pe_bl)) pss_nil)
   (pss_one (ps_ret (pe_call G_zx (hr.mono (by decide)) (by rfl) m_zx k_zx b_zx .nil pass0 (pa_cons (pe_call G_zj (hr.mono (by decide)) (by rfl) m_zj k_zj b_zj .nil pass0 (pa_cons (pv 2) (pa_cons (pv 3) pa_nil))) (pa_cons (pv 5) pa_nil))))))))))))))),?_⟩
  refine ⟨_,rfl,a,ns,rfl,hs,hl,fun fl sc H1 hfl s1 f1=>?_⟩
  have t1:TabsH (tbs P1 P2) H1:=(SameT.of s1).tabs hT
  refine ⟨_,rfl,fl,sc,4,rfl,f1,by decide,by decide,fun d H2 d0 d1 f2 k2=>⟨_,_,rfl,rfl,?_⟩⟩
  obtain ⟨n,hn⟩:∃ n:Nat,1+d=(n:Int):=⟨(1+d).toNat,by omega⟩
  have hd:(fun i j:Int=>V.int (i+j)) 1 d=V.int (n:Nat):=by rw [← hn]
  rw [hd]
  have n1:1≤n:=by omega
  have n4:n≤4:=by omega
  have t2:=tabs_kp f1 k2 t1
  refine ⟨_,rfl,_,rfl,fl,sc,n,rfl,f2,n1,n4,fun w H3 ow pw kw wl f3 k3=>?_⟩
  have t3:=tabs_kp f2 k3 t2
  refine ⟨w,rfl,ow.all,by omega,fun r H4 hr s4=>?_⟩
  have f4:=f3.same s4
  have t4:TabsH (tbs P1 P2) H4:=(SameT.of s4).tabs t3
  have rl:=hr.len
  have rg:RgN n r:=⟨w,ow,pw,hr⟩
  refine ⟨fun σ H5=>∃ x:List Nat,σ=[some (.ref a),some (.ref fl),some (.int (n:Nat)),some (.str (S x)),none,none,none]∧IsFl H5 fl sc∧TabsH (tbs P1 P2) H5∧RgN n x∧Kd x∧x.length≤100,?_,?_⟩
  ·refine ⟨_,rfl,fl,sc,2,rfl,f4,by decide,by decide,fun e H5 e0 e1 f5 k5=>⟨rfl,_,rfl,ite2 (fun q=>?_) (fun q=>⟨r,rfl,f5,tabs_kp f4 k5 t4,rg,kw.ring hr,by omega⟩)⟩⟩
   refine ⟨_,rfl,_,rfl,n,r,rfl,n1,n4,rg.ofn,(ring_shape rg).2.1,kw.ring hr,by omega,tabs_kp f4 k5 t4,fun z H6 s6 hz kz zl=>?_⟩
   exact ⟨z,rfl,IsFl.sameT s6 f5,s6.tabs (tabs_kp f4 k5 t4),hz,kz,zl⟩
  rintro _ H5 ⟨x,rfl,f5,t5,hrg,hkd,hxl⟩
  refine ⟨_,rfl,_,rfl,_,_,rfl,?_⟩
  obtain ⟨mm,hmm,m1,m2,mn⟩:∃ mm:Nat,(if (2:Int)<((n:Nat):Int) then 2 else ((n:Nat):Int))=(mm:Int)∧1≤mm∧mm≤2∧mm≤n:=by
   by_cases q:(2:Int)<((n:Nat):Int)
   ·rw [if_pos q];exact ⟨2,rfl,by decide,by decide,by omega⟩
   ·rw [if_neg q];exact ⟨n,rfl,n1,by omega,Nat.le_refl _⟩
  rw [hmm]
  refine ⟨fl,sc,(mm:Nat),6,rfl,f5,by omega,by omega,by decide,by decide,fun w2 H6 ow2 pw2 wl2 f6 k6=>?_⟩
  have t6:=tabs_kp f5 k6 t5
  have ow2':OfN n w2:=ofn_le m1 mn n4 ow2
  refine ⟨w2,rfl,ow2'.all,by omega,fun o H7 ho s7=>?_⟩
  have hog:RgN n o:=⟨w2,ow2',pw2,ho⟩
  have hok:Kd o:=(Kd.few m1 (by omega) ow2).ring ho
  have hol:=ho.len
  have t7:TabsH (tbs P1 P2) H7:=(SameT.of s7).tabs t6
  refine ⟨_,rfl,_,rfl,n,x,rfl,n1,n4,hrg,hkd,hxl,t7,fun ld H8 hld s8 lv8=>?_⟩
  have t8:=s8.tabs t7
  refine ⟨_,rfl,_,rfl,n,x,rfl,n1,n4,hrg,hkd,hxl,fun lf H9 hlf s9 lv9=>?_⟩
  have t9:TabsH (tbs P1 P2) H9:=(SameT.of s9).tabs t8
  have ld9:=lv8.sameT (SameT.of (ts:=tbs P1 P2) s9)
  refine ⟨_,rfl,_,rfl,_,_,rfl,lq_lv n1 n4 lv9 ld9,fun H10 s10=>⟨_,rfl,iteF ?_⟩⟩
  have t10:TabsH (tbs P1 P2) H10:=(SameT.of s10).tabs t9
  have ld10:=ld9.sameT (SameT.of (ts:=tbs P1 P2) s10)
  obtain ⟨ps,elf,_⟩:=lv9.sameT (SameT.of (ts:=tbs P1 P2) s10)
  have hldf:ld≠lf:=by
   obtain ⟨_,e,_⟩:=lv8
   exact ne_of_none e hlf
  refine ⟨_,rfl,.inl ⟨rfl,_,SqL.of elf⟩,?_⟩
  refine ⟨lf,_,rfl,rfl,elf,?_⟩
  have ld11:=ld10.set (o:=HO.lst []) elf hldf
  have t11:TabsH (tbs P1 P2) (upd H10 lf (.lst [])):=tabs_set elf t10
  generalize upd H10 lf (.lst [])=H11 at ld11 t11
  refine ⟨_,rfl,_,rfl,n,o,rfl,n1,n4,hog,hok,by omega,fun l12 H12 hl12 s12 lv12=>?_⟩
  have t12:TabsH (tbs P1 P2) H12:=(SameT.of s12).tabs t11
  refine ⟨_,rfl,_,rfl,n,o,rfl,n1,n4,hog,hok,by omega,t12,fun l13 H13 hl13 s13 lv13=>?_⟩
  have t13:=s13.tabs t12
  obtain ⟨xs,ys,e1,e2,hxy,_,hall⟩:=IsLv.two (K:=K) n1 n4 (lv12.sameT s13) lv13
  refine ⟨2,l12,l13,xs,ys,by decide,rfl,rfl,.inl ⟨e1,e2⟩,hxy,hall,_,rfl,iteF ?_⟩
  have ld13:=(ld11.sameT (SameT.of (ts:=tbs P1 P2) s12)).sameT s13
  refine ⟨_,rfl,_,rfl,n,x,rfl,n1,n4,hrg,hkd,hxl,fun l14 H14 hl14 s14 lv14=>?_⟩
  exact ⟨_,rfl,_,_,rfl,lq_lv n1 n4 lv14 (ld13.sameT (SameT.of (ts:=tbs P1 P2) s14)),fun H15 s15=>k H15⟩
end
theorem all_mk {l:PySem.W.OpenLaw} {w:World} {K:PySem.W.Frag} {h:Heap} {mg:Str→Option Value} {fa:Addr} (X:K.In h) (G:h.Ns mainGlobals mg) (hfa:mg "law"=some (.ref fa))
  {f_0 f_1 f_2 f_3 f_4 f_5 f_6 f_7 f_8 f_9 f_10 f_11 f_12 f_13 f_14 f_15 f_16 f_17 f_18 f_19 f_20 f_21 f_22 f_23 f_24 f_25 f_26 f_27 f_28 f_29 f_30 f_31 f_32 f_33 f_34 f_35 f_36 f_37 f_38 a_CONTRARIES a_LETTERS a_RANKS:Addr}
  {od_0 an_0 od_1 an_1 od_2 an_2 od_3 an_3 od_4 an_4 od_5 an_5 od_6 an_6 od_7 an_7 od_8 an_8 od_9 an_9 od_10 an_10 od_11 an_11 od_12 an_12 od_13 an_13 od_14 an_14 od_15 an_15 od_16 an_16 od_17 an_17 od_18 an_18 od_19 an_19 od_20 an_20 od_21 an_21 od_22 an_22 od_23 an_23 od_24 an_24 od_25 an_25 od_26 an_26 od_27 an_27 od_28 an_28 od_29 an_29 od_30 an_30 od_31 an_31 od_32 an_32 od_33 an_33 od_34 an_34 od_35 an_35 od_36 an_36 od_37 an_37 od_38 an_38:Option Addr} {sl_0 sl_1 sl_2 sl_3 sl_4 sl_5 sl_6 sl_7 sl_8 sl_9 sl_10 sl_11 sl_12 sl_13 sl_14 sl_15 sl_16 sl_17 sl_18 sl_19 sl_20 sl_21 sl_22 sl_23 sl_24 sl_25 sl_26 sl_27 sl_28 sl_29 sl_30 sl_31 sl_32 sl_33 sl_34 sl_35 sl_36 sl_37 sl_38:Array (Option Value)} {oc_0 kV_0 dc_0 pm_0 cd_0 ct_0 oc_1 kV_1 dc_1 pm_1 cd_1 ct_1 oc_2 kV_2 dc_2 pm_2 cd_2 ct_2 oc_3 kV_3 dc_3 pm_3 cd_3 ct_3 oc_4 kV_4 dc_4 pm_4 cd_4 ct_4 oc_5 kV_5 dc_5 pm_5 cd_5 ct_5 oc_6 kV_6 dc_6 pm_6 cd_6 ct_6 oc_7 kV_7 dc_7 pm_7 cd_7 ct_7 oc_8 kV_8 dc_8 pm_8 cd_8 ct_8 oc_9 kV_9 dc_9 pm_9 cd_9 ct_9 oc_10 kV_10 dc_10 pm_10 cd_10 ct_10 oc_11 kV_11 dc_11 pm_11 cd_11 ct_11 oc_12 kV_12 dc_12 pm_12 cd_12 ct_12 oc_13 kV_13 dc_13 pm_13 cd_13 ct_13 oc_14 kV_14 dc_14 pm_14 cd_14 ct_14 oc_15 kV_15 dc_15 pm_15 cd_15 ct_15 oc_16 kV_16 dc_16 pm_16 cd_16 ct_16 oc_17 kV_17 dc_17 pm_17 cd_17 ct_17 oc_18 kV_18 dc_18 pm_18 cd_18 ct_18 oc_19 kV_19 dc_19 pm_19 cd_19 ct_19 oc_20 kV_20 dc_20 pm_20 cd_20 ct_20 oc_21 kV_21 dc_21 pm_21 cd_21 ct_21 oc_22 kV_22 dc_22 pm_22 cd_22 ct_22 oc_23 kV_23 dc_23 pm_23 cd_23 ct_23 oc_24 kV_24 dc_24 pm_24 cd_24 ct_24 oc_25 kV_25 dc_25 pm_25 cd_25 ct_25 oc_26 kV_26 dc_26 pm_26 cd_26 ct_26 oc_27 kV_27 dc_27 pm_27 cd_27 ct_27 oc_28 kV_28 dc_28 pm_28 cd_28 ct_28 oc_29 kV_29 dc_29 pm_29 cd_29 ct_29 oc_30 kV_30 dc_30 pm_30 cd_30 ct_30 oc_31 kV_31 dc_31 pm_31 cd_31 ct_31 oc_32 kV_32 dc_32 pm_32 cd_32 ct_32 oc_33 kV_33 dc_33 pm_33 cd_33 ct_33 oc_34 kV_34 dc_34 pm_34 cd_34 ct_34 oc_35 kV_35 dc_35 pm_35 cd_35 ct_35 oc_36 kV_36 dc_36 pm_36 cd_36 ct_36 oc_37 kV_37 dc_37 pm_37 cd_37 ct_37 oc_38 kV_38 dc_38 pm_38 cd_38 ct_38:Value}
  (na_0:PySem.W.nsIn K mainGlobals "letters_of"=some (some (.ref f_0))) (nl_0:K.lookup f_0=some ⟨oc_0,od_0,.func (fnX "letters_of" s_zt kV_0 dc_0 pm_0 an_0 cd_0 ct_0),sl_0⟩) (nc_0:PySem.W.codeIn K cd_0 "letters_of"=true) (nk_0:PySem.W.keepIn K (.ref f_0)=true)
  (na_1:PySem.W.nsIn K mainGlobals "contrary"=some (some (.ref f_1))) (nl_1:K.lookup f_1=some ⟨oc_1,od_1,.func (fnX "contrary" s_z4 kV_1 dc_1 pm_1 an_1 cd_1 ct_1),sl_1⟩) (nc_1:PySem.W.codeIn K cd_1 "contrary"=true) (nk_1:PySem.W.keepIn K (.ref f_1)=true)
  (na_2:PySem.W.nsIn K mainGlobals "rank_of"=some (some (.ref f_2))) (nl_2:K.lookup f_2=some ⟨oc_2,od_2,.func (fnX "rank_of" s_za1 kV_2 dc_2 pm_2 an_2 cd_2 ct_2),sl_2⟩) (nc_2:PySem.W.codeIn K cd_2 "rank_of"=true) (nk_2:PySem.W.keepIn K (.ref f_2)=true)
  (na_3:PySem.W.nsIn K mainGlobals "ties_leaving"=some (some (.ref f_3))) (nl_3:K.lookup f_3=some ⟨oc_3,od_3,.func (fnX "ties_leaving" s_zn kV_3 dc_3 pm_3 an_3 cd_3 ct_3),sl_3⟩) (nc_3:PySem.W.codeIn K cd_3 "ties_leaving"=true) (nk_3:PySem.W.keepIn K (.ref f_3)=true)
  (na_4:PySem.W.nsIn K mainGlobals "sides_for"=some (some (.ref f_4))) (nl_4:K.lookup f_4=some ⟨oc_4,od_4,.func (fnX "sides_for" s_zu kV_4 dc_4 pm_4 an_4 cd_4 ct_4),sl_4⟩) (nc_4:PySem.W.codeIn K cd_4 "sides_for"=true) (nk_4:PySem.W.keepIn K (.ref f_4)=true)
  (na_5:PySem.W.nsIn K mainGlobals "tied_pair"=some (some (.ref f_5))) (nl_5:K.lookup f_5=some ⟨oc_5,od_5,.func (fnX "tied_pair" s_zv kV_5 dc_5 pm_5 an_5 cd_5 ct_5),sl_5⟩) (nc_5:PySem.W.codeIn K cd_5 "tied_pair"=true) (nk_5:PySem.W.keepIn K (.ref f_5)=true)
  (na_6:PySem.W.nsIn K mainGlobals "ties_of"=some (some (.ref f_6))) (nl_6:K.lookup f_6=some ⟨oc_6,od_6,.func (fnX "ties_of" s_z9 kV_6 dc_6 pm_6 an_6 cd_6 ct_6),sl_6⟩) (nc_6:PySem.W.codeIn K cd_6 "ties_of"=true) (nk_6:PySem.W.keepIn K (.ref f_6)=true)
  (na_7:PySem.W.nsIn K mainGlobals "count_of"=some (some (.ref f_7))) (nl_7:K.lookup f_7=some ⟨oc_7,od_7,.func (fnX "count_of" s_z1 kV_7 dc_7 pm_7 an_7 cd_7 ct_7),sl_7⟩) (nc_7:PySem.W.codeIn K cd_7 "count_of"=true) (nk_7:PySem.W.keepIn K (.ref f_7)=true)
  (na_8:PySem.W.nsIn K mainGlobals "letters_standing"=some (some (.ref f_8))) (nl_8:K.lookup f_8=some ⟨oc_8,od_8,.func (fnX "letters_standing" s_za kV_8 dc_8 pm_8 an_8 cd_8 ct_8),sl_8⟩) (nc_8:PySem.W.codeIn K cd_8 "letters_standing"=true) (nk_8:PySem.W.keepIn K (.ref f_8)=true)
  (na_9:PySem.W.nsIn K mainGlobals "ranks_in_side"=some (some (.ref f_9))) (nl_9:K.lookup f_9=some ⟨oc_9,od_9,.func (fnX "ranks_in_side" s_zk kV_9 dc_9 pm_9 an_9 cd_9 ct_9),sl_9⟩) (nc_9:PySem.W.codeIn K cd_9 "ranks_in_side"=true) (nk_9:PySem.W.keepIn K (.ref f_9)=true)
  (na_10:PySem.W.nsIn K mainGlobals "sides_standing"=some (some (.ref f_10))) (nl_10:K.lookup f_10=some ⟨oc_10,od_10,.func (fnX "sides_standing" s_zg kV_10 dc_10 pm_10 an_10 cd_10 ct_10),sl_10⟩) (nc_10:PySem.W.codeIn K cd_10 "sides_standing"=true) (nk_10:PySem.W.keepIn K (.ref f_10)=true)
  (na_11:PySem.W.nsIn K mainGlobals "level_changes"=some (some (.ref f_11))) (nl_11:K.lookup f_11=some ⟨oc_11,od_11,.func (fnX "level_changes" s_zj kV_11 dc_11 pm_11 an_11 cd_11 ct_11),sl_11⟩) (nc_11:PySem.W.codeIn K cd_11 "level_changes"=true) (nk_11:PySem.W.keepIn K (.ref f_11)=true)
  (na_12:PySem.W.nsIn K mainGlobals "_law_flow"=some (some (.ref f_12))) (nl_12:K.lookup f_12=some ⟨oc_12,od_12,.func (fnX "_law_flow" s_z7 kV_12 dc_12 pm_12 an_12 cd_12 ct_12),sl_12⟩) (nc_12:PySem.W.codeIn K cd_12 "_law_flow"=true) (nk_12:PySem.W.keepIn K (.ref f_12)=true)
  (na_13:PySem.W.nsIn K mainGlobals "_law_pick"=some (some (.ref f_13))) (nl_13:K.lookup f_13=some ⟨oc_13,od_13,.func (fnX "_law_pick" s_z6 kV_13 dc_13 pm_13 an_13 cd_13 ct_13),sl_13⟩) (nc_13:PySem.W.codeIn K cd_13 "_law_pick"=true) (nk_13:PySem.W.keepIn K (.ref f_13)=true)
  (na_14:PySem.W.nsIn K mainGlobals "_law_alike"=some (some (.ref f_14))) (nl_14:K.lookup f_14=some ⟨oc_14,od_14,.func (fnX "_law_alike" s_zx kV_14 dc_14 pm_14 an_14 cd_14 ct_14),sl_14⟩) (nc_14:PySem.W.codeIn K cd_14 "_law_alike"=true) (nk_14:PySem.W.keepIn K (.ref f_14)=true)
  (na_15:PySem.W.nsIn K mainGlobals "_law_letters"=some (some (.ref f_15))) (nl_15:K.lookup f_15=some ⟨oc_15,od_15,.func (fnX "_law_letters" s_zr kV_15 dc_15 pm_15 an_15 cd_15 ct_15),sl_15⟩) (nc_15:PySem.W.codeIn K cd_15 "_law_letters"=true) (nk_15:PySem.W.keepIn K (.ref f_15)=true)
  (na_16:PySem.W.nsIn K mainGlobals "_law_contrary"=some (some (.ref f_16))) (nl_16:K.lookup f_16=some ⟨oc_16,od_16,.func (fnX "_law_contrary" s_zm kV_16 dc_16 pm_16 an_16 cd_16 ct_16),sl_16⟩) (nc_16:PySem.W.codeIn K cd_16 "_law_contrary"=true) (nk_16:PySem.W.keepIn K (.ref f_16)=true)
  (na_17:PySem.W.nsIn K mainGlobals "_law_key"=some (some (.ref f_17))) (nl_17:K.lookup f_17=some ⟨oc_17,od_17,.func (fnX "_law_key" s_zb1 kV_17 dc_17 pm_17 an_17 cd_17 ct_17),sl_17⟩) (nc_17:PySem.W.codeIn K cd_17 "_law_key"=true) (nk_17:PySem.W.keepIn K (.ref f_17)=true)
  (na_18:PySem.W.nsIn K mainGlobals "_law_back"=some (some (.ref f_18))) (nl_18:K.lookup f_18=some ⟨oc_18,od_18,.func (fnX "_law_back" s_z0 kV_18 dc_18 pm_18 an_18 cd_18 ct_18),sl_18⟩) (nc_18:PySem.W.codeIn K cd_18 "_law_back"=true) (nk_18:PySem.W.keepIn K (.ref f_18)=true)
  (na_19:PySem.W.nsIn K mainGlobals "_law_laid"=some (some (.ref f_19))) (nl_19:K.lookup f_19=some ⟨oc_19,od_19,.func (fnX "_law_laid" s_z5 kV_19 dc_19 pm_19 an_19 cd_19 ct_19),sl_19⟩) (nc_19:PySem.W.codeIn K cd_19 "_law_laid"=true) (nk_19:PySem.W.keepIn K (.ref f_19)=true)
  (na_20:PySem.W.nsIn K mainGlobals "_law_word"=some (some (.ref f_20))) (nl_20:K.lookup f_20=some ⟨oc_20,od_20,.func (fnX "_law_word" s_z3 kV_20 dc_20 pm_20 an_20 cd_20 ct_20),sl_20⟩) (nc_20:PySem.W.codeIn K cd_20 "_law_word"=true) (nk_20:PySem.W.keepIn K (.ref f_20)=true)
  (na_21:PySem.W.nsIn K mainGlobals "_law_ring"=some (some (.ref f_21))) (nl_21:K.lookup f_21=some ⟨oc_21,od_21,.func (fnX "_law_ring" s_z8 kV_21 dc_21 pm_21 an_21 cd_21 ct_21),sl_21⟩) (nc_21:PySem.W.codeIn K cd_21 "_law_ring"=true) (nk_21:PySem.W.keepIn K (.ref f_21)=true)
  (na_22:PySem.W.nsIn K mainGlobals "_law_retold"=some (some (.ref f_22))) (nl_22:K.lookup f_22=some ⟨oc_22,od_22,.func (fnX "_law_retold" s_zs kV_22 dc_22 pm_22 an_22 cd_22 ct_22),sl_22⟩) (nc_22:PySem.W.codeIn K cd_22 "_law_retold"=true) (nk_22:PySem.W.keepIn K (.ref f_22)=true)
  (na_23:PySem.W.nsIn K mainGlobals "_law_rings_retold"=some (some (.ref f_23))) (nl_23:K.lookup f_23=some ⟨oc_23,od_23,.func (fnX "_law_rings_retold" s_zb kV_23 dc_23 pm_23 an_23 cd_23 ct_23),sl_23⟩) (nc_23:PySem.W.codeIn K cd_23 "_law_rings_retold"=true) (nk_23:PySem.W.keepIn K (.ref f_23)=true)
  (na_24:PySem.W.nsIn K mainGlobals "_law_ties"=some (some (.ref f_24))) (nl_24:K.lookup f_24=some ⟨oc_24,od_24,.func (fnX "_law_ties" s_z2 kV_24 dc_24 pm_24 an_24 cd_24 ct_24),sl_24⟩) (nc_24:PySem.W.codeIn K cd_24 "_law_ties"=true) (nk_24:PySem.W.keepIn K (.ref f_24)=true)
  (na_25:PySem.W.nsIn K mainGlobals "_law_count"=some (some (.ref f_25))) (nl_25:K.lookup f_25=some ⟨oc_25,od_25,.func (fnX "_law_count" s_zz kV_25 dc_25 pm_25 an_25 cd_25 ct_25),sl_25⟩) (nc_25:PySem.W.codeIn K cd_25 "_law_count"=true) (nk_25:PySem.W.keepIn K (.ref f_25)=true)
  (na_26:PySem.W.nsIn K mainGlobals "_law_leaving"=some (some (.ref f_26))) (nl_26:K.lookup f_26=some ⟨oc_26,od_26,.func (fnX "_law_leaving" s_zp kV_26 dc_26 pm_26 an_26 cd_26 ct_26),sl_26⟩) (nc_26:PySem.W.codeIn K cd_26 "_law_leaving"=true) (nk_26:PySem.W.keepIn K (.ref f_26)=true)
  (na_27:PySem.W.nsIn K mainGlobals "_law_sides"=some (some (.ref f_27))) (nl_27:K.lookup f_27=some ⟨oc_27,od_27,.func (fnX "_law_sides" s_zy kV_27 dc_27 pm_27 an_27 cd_27 ct_27),sl_27⟩) (nc_27:PySem.W.codeIn K cd_27 "_law_sides"=true) (nk_27:PySem.W.keepIn K (.ref f_27)=true)
  (na_28:PySem.W.nsIn K mainGlobals "_law_least_side"=some (some (.ref f_28))) (nl_28:K.lookup f_28=some ⟨oc_28,od_28,.func (fnX "_law_least_side" s_ze kV_28 dc_28 pm_28 an_28 cd_28 ct_28),sl_28⟩) (nc_28:PySem.W.codeIn K cd_28 "_law_least_side"=true) (nk_28:PySem.W.keepIn K (.ref f_28)=true)
  (na_29:PySem.W.nsIn K mainGlobals "_law_change_told"=some (some (.ref f_29))) (nl_29:K.lookup f_29=some ⟨oc_29,od_29,.func (fnX "_law_change_told" s_zd kV_29 dc_29 pm_29 an_29 cd_29 ct_29),sl_29⟩) (nc_29:PySem.W.codeIn K cd_29 "_law_change_told"=true) (nk_29:PySem.W.keepIn K (.ref f_29)=true)
  (na_30:PySem.W.nsIn K mainGlobals "_law_shorter"=some (some (.ref f_30))) (nl_30:K.lookup f_30=some ⟨oc_30,od_30,.func (fnX "_law_shorter" s_zq kV_30 dc_30 pm_30 an_30 cd_30 ct_30),sl_30⟩) (nc_30:PySem.W.codeIn K cd_30 "_law_shorter"=true) (nk_30:PySem.W.keepIn K (.ref f_30)=true)
  (na_31:PySem.W.nsIn K mainGlobals "_law_short"=some (some (.ref f_31))) (nl_31:K.lookup f_31=some ⟨oc_31,od_31,.func (fnX "_law_short" s_zw kV_31 dc_31 pm_31 an_31 cd_31 ct_31),sl_31⟩) (nc_31:PySem.W.codeIn K cd_31 "_law_short"=true) (nk_31:PySem.W.keepIn K (.ref f_31)=true)
  (na_32:PySem.W.nsIn K mainGlobals "_law_exchange"=some (some (.ref f_32))) (nl_32:K.lookup f_32=some ⟨oc_32,od_32,.func (fnX "_law_exchange" s_zo kV_32 dc_32 pm_32 an_32 cd_32 ct_32),sl_32⟩) (nc_32:PySem.W.codeIn K cd_32 "_law_exchange"=true) (nk_32:PySem.W.keepIn K (.ref f_32)=true)
  (na_33:PySem.W.nsIn K mainGlobals "_law_standing"=some (some (.ref f_33))) (nl_33:K.lookup f_33=some ⟨oc_33,od_33,.func (fnX "_law_standing" s_zl kV_33 dc_33 pm_33 an_33 cd_33 ct_33),sl_33⟩) (nc_33:PySem.W.codeIn K cd_33 "_law_standing"=true) (nk_33:PySem.W.keepIn K (.ref f_33)=true)
  (na_34:PySem.W.nsIn K mainGlobals "_law_short_ring"=some (some (.ref f_34))) (nl_34:K.lookup f_34=some ⟨oc_34,od_34,.func (fnX "_law_short_ring" s_zh kV_34 dc_34 pm_34 an_34 cd_34 ct_34),sl_34⟩) (nc_34:PySem.W.codeIn K cd_34 "_law_short_ring"=true) (nk_34:PySem.W.keepIn K (.ref f_34)=true)
  (na_35:PySem.W.nsIn K mainGlobals "_law_stage_word"=some (some (.ref f_35))) (nl_35:K.lookup f_35=some ⟨oc_35,od_35,.func (fnX "_law_stage_word" s_zf kV_35 dc_35 pm_35 an_35 cd_35 ct_35),sl_35⟩) (nc_35:PySem.W.codeIn K cd_35 "_law_stage_word"=true) (nk_35:PySem.W.keepIn K (.ref f_35)=true)
  (na_36:PySem.W.nsIn K mainGlobals "_law_all_sides"=some (some (.ref f_36))) (nl_36:K.lookup f_36=some ⟨oc_36,od_36,.func (fnX "_law_all_sides" s_zi kV_36 dc_36 pm_36 an_36 cd_36 ct_36),sl_36⟩) (nc_36:PySem.W.codeIn K cd_36 "_law_all_sides"=true) (nk_36:PySem.W.keepIn K (.ref f_36)=true)
  (na_37:PySem.W.nsIn K mainGlobals "_law_kept_lengths"=some (some (.ref f_37))) (nl_37:K.lookup f_37=some ⟨oc_37,od_37,.func (fnX "_law_kept_lengths" s_zc kV_37 dc_37 pm_37 an_37 cd_37 ct_37),sl_37⟩) (nc_37:PySem.W.codeIn K cd_37 "_law_kept_lengths"=true) (nk_37:PySem.W.keepIn K (.ref f_37)=true)
  (na_38:PySem.W.nsIn K mainGlobals "law"=some (some (.ref f_38))) (nl_38:K.lookup f_38=some ⟨oc_38,od_38,.func (fnX "law" s_law kV_38 dc_38 pm_38 an_38 cd_38 ct_38),sl_38⟩) (nc_38:PySem.W.codeIn K cd_38 "law"=true) (nk_38:PySem.W.keepIn K (.ref f_38)=true)
  {cc_36 cc_28 P1 P2:Addr}
  (mc_36:cd_36=.ref cc_36) (mh_36:PySem.W.codeHdIn K cc_36 P1=true)
  (mc_28:cd_28=.ref cc_28) (mh_28:PySem.W.codeHdIn K cc_28 P2=true)
  (nb_all:PySem.W.nsIn K mainGlobals "all"=some none)
  (nb_bool:PySem.W.nsIn K mainGlobals "bool"=some none)
  (nb_enumerate:PySem.W.nsIn K mainGlobals "enumerate"=some none)
  (nb_int:PySem.W.nsIn K mainGlobals "int"=some none)
  (nb_isinstance:PySem.W.nsIn K mainGlobals "isinstance"=some none)
  (nb_len:PySem.W.nsIn K mainGlobals "len"=some none)
  (nb_list:PySem.W.nsIn K mainGlobals "list"=some none)
  (nb_max:PySem.W.nsIn K mainGlobals "max"=some none)
  (nb_min:PySem.W.nsIn K mainGlobals "min"=some none)
  (nb_range:PySem.W.nsIn K mainGlobals "range"=some none)
  (nb_reversed:PySem.W.nsIn K mainGlobals "reversed"=some none)
  (nb_sorted:PySem.W.nsIn K mainGlobals "sorted"=some none)
  (nb_sum:PySem.W.nsIn K mainGlobals "sum"=some none)
  (nb_tuple:PySem.W.nsIn K mainGlobals "tuple"=some none)
  (nm_CONTRARIES:PySem.W.nsIn K mainGlobals "CONTRARIES"=some (some (.ref a_CONTRARIES)))
  (nt_CONTRARIES:KTD.tabLook KTD.flatLooks (fun b=>K.lookup b) a_CONTRARIES conTab_rows=true) (nh_CONTRARIES:KTD.hashesOf (fun b=>K.lookup b) a_CONTRARIES=conTab_rows.map fun p=>(PySem.strKind l.prog w).hash p.1)
  (nm_LETTERS:PySem.W.nsIn K mainGlobals "LETTERS"=some (some (.ref a_LETTERS)))
  {i_LETTERS:Array Value} {n_LETTERS:Nat} (nt_LETTERS:K.lookup a_LETTERS=some ⟨.type "tuple",none,.seq i_LETTERS n_LETTERS,#[]⟩) (nv_LETTERS:Vals letV i_LETTERS.toList)
  (nm_RANKS:PySem.W.nsIn K mainGlobals "RANKS"=some (some (.ref a_RANKS)))
  (nt_RANKS:KTD.tabLook KTD.flatLooks (fun b=>K.lookup b) a_RANKS rankTab_rows=true) (nh_RANKS:KTD.hashesOf (fun b=>K.lookup b) a_RANKS=rankTab_rows.map fun p=>(PySem.strKind l.prog w).hash p.1)
  : ∃ fd:FuncData,(∀ (s:Shared) (v:Value),BindsTo s fd ⟨[v],[]⟩ [("_law_script",v)])∧∀ base:Heap,K.In base→base.Ns mainGlobals mg→BM base mg→FnOk l.prog w K mg base CX0 40 fa fd ["_law_script"] (spLawT K (tbs P1 P2)):=by
 have e:=hfa.symm.trans (PySem.W.mg_of X G na_38)
 have e2:f_38=fa:=by cases e;rfl
 subst e2
 have T:Txt l.prog w K mg a_CONTRARIES a_LETTERS a_RANKS:=⟨PySem.W.mg_none_of X G nb_all,PySem.W.mg_none_of X G nb_bool,PySem.W.mg_none_of X G nb_enumerate,PySem.W.mg_none_of X G nb_int,PySem.W.mg_none_of X G nb_isinstance,PySem.W.mg_none_of X G nb_len,PySem.W.mg_none_of X G nb_list,PySem.W.mg_none_of X G nb_max,PySem.W.mg_none_of X G nb_min,PySem.W.mg_none_of X G nb_range,PySem.W.mg_none_of X G nb_reversed,PySem.W.mg_none_of X G nb_sorted,PySem.W.mg_none_of X G nb_sum,PySem.W.mg_none_of X G nb_tuple,PySem.W.mg_of X G nm_CONTRARIES,fun h x=>PySem.W.kt_tab_in l.prog w x nt_CONTRARIES (by decide +kernel) nh_CONTRARIES,PySem.W.mg_of X G nm_LETTERS,fun H=>.inr ⟨_,_,_,nt_LETTERS,rfl,rfl,tab_fit nv_LETTERS (by decide),nv_LETTERS⟩,PySem.W.mg_of X G nm_RANKS,fun h x=>PySem.W.kt_tab_in l.prog w x nt_RANKS (by decide +kernel) nh_RANKS⟩
 have D_0:=dmk (ps:=["n"]) nl_0 nc_0 nk_0 (PySem.W.mg_of X G na_0) (fun _ _ _ _ _ _ u h=>match u,h with | [_],_=>rfl)
 have D_1:=dmk (ps:=["letter"]) nl_1 nc_1 nk_1 (PySem.W.mg_of X G na_1) (fun _ _ _ _ _ _ u h=>match u,h with | [_],_=>rfl)
 have D_2:=dmk (ps:=["letter"]) nl_2 nc_2 nk_2 (PySem.W.mg_of X G na_2) (fun _ _ _ _ _ _ u h=>match u,h with | [_],_=>rfl)
 have D_3:=dmk (ps:=["ties","side"]) nl_3 nc_3 nk_3 (PySem.W.mg_of X G na_3) (fun _ _ _ _ _ _ u h=>match u,h with | [_,_],_=>rfl)
 have D_4:=dmk (ps:=["n","letter"]) nl_4 nc_4 nk_4 (PySem.W.mg_of X G na_4) (fun _ _ _ _ _ _ u h=>match u,h with | [_,_],_=>rfl)
 have D_5:=dmk (ps:=["one","other"]) nl_5 nc_5 nk_5 (PySem.W.mg_of X G na_5) (fun _ _ _ _ _ _ u h=>match u,h with | [_,_],_=>rfl)
 have D_6:=dmk (ps:=["rings"]) nl_6 nc_6 nk_6 (PySem.W.mg_of X G na_6) (fun _ _ _ _ _ _ u h=>match u,h with | [_],_=>rfl)
 have D_7:=dmk (ps:=["rings","letter"]) nl_7 nc_7 nk_7 (PySem.W.mg_of X G na_7) (fun _ _ _ _ _ _ u h=>match u,h with | [_,_],_=>rfl)
 have D_8:=dmk (ps:=["n","rings"]) nl_8 nc_8 nk_8 (PySem.W.mg_of X G na_8) (fun _ _ _ _ _ _ u h=>match u,h with | [_,_],_=>rfl)
 have D_9:=dmk (ps:=["side"]) nl_9 nc_9 nk_9 (PySem.W.mg_of X G na_9) (fun _ _ _ _ _ _ u h=>match u,h with | [_],_=>rfl)
 have D_10:=dmk (ps:=["n","standing","letter"]) nl_10 nc_10 nk_10 (PySem.W.mg_of X G na_10) (fun _ _ _ _ _ _ u h=>match u,h with | [_,_,_],_=>rfl)
 have D_11:=dmk (ps:=["n","ring"]) nl_11 nc_11 nk_11 (PySem.W.mg_of X G na_11) (fun _ _ _ _ _ _ u h=>match u,h with | [_,_],_=>rfl)
 have D_12:=dmk (ps:=["_law_script"]) nl_12 nc_12 nk_12 (PySem.W.mg_of X G na_12) (fun _ _ _ _ _ _ u h=>match u,h with | [_],_=>rfl)
 have D_13:=dmk (ps:=["_law_flow_here","_law_many"]) nl_13 nc_13 nk_13 (PySem.W.mg_of X G na_13) (fun _ _ _ _ _ _ u h=>match u,h with | [_,_],_=>rfl)
 have D_14:=dmk (ps:=["_law_found","_law_due"]) nl_14 nc_14 nk_14 (PySem.W.mg_of X G na_14) (fun _ _ _ _ _ _ u h=>match u,h with | [_,_],_=>rfl)
 have D_15:=dmk (ps:=["_law_n"]) nl_15 nc_15 nk_15 (PySem.W.mg_of X G na_15) (fun _ _ _ _ _ _ u h=>match u,h with | [_],_=>rfl)
 have D_16:=dmk (ps:=["_law_letter"]) nl_16 nc_16 nk_16 (PySem.W.mg_of X G na_16) (fun _ _ _ _ _ _ u h=>match u,h with | [_],_=>rfl)
 have D_17:=dmk (ps:=["_law_word_here"]) nl_17 nc_17 nk_17 (PySem.W.mg_of X G na_17) (fun _ _ _ _ _ _ u h=>match u,h with | [_],_=>rfl)
 have D_18:=dmk (ps:=["_law_word_here"]) nl_18 nc_18 nk_18 (PySem.W.mg_of X G na_18) (fun _ _ _ _ _ _ u h=>match u,h with | [_],_=>rfl)
 have D_19:=dmk (ps:=["_law_text"]) nl_19 nc_19 nk_19 (PySem.W.mg_of X G na_19) (fun _ _ _ _ _ _ u h=>match u,h with | [_],_=>rfl)
 have D_20:=dmk (ps:=["_law_flow_here","_law_n","_law_most"]) nl_20 nc_20 nk_20 (PySem.W.mg_of X G na_20) (fun _ _ _ _ _ _ u h=>match u,h with | [_,_,_],_=>rfl)
 have D_21:=dmk (ps:=["_law_word_here"]) nl_21 nc_21 nk_21 (PySem.W.mg_of X G na_21) (fun _ _ _ _ _ _ u h=>match u,h with | [_],_=>rfl)
 have D_22:=dmk (ps:=["_law_retelling","_law_word_here"]) nl_22 nc_22 nk_22 (PySem.W.mg_of X G na_22) (fun _ _ _ _ _ _ u h=>match u,h with | [_,_],_=>rfl)
 have D_23:=dmk (ps:=["_law_retelling","_law_rings"]) nl_23 nc_23 nk_23 (PySem.W.mg_of X G na_23) (fun _ _ _ _ _ _ u h=>match u,h with | [_,_],_=>rfl)
 have D_24:=dmk (ps:=["_law_rings"]) nl_24 nc_24 nk_24 (PySem.W.mg_of X G na_24) (fun _ _ _ _ _ _ u h=>match u,h with | [_],_=>rfl)
 have D_25:=dmk (ps:=["_law_rings","_law_letter"]) nl_25 nc_25 nk_25 (PySem.W.mg_of X G na_25) (fun _ _ _ _ _ _ u h=>match u,h with | [_,_],_=>rfl)
 have D_26:=dmk (ps:=["_law_ties_here","_law_side"]) nl_26 nc_26 nk_26 (PySem.W.mg_of X G na_26) (fun _ _ _ _ _ _ u h=>match u,h with | [_,_],_=>rfl)
 have D_27:=dmk (ps:=["_law_n","_law_letter"]) nl_27 nc_27 nk_27 (PySem.W.mg_of X G na_27) (fun _ _ _ _ _ _ u h=>match u,h with | [_,_],_=>rfl)
 have D_28:=dmk (ps:=["_law_n","_law_ties_here","_law_letter"]) nl_28 nc_28 nk_28 (PySem.W.mg_of X G na_28) (fun _ _ _ _ _ _ u h=>match u,h with | [_,_,_],_=>rfl)
 have D_29:=dmk (ps:=["_law_n","_law_change"]) nl_29 nc_29 nk_29 (PySem.W.mg_of X G na_29) (fun _ _ _ _ _ _ u h=>match u,h with | [_,_],_=>rfl)
 have D_30:=dmk (ps:=["_law_n","_law_rings"]) nl_30 nc_30 nk_30 (PySem.W.mg_of X G na_30) (fun _ _ _ _ _ _ u h=>match u,h with | [_,_],_=>rfl)
 have D_31:=dmk (ps:=["_law_n","_law_rings"]) nl_31 nc_31 nk_31 (PySem.W.mg_of X G na_31) (fun _ _ _ _ _ _ u h=>match u,h with | [_,_],_=>rfl)
 have D_32:=dmk (ps:=["_law_flow_here","_law_n"]) nl_32 nc_32 nk_32 (PySem.W.mg_of X G na_32) (fun _ _ _ _ _ _ u h=>match u,h with | [_,_],_=>rfl)
 have D_33:=dmk (ps:=["_law_ring_here"]) nl_33 nc_33 nk_33 (PySem.W.mg_of X G na_33) (fun _ _ _ _ _ _ u h=>match u,h with | [_],_=>rfl)
 have D_34:=dmk (ps:=["_law_n","_law_word_here"]) nl_34 nc_34 nk_34 (PySem.W.mg_of X G na_34) (fun _ _ _ _ _ _ u h=>match u,h with | [_,_],_=>rfl)
 have D_35:=dmk (ps:=["_law_flow_here","_law_n"]) nl_35 nc_35 nk_35 (PySem.W.mg_of X G na_35) (fun _ _ _ _ _ _ u h=>match u,h with | [_,_],_=>rfl)
 have D_36:=dmk (ps:=["_law_some","_law_letter"]) nl_36 nc_36 nk_36 (PySem.W.mg_of X G na_36) (fun _ _ _ _ _ _ u h=>match u,h with | [_,_],_=>rfl)
 have D_37:=dmk (ps:=["_law_n","_law_ring_here"]) nl_37 nc_37 nk_37 (PySem.W.mg_of X G na_37) (fun _ _ _ _ _ _ u h=>match u,h with | [_,_],_=>rfl)
 have D_38:=dmk (ps:=["_law_script"]) nl_38 nc_38 nk_38 (PySem.W.mg_of X G na_38) (fun _ _ _ _ _ _ u h=>match u,h with | [_],_=>rfl)
 refine ⟨fnX "law" s_law kV_38 dc_38 pm_38 an_38 cd_38 ct_38,fun s v=>.of_eq rfl,fun base _ _ hB=>?_⟩
 have c_z7:=ok_z7 (base:=base) D_12 T
 have c_z6:=ok_z6 (base:=base) D_13 T
 have c_zm:=ok_zm (base:=base) D_16 T
 have c_zr:=ok_zr (base:=base) D_15 T
 have c_z5:=ok_z5 (base:=base) D_19 T c_zm
 have c_z3:=ok_z3 (base:=base) D_20 T c_z6 c_zr c_zm
 have c_z0:=ok_z0 (base:=base) D_18 T c_zm
 have c_z4:=ok_z4 (base:=base) D_1 T
 have c_zx:=ok_zx (base:=base) D_14 T
 have c_zx_X:=ok_zx_X (base:=base) D_14 T c_zx
 have c_zx_Y:=ok_zx_X (base:=base) D_14 T c_zx_X
 have c_zx_Z:=ok_zx_X (base:=base) D_14 T c_zx_Y
 have c_zx_W:=ok_zx_X (base:=base) D_14 T c_zx_Z
 have c_zb1:=ok_zb1 (base:=base) D_17 T
 have c_z8:=ok_z8 (base:=base) D_21 T c_zm c_zb1
 have c_zs:=ok_zs (base:=base) D_22 T c_z0 c_z5
 have c_zd:=ok_zd (base:=base) D_29 T c_zm
 have c_za1:=ok_za1 (base:=base) D_2 T
 have c_zv:=ok_zv (base:=base) D_5 T c_za1
 have c_z9:=ok_z9 (base:=base) D_6 T c_z4 c_zv
 have c_z1:=ok_z1 (base:=base) D_7 T c_z4
 have c_zb:=ok_zb (base:=base) D_23 T c_z8 c_zs
 have c_z2:=ok_z2 (base:=base) D_24 T c_zm c_zb1
 have c_zz:=ok_zz (base:=base) D_25 T c_zm
 have c_zn:=ok_zn (base:=base) D_3 T
 have c_zp:=ok_zp (base:=base) D_26 T
 have c_zt:=ok_zt (base:=base) D_0 T
 have c_zu:=ok_zu (base:=base) D_4 T c_zt c_z4
 have c_zy:=ok_zy (base:=base) D_27 T c_zr c_zm
 have c_ze:=ok_ze (base:=base) D_28 T ⟨mc_28,mh_28⟩ hB (P1:=P1) (P2:=P2) c_zp c_zy
 have c_zq:=ok_zq (base:=base) D_30 T c_z2 c_zz c_zp c_ze
 have c_zw:=ok_zw (base:=base) D_31 T c_zb c_zd c_zq
 have c_zo:=ok_zo (base:=base) D_32 T c_z6
 have c_za:=ok_za (base:=base) D_8 T c_zt c_z1
 have c_zk:=ok_zk (base:=base) D_9 T c_za1
 have c_zg:=ok_zg (base:=base) D_10 T c_zu
 have c_zj:=ok_zj (base:=base) D_11 T c_zn c_z9 c_z1 c_za c_zk c_zg
 have c_zl:=ok_zl (base:=base) D_33 T c_zm
 have c_zh:=ok_zh (base:=base) D_34 T c_z8 c_zw
 have c_zf:=ok_zf (base:=base) D_35 T c_z6 c_z3 c_zs c_zo
 have c_zi:=ok_zi (base:=base) D_36 T ⟨mc_36,mh_36⟩ hB (P1:=P1) (P2:=P2) c_zm
 have c_zc:=ok_zc (base:=base) D_37 T c_z8 c_zs c_zd c_zl c_zi
 exact FnOk.mono (k:=40) (ok_law D_38 T c_zj c_z7 c_z6 c_zx_Z c_z3 c_z8 c_zh c_zf c_zc) (by decide)
theorem walk {l:PySem.W.OpenLaw} {q:Program} {loose:List Str} {XP:(Str→Option Value)→Heap→Prop} {YP:World→Heap→Prop} {d:DefRec} {K:Params→PySem.W.Frag} {CP1 CP2 P1 P2:Addr} (hd:∀ t∈tbs P1 P2,∀ t'∈tbs P1 P2,t.P=t'.P→t=t') (hn:l.most=some 63) (hdf:d.params.defaults=[])
  (hY:∀ (w:World) (h:Heap),YP w h→(K w.params).In h) (hYt:∀ (w:World) (h:Heap),YP w h→∀ t∈([(CP1,P1),(CP2,P2)]:List (Addr×Addr)),h.get? t.2=some (PySem.W.tabObj #[])) (hts:∀ w:World,∀ t∈([(CP1,P1),(CP2,P2)]:List (Addr×Addr)),PySem.W.codeHdIn (K w.params) t.1 t.2=true∧(K w.params).lookup t.2=none)
  (F:∀ (w:World) (mg:Str→Option Value) (fa:Addr) (h:Heap),(K w.params).In h→h.Ns mainGlobals mg→mg d.name=some (.ref fa) →
   ∃ fd:FuncData,(∀ (s:Shared) (u:Value),BindsTo s fd ⟨[u],[]⟩ [("_law_script",u)])∧∀ base:Heap,(K w.params).In base→base.Ns mainGlobals mg→BM base mg→FnOk l.prog w (K w.params) mg base CX0 40 fa fd ["_law_script"] (spLawT (K w.params) (tbs P1 P2))) :
  PySem.W.WalkO q loose XP YP l.row.toRowW d [] (fun f vs=>PySem.call f vs) :=
 L2.walk_ofT (n:=63) (k:=40) (x:="_law_script") (sp:=fun w=>spLawT (K w.params) (tbs P1 P2)) hn (by decide) hdf ⟨rfl,by decide,by decide⟩ hY hYt hts F (fun _ H a ns hl hT hS=>⟨a,ns,rfl,hS,hl,⟨hd,fun t ht=>.inl (by
  have ht:t∈[lamTb2 P1 "_law_all_sides" s_zi,lamTb P2 "_law_least_side" s_ze]:=ht
  simp only [List.mem_cons,List.not_mem_nil,or_false] at ht
  rcases ht with rfl | rfl
  ·exact hT (CP1,P1) (by simp)
  ·exact hT (CP2,P2) (by simp))⟩,fun _=>rfl⟩)
end Lw
def PySem.W.Fast.tw16135252772705463464:Nat:=0
def PySem.W.Fast.tw4757278673740570852:Nat:=0
def PySem.W.Fast.tw11854188189498617545:Nat:=0
def PySem.W.Fast.tw3833974611505295589:Nat:=0
def PySem.W.Fast.tw14855841097302662248:Nat:=0
def PySem.W.Fast.tw6686496449622171455:Nat:=0
def PySem.W.Fast.tw5482590796412671718:Nat:=0
def PySem.W.Fast.tw18114313997046789928:Nat:=0
def PySem.W.Fast.tw176607438939128191:Nat:=0
def PySem.W.Fast.tw2434959999577942298:Nat:=0
def PySem.W.Fast.tw17916510719086710810:Nat:=0
def PySem.W.Fast.tw9055284911870768758:Nat:=0
def PySem.W.Fast.tw2396997785228750939:Nat:=0
def PySem.W.Fast.tw974593594789848668:Nat:=0
def PySem.W.Fast.tw17922833885478648545:Nat:=0
def PySem.W.Fast.tw5208192045684059342:Nat:=0
def PySem.W.Fast.tw17454944077440730698:Nat:=0
def PySem.W.Fast.tw17556558219784536229:Nat:=0
def PySem.W.Fast.tw15157673572630404295:Nat:=0
def PySem.W.Fast.tw5018793561645157572:Nat:=0
def PySem.W.Fast.tw8239668186859258924:Nat:=0
def PySem.W.Fast.tw8612172764034226214:Nat:=0
def PySem.W.Fast.tw9139685630966035513:Nat:=0
def PySem.W.Fast.tw15358422805896001725:Nat:=0
def PySem.W.Fast.tw17285194433895957114:Nat:=0
def PySem.W.Fast.tw14348123053568795904:Nat:=0
def PySem.W.Fast.tw15448646651315576793:Nat:=0
def PySem.W.Fast.tw11855124963529804921:Nat:=0
def PySem.W.Fast.tw821924265833667287:Nat:=0
def PySem.W.Fast.tw18388092108148984933:Nat:=0
def PySem.W.Fast.tw12230081963664686373:Nat:=0
def PySem.W.Fast.tw12614384755292311765:Nat:=0
def PySem.W.Fast.tw15452191699916884642:Nat:=0
def PySem.W.Fast.tw16471211342076034899:Nat:=0
def PySem.W.Fast.tw7482729783386368111:Nat:=0
def PySem.W.Fast.tw10633742687100039088:Nat:=0
def PySem.W.Fast.tw17487053942612360384:Nat:=0
def PySem.W.Fast.tw6041534042180601839:Nat:=0
def PySem.W.Fast.tw8773065360208364632:Nat:=0
def PySem.W.Fast.tw7152024029259950724:Nat:=0
def PySem.W.Fast.tw1224699607545992677:Nat:=0
def PySem.W.Fast.tw2815417206377924632:Nat:=0
def PySem.W.Fast.tw1456114224181141694:Nat:=0
def PySem.W.Fast.tw17161306926963983082:Nat:=0
def PySem.W.Fast.tw10536577838480540382:Nat:=0
def PySem.W.Fast.tw10293632080455792389:Nat:=0
def PySem.W.Fast.tw553377599614537168:Nat:=0
def PySem.W.Fast.tw14399939889414233777:Nat:=0
def PySem.W.Fast.tw1536687308171688186:Nat:=0
def PySem.W.Fast.tw17952193761175744095:Nat:=0
def PySem.W.Fast.tw13379489754179657669:Nat:=0
def PySem.W.Fast.tw1265943325602548916:Nat:=0
def PySem.W.Fast.tw8733746074903853951:Nat:=0
def PySem.W.Fast.tw11433160049879677048:Nat:=0
open PySem PySem.W PyProof.Rows
set_option maxRecDepth 100000 in
set_option maxHeartbeats 0 in
theorem PySem.Challenge.cw_newletters_k42_changes_that_keep_the_len_holds : PySem.Challenge.rw_newletters_k42_changes_that_keep_the_len.Holds := by
 w_on;o_law;k_head;(case hw=>w_witness2)
 k_fill
 refine Lw.walk (l:=PySem.Challenge.rw_newletters_k42_changes_that_keep_the_len) (CP1:=239) (P1:=237) (CP2:=187) (P2:=183) ?D rfl rfl (fun w h Y=>PySem.W.km_in_of Y) ?Y ?T ?F
 case D =>
  intro t ht t' ht' e
  simp only [Lw.tbs,List.mem_cons,List.not_mem_nil,or_false] at ht ht'
  rcases ht with rfl | rfl <;> rcases ht' with rfl | rfl <;> first | rfl | exact absurd e (by simp [L2.lamTb,L2.lamTb2])
 case Y =>
  intro w h Y t ht
  refine PySem.W.km_tabs_of Y t.2 ?_
  simp only [List.mem_cons,List.not_mem_nil,or_false] at ht ⊢
  rcases ht with rfl | rfl <;> simp
 case T =>
  intro w t ht
  simp only [List.mem_cons,List.not_mem_nil,or_false] at ht
  rcases ht with rfl | rfl
  all_goals exact ⟨by kernel_rfl,by kernel_rfl⟩
 case F =>
  intro w mg fa h KX G hmg
  refine' Lw.all_mk KX G hmg ?na_0 ?nl_0 ?nc_0 ?nk_0 ?na_1 ?nl_1 ?nc_1 ?nk_1 ?na_2 ?nl_2 ?nc_2 ?nk_2 ?na_3 ?nl_3 ?nc_3 ?nk_3 ?na_4 ?nl_4 ?nc_4 ?nk_4 ?na_5 ?nl_5 ?nc_5 ?nk_5 ?na_6 ?nl_6 ?nc_6 ?nk_6 ?na_7 ?nl_7 ?nc_7 ?nk_7 ?na_8 ?nl_8 ?nc_8 ?nk_8 ?na_9 ?nl_9 ?nc_9 ?nk_9 ?na_10 ?nl_10 ?nc_10 ?nk_10 ?na_11 ?nl_11 ?nc_11 ?nk_11 ?na_12 ?nl_12 ?nc_12 ?nk_12 ?na_13 ?nl_13 ?nc_13 ?nk_13 ?na_14 ?nl_14 ?nc_14 ?nk_14 ?na_15 ?nl_15 ?nc_15 ?nk_15 ?na_16 ?nl_16 ?nc_16 ?nk_16 ?na_17 ?nl_17 ?nc_17 ?nk_17 ?na_18 ?nl_18 ?nc_18 ?nk_18 ?na_19 ?nl_19 ?nc_19 ?nk_19 ?na_20 ?nl_20 ?nc_20 ?nk_20 ?na_21 ?nl_21 ?nc_21 ?nk_21 ?na_22 ?nl_22 ?nc_22 ?nk_22 ?na_23 ?nl_23 ?nc_23 ?nk_23 ?na_24 ?nl_24 ?nc_24 ?nk_24 ?na_25 ?nl_25 ?nc_25 ?nk_25 ?na_26 ?nl_26 ?nc_26 ?nk_26 ?na_27 ?nl_27 ?nc_27 ?nk_27 ?na_28 ?nl_28 ?nc_28 ?nk_28 ?na_29 ?nl_29 ?nc_29 ?nk_29 ?na_30 ?nl_30 ?nc_30 ?nk_30 ?na_31 ?nl_31 ?nc_31 ?nk_31 ?na_32 ?nl_32 ?nc_32 ?nk_32 ?na_33 ?nl_33 ?nc_33 ?nk_33 ?na_34 ?nl_34 ?nc_34 ?nk_34 ?na_35 ?nl_35 ?nc_35 ?nk_35 ?na_36 ?nl_36 ?nc_36 ?nk_36 ?na_37 ?nl_37 ?nc_37 ?nk_37 ?na_38 ?nl_38 ?nc_38 ?nk_38 ?mc_36 ?mh_36 ?mc_28 ?mh_28 ?nb_all ?nb_bool ?nb_enumerate ?nb_int ?nb_isinstance ?nb_len ?nb_list ?nb_max ?nb_min ?nb_range ?nb_reversed ?nb_sorted ?nb_sum ?nb_tuple ?nm_CONTRARIES ?nt_CONTRARIES ?nh_CONTRARIES ?nm_LETTERS ?nt_LETTERS ?nv_LETTERS ?nm_RANKS ?nt_RANKS ?nh_RANKS
  (case na_0=>k_is);(case nl_0=>k_is);(case nc_0=>k_is);(case nk_0=>k_is)
  (case na_1=>k_is);(case nl_1=>k_is);(case nc_1=>k_is);(case nk_1=>k_is)
  (case na_2=>k_is);(case nl_2=>k_is);(case nc_2=>k_is);(case nk_2=>k_is)
  (case na_3=>k_is);(case nl_3=>k_is);(case nc_3=>k_is);(case nk_3=>k_is)
  (case na_4=>k_is);(case nl_4=>k_is);(case nc_4=>k_is);(case nk_4=>k_is)
  (case na_5=>k_is);(case nl_5=>k_is);(case nc_5=>k_is);(case nk_5=>k_is)
  (case na_6=>k_is);(case nl_6=>k_is);(case nc_6=>k_is);(case nk_6=>k_is)
  (case na_7=>k_is);(case nl_7=>k_is);(case nc_7=>k_is);(case nk_7=>k_is)
  (case na_8=>k_is);(case nl_8=>k_is);(case nc_8=>k_is);(case nk_8=>k_is)
  (case na_9=>k_is);(case nl_9=>k_is);(case nc_9=>k_is);(case nk_9=>k_is)
  (case na_10=>k_is);(case nl_10=>k_is);(case nc_10=>k_is);(case nk_10=>k_is)
  (case na_11=>k_is);(case nl_11=>k_is);(case nc_11=>k_is);(case nk_11=>k_is)
  (case na_12=>k_is);(case nl_12=>k_is);(case nc_12=>k_is);(case nk_12=>k_is)
  (case na_13=>k_is);(case nl_13=>k_is);(case nc_13=>k_is);(case nk_13=>k_is)
  (case na_14=>k_is);(case nl_14=>k_is);(case nc_14=>k_is);(case nk_14=>k_is)
  (case na_15=>k_is);(case nl_15=>k_is);(case nc_15=>k_is);(case nk_15=>k_is)
  (case na_16=>k_is);(case nl_16=>k_is);(case nc_16=>k_is);(case nk_16=>k_is)
  (case na_17=>k_is);(case nl_17=>k_is);(case nc_17=>k_is);(case nk_17=>k_is)
  (case na_18=>k_is);(case nl_18=>k_is);(case nc_18=>k_is);(case nk_18=>k_is)
  (case na_19=>k_is);(case nl_19=>k_is);(case nc_19=>k_is);(case nk_19=>k_is)
  (case na_20=>k_is);(case nl_20=>k_is);(case nc_20=>k_is);(case nk_20=>k_is)
  (case na_21=>k_is);(case nl_21=>k_is);(case nc_21=>k_is);(case nk_21=>k_is)
  (case na_22=>k_is);(case nl_22=>k_is);(case nc_22=>k_is);(case nk_22=>k_is)
  (case na_23=>k_is);(case nl_23=>k_is);(case nc_23=>k_is);(case nk_23=>k_is)
  (case na_24=>k_is);(case nl_24=>k_is);(case nc_24=>k_is);(case nk_24=>k_is)
  (case na_25=>k_is);(case nl_25=>k_is);(case nc_25=>k_is);(case nk_25=>k_is)
  (case na_26=>k_is);(case nl_26=>k_is);(case nc_26=>k_is);(case nk_26=>k_is)
  (case na_27=>k_is);(case nl_27=>k_is);(case nc_27=>k_is);(case nk_27=>k_is)
  (case na_28=>k_is);(case nl_28=>k_is);(case nc_28=>k_is);(case nk_28=>k_is)
  (case na_29=>k_is);(case nl_29=>k_is);(case nc_29=>k_is);(case nk_29=>k_is)
  (case na_30=>k_is);(case nl_30=>k_is);(case nc_30=>k_is);(case nk_30=>k_is)
  (case na_31=>k_is);(case nl_31=>k_is);(case nc_31=>k_is);(case nk_31=>k_is)
  (case na_32=>k_is);(case nl_32=>k_is);(case nc_32=>k_is);(case nk_32=>k_is)
  (case na_33=>k_is);(case nl_33=>k_is);(case nc_33=>k_is);(case nk_33=>k_is)
  (case na_34=>k_is);(case nl_34=>k_is);(case nc_34=>k_is);(case nk_34=>k_is)
  (case na_35=>k_is);(case nl_35=>k_is);(case nc_35=>k_is);(case nk_35=>k_is)
  (case na_36=>k_is);(case nl_36=>k_is);(case nc_36=>k_is);(case nk_36=>k_is)
  (case na_37=>k_is);(case nl_37=>k_is);(case nc_37=>k_is);(case nk_37=>k_is)
  (case na_38=>k_is);(case nl_38=>k_is);(case nc_38=>k_is);(case nk_38=>k_is)
  (case nb_all=>k_is);(case nb_bool=>k_is);(case nb_enumerate=>k_is);(case nb_int=>k_is)
  (case nb_isinstance=>k_is);(case nb_len=>k_is);(case nb_list=>k_is);(case nb_max=>k_is)
  (case nb_min=>k_is);(case nb_range=>k_is);(case nb_reversed=>k_is);(case nb_sorted=>k_is)
  (case nb_sum=>k_is);(case nb_tuple=>k_is);(case nm_CONTRARIES=>k_is);(case nm_LETTERS=>k_is)
  (case nt_LETTERS=>k_is);(case nm_RANKS=>k_is)
  (case mc_36=>rfl)
  (case mh_36=>kernel_rfl)
  (case mc_28=>rfl)
  (case mh_28=>kernel_rfl)
  (case nt_CONTRARIES=>kernel_rfl)
  (case nh_CONTRARIES=>kernel_rfl)
  (case nv_LETTERS=>exact .cons ⟨_,rfl⟩ (.cons ⟨_,rfl⟩ (.cons ⟨_,rfl⟩ (.cons ⟨_,rfl⟩ (.cons ⟨_,rfl⟩ (.cons ⟨_,rfl⟩ (.cons ⟨_,rfl⟩ (.cons ⟨_,rfl⟩ .nil))))))))
  (case nt_RANKS=>kernel_rfl)
  (case nh_RANKS=>kernel_rfl)
