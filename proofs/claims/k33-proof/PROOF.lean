import PyProof.Rows.All
import Wide.All
import OpenK.AllK
import Wide.FinOn
import Lean
import PyProof.EqAt
import PyProof.EqKinds
import PyProof.TupleCall
import KE.KMinKey
import KE.KSortTup
import KE.KLam
import KE.KNestM
import PySem.Challenge.RW_newletters_k33_whole_rows_along_roads
set_option Elab.async false
set_option maxHeartbeats 4000000
set_option maxRecDepth 100000
set_option linter.all false
namespace L2
open PySem PySem.Spec PyProof.Rows
abbrev bW:=Sum Int Str
def sO:bW→Value→Bool
 | .inl k,v=>Value.isInt k v
 | .inr x,v=>Value.isStrOf x v
def K0(w:World):bW→Int
 | .inl k=>hashInt k
 | .inr x=>hashStr w x
theorem cE:∀ {k:bW} {v:Value},sO k v=true→(∃ i t,k=Sum.inl i∧v=Value.int i t)∨(∃ x t,k=Sum.inr x∧v=Value.str x t)
 | .inl i,v,h=>by
  obtain⟨t,e⟩:=Value.isInt_shape (k:=i) (v:=v) h
  exact .inl ⟨i,t,rfl,e⟩
 | .inr x,v,h=>by
  obtain⟨t,e⟩:=Value.isStrOf_shape (x:=x) (v:=v) h
  exact .inr ⟨x,t,rfl,e⟩
theorem Bm(i:Int)(t:Tok):sO (.inl i) (.int i t)=true:=by simp[sO,Value.isInt]
theorem AZ(x:Str)(t:Tok):sO (.inr x) (.str x t)=true:=by simp[sO,Value.isStrOf]
theorem FQ(a b:Int):decide ((Sum.inl a:bW)=Sum.inl b)=(a == b):=by
 by_cases e:a=b
 ·subst e;simp
 ·have h:¬ (Sum.inl a:bW)=Sum.inl b:=fun q=>e (Sum.inl.inj q)
  rw[decide_eq_false h]
  exact(beq_eq_false_iff_ne.mpr e).symm
theorem GQ(a b:Str):decide ((Sum.inr a:bW)=Sum.inr b)=decide (a=b):=by
 by_cases e:a=b
 ·subst e;simp
 ·have h:¬ (Sum.inr a:bW)=Sum.inr b:=fun q=>e (Sum.inr.inj q)
  rw[decide_eq_false h,decide_eq_false e]
theorem GO(a:Int)(b:Str):decide ((Sum.inl a:bW)=Sum.inr b)=false:=decide_eq_false (fun q=>nomatch q)
theorem Gi(a:Str)(b:Int):decide ((Sum.inr a:bW)=Sum.inl b)=false:=decide_eq_false (fun q=>nomatch q)
def bN(prog:Program)(w:World):PySem.KeyKind prog w bW where
 is:=sO
 hash:=K0 w
 inj:=fun v a b ha hb=>by
  rcases cE ha with ⟨i,t,rfl,rfl⟩ | ⟨x,t,rfl,rfl⟩
  ·rcases cE hb with ⟨j,u,rfl,e⟩ | ⟨y,u,rfl,e⟩
   ·injection e with e1 _;rw[e1]
   ·exact nomatch e
  ·rcases cE hb with ⟨j,u,rfl,e⟩ | ⟨y,u,rfl,e⟩
   ·exact nomatch e
   ·injection e with e1 _;rw[e1]
 byValue:=fun k v h=>by
  rcases cE h with ⟨i,t,rfl,rfl⟩ | ⟨x,t,rfl,rfl⟩ <;> rfl
 pyHash:=fun hv h=>by
  rcases cE hv with ⟨i,t,rfl,rfl⟩ | ⟨x,t,rfl,rfl⟩
  ·exact wpAny_pyHash_int h
  ·exact wpAny_pyHash_str h
 eqBool:=fun hu hv h=>by
  rcases cE hu with ⟨i,t,rfl,rfl⟩ | ⟨x,t,rfl,rfl⟩
  ·rcases cE hv with ⟨j,u,rfl,rfl⟩ | ⟨y,u,rfl,rfl⟩
   ·rw[FQ] at h;exact wpAny_eqBool_int h
   ·rw[GO] at h;exact SeqAt.EqAt.int_str i t y u _ _ _ _ h
  ·rcases cE hv with ⟨j,u,rfl,rfl⟩ | ⟨y,u,rfl,rfl⟩
   ·rw[Gi] at h;exact SeqAt.EqAt.str_int x t j u _ _ _ _ h
   ·rw[GQ] at h;exact wpAny_eqBool_str h
 «strs»:=fun k x t v h=>by
  rcases cE h with ⟨i,u,rfl,e⟩ | ⟨y,u,rfl,e⟩
  ·exact nomatch e
  ·injection e with e1 _
   subst e1
   cases v <;> rfl
theorem vN(prog:Program)(w:World)(i:Int)(t:Tok):(bN prog w).is (.inl i) (.int i t)=true:=Bm i t
theorem wM(prog:Program)(w:World)(x:Str)(t:Tok):(bN prog w).is (.inr x) (.str x t)=true:=AZ x t
inductive V where
 | non | bl (b:Bool) | int (i:Int) | str (x:Str) | byt (b:Array UInt8) | flt (b:UInt64) | ref (a:Addr) | ty (n:String)
 deriving DecidableEq
def RelV:V→Value→Prop
 | .non,u=>u=Value.none
 | .bl b,u=>u=Value.bool b
 | .int i,u=>∃ t,u=Value.int i t
 | .str x,u=>∃ t,u=Value.str x t
 | .byt b,u=>∃ t,u=Value.bytes b t
 | .flt b,u=>∃ t,u=Value.float b t
 | .ref a,u=>u=Value.ref a
 | .ty n,u=>u=Value.type n
abbrev Vals:List V→List Value→Prop:=Paired RelV
theorem Vals.length{xs:List V}{us:List Value}(r:Vals xs us):xs.length=us.length:=Paired.length r
theorem Vals.get:∀ {xs:List V} {us:List Value} {i:Nat} {x:V},Vals xs us→xs[i]?=some x→∃ u,us[i]?=some u∧RelV x u
 | _,_,_,_,.nil,e=>by simp at e
 | _,_,0,_,.cons r _,e=>by simp at e;subst e;exact⟨_,rfl,r⟩
 | _,_,i+1,x,.cons _ t,e=>by
  obtain⟨u,h1,h2⟩:=Vals.get (i:=i) (x:=x) t (by simpa using e)
  exact⟨u,by simpa using h1,h2⟩
theorem Vals.set{x:V}{u:Value}(r:RelV x u):∀ {xs:List V} {us:List Value} (i:Nat),Vals xs us→Vals (xs.set i x) (us.set i u)
 | _,_,_,.nil=>.nil
 | _,_,0,.cons _ t=>.cons r t
 | _,_,i+1,.cons q t=>.cons q (Vals.set r i t)
theorem Vals.append:∀ {xs ys:List V} {us ws:List Value},Vals xs us→Vals ys ws→Vals (xs++ys) (us++ws)
 | _,_,_,_,.nil,s=>s
 | _,_,_,_,.cons r t,s=>.cons r (Vals.append t s)
theorem Vals.take:∀ {xs:List V} {us:List Value} (n:Nat),Vals xs us→Vals (xs.take n) (us.take n)
 | _,_,0,_=>.nil
 | _,_,_+1,.nil=>.nil
 | _,_,n+1,.cons r t=>.cons r (Vals.take n t)
theorem Vals.drop:∀ {xs:List V} {us:List Value} (n:Nat),Vals xs us→Vals (xs.drop n) (us.drop n)
 | _,_,0,r=>r
 | _,_,_+1,.nil=>.nil
 | _,_,n+1,.cons _ t=>Vals.drop n t
def RelO:Option V→Option Value→Prop
 | some v,some u=>RelV v u
 | none,none=>True
 | _,_=>False
def KV{κ:Type}:List (κ×V)→List (κ×Value)→Prop:=Paired fun (p:κ×V) (q:κ×Value)=>p.1=q.1∧RelV p.2 q.2
def kV:bW→V
 | .inl i=>.int i
 | .inr x=>.str x
inductive HO where
 | lst (xs:List V)
 | tup (xs:List V)
 | dK (kvs:List (bW×V)) | dT (kvs:List (List bW×V))
 | set (S:Int→Bool) (n:Nat)
 | ins (C dx:Addr) (fs:List (Str×V))
 | own (x:Addr)
 | xd (fs:List (Str×V))
 | met (f x:Addr)
 | rng (lo hi:Int)
 | frz (o:Obj) (u:HO)
 | tbl (ps:Array Value)
 | ext (φ:Heap→Prop)
abbrev Hp:=Addr→Option HO
def upd(H:Hp)(a:Addr)(o:HO):Hp:=fun b=>if b=a then some o else H b
theorem aC{H:Hp}{a:Addr}{o:HO}:upd H a o a=some o:=by unfold upd;rw[if_pos rfl]
theorem aJ{H:Hp}{a b:Addr}{o:HO}(h:b≠a):upd H a o b=H b:=by unfold upd;rw[if_neg h]
theorem nN{H:Hp}{a b:Addr}{o u:HO}(h:H a=some o)(h':H b=some u)(d:o≠u):a≠b:=by
 intro e;subst e;rw[h] at h';exact d (Option.some.inj h')
theorem aH{H:Hp}{a b:Addr}{o:HO}(h:H a=some o)(h':H b=none):a≠b:=by
 intro e;subst e;rw[h] at h';cases h'
def NoD(h:Heap)(a:Addr):Prop:=∃ o,h.get? a=some o∧o.dict=none
theorem NoD.new(h:Heap)(items:Array Value):NoD (h.push { cls:=.type "tuple",data:=.seq items }) h.objs.size:=⟨_,Heap.get?_push_size _ rfl,rfl⟩
section
variable (P:Program)(w:World)
def ObjOk(H:Hp)(h:Heap)(a:Addr):HO→Prop
 | .lst xs=>xs.length≤sizeLine∧∃ (its:List Value) (n:Nat),Vals xs its∧h.get? a=some { cls:=.type "list",data:=.seq its.toArray n }
 | .tup xs=>xs.length≤sizeLine∧∃ its:List Value,Vals xs its∧IsTup h a its.toArray∧NoD h a
 | .dK kvs=>kvs.length≤sizeLine∧(a == sysModules)=false∧∃ vs,KV kvs vs∧h.DictOf (bN P w) a vs
 | .dT kvs=>kvs.length≤sizeLine∧(a == sysModules)=false∧∃ xs:List (List bW×Addr×Value),
   Paired (fun (p:List bW×V) (q:List bW×Addr×Value)=>p.1=q.1∧H q.2.1=some (.tup (p.1.map kV))∧RelV p.2 q.2.2) kvs xs ∧
   ∃ o es ep,h.get? a=some o∧o.ExactDict∧o.data=.dict es ep∧es.toList=xs.map (entryOfKey (tupleKind (bN P w)))∧(xs.map (·.1)).Nodup
 | .set S n=>h.SetOf (intKind P w) a S n
 | .ins C dx fs=>H dx=some (.own a)∧fs.length≤1000∧dx≠a∧h.get? a=some (PySem.W.instObj C dx) ∧
   ∃ mA,h.Ns1 dx mA∧(∀ f,RelO (fs.lookup f) (mA f))∧PySem.Within mA (fs.map (·.1))
 | .own _=>∃ o,h.get? a=some o
 | .xd fs=>∃ mA,h.Ns1 a mA∧∀ f,RelO (fs.lookup f) (mA f)
 | .rng lo hi=>∃ t u v,h.get? a=some { cls:=.type "range",data:=.fields #[.int lo t,.int hi u,.int 1 v] }
 | .frz o u=>h.get? a=some o∧ObjOk H h a u
 | .tbl ps=>h.get? a=some { cls:=.none,data:=.fields ps }
 | .met f x=>h.get? a=some (PySem.W.methodObj (.ref f) (.ref x))
 | .ext φ=>φ h∧(∃ o,h.get? a=some o)∧∀ h1 h2:Heap,φ h1→(∀ o,h1.get? a=some o→h2.get? a=some o)→φ h2
def HOk(H:Hp)(h:Heap):Prop:=∀ a o,H a=some o→ObjOk P w H h a o
end
section
variable {P:Program}{w:World}{H H':Hp}{h h':Heap}{a:Addr}{o:HO}
theorem ObjOk.lt(x:ObjOk P w H h a o):a<h.objs.size:=by
 cases o with
 | lst xs=>obtain⟨_,_,_,_,e⟩:=x;exact Heap.lt_size e
 | tup xs=>obtain⟨_,_,_,p⟩:=x;exact p.1.lt
 | dK kvs=>obtain⟨_,_,_,_,o,_,_,e,_⟩:=x;exact Heap.lt_size e
 | dT kvs=>obtain⟨_,_,_,_,o,_,_,e,_⟩:=x;exact Heap.lt_size e
 | set S n=>obtain⟨o,_,_,_,e,_⟩:=x;exact Heap.lt_size e
 | ins C dx fs=>obtain⟨_,_,_,e,_⟩:=x;exact Heap.lt_size e
 | own y=>obtain⟨_,e⟩:=x;exact Heap.lt_size e
 | xd fs=>obtain⟨_,⟨_,_,_,e,_⟩,_⟩:=x;exact Heap.lt_size e
 | rng lo hi=>obtain⟨_,_,_,e⟩:=x;exact Heap.lt_size e
 | frz ob u=>obtain⟨e,_⟩:=x;exact Heap.lt_size e
 | tbl ps=>exact Heap.lt_size (show h.get? a=some _ from x)
 | met f y=>exact Heap.lt_size (show h.get? a=some _ from x)
 | ext φ=>obtain⟨_,⟨_,e⟩,_⟩:=x;exact Heap.lt_size e
theorem Paired.mapP{α β:Type}{F G:α→β→Prop}:∀ {l₁:List α} {l₂:List β},Paired F l₁ l₂→(∀ a b,F a b→G a b)→Paired G l₁ l₂
 | _,_,.nil,_=>.nil
 | _,_,.cons r t,f=>.cons (f _ _ r) (Paired.mapP t f)
theorem ObjOk.stay(x:ObjOk P w H h a o)(k:∀ b u,(b=a∨H b=some (.own a))→h.get? b=some u→h'.get? b=some u)
  (ho:∀ b,H b=some (.own a)→H' b=some (.own a)) (ht:∀ b xs,H b=some (.tup xs)→H' b=some (.tup xs)):ObjOk P w H' h' a o:=by
 induction o with
 | lst xs=>obtain⟨z,its,n,r,e⟩:=x;exact⟨z,its,n,r,k _ _ (.inl rfl) e⟩
 | tup xs=>obtain⟨z,its,r,⟨ob,e,c⟩,od,e2,c2⟩:=x;exact⟨z,its,r,⟨ob,k _ _ (.inl rfl) e,c⟩,od,k _ _ (.inl rfl) e2,c2⟩
 | dK kvs=>obtain⟨z,y,vs,r,ob,es,ep,e,c⟩:=x;exact⟨z,y,vs,r,ob,es,ep,k _ _ (.inl rfl) e,c⟩
 | dT kvs =>
  obtain⟨z,y,xs,r,ob,es,ep,e,c⟩:=x
  exact⟨z,y,xs,Paired.mapP r fun p q z=>⟨z.1,ht _ _ z.2.1,z.2.2⟩,ob,es,ep,k _ _ (.inl rfl) e,c⟩
 | set S n=>obtain⟨ob,es,ep,t,e,c⟩:=x;exact⟨ob,es,ep,t,k _ _ (.inl rfl) e,c⟩
 | ins C dx fs =>
  obtain⟨d,z,ne,e,mA,⟨od,es,ep,e2,c⟩,r⟩:=x
  exact⟨ho _ d,z,ne,k _ _ (.inl rfl) e,mA,⟨od,es,ep,k _ _ (.inr d) e2,c⟩,r⟩
 | own y=>obtain⟨ob,e⟩:=x;exact⟨ob,k _ _ (.inl rfl) e⟩
 | xd fs=>obtain⟨mA,⟨od,es,ep,e,c⟩,r⟩:=x;exact⟨mA,⟨od,es,ep,k _ _ (.inl rfl) e,c⟩,r⟩
 | rng lo hi=>obtain⟨t,u,v,e⟩:=x;exact⟨t,u,v,k _ _ (.inl rfl) e⟩
 | frz ob u ih=>obtain⟨e,q⟩:=x;exact⟨k _ _ (.inl rfl) e,ih q⟩
 | tbl ps =>
  have e:h.get? a=some { cls:=.none,data:=.fields ps }:=x
  show h'.get? a=some { cls:=.none,data:=.fields ps }
  exact k a _ (.inl rfl) e
 | met f y =>
  have e:h.get? a=some (PySem.W.methodObj (.ref f) (.ref y)):=x
  show h'.get? a=some (PySem.W.methodObj (.ref f) (.ref y))
  exact k a _ (.inl rfl) e
 | ext φ=>obtain⟨p,⟨o,e⟩,st⟩:=x;exact⟨st _ _ p fun o q=>k _ _ (.inl rfl) q,⟨o,k _ _ (.inl rfl) e⟩,st⟩
theorem HOk.lt(x:HOk P w H h)(e:H a=some o):a<h.objs.size:=(x a o e).lt
theorem HOk.fresh(x:HOk P w H h)(e:h.objs.size≤a):H a=none:=by
 cases q:H a with
 | none=>rfl
 | some u=>exact absurd (Nat.lt_of_lt_of_le (x.lt q) e) (Nat.lt_irrefl _)
theorem HOk.kept(x:HOk P w H h)(k:∀ b u,h.get? b=some u→h'.get? b=some u):HOk P w H h':=fun a o e =>
 (x a o e).stay (fun b u _ q=>k b u q) (fun _ q=>q) fun _ _ q=>q
theorem HOk.laid(x:HOk P w H h)(k:∀ b u,h.get? b=some u→h'.get? b=some u)(hp:h.objs.size≤a)(new:ObjOk P w (upd H a o) h' a o):HOk P w (upd H a o) h':=fun b u e=>by
 have hn:=x.fresh hp
 by_cases hb:b=a
 ·subst hb;rw[aC] at e;cases e;exact new
 ·rw[aJ hb] at e
  exact(x b u e).stay (fun c v _ q=>k c v q) (fun c q=>by rw[aJ (aH q hn)];exact q) fun c xs q=>by rw[aJ (aH q hn)];exact q
end
def Rd(H:Hp)(a:Addr)(u:HO):Prop:=H a=some u∨∃ o,H a=some (.frz o u)
theorem Rd.ok{P:Program}{w:World}{H:Hp}{h:Heap}{a:Addr}{u:HO}(r:Rd H a u)(x:HOk P w H h):ObjOk P w H h a u:=by
 rcases r with r | ⟨o,r⟩
 ·exact x a u r
 ·obtain⟨_,q⟩:=x a _ r
  exact q
def Jz:Option HO→Prop
 | some (.lst _)=>True
 | some (.dK _)=>True
 | some (.dT _)=>True
 | some (.set _ _)=>True
 | some (.ins _ _ _)=>True
 | some (.ext _)=>True
 | _=>False
section
variable {P:Program}{w:World}{H:Hp}{h h':Heap}{x e:Addr}{o':HO}
theorem HOk.write(ok:HOk P w H h)(mu:Jz (H x))(he:e=x∨H e=some (.own x))(k:∀ b u,b≠e→h.get? b=some u→h'.get? b=some u)(heo:∃ u,h'.get? e=some u)
  (new:ObjOk P w (upd H x o') h' x o'):HOk P w (upd H x o') h':=fun b u q=>by
 have nown:∀ c y,H c=some (.own y)→c≠x:=fun c y r z=>by subst z;rw[r] at mu;exact mu
 have ntup:∀ c xs,H c=some (.tup xs)→c≠x:=fun c xs r z=>by subst z;rw[r] at mu;exact mu
 by_cases hb:b=x
 ·subst hb;rw[aC] at q;cases q;exact new
 ·rw[aJ hb] at q
  by_cases hbe:b=e
  ·have q':H b=some (.own x):=by
    rcases he with z | z
    ·exact absurd (hbe.trans z) hb
    ·rw[hbe];exact z
   rw[q] at q';cases q'
   obtain⟨v,hv⟩:=heo
   exact⟨v,by rw[hbe];exact hv⟩
  ·refine(ok b u q).stay (fun c v hc r=>k c v ?_ r) (fun c r=>by rw[aJ (nown c b r)];exact r) fun c xs r=>by rw[aJ (ntup c xs r)];exact r
   rcases hc with rfl | hc
   ·exact hbe
   ·rintro rfl
    rcases he with z | z
    ·exact nown c b hc z
    ·rw[hc] at z;cases z;exact hb rfl
end
structure Un(fs ex:List Addr)(H H':Hp)(h h':Heap):Prop where
 keep:∀ b o,h.get? b=some o→H b=none→b ∉ fs→b ∉ ex→h'.get? b=some o
 slot:∀ b o,h.get? b=some o→H b=none→b∈fs→b ∉ ex→∃ sl,h'.get? b=some { o with slots:=sl }
 free:∀ b o,h.get? b=some o→H b=none→b ∉ ex→H' b=none
 there:∀ b o,h.get? b=some o→b ∉ ex→∃ o',h'.get? b=some o'
 tups:∀ b xs,H b=some (.tup xs)→H' b=some (.tup xs)
 frzs:∀ b o u,H b=some (.frz o u)→H' b=some (.frz o u)
 tbls:∀ b ps,H b=some (.tbl ps)→∃ more,H' b=some (.tbl (ps++more))
section
variable {fs fs' ex ex':List Addr}{H H1 H2:Hp}{h h1 h2 h':Heap}{a x e:Addr}{o:HO}
theorem Un.any(u:Un fs ex H H1 h h1){b:Addr}{ob:Obj}(q:h.get? b=some ob)(n:H b=none)(hx:b ∉ ex):∃ sl,h1.get? b=some { ob with slots:=sl }:=by
 by_cases hb:b∈fs
 ·exact u.slot b ob q n hb hx
 ·exact⟨ob.slots,u.keep b ob q n hb hx⟩
theorem Un.kept(k:∀ b u,h.get? b=some u→h'.get? b=some u):Un fs ex H H h h' :=
 ⟨fun b ob q _ _ _=>k b ob q,fun b ob q _ _ _=>⟨ob.slots,k b ob q⟩,fun _ _ _ n _=>n,fun b ob q _=>⟨ob,k b ob q⟩,fun _ _ q=>q,fun _ _ _ q=>q,fun _ ps q=>⟨#[],by rw[q];simp⟩⟩
theorem Un.refl:Un fs ex H H h h:=Un.kept fun _ _ q=>q
theorem Un.laid(k:∀ b u,h.get? b=some u→h'.get? b=some u)(hp:h.objs.size≤a)(hn:H a=none):Un fs ex H (upd H a o) h h' where
 keep:=fun b u q _ _ _=>k b u q
 slot:=fun b u q _ _ _=>⟨u.slots,k b u q⟩
 free:=fun b u q n _=>by rw[aJ (Nat.ne_of_lt (Nat.lt_of_lt_of_le (Heap.lt_size q) hp))];exact n
 there:=fun b u q _=>⟨u,k b u q⟩
 tups:=fun b xs q=>by rw[aJ (aH q hn)];exact q
 frzs:=fun b u xs q=>by rw[aJ (aH q hn)];exact q
 tbls:=fun b ps q=>⟨#[],by rw[aJ (aH q hn),q];simp⟩
theorem Un.write(mu:Jz (H x))(he:e=x∨H e=some (.own x))(k:∀ b u,b≠e→h.get? b=some u→h'.get? b=some u)(heo:∃ u,h'.get? e=some u):Un fs ex H (upd H x o) h h':=by
 have hx:∀ b,H b=none→b≠x:=fun b n z=>by subst z;rw[n] at mu;exact mu
 have hb:∀ b,H b=none→b≠e:=fun b n z=>by
  subst z
  rcases he with r | r
  ·exact hx b n r
  ·rw[n] at r;cases r
 have hm:∀ b u,H b=some u→¬ Jz (some u)→b≠x:=fun b u q nm z=>by subst z;rw[q] at mu;exact nm mu
 refine⟨fun b u q n _ _=>k b u (hb b n) q,fun b u q n _ _=>⟨u.slots,k b u (hb b n) q⟩,fun b u q n _=>by rw[aJ (hx b n)];exact n,fun b u q _=>?_,
  fun b xs q=>by rw[aJ (hm b _ q fun z=>z)];exact q,fun b u xs q=>by rw[aJ (hm b _ q fun z=>z)];exact q,fun b ps q=>⟨#[],by rw[aJ (hm b _ q fun z=>z),q];simp⟩⟩
 by_cases hbe:b=e
 ·subst hbe;exact heo
 ·exact⟨u,k b u hbe q⟩
end
def Ko(h:Heap)(H:Hp):List Addr:=(List.range h.objs.size).filter fun a=>(H a).isSome
def uH(h:Heap)(H:Hp):Heap:=PySem.W.hideAll h (Ko h H)
theorem AC(h:Heap)(H:Hp):(uH h H).objs.size=h.objs.size:=PySem.W.hideAll_size _ _
theorem CF{h:Heap}{H:Hp}{b:Addr}{o:Obj}(e:h.get? b=some o)(n:H b=none):(uH h H).get? b=some o :=
 PySem.W.hideAll_get _ e fun hm=>by
  have q:(H b).isSome=true:=(List.mem_filter.mp hm).2
  rw[n] at q;simp at q
theorem D2{h:Heap}{H:Hp}{b:Addr}{o:Obj}(e:(uH h H).get? b=some o):h.get? b=some o∧H b=none:=by
 have e':h.get? b=some o:=PySem.W.of_hideAll (Ko h H) e
 refine⟨e',?_⟩
 cases q:H b with
 | none=>rfl
 | some x =>
  have hm:b∈Ko h H:=List.mem_filter.mpr ⟨List.mem_range.mpr (Heap.lt_size e'),by simp[q]⟩
  have z:(uH h H).get? b=none:=PySem.W.hideAll_none (Ko h H) hm
  rw[z] at e;cases e
structure Mod(K:PySem.W.Frag)(mg:Str→Option Value)(base:Heap):Prop where
 kin:K.In base
 glob:base.Ns mainGlobals mg
 blt:∃ mb,base.Ns builtinsNs mb∧∀ x:Str,x≠"__name__"→mb x=bootBuiltins x
 nolimit:base.NoLimit
structure Cx where
 prog:Program
 w:World
 K:PySem.W.Frag
 mg:Str→Option Value
 base:Heap
 A:Around
 N:List Str
 s₀:Shared
 H₀:Hp
 env:Env
 outer:List Env
 stack:List Env
 ex:List Addr
 fn:Str→Bool
 calm:Bool
 pn:List (Addr×Obj)
 xe:Value→Shared→Prop
def Bf(l:List Env):List Addr:=l.filterMap (·.frame)
abbrev Cx.fs(X:Cx):List Addr:=Bf X.outer
def Jy(sc:Scope)(x:Str):Prop:=sc.names.lookup x=some .local∨sc.names.lookup x=some .cell∨sc.names.lookup x=some .free
def Jp(sc:Scope)(x:Str):Prop:=sc.names.lookup x=some .local∨sc.names.lookup x=some .cell
def KZ(env:Env)(h:Heap)(m:Str→Option Value)(x:Str)(u:Value):Prop :=
 (env.kindOf x=some .local∧m x=some u)∨((env.kindOf x=some .cell∨env.kindOf x=some .free)∧∃ c,env.cells.lookup x=some c∧h.IsCell c (some u))
structure Cx.Ok(X:Cx):Prop where
 mod:Mod X.K X.mg X.base
 kind:X.env.scope.kind=.function
 glob:X.env.globals=mainGlobals
 blt:X.env.builtins=builtinsNs
 above:X.s₀.heap.objs.size≤X.env.locals
 inj:∀ x y c,X.env.cells.lookup x=some c→X.env.cells.lookup y=some c→x=y
 has:∀ x,(X.env.kindOf x=some .cell∨X.env.kindOf x=some .free)→∃ c,X.env.cells.lookup x=some c
 cab:∀ x c,X.fn x=true→X.env.cells.lookup x=some c→X.s₀.heap.objs.size≤c
 hd:X.calm=true→X.A.handled=none
 frames:X.A.frames=some X.stack
 stk:X.stack=X.outer∨(X.stack=X.env::X.outer∧X.env.frame=some X.env.locals)
 exf:∀ b∈X.ex,b≠X.env.locals∧∀ x c,X.env.cells.lookup x=some c→c≠b
 bs:∀ b o,X.base.get? b=some o→X.s₀.heap.get? b=some o∧X.H₀ b=none
 bsz:X.base.objs.size≤X.s₀.heap.objs.size
 noex:∀ b o,X.base.get? b=some o→b ∉ X.ex
 exfs:∀ b∈X.ex,b ∉ X.fs
 funs:X.s₀.heap.FunFrames X.base X.outer
 frf:∀ b∈X.fs,X.H₀ b=none
structure Inv(X:Cx)(pins:List (Addr×Obj))(σ:List (Option V))(H:Hp)(s:Shared):Prop where
 ok:X.Ok
 os:s.os=X.s₀.os
 bare:AllBare s.gens
 base:Un X.fs X.ex X.H₀ H X.s₀.heap s.heap
 loc:∃ m,s.heap.Ns X.env.locals m∧∀ (i:Nat) (x:Str) (v:V),X.N[i]?=some x→σ[i]?=some (some v)→Jy X.env.scope x→∃ u,RelV v u∧KZ X.env s.heap m x u
 cell:∀ x c,X.env.cells.lookup x=some c→∃ v,s.heap.IsCell c v
 free:H X.env.locals=none
 freeC:∀ x c,X.env.cells.lookup x=some c→H c=none
 pin:∀ p∈X.pn++pins,s.heap.get? p.1=some p.2∧H p.1=none∧p.1≠X.env.locals∧p.1 ∉ X.fs∧∀ v,p.2.data≠.cell v
 hok:HOk X.prog X.w H s.heap
 len:σ.length=X.N.length
section
variable {X:Cx}{pins:List (Addr×Obj)}{σ:List (Option V)}{H H':Hp}{s:Shared}{h':Heap}
theorem Cx.Ok.nofr(ok:X.Ok){b:Addr}{o:Obj}(e:X.base.get? b=some o):b ∉ X.fs:=fun hb=>by
 have:=(ok.funs.mem hb).1
 rw[e] at this;cases this
theorem Inv.bs(I:Inv X pins σ H s):∀ b o,X.base.get? b=some o→s.heap.get? b=some o∧H b=none:=fun b o e =>
 ⟨I.base.keep b o (I.ok.bs b o e).1 (I.ok.bs b o e).2 (I.ok.nofr e) (I.ok.noex b o e),I.base.free b o (I.ok.bs b o e).1 (I.ok.bs b o e).2 (I.ok.noex b o e)⟩
theorem Inv.bk(I:Inv X pins σ H s):∀ b o,X.base.get? b=some o→s.heap.get? b=some o:=fun b o e=>(I.bs b o e).1
theorem Inv.mod(I:Inv X pins σ H s):Mod X.K X.mg X.base:=I.ok.mod
theorem Inv.kIn(I:Inv X pins σ H s):X.K.In s.heap:=I.ok.mod.kin.keeps I.bk
theorem Inv.lt(I:Inv X pins σ H s):X.env.locals<s.heap.objs.size:=let ⟨_,hn,_⟩:=I.loc;hn.lt
theorem Inv.sz(I:Inv X pins σ H s):X.s₀.heap.objs.size≤s.heap.objs.size:=Nat.le_trans I.ok.above (Nat.le_of_lt I.lt)
theorem Inv.nofs(I:Inv X pins σ H s){a:Addr}(h:s.heap.objs.size≤a):a ∉ X.fs:=fun hb=>by
 obtain⟨_,o,ho,_⟩:=I.ok.funs.mem hb
 exact absurd (Nat.lt_of_lt_of_le (Heap.lt_size ho) (Nat.le_trans I.sz h)) (Nat.lt_irrefl _)
theorem Inv.cne(I:Inv X pins σ H s):∀ x c,X.env.cells.lookup x=some c→c≠X.env.locals:=fun x c e z=>by
 obtain⟨v,o,ho,hd⟩:=I.cell x c e
 obtain⟨m,⟨o',es,ep,ho',hd',_⟩,_⟩:=I.loc
 rw[z,ho'] at ho;cases ho;rw[hd'] at hd;cases hd
theorem Inv.funs(I:Inv X pins σ H s):s.heap.FunFrames X.base X.outer:=by
 have all:∀ (l:List Env),(∀ b∈Bf l,b∈X.fs)→X.s₀.heap.FunFrames X.base l→s.heap.FunFrames X.base l:=by
  intro l
  induction l with
  | nil=>intro _ _;trivial
  | cons env r ih =>
   intro hs hl
   obtain⟨hk,⟨L,o,hf,hn,ho,hd⟩,hr⟩:=hl
   have hL:L∈X.fs:=hs L (by unfold Bf;rw[List.filterMap_cons,hf];exact List.mem_cons_self)
   obtain⟨sl,e⟩:=I.base.slot L o ho (I.ok.frf L hL) hL fun z=>I.ok.exfs L z hL
   exact⟨hk,⟨L,_,hf,hn,e,hd⟩,ih (fun b hb=>hs b (by unfold Bf;rw[List.filterMap_cons,hf];exact List.mem_cons_of_mem _ hb)) hr⟩
 exact all X.outer (fun _ hb=>hb) I.ok.funs
theorem Inv.stack(I:Inv X pins σ H s):s.heap.FunFrames X.base X.stack:=by
 rcases I.ok.stk with e | ⟨e,hf⟩
 ·rw[e];exact I.funs
 ·rw[e]
  obtain⟨m,hn,_⟩:=I.loc
  refine .cons (by rw[I.ok.kind];decide) hf hn ?_ I.funs
  exact Heap.get?_none_of_le (Nat.le_trans I.ok.bsz I.ok.above)
theorem Inv.stkSub(I:Inv X pins σ H s):∀ b∈Bf X.stack,b∈X.env.locals::X.fs:=fun b hb=>by
 rcases I.ok.stk with e | ⟨e,hf⟩
 ·rw[e] at hb;exact List.mem_cons_of_mem _ hb
 ·rw[e] at hb
  unfold Bf at hb
  rw[List.filterMap_cons,hf] at hb
  exact hb
theorem Inv.stkFree(I:Inv X pins σ H s):∀ b∈Bf X.stack,H b=none:=fun b hb=>by
 rcases List.mem_cons.mp (I.stkSub b hb) with e | hb
 ·rw[e];exact I.free
 ·obtain⟨_,o,ho,_⟩:=I.ok.funs.mem hb
  exact I.base.free b o ho (I.ok.frf b hb) fun z=>I.ok.exfs b z hb
theorem Inv.step{g':Array GenState}{t':Nat}{d':Drawn}{ch:List Addr}(I:Inv X pins σ H s)
  (hch:∀ b∈ch,(b∈X.ex∨X.s₀.heap.objs.size≤b)∧b≠X.env.locals∧(∀ x c,X.env.cells.lookup x=some c→c≠b)∧∀ p∈X.pn++pins,p.1≠b)
  (keep:∀ b o,b≠X.env.locals→b ∉ X.fs→b ∉ ch→s.heap.get? b=some o→H b=none→h'.get? b=some o)
  (slot:∀ b o,b≠X.env.locals→b∈X.fs→b ∉ ch→s.heap.get? b=some o→H b=none→∃ sl,h'.get? b=some { o with slots:=sl }) (free:∀ b o,b ∉ ch→s.heap.get? b=some o→H b=none→H' b=none)
  (there:∀ b o,b ∉ ch→s.heap.get? b=some o→∃ o',h'.get? b=some o')
  (tups:∀ b xs,H b=some (.tup xs)→H' b=some (.tup xs)) (frzs:∀ b o u,H b=some (.frz o u)→H' b=some (.frz o u)) (tbls:∀ b ps,H b=some (.tbl ps)→∃ more,H' b=some (.tbl (ps++more)))
  (ns:∀ m,s.heap.Ns X.env.locals m→h'.Ns X.env.locals m) (hok:HOk X.prog X.w H' h') (hg:AllBare g') :
  Inv X pins σ H' { s with heap:=h',gens:=g',drawn:=d',toks:=t' }:=by
 have neL:∀ b o,X.s₀.heap.get? b=some o→b≠X.env.locals:=fun b o e=>Nat.ne_of_lt (Nat.lt_of_lt_of_le (Heap.lt_size e) I.ok.above)
 have neC:∀ b o,X.s₀.heap.get? b=some o→b ∉ X.ex→b ∉ ch:=fun b o e hx hb=>by
  rcases(hch b hb).1 with z | z
  ·exact hx z
  ·exact absurd (Nat.lt_of_lt_of_le (Heap.lt_size e) z) (Nat.lt_irrefl _)
 have cellK:∀ x c,X.env.cells.lookup x=some c→∀ v,s.heap.IsCell c v→h'.IsCell c v:=fun x c e v ⟨o,ho,hd⟩=>by
  have nch:c ∉ ch:=fun z=>(hch c z).2.2.1 x c e rfl
  by_cases hc:c∈X.fs
  ·obtain⟨sl,q⟩:=slot c o (I.cne x c e) hc nch ho (I.freeC x c e)
   exact⟨_,q,hd⟩
  ·exact⟨o,keep c o (I.cne x c e) hc nch ho (I.freeC x c e),hd⟩
 refine⟨I.ok,I.os,hg,⟨fun b o e n hb hx=>?_,fun b o e n hb hx=>?_,fun b o e n hx=>?_,fun b o e hx=>?_,fun b xs e=>tups b xs (I.base.tups b xs e),fun b o xs e=>frzs b o xs (I.base.frzs b o xs e),fun b ps e=>?_⟩,?_,fun x c e=>?_,?_,fun x c e=>?_,fun p hp=>?_,hok,I.len⟩
 ·exact keep b o (neL b o e) hb (neC b o e hx) (I.base.keep b o e n hb hx) (I.base.free b o e n hx)
 ·obtain⟨sl,e1⟩:=I.base.slot b o e n hb hx
  obtain⟨sl',e2⟩:=slot b _ (neL b o e) hb (neC b o e hx) e1 (I.base.free b o e n hx)
  exact⟨sl',e2⟩
 ·obtain⟨o',e1⟩:=I.base.there b o e hx
  exact free b o' (neC b o e hx) e1 (I.base.free b o e n hx)
 ·obtain⟨o',e1⟩:=I.base.there b o e hx
  exact there b o' (neC b o e hx) e1
 ·obtain⟨m1,e1⟩:=I.base.tbls b ps e
  obtain⟨m2,e2⟩:=tbls b _ e1
  exact⟨m1++m2,by rw[e2,Array.append_assoc]⟩
 ·obtain⟨m,hn,hl⟩:=I.loc
  refine⟨m,ns m hn,fun i x v e1 e2 e3=>?_⟩
  obtain⟨u,r,l⟩:=hl i x v e1 e2 e3
  refine⟨u,r,?_⟩
  rcases l with l | ⟨k,c,e,z⟩
  ·exact .inl l
  ·exact .inr ⟨k,c,e,cellK x c e _ z⟩
 ·obtain⟨v,z⟩:=I.cell x c e
  exact⟨v,cellK x c e v z⟩
 ·obtain⟨m,⟨o,_,_,ho,_⟩,_⟩:=I.loc
  exact free _ o (fun z=>(hch _ z).2.1 rfl) ho I.free
 ·obtain⟨v,o,ho,hd⟩:=I.cell x c e
  exact free c o (fun z=>(hch c z).2.2.1 x c e rfl) ho (I.freeC x c e)
 ·obtain⟨e,n,ne,nf,d⟩:=I.pin p hp
  have nch:p.1 ∉ ch:=fun z=>(hch p.1 z).2.2.2 p hp rfl
  exact⟨keep p.1 p.2 ne nf nch e n,free p.1 p.2 nch e n,ne,nf,d⟩
theorem Inv.un{t':Nat}(I:Inv X pins σ H s)(u:Un X.fs [] H H' s.heap h')(hok:HOk X.prog X.w H' h'):Inv X pins σ H' { s with heap:=h',toks:=t' }:=by
 obtain⟨m,⟨o,es,ep,ho,r⟩,_⟩:=id I.loc
 obtain⟨sl,hL⟩:=u.any ho I.free (by simp)
 exact I.step (g':=s.gens) (d':=s.drawn) (ch:=[]) (fun _ z=>nomatch z) (fun b o _ hb _ e n=>u.keep b o e n hb (by simp)) (fun b o _ hb _ e n=>u.slot b o e n hb (by simp)) (fun b o _ e n=>u.free b o e n (by simp)) (fun b o _ e=>u.there b o e (by simp)) u.tups u.frzs u.tbls (fun m' hm=>by
  obtain⟨o',es',ep',ho',r'⟩:=hm
  rw[ho] at ho';cases ho'
  exact⟨_,es',ep',hL,r'⟩) hok I.bare
theorem Inv.call{g':Array GenState}{t':Nat}{d':Drawn}{ch:List Addr}(I:Inv X pins σ H s)(u:Un (Bf X.stack) ch H H' s.heap h')(hok:HOk X.prog X.w H' h')(hg:AllBare g')
  (hch:∀ b∈ch,(b∈X.ex∨X.s₀.heap.objs.size≤b)∧b≠X.env.locals∧(∀ x c,X.env.cells.lookup x=some c→c≠b)∧∀ p∈X.pn++pins,p.1≠b) :
  Inv X pins σ H' { s with heap:=h',gens:=g',drawn:=d',toks:=t' }:=by
 obtain⟨m,⟨o,es,ep,ho,r⟩,_⟩:=id I.loc
 obtain⟨sl,hL⟩:=u.any ho I.free fun z=>(hch _ z).2.1 rfl
 exact I.step (ch:=ch) hch (fun b o hL hb hc e n=>u.keep b o e n (fun z=>(List.mem_cons.mp (I.stkSub b z)).elim hL hb) hc) (fun b o _ _ hc e n=>u.any e n hc) (fun b o hc e n=>u.free b o e n hc) (fun b o hc e=>u.there b o e hc) u.tups u.frzs u.tbls (fun m' hm=>by
  obtain⟨o',es',ep',ho',r'⟩:=hm
  rw[ho] at ho';cases ho'
  exact⟨_,es',ep',hL,r'⟩) hok hg
theorem Inv.turned{t':Nat}{it:Addr}(I:Inv X pins σ H s)(k:∀ b o,b≠it→s.heap.get? b=some o→h'.get? b=some o)(hn:H it=none)(hL:it≠X.env.locals)
  (h1:it∈X.ex∨X.s₀.heap.objs.size≤it) (h2:∀ x c,X.env.cells.lookup x=some c→c≠it) (h3:∀ p∈X.pn++pins,p.1≠it):Inv X pins σ H { s with heap:=h',toks:=t' }:=by
 have nit:∀ b u,H b=some u→b≠it:=fun b u e z=>by rw[z,hn] at e;cases e
 refine I.step (g':=s.gens) (d':=s.drawn) (ch:=[it]) (fun b hb=>?_) (fun b o _ _ hc e _=>k b o (fun z=>hc (by simp[z])) e) (fun b o _ _ hc e _=>⟨o.slots,k b o (fun z=>hc (by simp[z])) e⟩) (fun _ _ _ _ n=>n)
  (fun b o hc e=>⟨o,k b o (fun z=>hc (by simp[z])) e⟩) (fun _ _ e=>e) (fun _ _ _ e=>e) (fun b ps e=>⟨#[],by rw[e];simp⟩) (fun m hm=>?_) (fun b u e=>?_) I.bare
 ·have e:b=it:=by simpa using hb
  subst e
  exact⟨h1,hL,h2,h3⟩
 ·obtain⟨o,es,ep,ho,r⟩:=hm
  exact⟨o,es,ep,k _ o (Ne.symm hL) ho,r⟩
 ·refine(I.hok b u e).stay (fun c v hc q=>k c v ?_ q) (fun _ q=>q) fun _ _ q=>q
  rcases hc with z | z
  ·rw[z];exact nit b u e
  ·exact nit c _ z
theorem Inv.tok(I:Inv X pins σ H s)(t:Nat):Inv X pins σ H { s with toks:=t }:=I.un (h':=s.heap) (t':=t) Un.refl I.hok
theorem Inv.kept{t':Nat}(I:Inv X pins σ H s)(k:∀ b u,s.heap.get? b=some u→h'.get? b=some u):Inv X pins σ H { s with heap:=h',toks:=t' }:=I.un (Un.kept k) (I.hok.kept k)
theorem Inv.laid{a:Addr}{o:HO}{t':Nat}(I:Inv X pins σ H s)(k:∀ b u,s.heap.get? b=some u→h'.get? b=some u)(hp:s.heap.objs.size≤a)(new:ObjOk X.prog X.w (upd H a o) h' a o) :
  Inv X pins σ (upd H a o) { s with heap:=h',toks:=t' }:=I.un (Un.laid k hp (I.hok.fresh hp)) (I.hok.laid k hp new)
theorem Inv.write{x e:Addr}{o:HO}{t':Nat}(I:Inv X pins σ H s)(mu:Jz (H x))(he:e=x∨H e=some (.own x))(k:∀ b u,b≠e→s.heap.get? b=some u→h'.get? b=some u)(heo:∃ u,h'.get? e=some u)
  (new:ObjOk X.prog X.w (upd H x o) h' x o):Inv X pins σ (upd H x o) { s with heap:=h',toks:=t' }:=I.un (Un.write mu he k heo) (I.hok.write mu he k heo new)
theorem Inv.pins_of{pins':List (Addr×Obj)}(I:Inv X pins σ H s)(h:∀ p∈pins',s.heap.get? p.1=some p.2∧H p.1=none∧p.1≠X.env.locals∧p.1 ∉ X.fs∧∀ v,p.2.data≠.cell v):Inv X pins' σ H s :=
 ⟨I.ok,I.os,I.bare,I.base,I.loc,I.cell,I.free,I.freeC,fun p hp=>(List.mem_append.mp hp).elim (fun z=>I.pin p (List.mem_append_left _ z)) (h p),I.hok,I.len⟩
theorem uW{N:List Str}(hN:N.Nodup){i j:Nat}{x:Str}(a:N[i]?=some x)(b:N[j]?=some x):i=j:=by
 obtain⟨h1,e1⟩:=List.getElem?_eq_some_iff.mp a
 obtain⟨h2,e2⟩:=List.getElem?_eq_some_iff.mp b
 exact(List.getElem_inj hN).mp (e1.trans e2.symm)
theorem sH{M:Model}{A:Around}{E:Value→Shared→Prop}{i:Nat}{x:Str}{v:V}{u:Value}{Q:Unit→Shared→Prop}(I:Inv X pins σ H s)(hN:X.N.Nodup)(hi:X.N[i]?=some x)(hx:Jp X.env.scope x)(r:RelV v u)
  (h:∀ s',Inv X pins (σ.set i (some v)) H s'→(∃ a,Heap.SameBut a s.heap s'.heap∧(a=X.env.locals∨X.env.cells.lookup x=some a))→Q () s') (hf:X.fn x=true∨X.env.scope.names.lookup x=some .local:=by first | exact .inl rfl | exact .inr rfl | assumption):wpAny M A (storeName X.env x u) Q E s:=by
 obtain⟨m,hn,hl⟩:=id I.loc
 have hcls:(X.env.scope.kind == .class || (X.env.scope.kind == .module && X.env.locals != X.env.globals))=false:=by rw[I.ok.kind];rfl
 have hiσ:i<σ.length:=by rw[I.len];exact(List.getElem?_eq_some_iff.mp hi).1
 have cne:=I.cne
 have tracked:∀ {a:Addr} {h':Heap},(∃ o,s.heap.get? a=some o∧H a=none)→Heap.SameBut a s.heap h'→HOk X.prog X.w H h':=fun {a h'} ha hs b ob e=>by
  obtain⟨_,_,hfree⟩:=ha
  refine(I.hok b ob e).stay (fun c w' hc q=>(hs.2 c ?_).trans q) (fun _ q=>q) fun _ _ q=>q
  rintro rfl
  rcases hc with rfl | hc
  ·rw[hfree] at e;cases e
  ·rw[hfree] at hc;cases hc
 rcases hx with hk | hk
 ·refine wpAny_storeName_local hk hn (fun h' hn' hs=>?_) hcls
  obtain⟨oL,_,_,hoL,_⟩:=id hn
  refine h _ ⟨I.ok,I.os,I.bare,⟨fun b o e n hb hx=>?_,fun b o e n hb hx=>?_,I.base.free,fun b o e hx=>?_,I.base.tups,I.base.frzs,I.base.tbls⟩,⟨_,hn',fun j y v' e1 e2 e3=>?_⟩,fun y c e=>?_,I.free,I.freeC,fun p hp=>?_,tracked ⟨oL,hoL,I.free⟩ hs,by simpa using I.len⟩ ⟨_,hs,.inl rfl⟩
  ·exact(hs.2 b (Nat.ne_of_lt (Nat.lt_of_lt_of_le (Heap.lt_size e) I.ok.above))).trans (I.base.keep b o e n hb hx)
  ·obtain⟨sl,e1⟩:=I.base.slot b o e n hb hx
   exact⟨sl,(hs.2 b (Nat.ne_of_lt (Nat.lt_of_lt_of_le (Heap.lt_size e) I.ok.above))).trans e1⟩
  ·obtain⟨o',e1⟩:=I.base.there b o e hx
   exact⟨o',(hs.2 b (Nat.ne_of_lt (Nat.lt_of_lt_of_le (Heap.lt_size e) I.ok.above))).trans e1⟩
  ·by_cases hj:j=i
   ·subst hj
    rw[hi] at e1;cases e1
    rw[List.getElem?_set_self hiσ] at e2
    cases e2
    exact⟨u,r,.inl ⟨hk,by simp⟩⟩
   ·rw[List.getElem?_set_ne (Ne.symm hj)] at e2
    obtain⟨u',r',q⟩:=hl j y v' e1 e2 e3
    refine⟨u',r',?_⟩
    rcases q with ⟨k,e⟩ | ⟨k,c,e,z⟩
    ·refine .inl ⟨k,?_⟩
     have:y≠x:=fun e=>hj (uW hN e1 (e ▸ hi))
     simp[this,e]
    ·exact .inr ⟨k,c,e,z.sameBut hs (cne y c e)⟩
  ·obtain⟨w',z⟩:=I.cell y c e
   exact⟨w',z.sameBut hs (cne y c e)⟩
  ·obtain⟨e,n,ne,nf,d⟩:=I.pin p hp
   exact⟨(hs.2 p.1 ne).trans e,n,ne,nf,d⟩
 ·have hfn:X.fn x=true:=by
   rcases hf with z | z
   ·exact z
   ·rw[z] at hk;cases hk
  obtain⟨c,hc⟩:=I.ok.has x (.inl hk)
  obtain⟨w',z⟩:=I.cell x c hc
  refine wpAny_storeName_cell I.ok.kind hk hc z (fun h' hc' hs=>?_)
  obtain⟨oc,hoc,hocd⟩:=id z
  refine h { s with heap:=h' } ⟨I.ok,I.os,I.bare,⟨fun b o e n hb hx=>?_,fun b o e n hb hx=>?_,I.base.free,fun b o e hx=>?_,I.base.tups,I.base.frzs,I.base.tbls⟩,⟨m,hn.sameBut hs (Ne.symm (cne x c hc)),fun j y v' e1 e2 e3=>?_⟩,fun y c' e=>?_,I.free,I.freeC,fun p hp=>?_,tracked ⟨oc,hoc,I.freeC x c hc⟩ hs,by simpa using I.len⟩ ⟨c,hs,.inr hc⟩
  ·exact(hs.2 b (Nat.ne_of_lt (Nat.lt_of_lt_of_le (Heap.lt_size e) (I.ok.cab x c hfn hc)))).trans (I.base.keep b o e n hb hx)
  ·obtain⟨sl,e1⟩:=I.base.slot b o e n hb hx
   exact⟨sl,(hs.2 b (Nat.ne_of_lt (Nat.lt_of_lt_of_le (Heap.lt_size e) (I.ok.cab x c hfn hc)))).trans e1⟩
  ·obtain⟨o',e1⟩:=I.base.there b o e hx
   exact⟨o',(hs.2 b (Nat.ne_of_lt (Nat.lt_of_lt_of_le (Heap.lt_size e) (I.ok.cab x c hfn hc)))).trans e1⟩
  ·by_cases hj:j=i
   ·subst hj
    rw[hi] at e1;cases e1
    rw[List.getElem?_set_self hiσ] at e2
    cases e2
    exact⟨u,r,.inr ⟨.inl hk,c,hc,hc'⟩⟩
   ·rw[List.getElem?_set_ne (Ne.symm hj)] at e2
    obtain⟨u',r',q⟩:=hl j y v' e1 e2 e3
    refine⟨u',r',?_⟩
    rcases q with q | ⟨k,c',e,z'⟩
    ·exact .inl q
    ·refine .inr ⟨k,c',e,z'.sameBut hs ?_⟩
     rintro rfl
     exact hj (uW hN e1 (I.ok.inj _ _ _ e hc ▸ hi))
  ·by_cases hcc:c'=c
   ·subst hcc;exact⟨_,hc'⟩
   ·obtain⟨w2,z2⟩:=I.cell y c' e
    exact⟨w2,z2.sameBut hs hcc⟩
  ·obtain⟨e,n,ne,nf,d⟩:=I.pin p hp
   refine⟨(hs.2 p.1 ?_).trans e,n,ne,nf,d⟩
   intro q
   rw[q,hoc] at e
   have q':oc=p.2:=Option.some.inj e
   exact d w' (by rw[← q'];exact hocd)
theorem gL{M:Model}{A:Around}{E:Value→Shared→Prop}{i:Nat}{x:Str}{v:V}{u:Value}{Q:Unit→Shared→Prop}(I:Inv X pins σ H s)(hN:X.N.Nodup)(hi:X.N[i]?=some x)(hx:Jp X.env.scope x)(r:RelV v u)
  (h:∀ s',Inv X pins (σ.set i (some v)) H s'→Q () s') (hf:X.fn x=true∨X.env.scope.names.lookup x=some .local:=by first | exact .inl rfl | exact .inr rfl | assumption):wpAny M A (storeName X.env x u) Q E s :=
 sH I hN hi hx r (fun s' I' _=>h s' I') hf
theorem Inv.call'{s':Shared}{ch:List Addr}(I:Inv X pins σ H s)(ho:s'.os=s.os)(u:Un (Bf X.stack) ch H H' s.heap s'.heap)(hok:HOk X.prog X.w H' s'.heap)(hg:AllBare s'.gens)
  (hch:∀ b∈ch,(b∈X.ex∨X.s₀.heap.objs.size≤b)∧b≠X.env.locals∧(∀ x c,X.env.cells.lookup x=some c→c≠b)∧∀ p∈X.pn++pins,p.1≠b):Inv X pins σ H' s':=by
 obtain⟨h',g',d',t',o'⟩:=s'
 have e:o'=s.os:=ho
 subst e
 exact I.call (g':=g') (t':=t') (d':=d') u hok hg hch
end
abbrev XK:=Value→Option Addr→Hp→Prop
abbrev St:=List (Option V)
abbrev VK:=V→Hp→Prop
abbrev TE:=St→Hp→VK→Prop
abbrev TT:=St→Hp→(Bool→Hp→Prop)→Prop
abbrev TA:=St→Hp→(List V→Hp→Prop)→Prop
structure Ends where
 nx:St→Hp→Prop
 rt:VK
 bk:St→Hp→Prop:=fun _ _=>False
 ct:St→Hp→Prop:=fun _ _=>False
abbrev TS:=Ends→St→Hp→Prop
def EP(X:Cx)(pins:List (Addr×Obj))(σ:St)(Q:VK)(u:Value)(s':Shared):Prop:=∃ v H',Inv X pins σ H' s'∧RelV v u∧Q v H'
def TP(X:Cx)(pins:List (Addr×Obj))(σ:St)(Q:Bool→Hp→Prop)(b:Bool)(s':Shared):Prop:=∃ H',Inv X pins σ H' s'∧Q b H'
def AP(X:Cx)(pins:List (Addr×Obj))(σ:St)(Q:List V→Hp→Prop)(us:List Value)(s':Shared):Prop:=∃ vs H',Inv X pins σ H' s'∧Vals vs us∧Q vs H'
def SP(X:Cx)(pins:List (Addr×Obj))(D:Ends)(f:Flow)(s':Shared):Prop :=
 match f with
 | .next=>∃ σ' H',Inv X pins σ' H' s'∧D.nx σ' H'
 | .brk=>∃ σ' H',Inv X pins σ' H' s'∧D.bk σ' H'
 | .cont=>∃ σ' H',Inv X pins σ' H' s'∧D.ct σ' H'
 | .ret u=>∃ v σ' H',Inv X pins σ' H' s'∧RelV v u∧D.rt v H'
def PE(X:Cx)(e:Expr)(t:TE):Prop :=
 ∀ (pins:List (Addr×Obj)) (s:Shared) (σ:St) (H:Hp) (Q:VK),Inv X pins σ H s→t σ H Q→wpAny (model X.prog X.w) X.A (eval e X.env) (EP X pins σ Q) X.xe s
def PT(X:Cx)(e:Expr)(t:TT):Prop :=
 ∀ (pins:List (Addr×Obj)) (s:Shared) (σ:St) (H:Hp) (Q:Bool→Hp→Prop),Inv X pins σ H s→t σ H Q→wpAny (model X.prog X.w) X.A (isTrue e X.env (eval e X.env)) (TP X pins σ Q) X.xe s
def PW(X:Cx)(e:Expr)(t:TT):Prop :=
 ∀ (whole:Sem Value) (pins:List (Addr×Obj)) (s:Shared) (σ:St) (H:Hp) (Q:Bool→Hp→Prop),Inv X pins σ H s→t σ H Q→wpAny (model X.prog X.w) X.A (isTrue e X.env whole) (TP X pins σ Q) X.xe s
theorem PW.pt{X:Cx}{e:Expr}{t:TT}(h:PW X e t):PT X e t:=h _
def PA(X:Cx)(es:List Expr)(t:TA):Prop :=
 ∀ (pos:Pos) (pins:List (Addr×Obj)) (s:Shared) (σ:St) (H:Hp) (Q:List V→Hp→Prop),Inv X pins σ H s→t σ H Q→wpAny (model X.prog X.w) X.A (spliced (backTo pos (starEach es X.env))) (AP X pins σ Q) X.xe s
def PS(X:Cx)(st:Stmt)(t:TS):Prop :=
 ∀ (pins:List (Addr×Obj)) (s:Shared) (σ:St) (H:Hp) (D:Ends),Inv X pins σ H s→t D σ H→wpAny (model X.prog X.w) X.A (exec st X.env) (SP X pins D) X.xe s
def PSs(X:Cx)(st:List Stmt)(t:TS):Prop :=
 ∀ (pins:List (Addr×Obj)) (s:Shared) (σ:St) (H:Hp) (D:Ends),Inv X pins σ H s→t D σ H→wpAny (model X.prog X.w) X.A (execs st X.env) (SP X pins D) X.xe s
theorem bS{α:Type}{t:Sem α}{Q Q':α→Shared→Prop}{M:Model}{A:Around}{E:Value→Shared→Prop}{s:Shared}(h:wpAny M A t Q E s)(hQ:∀ a s,Q a s→Q' a s):wpAny M A t Q' E s:=wpAny_mono h hQ fun _ _ x=>x
section
variable {X:Cx}
theorem LB{a b:Expr}{ta tb:TE}(ha:PE X a ta)(hb:PE X b tb){pins:List (Addr×Obj)}{s:Shared}{σ:St}{H:Hp}{R:V→V→Hp→Prop}(I:Inv X pins σ H s)(h:ta σ H fun x H1=>tb σ H1 fun y H2=>R x y H2)
  {α:Type} {Q:α→Shared→Prop} {f:Value→Value→Sem α}
  (hf:∀ v u s2 x y H2,Inv X pins σ H2 s2→RelV x v→RelV y u→R x y H2→wpAny (model X.prog X.w) X.A (f v u) Q X.xe s2) :
  wpAny (model X.prog X.w) X.A (eval a X.env) (fun v s₁=>wpAny (model X.prog X.w) X.A (eval b X.env) (fun u s₂=>wpAny (model X.prog X.w) X.A (f v u) Q X.xe s₂) X.xe s₁) X.xe s:=by
 refine bS (ha pins s σ H _ I h) fun v s1 ⟨x,H1,I1,r1,q1⟩=>?_
 refine bS (hb pins s1 σ H1 _ I1 q1) fun u s2 ⟨y,H2,I2,r2,q2⟩=>?_
 exact hf v u s2 x y H2 I2 r1 r2 q2
def Ep(i:Nat):TE:=fun σ H Q=>∃ v,σ[i]?=some (some v)∧Q v H
def tC(v:V):TE:=fun _ H Q=>Q v H
theorem HH{i:Nat}{x:Str}{pos:Pos}(hN:X.N[i]?=some x)(hv:Jy X.env.scope x)(hd:(x == ("__debug__":Str))=false:=by decide)(hcd:(x == ("__classdict__":Str))=false:=by decide):PE X (.Name x pos) (Ep i):=by
 intro pins s σ H Q I h
 obtain⟨v,e,h⟩:=h
 obtain⟨m,hn,hl⟩:=I.loc
 obtain⟨u,r,l⟩:=hl i x v hN e hv
 have fin:EP X pins σ Q u s:=⟨v,H,I,r,h⟩
 rcases l with ⟨hk,hm⟩ | ⟨hk,c,hc,hcell⟩
 ·exact wpAny_Name (wpAny_loadName_local I.ok.kind hk hn hm fin) hd
 ·rcases hk with hk | hk
  ·exact wpAny_Name (wpAny_loadName_cell I.ok.kind hk hc hcell fin) hd
  ·exact wpAny_Name (wpAny_loadName_free I.ok.kind hk hc hcell fin hcd) hd
theorem aG{i j pos}:PE X (.Constant (.int i) j pos) (tC (.int i)):=fun _ _ _ H _ I h=>wpAny_Constant_int ⟨.int i,H,I.tok _,⟨_,rfl⟩,h⟩
theorem iQ{b j pos}:PE X (.Constant (.bool b) j pos) (tC (.bl b)):=fun _ _ _ H _ I h=>Constant_bool ⟨.bl b,H,I,rfl,h⟩
theorem qH{j pos}:PE X (.Constant .none j pos) (tC .non):=fun _ _ _ H _ I h=>Constant_none ⟨.non,H,I,rfl,h⟩
theorem cD{x j pos}:PE X (.Constant (.str x) j pos) (tC (.str x)):=fun _ _ _ H _ I h=>Calls.Constant_str ⟨.str x,H,I.tok _,⟨_,rfl⟩,h⟩
def Gl(X:Cx)(x:Str):Prop:=X.env.kindOf x=some .globalImplicit
theorem tN{E:Value→Shared→Prop}{pins:List (Addr×Obj)}{s:Shared}{σ:St}{H:Hp}{x:Str}{u:Value}{pos:Pos}{Q:Value→Shared→Prop}(I:Inv X pins σ H s)(hg:Gl X x)(hm:X.mg x=some u)(h:Q u s)
  (hd:(x == ("__debug__":Str))=false:=by decide):wpAny (model X.prog X.w) X.A (eval (.Name x pos) X.env) Q E s :=
 Calls.Name_function_global I.ok.kind hg (Calls.loadGlobal_global (by rw[I.ok.glob];exact I.mod.glob.keeps I.bk) hm h) hd
theorem gE{E:Value→Shared→Prop}{pins:List (Addr×Obj)}{s:Shared}{σ:St}{H:Hp}{x:Str}{u:Value}{pos:Pos}{Q:Value→Shared→Prop}(I:Inv X pins σ H s)(hg:Gl X x)(hm:X.mg x=none)(hv:bootBuiltins x=some u)(h:Q u s)
  (hn:x≠"__name__":=by decide) (hd:(x == ("__debug__":Str))=false:=by decide):wpAny (model X.prog X.w) X.A (eval (.Name x pos) X.env) Q E s:=by
 obtain⟨mb,h1,h2⟩:=I.mod.blt
 exact Calls.Name_function_global I.ok.kind hg (Calls.loadGlobal_builtin (by rw[I.ok.glob];exact I.mod.glob.keeps I.bk) hm (by rw[I.ok.blt];exact h1.keeps I.bk) ((h2 x hn).trans hv) h) hd
theorem jK{x:Str}{v:V}{u:Value}{pos:Pos}(hg:Gl X x)(hm:X.mg x=some u)(r:RelV v u)(hd:(x == ("__debug__":Str))=false:=by decide):PE X (.Name x pos) (tC v) :=
 fun _ _ _ H _ I h=>tN I hg hm ⟨v,H,I,r,h⟩ hd
theorem Ea{x:Str}{v:V}{u:Value}{pos:Pos}(hg:Gl X x)(hm:X.mg x=none)(hv:bootBuiltins x=some u)(r:RelV v u)(hn:x≠"__name__":=by decide)(hd:(x == ("__debug__":Str))=false:=by decide):PE X (.Name x pos) (tC v) :=
 fun _ _ _ H _ I h=>gE I hg hm hv ⟨v,H,I,r,h⟩ hn hd
variable {a b:Expr}{ta tb:TE}{pos:Pos}
def PC(X:Cx)(op:CmpOp)(a b:Expr)(t:TE):Prop :=
 ∀ (pins:List (Addr×Obj)) (s:Shared) (σ:St) (H:Hp) (Q:VK),Inv X pins σ H s→t σ H Q →
  wpAny (model X.prog X.w) X.A (eval a X.env) (fun v s₁=>wpAny (model X.prog X.w) X.A (eval b X.env) (fun u s₂=>wpAny (model X.prog X.w) X.A (compareOp op v u) (EP X pins σ Q) X.xe s₂) X.xe s₁) X.xe s
def tB(t:TE):TT:=fun σ H Q=>t σ H fun x H1=>∃ c,x=.bl c∧Q c H1
theorem Hk{op:CmpOp}{t:TE}(h:PC X op a b t)(h1:behindInMarks op b=false:=by first | exact nobehind _ (by decide) (by decide) | rfl):PT X (.Compare a [op] [b] pos) (tB t):=by
 intro pins s σ H Q I hw
 refine wpAny_isTrue_Compare1 (bS (h pins s σ H _ I hw) fun v s1 h1=>bS h1 fun u s2 h2=>bS h2 fun c s3 ⟨x,H1,I1,r1,q1⟩=>?_) h1
 obtain⟨d,rfl,q⟩:=q1
 cases r1
 exact wpAny_truthy_bool ⟨H1,I1,q⟩
theorem eX{e:Expr}{t:TE}(h:PE X e t)(he:∀ whole,isTrue e X.env whole=(do let v ← whole;standAt e.pos;holding [v] (truthy v)):=by intro _;rfl):PT X e (tB t):=by
 intro pins s σ H Q I hw
 refine isTrue_plain (bS (h pins s σ H _ I hw) fun v s1 ⟨x,H1,I1,r1,q1⟩=>?_) (he _)
 obtain⟨d,rfl,q⟩:=q1
 cases r1
 exact wpAny_truthy_bool ⟨H1,I1,q⟩
variable {tA tB':TT}{rest:List Expr}
def KO(t u:TT):TT:=fun σ H Q=>t σ H fun c H1=>if c=true then u σ H1 Q else Q false H1
def Lu(t u:TT):TT:=fun σ H Q=>t σ H fun c H1=>if c=true then Q true H1 else u σ H1 Q
def Ky(t:TT):TT:=fun σ H Q=>t σ H fun c H1=>Q (!c) H1
theorem pw_and1(ha:PT X a tA):PW X (.BoolOp .And [a] pos) tA:=by
 intro wh pins s σ H Q I h
 refine isTrue_and (bS (ha pins s σ H Q I h) fun c s1 e=>?_)
 cases c with
 | true=>exact isTrue_and_nil e
 | false=>exact e
theorem pw_or1(ha:PT X a tA):PW X (.BoolOp .Or [a] pos) tA:=by
 intro wh pins s σ H Q I h
 refine isTrue_or (bS (ha pins s σ H Q I h) fun c s1 e=>?_)
 cases c with
 | false=>exact isTrue_or_nil e
 | true=>exact e
theorem pw_and(ha:PT X a tA)(hb:PW X (.BoolOp .And (b::rest) pos) tB'):PW X (.BoolOp .And (a::b::rest) pos) (KO tA tB'):=by
 intro wh pins s σ H Q I h
 refine isTrue_and (bS (ha pins s σ H _ I h) fun c s1 ⟨H1,I1,q1⟩=>?_)
 cases c with
 | true=>exact hb wh pins s1 σ H1 Q I1 q1
 | false=>exact⟨H1,I1,q1⟩
theorem pw_or(ha:PT X a tA)(hb:PW X (.BoolOp .Or (b::rest) pos) tB'):PW X (.BoolOp .Or (a::b::rest) pos) (Lu tA tB'):=by
 intro wh pins s σ H Q I h
 refine isTrue_or (bS (ha pins s σ H _ I h) fun c s1 ⟨H1,I1,q1⟩=>?_)
 cases c with
 | true=>exact⟨H1,I1,q1⟩
 | false=>exact hb wh pins s1 σ H1 Q I1 q1
theorem oW(ha:PT X a tA):PT X (.UnaryOp .Not a pos) (Ky tA):=by
 intro pins s σ H Q I h
 exact isTrue_not (ha pins s σ H (fun c H1=>Q (!c) H1) I h)
def J3(ta tb:TE):TE:=fun σ H Q=>ta σ H fun x H1=>∃ c,x=.bl c∧if c=true then tb σ H1 Q else Q (.bl false) H1
theorem qP{op}{t:TE}(h:PE X a t):PE X (.BoolOp op [a] pos) t:=fun pins s σ H Q I hw=>BoolOp_one (h pins s σ H Q I hw)
theorem qM(ha:PE X a ta)(hb:PE X (.BoolOp .And (b::rest) pos) tb):PE X (.BoolOp .And (a::b::rest) pos) (J3 ta tb):=by
 intro pins s σ H Q I h
 refine BoolOp_and (bS (ha pins s σ H _ I h) fun v s1 ⟨x,H1,I1,r1,q1⟩=>?_)
 obtain⟨c,rfl,q1⟩:=q1
 cases r1
 refine wpAny_truthy_bool ?_
 cases c with
 | true=>exact hb pins s1 σ H1 Q I1 q1
 | false=>exact⟨.bl false,H1,I1,rfl,q1⟩
def Lo(t:TT)(ta tb:TE):TE:=fun σ H Q=>t σ H fun c H1=>if c=true then ta σ H1 Q else tb σ H1 Q
theorem fC{c:Expr}(hc:PT X c tA)(ha:PE X a ta)(hb:PE X b tb):PE X (.IfExp c a b pos) (Lo tA ta tb):=by
 intro pins s σ H Q I h
 refine wpAny_IfExp (bS (hc pins s σ H _ I h) fun d s1 ⟨H1,I1,q1⟩=>?_)
 cases d with
 | true=>exact ha pins s1 σ H1 Q I1 q1
 | false=>exact hb pins s1 σ H1 Q I1 q1
end
def SqL(K:PySem.W.Frag)(H:Hp)(a:Addr)(xs:List V):Prop :=
 Rd H a (.lst xs) ∨
  ∃ (o:Obj) (its:Array Value) (n:Nat),K.lookup a=some o∧o.cls=.type "list"∧o.dict=none∧o.data=.seq its n∧its.size≤sizeLine∧Vals xs its.toList
def SqT(K:PySem.W.Frag)(H:Hp)(a:Addr)(xs:List V):Prop :=
 Rd H a (.tup xs) ∨
  ∃ (o:Obj) (its:Array Value) (n:Nat),K.lookup a=some o∧o.cls=.type "tuple"∧o.data=.seq its n∧its.size≤sizeLine∧Vals xs its.toList
def KR:Value→Option V
 | .none=>some .non
 | .bool b=>some (.bl b)
 | .int i _=>some (.int i)
 | .str x _=>some (.str x)
 | .bytes b _=>some (.byt b)
 | .float b _=>some (.flt b)
 | .ref a=>some (.ref a)
 | .type n=>some (.ty n)
 | _=>none
theorem RelV.abs{x:V}{u:Value}(r:RelV x u):KR u=some x:=by
 cases x with
 | non=>cases r;rfl
 | bl _=>cases r;rfl
 | int _=>obtain⟨t,rfl⟩:=r;rfl
 | str _=>obtain⟨t,rfl⟩:=r;rfl
 | byt _=>obtain⟨t,rfl⟩:=r;rfl
 | flt _=>obtain⟨t,rfl⟩:=r;rfl
 | ref _=>cases r;rfl
 | ty _=>cases r;rfl
theorem RelV.inj{x y:V}{u:Value}(r:RelV x u)(q:RelV y u):x=y:=Option.some.inj (r.abs.symm.trans q.abs)
theorem Vals.inj:∀ {xs ys:List V} {us:List Value},Vals xs us→Vals ys us→xs=ys
 | _,_,_,.nil,.nil=>rfl
 | _,_,_,.cons r t,.cons r' t'=>by rw[r.inj r',Vals.inj t t']
section
variable {X:Cx}{pins:List (Addr×Obj)}{σ:St}{H:Hp}{s:Shared}{a:Addr}{xs ys:List V}
theorem SqL.of{K:PySem.W.Frag}(h:H a=some (.lst xs)):SqL K H a xs:=.inl (.inl h)
theorem SqT.of{K:PySem.W.Frag}(h:H a=some (.tup xs)):SqT K H a xs:=.inl (.inl h)
theorem Inv.list(I:Inv X pins σ H s)(h:SqL X.K H a xs):∃ its:List Value,Vals xs its∧PlainL s.heap a its.toArray∧xs.length≤sizeLine:=by
 rcases h with h | ⟨o,its,n,hk,hc,hd,hs,hz,r⟩
 ·obtain⟨z,its,n,r,e⟩:=h.ok I.hok
  exact⟨its,r,⟨_,n,e,rfl,rfl,rfl⟩,z⟩
 ·refine⟨its.toList,r,⟨o,n,I.kIn a o hk,hc,hd,by simpa using hs⟩,?_⟩
  have e:=r.length
  simp only [Array.length_toList] at e
  omega
theorem Inv.tuple(I:Inv X pins σ H s)(h:SqT X.K H a xs):∃ its:List Value,Vals xs its∧IsTup s.heap a its.toArray∧xs.length≤sizeLine:=by
 rcases h with h | ⟨o,its,n,hk,hc,hs,hz,r⟩
 ·obtain⟨z,its,r,p,_⟩:=h.ok I.hok
  exact⟨its,r,p,z⟩
 ·refine⟨its.toList,r,⟨o,I.kIn a o hk,hc,n,by simpa using hs⟩,?_⟩
  have e:=r.length
  simp only [Array.length_toList] at e
  omega
theorem Inv.list_inj(I:Inv X pins σ H s)(h:SqL X.K H a xs)(h':SqL X.K H a ys):xs=ys:=by
 obtain⟨its,r,⟨o,n,e,_,_,d⟩,_⟩:=I.list h
 obtain⟨its',r',⟨o',n',e',_,_,d'⟩,_⟩:=I.list h'
 rw[e] at e';cases e'
 rw[d] at d'
 injection d' with d1 _
 have:its=its':=by simpa using congrArg Array.toList d1
 subst this
 exact r.inj r'
theorem Inv.tuple_inj(I:Inv X pins σ H s)(h:SqT X.K H a xs)(h':SqT X.K H a ys):xs=ys:=by
 obtain⟨its,r,⟨o,e,_,n,d⟩,_⟩:=I.tuple h
 obtain⟨its',r',⟨o',e',_,n',d'⟩,_⟩:=I.tuple h'
 rw[e] at e';cases e'
 rw[d] at d'
 injection d' with d1 _
 have:its=its':=by simpa using congrArg Array.toList d1
 subst this
 exact r.inj r'
end
abbrev Cx.wish(X:Cx)(E:Value→Shared→Prop):Cx:={ X with xe:=E }
abbrev Cx.nox(X:Cx):Cx:=X.wish fun _ _=>False
theorem Cx.Ok.wish{X:Cx}(ok:X.Ok)(E:Value→Shared→Prop):(X.wish E).Ok :=
 ⟨ok.mod,ok.kind,ok.glob,ok.blt,ok.above,ok.inj,ok.has,ok.cab,ok.hd,ok.frames,ok.stk,ok.exf,ok.bs,ok.bsz,ok.noex,ok.exfs,ok.funs,ok.frf⟩
theorem Cx.Ok.unwish{X:Cx}{E:Value→Shared→Prop}(ok:(X.wish E).Ok):X.Ok :=
 ⟨ok.mod,ok.kind,ok.glob,ok.blt,ok.above,ok.inj,ok.has,ok.cab,ok.hd,ok.frames,ok.stk,ok.exf,ok.bs,ok.bsz,ok.noex,ok.exfs,ok.funs,ok.frf⟩
section
variable {X:Cx}{pins:List (Addr×Obj)}{σ:St}{H:Hp}{s:Shared}{E:Value→Shared→Prop}
theorem Inv.wish(I:Inv X pins σ H s)(E:Value→Shared→Prop):Inv (X.wish E) pins σ H s:=⟨I.ok.wish E,I.os,I.bare,I.base,I.loc,I.cell,I.free,I.freeC,I.pin,I.hok,I.len⟩
theorem Inv.unwish(I:Inv (X.wish E) pins σ H s):Inv X pins σ H s:=⟨I.ok.unwish,I.os,I.bare,I.base,I.loc,I.cell,I.free,I.freeC,I.pin,I.hok,I.len⟩
theorem SP.unwish{D:Ends}{f:Flow}{s':Shared}(h:SP (X.wish E) pins D f s'):SP X pins D f s':=by
 cases f with
 | next=>obtain⟨σ',H',I,q⟩:=h;exact⟨σ',H',I.unwish,q⟩
 | brk=>obtain⟨σ',H',I,q⟩:=h;exact⟨σ',H',I.unwish,q⟩
 | cont=>obtain⟨σ',H',I,q⟩:=h;exact⟨σ',H',I.unwish,q⟩
 | ret u=>obtain⟨v,σ',H',I,r,q⟩:=h;exact⟨v,σ',H',I.unwish,r,q⟩
theorem PSs.nox{st:List Stmt}{t:TS}(h:PSs X.nox st t):PSs X st t:=fun pins s σ H D I hw =>
 wpAny_mono (h pins s σ H D (I.wish _) hw) (fun _ _ q=>q.unwish) fun _ _ z=>False.elim z
end
section
variable {X:Cx}{st:Stmt}{rest:List Stmt}{t u:TS}{e:Expr}{te:TE}{pos:Pos}
def IQ:TS:=fun D σ H=>D.nx σ H
def JV(t u:TS):TS:=fun D σ H=>t { D with nx:=u D } σ H
theorem bA:PSs X [] IQ:=fun _ _ σ H _ I h=>wpAny_execs_nil ⟨σ,H,I,h⟩
theorem aD(h1:PS X st t)(h2:PSs X rest u):PSs X (st::rest) (JV t u):=by
 intro pins s σ H D I h
 refine wpAny_execs_cons (bS (h1 pins s σ H { D with nx:=u D } I h) fun f s1 q=>?_)
 cases f with
 | next =>
  obtain⟨σ',H',I',q⟩:=q
  exact h2 pins s1 σ' H' D I' q
 | ret v=>exact q
 | brk=>exact q
 | cont=>exact q
theorem aE(h1:PS X st t):PSs X [st] t:=by
 intro pins s σ H D I h
 refine wpAny_execs_cons (bS (h1 pins s σ H D I h) fun f s1 q=>?_)
 cases f with
 | next=>exact wpAny_execs_nil q
 | ret v=>exact q
 | brk=>exact q
 | cont=>exact q
def JW:TS:=fun D σ H=>D.ct σ H
theorem vI:PS X (.Continue pos) JW:=fun _ _ σ H _ I h=>wpAny_Continue ⟨σ,H,I,h⟩
theorem Inv.quiet{pins:List (Addr×Obj)}{σ:St}{H:Hp}{s:Shared}(I:Inv X pins σ H s):interactive X.env=false:=by simp[interactive,I.ok.kind]
def J9(te:TE):TS:=fun D σ H=>te σ H fun _ H1=>D.nx σ H1
theorem cB(he:PE X e te)(hs:swapsWith e none pos.line X.env=pure false:=by rfl):PS X (.Expr e pos) (J9 te):=by
 intro pins s σ H D I h
 exact wpAny_Expr_any (bS (he pins s σ H _ I h) fun v s1 ⟨x,H1,I1,r1,q1⟩=>⟨σ,H1,I1,q1⟩) I.quiet hs
def K_(te:TE):TS:=fun D σ H=>te σ H D.rt
theorem aM(he:PE X e te):PS X (.Return (some e) pos) (K_ te):=by
 intro pins s σ H D I h
 exact wpAny_Return_some (bS (he pins s σ H _ I h) fun v s1 ⟨x,H1,I1,r1,q1⟩=>⟨x,σ,H1,I1,r1,q1⟩)
def KS(c:TT)(t u:TS):TS:=fun D σ H=>c σ H fun b H1=>if b=true then t D σ H1 else u D σ H1
theorem bQ{c:Expr}{a b:List Stmt}{tc:TT}(hc:PT X c tc)(ha:PSs X a t)(hb:PSs X b u):PS X (.If c a b pos) (KS tc t u):=by
 intro pins s σ H D I h
 refine wpAny_If (bS (hc pins s σ H _ I h) fun d s1 ⟨H1,I1,q1⟩=>?_)
 cases d with
 | true=>exact ha pins s1 σ H1 D I1 q1
 | false=>exact hb pins s1 σ H1 D I1 q1
def F6:TS:=fun _ _ _=>False
theorem mH{sts:List Stmt}:PSs X sts F6:=fun _ _ _ _ _ _ h=>h.elim
end
abbrev TG:=V→St→Hp→(St→Hp→Prop)→Prop
abbrev Gw:=List V→St→Hp→(St→Hp→Prop)→Prop
def PG(X:Cx)(target:Expr)(t:TG):Prop :=
 ∀ (pins:List (Addr×Obj)) (s:Shared) (σ:St) (H:Hp) (v:V) (u:Value) (Q:St→Hp→Prop),Inv X pins σ H s→RelV v u→t v σ H Q →
  wpAny (model X.prog X.w) X.A (assign target X.env u) (fun _ s'=>∃ σ' H',Inv X pins σ' H' s'∧Q σ' H') X.xe s
def Kt(X:Cx)(ts:List Expr)(t:Gw):Prop :=
 ∀ (pins:List (Addr×Obj)) (s:Shared) (σ:St) (H:Hp) (vs:List V) (us:List Value) (Q:St→Hp→Prop),Inv X pins σ H s→Vals vs us→t vs σ H Q →
  wpAny (model X.prog X.w) X.A (assignInOrder ((assignEach ts X.env).map (·.2)) us) (fun _ s'=>∃ σ' H',Inv X pins σ' H' s'∧Q σ' H') X.xe s
abbrev GX:=V→V→V→Hp→(Hp→Prop)→Prop
def IJ(X:Cx)(t:GX):Prop :=
 ∀ (pins:List (Addr×Obj)) (s:Shared) (σ:St) (H:Hp) (o i v:V) (ov iv u:Value) (Q:Hp→Prop),Inv X pins σ H s→RelV o ov→RelV i iv→RelV v u→t o i v H Q →
  wpAny (model X.prog X.w) X.A (setItem ov iv u) (fun _ s'=>∃ H',Inv X pins σ H' s'∧Q H') X.xe s
abbrev Ks:=V→V→Hp→VK→Prop
def Lf(X:Cx)(op:Operator)(t:Ks):Prop :=
 ∀ (pins:List (Addr×Obj)) (s:Shared) (σ:St) (H:Hp) (x y:V) (v u:Value) (Q:VK),Inv X pins σ H s→RelV x v→RelV y u→t x y H Q →
  wpAny (model X.prog X.w) X.A (inplaceOp op v u) (EP X pins σ Q) X.xe s
section
variable {X:Cx}{pos:Pos}
def Fy(i:Nat):TG:=fun v σ H Q=>Q (σ.set i (some v)) H
theorem bE{i:Nat}{x:Str}(hN:X.N.Nodup)(hi:X.N[i]?=some x)(hx:Jp X.env.scope x)(hf:X.fn x=true∨X.env.scope.names.lookup x=some .local:=by first | exact .inl rfl | exact .inr rfl | assumption):PG X (.Name x pos) (Fy i):=by
 intro pins s σ H v u Q I r h
 exact wpAny_assign_Name (gL I hN hi hx r (fun s' I'=>⟨_,H,I',h⟩) hf)
def K9:Gw:=fun vs σ H Q=>vs=[]∧Q σ H
def Kb(t:TG)(u:Gw):Gw:=fun vs σ H Q=>∃ v r,vs=v::r∧t v σ H fun σ' H'=>u r σ' H' Q
theorem iK:Kt X [] K9:=by
 intro pins s σ H vs us Q I r h
 obtain⟨e,h⟩:=h
 subst e
 cases r
 exact assignInOrder_nil ⟨σ,H,I,h⟩
theorem cO{e:Expr}{es:List Expr}{t:TG}{u:Gw}(h1:PG X e t)(h2:Kt X es u)
  (hs:(assignEach (e::es) X.env).map (·.2)=assign e X.env::(assignEach es X.env).map (·.2):=by rfl):Kt X (e::es) (Kb t u):=by
 intro pins s σ H vs us Q I r h
 obtain⟨v,vr,e1,h⟩:=h
 subst e1
 cases r with
 | cons r rr =>
  rw[hs]
  refine assignInOrder_cons (bS (h1 pins s σ H _ _ _ I r h) fun _ s1 ⟨σ1,H1,I1,q1⟩=>?_)
  exact h2 pins s1 σ1 H1 _ _ Q I1 rr q1
def KD(to ti:TE)(t:GX):TG:=fun v σ H Q=>to σ H fun o H1=>ti σ H1 fun i H2=>t o i v H2 fun H3=>Q σ H3
theorem jC{o i:Expr}{to ti:TE}{t:GX}(ho:PE X o to)(hi:PE X i ti)(hs:IJ X t)
  (ha:∀ v,assign (.Subscript o i pos) X.env v=(do
   let ov ← holding [v] (eval o X.env)
   let iv ← holding [v,ov] (eval i X.env)
   standAt pos
   holding [v,ov,iv] (setItem ov iv v)
   release [v,ov,iv] []):=by intro _;rfl):PG X (.Subscript o i pos) (KD to ti t):=by
 intro pins s σ H v u Q I r h
 rw[ha]
 refine wpAny_bind (wpAny_holding (bS (ho pins s σ H _ I h) fun ov s1 ⟨x,H1,I1,r1,q1⟩=>?_))
 refine wpAny_bind (wpAny_holding (bS (hi pins s1 σ H1 _ I1 q1) fun iv s2 ⟨y,H2,I2,r2,q2⟩=>?_))
 refine wpAny_bind (wpAny_standAt (wpAny_bind (wpAny_holding (bS (hs pins s2 σ H2 x y v ov iv u _ I2 r1 r2 r q2) fun _ s3 ⟨H3,I3,q3⟩=>?_))))
 exact wpAny_release ⟨σ,H3,I3,q3⟩
def IL(te:TE)(g:TG):TS:=fun D σ H=>te σ H fun x H1=>g x σ H1 D.nx
theorem gF{tg e:Expr}{te:TE}{g:TG}(he:PE X e te)(hg:PG X tg g)(hs:swapsWithSole [tg] e pos.line X.env=pure false:=by rfl)(hw:swappedStores [tg] e X.env=pure none:=by rfl)
  (h1:(assignEach [tg] X.env).map (·.2)=[assign tg X.env]:=by rfl):PS X (.Assign [tg] e pos) (IL te g):=by
 intro pins s σ H D I h
 refine wpAny_Assign_stores (bS (he pins s σ H _ I h) fun v s1 ⟨x,H1,I1,r1,q1⟩=>?_) hs hw
 rw[h1]
 exact bS (hg pins s1 σ H1 x v _ I1 r1 q1) fun _ s2 q=>q
theorem aL{i:Nat}{x:Str}{e:Expr}{te:TE}{pos':Pos}(hN:X.N.Nodup)(hi:X.N[i]?=some x)(hx:Jp X.env.scope x)(he:PE X e te)(hs:swapsWith e (some (.Name x pos')) pos.line X.env=pure false:=by rfl)(hf:X.fn x=true∨X.env.scope.names.lookup x=some .local:=by first | exact .inl rfl | exact .inr rfl | assumption) :
  PS X (.Assign [.Name x pos'] e pos) (IL te (Fy i)):=by
 intro pins s σ H D I h
 refine wpAny_Assign_Name (bS (he pins s σ H _ I h) fun v s1 ⟨y,H1,I1,r1,q1⟩=>?_) hs
 exact gL I1 hN hi hx r1 (fun s2 I2=>⟨_,H1,I2,q1⟩) hf
def KN(i:Nat)(te:TE)(ti:Ks):TS:=fun D σ H=>∃ x,σ[i]?=some (some x)∧te σ H fun y H1=>ti x y H1 fun z H2=>D.nx (σ.set i (some z)) H2
theorem mD{i:Nat}{x:Str}{e:Expr}{te:TE}{op:Operator}{ti:Ks}{pos':Pos}(hN:X.N.Nodup)(hi:X.N[i]?=some x)(hx:Jp X.env.scope x)(he:PE X e te)(ho:Lf X op ti)(hf:X.fn x=true∨X.env.scope.names.lookup x=some .local:=by first | exact .inl rfl | exact .inr rfl | assumption) :
  PS X (.AugAssign (.Name x pos') op e pos) (KN i te ti):=by
 intro pins s σ H D I h
 obtain⟨v,e1,h⟩:=h
 obtain⟨m,hn,hl⟩:=I.loc
 have vis:Jy X.env.scope x:=by rcases hx with k | k;exact .inl k;exact .inr (.inl k)
 obtain⟨u,r,l⟩:=hl i x v hi e1 vis
 refine wpAny_AugAssign_Name ?_
 have go:wpAny (model X.prog X.w) X.A (eval e X.env) (fun w s₂=>wpAny (model X.prog X.w) X.A (inplaceOp op u w) (fun r s₃=>wpAny (model X.prog X.w) X.A (storeName X.env x r) (fun _=>SP X pins D .next) X.xe s₃) X.xe s₂) X.xe s:=by
  refine bS (he pins s σ H _ I h) fun w s1 ⟨y,H1,I1,r1,q1⟩=>?_
  refine bS (ho pins s1 σ H1 v y u w _ I1 r r1 q1) fun z s2 ⟨zv,H2,I2,r2,q2⟩=>?_
  exact gL I2 hN hi hx r2 (fun s3 I3=>⟨_,H2,I3,q2⟩) hf
 rcases l with ⟨hk,hm⟩ | ⟨hk,c,hc,hcell⟩
 ·exact wpAny_loadName_local I.ok.kind hk hn hm go
 ·rcases hk with hk | hk
  ·exact wpAny_loadName_cell I.ok.kind hk hc hcell go
  ·rcases hx with k | k
   ·have:X.env.scope.names.lookup x=some .free:=hk
    rw[k] at this;cases this
   ·have:X.env.scope.names.lookup x=some .free:=hk
    rw[k] at this;cases this
def Lv(f:Int→Int→Int):Ks:=fun x y H Q=>∃ i j,x=.int i∧y=.int j∧Q (.int (f i j)) H
theorem mQ:Lf X .Add (Lv fun i j=>i+j):=by
 intro pins s σ H x y v u Q I r1 r2 h
 obtain⟨i,j,e1,e2,q⟩:=h
 subst e1;subst e2
 obtain⟨t,rfl⟩:=r1
 obtain⟨t',rfl⟩:=r2
 exact iadd_int ⟨.int _,H,I.tok _,⟨_,rfl⟩,q⟩
end
section
variable {X:Cx}{pos:Pos}
def BB(c:TT)(tb:TS):TS:=fun D σ H=>∃ W:Nat→St→Hp→Prop,(∃ m,W m σ H)∧∀ m σ H,W m σ H →
 c σ H fun b H1=>if b=true then ∃ N:St→Hp→Prop,(∀ σ' H',N σ' H'→∃ m',m' < m∧W m' σ' H')∧tb { D with nx:=N,ct:=N,bk:=D.nx } σ H1 else D.nx σ H1
theorem fM{c:Expr}{body:List Stmt}{tc:TT}{tb:TS}(hp:PassesOwn (model X.prog X.w) X.A X.env X.xe)(hc:PT X c tc)(hb:PSs X body tb):PS X (.While c body [] pos) (BB tc tb):=by
 intro pins s σ H D I h
 obtain⟨W,⟨m0,w0⟩,turn⟩:=h
 refine wpAny_While (codeAny_whileLoop (fun n s'=>∃ σ' H',Inv X pins σ' H' s'∧W n σ' H') ?_ m0 ⟨σ,H,I,w0⟩)
 rintro n s1 ⟨σ1,H1,I1,w1⟩
 refine wpAny_passesOwn hp (bS (hc pins s1 σ1 H1 _ I1 (turn n σ1 H1 w1)) fun b s2 ⟨H2,I2,q2⟩=>?_)
 cases b with
 | true =>
  obtain⟨N,hN,q2⟩:=q2
  rw[if_pos rfl]
  refine wpAny_passesOwn hp (bS (hb pins s2 σ1 H2 _ I2 q2) fun f s3 q3=>?_)
  cases f with
  | next =>
   obtain⟨σ3,H3,I3,n3⟩:=q3
   obtain⟨m',hm,w3⟩:=hN σ3 H3 n3
   exact⟨m',hm,σ3,H3,I3,w3⟩
  | cont =>
   obtain⟨σ3,H3,I3,n3⟩:=q3
   obtain⟨m',hm,w3⟩:=hN σ3 H3 n3
   exact⟨m',hm,σ3,H3,I3,w3⟩
  | brk=>exact q3
  | ret v=>exact q3
 | false =>
  rw[if_neg Bool.false_ne_true]
  exact wpAny_execs_nil ⟨σ1,H2,I2,q2⟩
end
structure It where
 go:Nat→Hp→Prop
 yld:Nat→Hp→V→Hp→Prop
 stop:Nat→Hp→Prop
def fV(X:Cx)(pins:List (Addr×Obj))(H:Hp)(b:Addr):Prop :=
 H b=none∧b≠X.env.locals∧b ∉ X.fs∧(b∈X.ex∨X.s₀.heap.objs.size≤b)∧(∀ x c,X.env.cells.lookup x=some c→c≠b)∧∀ p∈X.pn++pins,p.1≠b
theorem Inv.fpOk{X:Cx}{pins:List (Addr×Obj)}{σ:St}{H H':Hp}{s:Shared}{b:Addr}(I:Inv X pins σ H s)(hb:s.heap.objs.size≤b)(hn:H' b=none):fV X pins H' b:=by
 refine⟨hn,Nat.ne_of_gt (Nat.lt_of_lt_of_le I.lt hb),I.nofs hb,.inr (Nat.le_trans I.sz hb),fun x c e z=>?_,fun p hp z=>?_⟩
 ·obtain⟨v,q⟩:=I.cell x c e
  exact absurd (Nat.lt_of_lt_of_le q.lt (by rw[z];exact hb)) (Nat.lt_irrefl _)
 ·exact absurd (Nat.lt_of_lt_of_le (Heap.lt_size (I.pin p hp).1) (by rw[z];exact hb)) (Nat.lt_irrefl _)
structure Turn(P:Program)(w:World)(K:PySem.W.Frag)(tg:Expr)(J:It)(fp:List Addr)(it:Addr)(tn:Nat→Heap→Prop):Prop where
 mem:it∈fp
 obj:∀ i h,tn i h→∀ b∈fp,∃ o,h.get? b=some o∧∀ v,o.data≠.cell v
 keep:∀ i h h',tn i h→(∀ b∈fp,∀ o,h.get? b=some o→h'.get? b=some o)→tn i h'
 item:∀ (X:Cx),X.prog=P→X.w=w→X.K=K→X.calm=true→∀ (i:Nat) (pins:List (Addr×Obj)) (s:Shared) (σ:St) (H:Hp) (E:Value→Shared→Prop),Inv X pins σ H s→(∀ b∈fp,fV X pins H b)→tn i s.heap→J.go i H →
  wpAny (model P w) X.A (pyNext (.ref it)) (fun r s1=>∃ u,r=some u ∧
   wpAny (model P w) X.A (letOwnedTupleGo tg (.ref it) u) (fun _ s2=>∃ x H',Inv X pins σ H' s2∧RelV x u∧J.yld i H x H'∧tn (i+1) s2.heap∧∀ b∈fp,H' b=none) E s1) E s
 done:∀ (X:Cx),X.prog=P→X.w=w→X.K=K→X.calm=true→∀ (i:Nat) (pins:List (Addr×Obj)) (s:Shared) (σ:St) (H:Hp) (E:Value→Shared→Prop),Inv X pins σ H s→(∀ b∈fp,fV X pins H b)→tn i s.heap→J.stop i H →
  wpAny (model P w) X.A (pyNext (.ref it)) (fun r s1=>r=none∧Inv X pins σ H s1) E s
 self:∀ (A:Around) (i:Nat) (s:Shared) (Q:Value→Shared→Prop) (E:Value→Shared→Prop),tn i s.heap→Q (.ref it) s→wpAny (model P w) A (pyIter (.ref it)) Q E s
abbrev TI:=St→Hp→(It→Hp→Prop)→Prop
def Ld(X:Cx)(pins:List (Addr×Obj))(σ:St)(tg:Expr)(R:It→Hp→Prop)(itv:Value)(s2:Shared):Prop :=
 ∃ (it:Addr) (fp:List Addr) (tn:Nat→Heap→Prop) (J:It) (H':Hp),itv=.ref it∧Inv X pins σ H' s2∧Turn X.prog X.w X.K tg J fp it tn∧tn 0 s2.heap∧(∀ b∈fp,fV X pins H' b)∧R J H'
def PI(X:Cx)(tg iter:Expr)(wi:TI):Prop :=
 ∀ (pins:List (Addr×Obj)) (s:Shared) (σ:St) (H:Hp) (R:It→Hp→Prop),Inv X pins σ H s→wi σ H R →
  wpAny (model X.prog X.w) X.A (eval iter X.env) (fun v s1=>wpAny (model X.prog X.w) X.A (pyIter v) (Ld X pins σ tg R) X.xe s1) X.xe s
theorem pX{M:Model}{A:Around}{E:Value→Shared→Prop}{s:Shared}{tg:Expr}{it:Addr}{u:Value}{o:Obj}{n:String}{vs:Array Value}{Q:Unit→Shared→Prop}(ho:s.heap.get? it=some o)(hc:o.cls=.type n)(hd:o.data=.fields vs)
  (hn:["enumerate","zip","dict_itemiterator","dict_reverseitemiterator","odict_iterator","itertools.zip_longest","itertools.pairwise"].contains n=false) (hQ:Q () s):wpAny M A (letOwnedTupleGo tg (.ref it) u) Q E s:=by
 unfold letOwnedTupleGo
 cases tg <;> first
  | exact wpAny_pure hQ
  | (cases u <;> first
    | exact wpAny_pure hQ
    | (refine wpAny_bind (wpAny_load ho ?_)
       rw[hc,hd]
       show wpAny M A (if (["enumerate","zip","dict_itemiterator","dict_reverseitemiterator","odict_iterator","itertools.zip_longest","itertools.pairwise"].contains n && vs[0]? == some (rawInt _))=true then _ else _) Q E s
       rw[if_neg (by intro h;rw[hn,Bool.false_and] at h;cases h)]
       exact wpAny_pure hQ))
def Ii(K:PySem.W.Frag)(a:Addr):It :=
 ⟨fun i H=>∃ xs x,SqL K H a xs∧xs[i]?=some x,fun i H x H'=>H'=H∧∀ xs,SqL K H a xs→xs[i]?=some x,fun i H=>∃ xs,SqL K H a xs∧xs.length≤i⟩
def Ik(K:PySem.W.Frag)(a:Addr):It :=
 ⟨fun i H=>∃ xs x,SqT K H a xs∧xs[i]?=some x,fun i H x H'=>H'=H∧∀ xs,SqT K H a xs→xs[i]?=some x,fun i H=>∃ xs,SqT K H a xs∧xs.length≤i⟩
def HZ(lo:Int)(n:Nat):It:=⟨fun i _=>i<n,fun i H x H'=>H'=H∧x=.int (lo+i),fun i _=>n≤i⟩
theorem AG{P:Program}{w:World}{K:PySem.W.Frag}{tg:Expr}(a it:Addr):Turn P w K tg (Ii K a) [it] it (fun i h=>h.IsListIter it a i) where
 mem:=by simp
 obj:=fun i h st b hb=>by
  have e:b=it:=by simpa using hb
  subst e
  obtain⟨o,e,c,d⟩:=st
  exact⟨o,e,fun v z=>by rw[d] at z;cases z⟩
 keep:=fun i h h' st k=>st.at fun o e=>k it (by simp) o e
 item:=by
  intro X hP hw hK hc i pins s σ H E I hf st hg
  subst hP hw hK
  obtain⟨xs,x,hq,hx⟩:=hg
  obtain⟨its,rv,p,hz⟩:=I.list hq
  obtain⟨u,hu,ru⟩:=rv.get hx
  obtain⟨f0,f1,f2,f3,f4,f5⟩:=hf it (by simp)
  refine wpAny_pyNext_list_item st p.isList (x:=u) (by simpa using hu) fun h' st' sb=>?_
  have I1:Inv X pins σ H { s with heap:=h' }:=I.turned (t':=s.toks) (fun b o hb e=>(sb.2 b hb).trans e) f0 f1 f3 f4 f5
  obtain⟨o,e,c,d⟩:=id st'
  exact⟨u,rfl,pX (s:={ s with heap:=h' }) e c d (by decide) ⟨x,H,I1,ru,⟨rfl,fun ys hy=>by rw[I.list_inj hy hq];exact hx⟩,st',fun b hb=>(hf b hb).1⟩⟩
 done:=by
  intro X hP hw hK hc i pins s σ H E I hf st hg
  subst hP hw hK
  obtain⟨xs,hq,hx⟩:=hg
  obtain⟨its,rv,p,hz⟩:=I.list hq
  obtain⟨f0,f1,f2,f3,f4,f5⟩:=hf it (by simp)
  have hl:=rv.length
  exact wpAny_pyNext_list_end (I.ok.hd hc) st p.isList (by simp;omega) fun h' eb=>⟨rfl,I.turned (t':=s.toks) (fun b o hb e=>eb b o hb e) f0 f1 f3 f4 f5⟩
 self:=fun _ _ _ _ _ st h=>wpAny_pyIter_listiter st h
theorem yN{P:Program}{w:World}{K:PySem.W.Frag}{tg:Expr}(a it:Addr):Turn P w K tg (Ik K a) [it] it (fun i h=>h.IsTupleIter it a i) where
 mem:=by simp
 obj:=fun i h st b hb=>by
  have e:b=it:=by simpa using hb
  subst e
  obtain⟨o,e,c,d⟩:=st
  exact⟨o,e,fun v z=>by rw[d] at z;cases z⟩
 keep:=fun i h h' st k=>st.at fun o e=>k it (by simp) o e
 item:=by
  intro X hP hw hK hc i pins s σ H E I hf st hg
  subst hP hw hK
  obtain⟨xs,x,hq,hx⟩:=hg
  obtain⟨its,rv,p,hz⟩:=I.tuple hq
  obtain⟨u,hu,ru⟩:=rv.get hx
  obtain⟨f0,f1,f2,f3,f4,f5⟩:=hf it (by simp)
  refine wpAny_pyNext_tuple_item st (show s.heap.IsTuple a its.toArray from p) (x:=u) (by simpa using hu) fun h' st' sb=>?_
  have I1:Inv X pins σ H { s with heap:=h' }:=I.turned (t':=s.toks) (fun b o hb e=>(sb.2 b hb).trans e) f0 f1 f3 f4 f5
  obtain⟨o,e,c,d⟩:=id st'
  exact⟨u,rfl,pX (s:={ s with heap:=h' }) e c d (by decide) ⟨x,H,I1,ru,⟨rfl,fun ys hy=>by rw[I.tuple_inj hy hq];exact hx⟩,st',fun b hb=>(hf b hb).1⟩⟩
 done:=by
  intro X hP hw hK hc i pins s σ H E I hf st hg
  subst hP hw hK
  obtain⟨xs,hq,hx⟩:=hg
  obtain⟨its,rv,p,hz⟩:=I.tuple hq
  obtain⟨f0,f1,f2,f3,f4,f5⟩:=hf it (by simp)
  have hl:=rv.length
  exact wpAny_pyNext_tuple_end (I.ok.hd hc) st (show s.heap.IsTuple a its.toArray from p) (by simp;omega) fun h' eb=>⟨rfl,I.turned (t':=s.toks) (fun b o hb e=>eb b o hb e) f0 f1 f3 f4 f5⟩
 self:=fun _ _ _ _ _ st h=>wpAny_pyIter_tupleiter st h
theorem yL{P:Program}{w:World}{K:PySem.W.Frag}{tg:Expr}(it:Addr)(lo:Int)(n:Nat):Turn P w K tg (HZ lo n) [it] it (fun i h=>IsRangeIter h it (lo+(i:Nat) * 1) ((n:Int) - (i:Nat)) 1) where
 mem:=by simp
 obj:=fun i h st b hb=>by
  have e:b=it:=by simpa using hb
  subst e
  exact⟨_,st,fun v z=>by
   have z':Data.fields _=Data.cell v:=z
   cases z'⟩
 keep:=fun i h h' st k=>k it (by simp) _ st
 item:=by
  intro X hP hw hK hc i pins s σ H E I hf st hg
  subst hP hw hK
  obtain⟨f0,f1,f2,f3,f4,f5⟩:=hf it (by simp)
  have W:=Walks.range (prog:=X.prog) (w:=X.w) (I.ok.hd hc) it lo 1 n
  refine W.item i s _ _ hg st fun v h' tk hv st' kk=>?_
  obtain⟨t,rfl⟩:=hv
  have I1:Inv X pins σ H { s with heap:=h',toks:=tk }:=I.turned (fun b o hb e=>kk b o (by simpa using hb) e) f0 f1 f3 f4 f5
  refine⟨_,rfl,pX (s:={ s with heap:=h',toks:=tk }) (n:="range_iterator") st' rfl rfl (by decide) ⟨.int (lo+i),H,I1,⟨t,?_⟩,⟨rfl,rfl⟩,st',fun b hb=>(hf b hb).1⟩⟩
  rw[Int.mul_one]
 done:=by
  intro X hP hw hK hc i pins s σ H E I hf st hg
  subst hP hw hK
  obtain⟨f0,f1,f2,f3,f4,f5⟩:=hf it (by simp)
  exact wpAny_pyNext_range_end (I.ok.hd hc) st (by have:n≤i:=hg;omega) fun h' eb=>⟨rfl,I.turned (t':=s.toks) (fun b o hb e=>eb b o hb e) f0 f1 f3 f4 f5⟩
 self:=fun _ _ _ _ _ st h=>wpAny_pyIter_rangeiter st h
section
variable {X:Cx}{tg:Expr}
def FC(K:PySem.W.Frag)(tl:TE):TI:=fun σ H R=>tl σ H fun x H1=>∃ a,x=.ref a∧(∃ xs,SqL K H1 a xs)∧R (Ii K a) H1
def IF(K:PySem.W.Frag)(tl:TE):TI:=fun σ H R=>tl σ H fun x H1=>∃ a,x=.ref a∧(∃ xs,SqT K H1 a xs)∧R (Ik K a) H1
theorem EC{l:Expr}{tl:TE}(hl:PE X l tl):PI X tg l (FC X.K tl):=by
 intro pins s σ H R I h
 refine bS (hl pins s σ H _ I h) fun v s1 ⟨x,H1,I1,r1,q1⟩=>?_
 obtain⟨a,e,⟨xs,hq⟩,q⟩:=q1
 subst e
 cases r1
 obtain⟨its,rv,p,hz⟩:=I1.list hq
 refine wpAny_pyIter_list p.isList ?_
 refine⟨s1.heap.objs.size,[s1.heap.objs.size],_,_,H1,rfl,I1.kept (t':=s1.toks) fun b o e=>Heap.get?_push_of_some _ e,AG a _,⟨_,Heap.get?_push_size _ rfl,rfl,rfl⟩,fun b hb=>?_,q⟩
 have e:b=s1.heap.objs.size:=by simpa using hb
 subst e
 exact I1.fpOk (Nat.le_refl _) (I1.hok.fresh (Nat.le_refl _))
theorem FS{l:Expr}{tl:TE}(hl:PE X l tl):PI X tg l (IF X.K tl):=by
 intro pins s σ H R I h
 refine bS (hl pins s σ H _ I h) fun v s1 ⟨x,H1,I1,r1,q1⟩=>?_
 obtain⟨a,e,⟨xs,hq⟩,q⟩:=q1
 subst e
 cases r1
 obtain⟨its,rv,p,hz⟩:=I1.tuple hq
 refine wpAny_pyIter_tuple (show s1.heap.IsTuple a its.toArray from p) ?_
 refine⟨s1.heap.objs.size,[s1.heap.objs.size],_,_,H1,rfl,I1.kept (t':=s1.toks) fun b o e=>Heap.get?_push_of_some _ e,yN a _,⟨_,Heap.get?_push_size _ rfl,rfl,rfl⟩,fun b hb=>?_,q⟩
 have e:b=s1.heap.objs.size:=by simpa using hb
 subst e
 exact I1.fpOk (Nat.le_refl _) (I1.hok.fresh (Nat.le_refl _))
theorem BK{pins:List (Addr×Obj)}{σ:St}{H:Hp}{s:Shared}{R:It→Hp→Prop}{E:Value→Shared→Prop}{lo hi:Int}{t u v:Tok}{tk:Nat}(I:Inv X pins σ H s)(h1:-(2 ^ 62)≤lo)(h2:lo<2 ^ 62)(h3:-(2 ^ 62)≤hi)(h4:hi<2 ^ 62)
  (q:R (HZ lo (hi - lo).toNat) H):wpAny (model X.prog X.w) X.A (pyIter (.ref s.heap.objs.size)) (Ld X pins σ tg R) E { s with heap:=s.heap.push { cls:=.type "range",data:=.fields #[.int lo t,.int hi u,.int 1 v] },toks:=tk }:=by
 refine wpAny_pyIter_range (IsRange.new ..) (small_one h1 h2 h3 h4) ?_
 have I1:Inv X pins σ H { s with heap:=s.heap.push { cls:=.type "range",data:=.fields #[.int lo t,.int hi u,.int 1 v] },toks:=tk }:=I.kept fun b o e=>Heap.get?_push_of_some _ e
 refine⟨(s.heap.push { cls:=.type "range",data:=.fields #[.int lo t,.int hi u,.int 1 v] }).objs.size,[(s.heap.push { cls:=.type "range",data:=.fields #[.int lo t,.int hi u,.int 1 v] }).objs.size],_,_,H,rfl,
  I1.kept (t':=tk) fun b o e=>Heap.get?_push_of_some _ e,yL _ lo (hi - lo).toNat,?_,fun b hb=>?_,q⟩
 ·have e1:lo+((0:Nat):Int) * 1=lo:=by simp
  have e2:(((hi - lo).toNat:Nat):Int) - ((0:Nat):Int)=Builtin.Range.rangeSize lo hi 1:=by rw[rangeSize_one];split <;> omega
  show IsRangeIter _ _ (lo+((0:Nat):Int) * 1) ((((hi - lo).toNat:Nat):Int) - ((0:Nat):Int)) 1
  rw[e1,e2]
  exact Heap.get?_push_size _ rfl
 ·have e:b=(s.heap.push { cls:=.type "range",data:=.fields #[.int lo t,.int hi u,.int 1 v] }).objs.size:=by simpa using hb
  subst e
  exact I1.fpOk (Nat.le_refl _) (I1.hok.fresh (Nat.le_refl _))
def IK(ta:TA):TI:=fun σ H R=>ta σ H fun vs H1=>∃ j:Int,vs=[.int j]∧-(2 ^ 62)≤j∧j<2 ^ 62∧R (HZ 0 j.toNat) H1
theorem eG{a:Expr}{ta:TA}{p pos:Pos}(hg:Gl X "range")(hm:X.mg "range"=none)(ha:PA X [a] ta)(hs:starEach [a] X.env=[(false,eval a X.env)]:=by rfl):PI X tg (.Call (.Name "range" p) [a] [] pos) (IK ta):=by
 intro pins s σ H R I h
 refine Call_ (gE I hg hm boot_range (PyProof.Rows.callWith_type1 (bS (ha pos pins s σ H _ I h) fun us s1 ⟨vs,H1,I1,r1,q1⟩=>?_) hs rfl))
 obtain⟨j,e,q1,q2,q⟩:=q1
 subst e
 cases r1 with
 | cons r rr =>
  cases rr
  obtain⟨t,rfl⟩:=r
  exact call_range_1 (BK I1 (by omega) (by omega) q1 q2 (by simpa using q))
def KC(wi:TI)(g:TG)(tb:TS):TS:=fun D σ H=>wi σ H fun J H1=>∃ W:Nat→Nat→St→Hp→Prop,(∃ m,W 0 m σ H1)∧∀ i m σ H,W i m σ H →
 (J.stop i H∧D.nx σ H)∨(J.go i H∧∃ N:St→Hp→Prop,(∀ σ' H',N σ' H'→∃ m',m' < m∧W (i+1) m' σ' H')∧∀ x H',J.yld i H x H'→g x σ H' fun σ2 H2=>tb { D with nx:=N,ct:=N,bk:=D.nx } σ2 H2)
def mP(fp:List Addr)(h:Heap):List (Addr×Obj):=fp.filterMap fun b=>(h.get? b).map fun o=>(b,o)
theorem dO{fp:List Addr}{h:Heap}{b:Addr}{o:Obj}(hb:b∈fp)(e:h.get? b=some o):(b,o)∈mP fp h:=List.mem_filterMap.mpr ⟨b,hb,by rw[e];rfl⟩
theorem Bn{fp:List Addr}{h:Heap}{p:Addr×Obj}(hp:p∈mP fp h):p.1∈fp∧h.get? p.1=some p.2:=by
 obtain⟨b,hb,e⟩:=List.mem_filterMap.mp hp
 cases q:h.get? b with
 | none=>rw[q] at e;cases e
 | some o =>
  rw[q] at e
  have e':(b,o)=p:=Option.some.inj e
  subst e'
  exact⟨hb,q⟩
theorem Inv.pinned{pins:List (Addr×Obj)}{σ:St}{H:Hp}{s:Shared}{fp:List Addr}(I:Inv X pins σ H s)(hf:∀ b∈fp,fV X pins H b)(ho:∀ b∈fp,∃ o,s.heap.get? b=some o∧∀ v,o.data≠.cell v):Inv X (pins++mP fp s.heap) σ H s :=
 I.pins_of fun p hp=>(List.mem_append.mp hp).elim (fun z=>I.pin p (List.mem_append_right _ z)) fun z=>by
  obtain⟨hb,e⟩:=Bn z
  obtain⟨f0,f1,f2,_⟩:=hf p.1 hb
  obtain⟨o,e',d⟩:=ho p.1 hb
  rw[e] at e';cases e'
  exact⟨e,f0,f1,f2,d⟩
theorem Inv.unpinned{pins pl:List (Addr×Obj)}{σ:St}{H:Hp}{s:Shared}(I:Inv X (pins++pl) σ H s):Inv X pins σ H s:=I.pins_of fun p hp=>I.pin p (List.mem_append_right _ (List.mem_append_left _ hp))
theorem dC{iter:Expr}{body:List Stmt}{wi:TI}{g:TG}{tb:TS}{pos:Pos}(hp:PassesOwn (model X.prog X.w) X.A X.env X.xe)(hc:X.calm=true)(hi:PI X tg iter wi)(hg:PG X tg g)(hb:PSs X body tb)
  (hs:∀ x,foldedSetIterable iter X.env x=pure x:=by intro _;rfl):PS X (.For tg iter body [] pos) (KC wi g tb):=by
 intro pins s σ H D I h
 refine wpAny_For (bS (hi pins s σ H _ I h) fun v s1 h1=>bS h1 fun itv s2 h2=>?_) hs
 obtain⟨it,fp,tn,J,H2,e,I2,T,st2,f2,W,⟨m0,w0⟩,turn⟩:=h2
 subst e
 -- what stays true of the iterator's objects through the loop
 have stat:∀ {H':Hp},(∀ b∈fp,H' b=none)→∀ b∈fp,fV X pins H' b:=fun hn b hb=>⟨hn b hb,(f2 b hb).2⟩
 refine codeAny_forLoop_any (fun n s'=>∃ i σ' H',Inv X pins σ' H' s'∧tn i s'.heap∧(∀ b∈fp,H' b=none)∧W i n σ' H') ?_ m0 ⟨0,σ,H2,I2,st2,fun b hb=>(f2 b hb).1,w0⟩
 rintro n s3 ⟨i,σ3,H3,I3,st3,fr3,w3⟩
 rcases turn i n σ3 H3 w3 with ⟨stop,qn⟩ | ⟨go,N,hN,step⟩
 ·refine wpAny_passesOwn hp (bS (T.done X rfl rfl rfl hc i pins s3 σ3 H3 X.xe I3 (stat fr3) st3 stop) fun r s4 ⟨hr,I4⟩=>?_)
  subst hr
  exact wpAny_execs_nil ⟨σ3,H3,I4,qn⟩
 ·refine wpAny_passesOwn hp (bS (T.item X rfl rfl rfl hc i pins s3 σ3 H3 X.xe I3 (stat fr3) st3 go) fun r s4 ⟨u,hr,h4⟩=>?_)
  subst hr
  refine wpAny_passesOwn hp (bS h4 fun _ s5 ⟨x,H5,I5,r5,y5,st5,fr5⟩=>?_)
  have I5':=I5.pinned (stat fr5) (T.obj _ _ st5)
  refine wpAny_passesOwn hp (bS (hg _ s5 σ3 H5 x u _ I5' r5 (step x H5 y5)) fun _ s6 ⟨σ6,H6,I6,q6⟩=>?_)
  refine wpAny_passesOwn hp (bS (hb _ s6 σ6 H6 _ I6 q6) fun f s7 q7=>?_)
  have again:∀ {σ7:St} {H7:Hp},Inv X (pins++mP fp s5.heap) σ7 H7 s7→N σ7 H7→∃ m,m<n∧∃ i σ' H',Inv X pins σ' H' s7∧tn i s7.heap∧(∀ b∈fp,H' b=none)∧W i m σ' H':=fun {σ7 H7} I7 n7=>by
   obtain⟨m',hm,w7⟩:=hN σ7 H7 n7
   refine⟨m',hm,i+1,σ7,H7,I7.unpinned,T.keep _ _ _ st5 fun b hb o e=>(I7.pin (b,o) (List.mem_append_right _ (List.mem_append_right _ (dO hb e)))).1,fun b hb=>?_,w7⟩
   obtain⟨o,e,d⟩:=T.obj _ _ st5 b hb
   exact(I7.pin (b,o) (List.mem_append_right _ (List.mem_append_right _ (dO hb e)))).2.1
  cases f with
  | next=>obtain⟨σ7,H7,I7,n7⟩:=q7;exact again I7 n7
  | cont=>obtain⟨σ7,H7,I7,n7⟩:=q7;exact again I7 n7
  | brk=>obtain⟨σ7,H7,I7,q7⟩:=q7;exact⟨σ7,H7,I7.unpinned,q7⟩
  | ret v=>obtain⟨x7,σ7,H7,I7,r7,q7⟩:=q7;exact⟨x7,σ7,H7,I7.unpinned,r7,q7⟩
end
theorem CT{K:PySem.W.Frag}{a:Addr}{xs:List V}{g:TG}{tb:TS}{D:Ends}{σ:St}{H:Hp}(Pv:Nat→St→Hp→Prop)(h0:Pv 0 σ H)(hl:∀ i σ H,i≤xs.length→Pv i σ H→SqL K H a xs)
  (hs:∀ i x σ H,xs[i]?=some x→Pv i σ H→g x σ H fun σ2 H2=>tb { D with nx:=Pv (i+1),ct:=Pv (i+1),bk:=D.nx } σ2 H2) (hd:∀ σ H,Pv xs.length σ H→D.nx σ H) :
  ∃ W:Nat→Nat→St→Hp→Prop,(∃ m,W 0 m σ H)∧∀ i m σ H,W i m σ H →
   ((Ii K a).stop i H∧D.nx σ H)∨((Ii K a).go i H∧∃ N:St→Hp→Prop,(∀ σ' H',N σ' H'→∃ m',m' < m∧W (i+1) m' σ' H')∧∀ x H',(Ii K a).yld i H x H'→g x σ H' fun σ2 H2=>tb { D with nx:=N,ct:=N,bk:=D.nx } σ2 H2):=by
 refine⟨fun i m σ H=>m=xs.length - i∧i≤xs.length∧Pv i σ H,⟨xs.length,by simp,Nat.zero_le _,h0⟩,?_⟩
 rintro i m σ H ⟨rfl,hi,p⟩
 have q:=hl i σ H hi p
 by_cases hlt:i<xs.length
 ·refine .inr ⟨⟨xs,xs[i],q,by simp[hlt]⟩,Pv (i+1),fun σ' H' p'=>⟨xs.length - (i+1),by omega,rfl,hlt,p'⟩,fun x H' y=>?_⟩
  obtain⟨e,y⟩:=y
  subst e
  exact hs i x σ _ (y xs q) p
 ·have e:i=xs.length:=by omega
  subst e
  exact .inl ⟨⟨xs,q,Nat.le_refl _⟩,hd σ H p⟩
theorem lU{K:PySem.W.Frag}{a:Addr}{xs:List V}{g:TG}{tb:TS}{D:Ends}{σ:St}{H:Hp}(Pv:Nat→St→Hp→Prop)(h0:Pv 0 σ H)(hl:∀ i σ H,i≤xs.length→Pv i σ H→SqT K H a xs)
  (hs:∀ i x σ H,xs[i]?=some x→Pv i σ H→g x σ H fun σ2 H2=>tb { D with nx:=Pv (i+1),ct:=Pv (i+1),bk:=D.nx } σ2 H2) (hd:∀ σ H,Pv xs.length σ H→D.nx σ H) :
  ∃ W:Nat→Nat→St→Hp→Prop,(∃ m,W 0 m σ H)∧∀ i m σ H,W i m σ H →
   ((Ik K a).stop i H∧D.nx σ H)∨((Ik K a).go i H∧∃ N:St→Hp→Prop,(∀ σ' H',N σ' H'→∃ m',m' < m∧W (i+1) m' σ' H')∧∀ x H',(Ik K a).yld i H x H'→g x σ H' fun σ2 H2=>tb { D with nx:=N,ct:=N,bk:=D.nx } σ2 H2):=by
 refine⟨fun i m σ H=>m=xs.length - i∧i≤xs.length∧Pv i σ H,⟨xs.length,by simp,Nat.zero_le _,h0⟩,?_⟩
 rintro i m σ H ⟨rfl,hi,p⟩
 have q:=hl i σ H hi p
 by_cases hlt:i<xs.length
 ·refine .inr ⟨⟨xs,xs[i],q,by simp[hlt]⟩,Pv (i+1),fun σ' H' p'=>⟨xs.length - (i+1),by omega,rfl,hlt,p'⟩,fun x H' y=>?_⟩
  obtain⟨e,y⟩:=y
  subst e
  exact hs i x σ _ (y xs q) p
 ·have e:i=xs.length:=by omega
  subst e
  exact .inl ⟨⟨xs,q,Nat.le_refl _⟩,hd σ H p⟩
theorem jT{lo:Int}{n:Nat}{g:TG}{tb:TS}{D:Ends}{σ:St}{H:Hp}(Pv:Nat→St→Hp→Prop)(h0:Pv 0 σ H)
  (hs:∀ i σ H,i<n→Pv i σ H→g (.int (lo+i)) σ H fun σ2 H2=>tb { D with nx:=Pv (i+1),ct:=Pv (i+1),bk:=D.nx } σ2 H2) (hd:∀ σ H,Pv n σ H→D.nx σ H) :
  ∃ W:Nat→Nat→St→Hp→Prop,(∃ m,W 0 m σ H)∧∀ i m σ H,W i m σ H →
   ((HZ lo n).stop i H∧D.nx σ H)∨((HZ lo n).go i H∧∃ N:St→Hp→Prop,(∀ σ' H',N σ' H'→∃ m',m' < m∧W (i+1) m' σ' H')∧∀ x H',(HZ lo n).yld i H x H'→g x σ H' fun σ2 H2=>tb { D with nx:=N,ct:=N,bk:=D.nx } σ2 H2):=by
 refine⟨fun i m σ H=>m=n - i∧i≤n∧Pv i σ H,⟨n,by simp,Nat.zero_le _,h0⟩,?_⟩
 rintro i m σ H ⟨rfl,hi,p⟩
 by_cases hlt:i<n
 ·refine .inr ⟨hlt,Pv (i+1),fun σ' H' p'=>⟨n - (i+1),by omega,rfl,hlt,p'⟩,fun x H' y=>?_⟩
  obtain⟨e,y⟩:=y
  subst e y
  exact hs i σ _ hlt p
 ·have e:i=n:=by omega
  subst e
  exact .inl ⟨Nat.le_refl _,hd σ H p⟩
abbrev R2:=V→V→Hp→VK→Prop
def iC(X:Cx)(f:Value→Value→Sem Value)(r:R2):Prop :=
 ∀ (pins:List (Addr×Obj)) (s:Shared) (σ:St) (H:Hp) (x y:V) (v u:Value) (Q:VK),Inv X pins σ H s→RelV x v→RelV y u→r x y H Q →
  wpAny (model X.prog X.w) X.A (f v u) (EP X pins σ Q) X.xe s
def KF(X:Cx)(f:Value→Sem Value)(r:V→Hp→VK→Prop):Prop :=
 ∀ (pins:List (Addr×Obj)) (s:Shared) (σ:St) (H:Hp) (x:V) (v:Value) (Q:VK),Inv X pins σ H s→RelV x v→r x H Q →
  wpAny (model X.prog X.w) X.A (f v) (EP X pins σ Q) X.xe s
def eS(X:Cx)(f:Value)(r:List V→Hp→VK→Prop):Prop :=
 ∀ (pins:List (Addr×Obj)) (s:Shared) (σ:St) (H:Hp) (xs:List V) (us:List Value) (Q:VK),Inv X pins σ H s→Vals xs us→r xs H Q →
  wpAny (model X.prog X.w) X.A (call f us) (EP X pins σ Q) X.xe s
def Km(r:R2)(ta tb:TE):TE:=fun σ H Q=>ta σ H fun x H1=>tb σ H1 fun y H2=>r x y H2 Q
def Ls(r:V→Hp→VK→Prop)(ta:TE):TE:=fun σ H Q=>ta σ H fun x H1=>r x H1 Q
def rI(C:Int→Int→Prop)(g:Int→Int→V):R2:=fun x y H Q=>∃ i j,x=.int i∧y=.int j∧C i j∧Q (g i j) H
def FD(g:Int→Int→V):R2:=fun x y H Q=>∃ i j,x=.int i∧y=.int j∧Q (g i j) H
def rU(g:Int→V):V→Hp→VK→Prop:=fun x H Q=>∃ i,x=.int i∧Q (g i) H
section
variable {X:Cx}{a b c:Expr}{ta tb tc:TE}{pos:Pos}
theorem FK(ha:PE X a ta)(hb:PE X b tb){pins:List (Addr×Obj)}{s:Shared}{σ:St}{H:Hp}{R:V→V→Hp→Prop}(I:Inv X pins σ H s)
  (h:ta σ H fun x H1=>tb σ H1 fun y H2=>R x y H2) {Q:Value→Shared→Prop} {f:Value→Value→Sem Value}
  (hf:∀ v u s2 x y H2,Inv X pins σ H2 s2→RelV x v→RelV y u→R x y H2→wpAny (model X.prog X.w) X.A (f v u) Q X.xe s2) :
  wpAny (model X.prog X.w) X.A (eval a X.env) (fun v s₁=>wpAny (model X.prog X.w) X.A (eval b X.env) (fun u s₂=>wpAny (model X.prog X.w) X.A (f v u) Q X.xe s₂) X.xe s₁) X.xe s:=by
 refine bS (ha pins s σ H _ I h) fun v s1 ⟨x,H1,I1,r1,q1⟩=>?_
 refine bS (hb pins s1 σ H1 _ I1 q1) fun u s2 ⟨y,H2,I2,r2,q2⟩=>?_
 exact hf v u s2 x y H2 I2 r1 r2 q2
theorem aY{op:Operator}{r:R2}(ho:iC X (binaryOp op) r)(ha:PE X a ta)(hb:PE X b tb):PE X (.BinOp a op b pos) (Km r ta tb):=by
 intro pins s σ H Q I h
 exact wpAny_BinOp (FK ha hb I h fun v u s2 x y H2 I2 rx ry q=>ho pins s2 σ H2 x y v u Q I2 rx ry q)
theorem pJ{op:UnaryOp}{r:V→Hp→VK→Prop}(ho:KF X (unaryOp op) r)(ha:PE X a ta):PE X (.UnaryOp op a pos) (Ls r ta):=by
 intro pins s σ H Q I h
 exact UnaryOp_ (bS (ha pins s σ H _ I h) fun v s1 ⟨x,H1,I1,r1,q1⟩=>ho pins s1 σ H1 x v Q I1 r1 q1)
theorem Kj{f:Value→Value→Sem Value}{C:Int→Int→Prop}{g:Int→Int→Int}
  (rule:∀ (i j:Int) (t u:Tok) (s:Shared) (Q:Value→Shared→Prop) (E:Value→Shared→Prop),C i j→Q (.int (g i j) s.toks) { s with toks:=s.toks+1 }→wpAny (model X.prog X.w) X.A (f (.int i t) (.int j u)) Q E s) :
  iC X f (rI C fun i j=>.int (g i j)):=by
 intro pins s σ H x y v u Q I rx ry h
 obtain⟨i,j,rfl,rfl,hc,q⟩:=h
 obtain⟨t,rfl⟩:=rx
 obtain⟨t',rfl⟩:=ry
 exact rule i j t t' s _ _ hc ⟨.int (g i j),H,I.tok _,⟨_,rfl⟩,q⟩
theorem J0{f:Value→Value→Sem Value}{g:Int→Int→Int}
  (rule:∀ (i j:Int) (t u:Tok) (s:Shared) (Q:Value→Shared→Prop) (E:Value→Shared→Prop),Q (.int (g i j) s.toks) { s with toks:=s.toks+1 }→wpAny (model X.prog X.w) X.A (f (.int i t) (.int j u)) Q E s) :
  iC X f (FD fun i j=>.int (g i j)):=by
 intro pins s σ H x y v u Q I rx ry h
 obtain⟨i,j,rfl,rfl,q⟩:=h
 obtain⟨t,rfl⟩:=rx
 obtain⟨t',rfl⟩:=ry
 exact rule i j t t' s _ _ ⟨.int (g i j),H,I.tok _,⟨_,rfl⟩,q⟩
theorem ER{f:Value→Value→Sem Value}{g:Int→Int→Bool}
  (rule:∀ (i j:Int) (t u:Tok) (s:Shared) (Q:Value→Shared→Prop) (E:Value→Shared→Prop),Q (.bool (g i j)) s→wpAny (model X.prog X.w) X.A (f (.int i t) (.int j u)) Q E s) :
  iC X f (FD fun i j=>.bl (g i j)):=by
 intro pins s σ H x y v u Q I rx ry h
 obtain⟨i,j,rfl,rfl,q⟩:=h
 obtain⟨t,rfl⟩:=rx
 obtain⟨t',rfl⟩:=ry
 exact rule i j t t' s _ _ ⟨.bl (g i j),H,I,rfl,q⟩
def Kw(i j:Int):Prop:=0<j∧j<1073741824
def KA(i j:Int):Prop:=0≤j∧j≤1000000∧i.natAbs<2 ^ 64
def CMul(i j:Int):Prop:=(-(2 ^ 64)<i∧i<2 ^ 64)∨(-(2 ^ 64)<j∧j<2 ^ 64)
theorem CMul.ok{i j:Int}(h:CMul i j):IntMulOk i j:=by
 rcases h with ⟨h1,h2⟩ | ⟨h1,h2⟩
 ·exact .of_left (intBits_le_64 h1 h2)
 ·exact .of_right (intBits_le_64 h1 h2)
theorem cV:iC X (binaryOp .Add) (FD fun i j=>.int (i+j)):=J0 fun _ _ _ _ _ _ _ q=>add_int q
theorem kM:iC X (binaryOp .Sub) (FD fun i j=>.int (i - j)):=J0 fun _ _ _ _ _ _ _ q=>sub_int q
theorem kK:iC X (binaryOp .Mult) (rI CMul fun i j=>.int (i * j)):=Kj fun _ _ _ _ _ _ _ hc q=>mul_int q hc.ok
theorem oO:iC X (binaryOp .FloorDiv) (rI Kw fun i j=>.int (i / j)):=Kj fun i j _ _ _ _ _ hc q=>by
 have h1:(0:Int)<j:=hc.1
 have h2:j<1073741824:=hc.2
 exact floordiv_int (by omega) (by rw[Int.fdiv_eq_ediv_of_nonneg i (by omega)];exact q) (.inl (PyProof.noPylong_small (by omega)))
theorem iB:iC X (binaryOp .Mod) (rI (fun _ j=>0<j) fun i j=>.int (i % j)):=Kj fun i j _ _ _ _ _ hc q=>by
 have h1:(0:Int)<j:=hc
 exact mod_int' (by omega) (by rw[Int.fmod_eq_emod_of_nonneg i (by omega)];exact q)
theorem HG:iC X (binaryOp .Pow) (rI KA fun i j=>.int (i ^ j.toNat)):=Kj fun _ _ _ _ _ _ _ hc q=>pow_int_small hc.1 hc.2.1 hc.2.2 q
theorem Ly{f:Value→Sem Value}{g:Int→Int}
  (rule:∀ (i:Int) (t:Tok) (s:Shared) (Q:Value→Shared→Prop) (E:Value→Shared→Prop),Q (.int (g i) s.toks) { s with toks:=s.toks+1 }→wpAny (model X.prog X.w) X.A (f (.int i t)) Q E s) :
  KF X f (rU fun i=>.int (g i)):=by
 intro pins s σ H x v Q I rx h
 obtain⟨i,rfl,q⟩:=h
 obtain⟨t,rfl⟩:=rx
 exact rule i t s _ _ ⟨.int (g i),H,I.tok _,⟨_,rfl⟩,q⟩
theorem kJ:KF X (unaryOp .USub) (rU fun i=>.int (-i)):=Ly fun _ _ _ _ _ q=>neg_int q
end
def J8:V→V→Bool
 | .non,.non=>true | .non,.int _=>true | .int _,.non=>true | .non,.bl _=>true | .bl _,.non=>true | .non,.str _=>true | .str _,.non=>true
 | .int _,.int _=>true | .bl _,.bl _=>true | .str _,.str _=>true | .byt _,.byt _=>true
 | .int _,.str _=>true | .str _,.int _=>true | .bl _,.str _=>true | .str _,.bl _=>true
 | _,_=>false
def Lr:R2:=fun x y H Q=>J8 x y=true∧Q (.bl (decide (x=y))) H
def Lx:R2:=fun x y H Q=>J8 x y=true∧Q (.bl (!decide (x=y))) H
theorem yQ{i j:Int}:decide (V.int i=V.int j)=(i == j):=by
 rw[Bool.eq_iff_iff]
 simp
theorem DA{i j:Bool}:decide (V.bl i=V.bl j)=(i == j):=by
 rw[Bool.eq_iff_iff]
 simp
theorem zT{i j:Str}:decide (V.str i=V.str j)=(i == j):=by
 rw[Bool.eq_iff_iff]
 simp
theorem yT{i j:Array UInt8}:decide (V.byt i=V.byt j)=(i.toList == j.toList):=by
 rw[Bool.eq_iff_iff]
 cases i
 cases j
 simp
section
variable {X:Cx}{a b c:Expr}{ta tb tc:TE}{pos:Pos}
theorem bM{pins:List (Addr×Obj)}{σ:St}{H:Hp}{s:Shared}{Q:VK}{k k':Bool}(I:Inv X pins σ H s)(q:Q (.bl k) H)(e:k=k'):EP X pins σ Q (.bool k') s:=by
 subst e
 exact⟨.bl k,H,I,rfl,q⟩
theorem dA:iC X (compareOp .Eq) Lr:=by
 intro pins s σ H x y v u Q I rx ry h
 obtain⟨hs,q⟩:=h
 cases x with
 | non =>
  cases rx
  cases y with
  | non=>cases ry;exact PySem.EqNone.eq_none_none (bM I q (by simp))
  | bl j=>cases ry;exact PySem.EqNone.eq_none_bool (bM I q (by simp))
  | int j=>obtain⟨t',rfl⟩:=ry;exact PySem.EqNone.eq_none_int (bM I q (by simp))
  | str j=>obtain⟨t',rfl⟩:=ry;exact PySem.EqNone.eq_none_str (bM I q (by simp))
  | _=>exact absurd (show false=true from hs) Bool.false_ne_true
 | bl i =>
  cases rx
  cases y with
  | non=>cases ry;exact PySem.EqNone.eq_bool_none (bM I q (by simp))
  | bl j=>cases ry;exact eq_bool (bM I q DA)
  | str j=>obtain⟨t',rfl⟩:=ry;exact PySem.EqMixed.eq_bool_str (bM I q (by simp))
  | _=>exact absurd (show false=true from hs) Bool.false_ne_true
 | int i =>
  obtain⟨t,rfl⟩:=rx
  cases y with
  | non=>cases ry;exact PySem.EqNone.eq_int_none (bM I q (by simp))
  | int j=>obtain⟨t',rfl⟩:=ry;exact eq_int (bM I q yQ)
  | str j=>obtain⟨t',rfl⟩:=ry;exact PySem.EqMixed.eq_int_str (bM I q (by simp))
  | _=>exact absurd (show false=true from hs) Bool.false_ne_true
 | str i =>
  obtain⟨t,rfl⟩:=rx
  cases y with
  | non=>cases ry;exact PySem.EqNone.eq_str_none (bM I q (by simp))
  | bl j=>cases ry;exact PySem.EqMixed.eq_str_bool (bM I q (by simp))
  | int j=>obtain⟨t',rfl⟩:=ry;exact PySem.EqMixed.eq_str_int (bM I q (by simp))
  | str j=>obtain⟨t',rfl⟩:=ry;exact eq_str (bM I q zT)
  | _=>exact absurd (show false=true from hs) Bool.false_ne_true
 | byt i =>
  obtain⟨t,rfl⟩:=rx
  cases y with
  | byt j=>obtain⟨t',rfl⟩:=ry;exact PySem.W.eq_bytes (bM I q yT)
  | _=>exact absurd (show false=true from hs) Bool.false_ne_true
 | _=>cases y <;> exact absurd (show false=true from hs) Bool.false_ne_true
theorem iR:iC X (compareOp .NotEq) Lx:=by
 intro pins s σ H x y v u Q I rx ry h
 obtain⟨hs,q⟩:=h
 cases x with
 | non =>
  cases rx
  cases y with
  | non=>cases ry;exact PySem.EqNone.ne_none_none (bM I q (by simp))
  | bl j=>cases ry;exact PySem.EqNone.ne_none_bool (bM I q (by simp))
  | int j=>obtain⟨t',rfl⟩:=ry;exact PySem.EqNone.ne_none_int (bM I q (by simp))
  | str j=>obtain⟨t',rfl⟩:=ry;exact PySem.EqNone.ne_none_str (bM I q (by simp))
  | _=>exact absurd (show false=true from hs) Bool.false_ne_true
 | bl i =>
  cases rx
  cases y with
  | non=>cases ry;exact PySem.EqNone.ne_bool_none (bM I q (by simp))
  | bl j=>cases ry;exact ne_bool (bM I q (congrArg not DA))
  | str j=>obtain⟨t',rfl⟩:=ry;exact PySem.EqMixed.ne_bool_str (bM I q (by simp))
  | _=>exact absurd (show false=true from hs) Bool.false_ne_true
 | int i =>
  obtain⟨t,rfl⟩:=rx
  cases y with
  | non=>cases ry;exact PySem.EqNone.ne_int_none (bM I q (by simp))
  | int j=>obtain⟨t',rfl⟩:=ry;exact ne_int (bM I q (congrArg not yQ))
  | str j=>obtain⟨t',rfl⟩:=ry;exact PySem.EqMixed.ne_int_str (bM I q (by simp))
  | _=>exact absurd (show false=true from hs) Bool.false_ne_true
 | str i =>
  obtain⟨t,rfl⟩:=rx
  cases y with
  | non=>cases ry;exact PySem.EqNone.ne_str_none (bM I q (by simp))
  | bl j=>cases ry;exact PySem.EqMixed.ne_str_bool (bM I q (by simp))
  | int j=>obtain⟨t',rfl⟩:=ry;exact PySem.EqMixed.ne_str_int (bM I q (by simp))
  | str j=>obtain⟨t',rfl⟩:=ry;exact ne_str (bM I q (congrArg not zT))
  | _=>exact absurd (show false=true from hs) Bool.false_ne_true
 | byt i =>
  obtain⟨t,rfl⟩:=rx
  cases y with
  | byt j=>obtain⟨t',rfl⟩:=ry;exact PySem.W.ne_bytes (bM I q (congrArg not yT))
  | _=>exact absurd (show false=true from hs) Bool.false_ne_true
 | _=>cases y <;> exact absurd (show false=true from hs) Bool.false_ne_true
theorem pW:iC X (compareOp .Lt) (FD fun i j=>.bl (decide (i<j))):=ER fun _ _ _ _ _ _ _ q=>lt_int q
theorem Ft:iC X (compareOp .LtE) (FD fun i j=>.bl (decide (i≤j))):=ER fun _ _ _ _ _ _ _ q=>le_int q
theorem nC:iC X (compareOp .Gt) (FD fun i j=>.bl (decide (j<i))):=ER fun _ _ _ _ _ _ _ q=>gt_int q
theorem IY:iC X (compareOp .GtE) (FD fun i j=>.bl (decide (j≤i))):=ER fun _ _ _ _ _ _ _ q=>ge_int q
theorem C6:iC X (compareOp .Is) (fun x y H Q=>y=.non∧Q (.bl (decide (x=.non))) H):=by
 intro pins s σ H x y v u Q I rx ry h
 obtain⟨rfl,q⟩:=h
 cases ry
 refine is_none_gen (bM I q ?_)
 cases x <;> first
  | (cases rx;rfl)
  | (obtain⟨t,rfl⟩:=rx;rfl)
theorem Fe:iC X (compareOp .IsNot) (fun x y H Q=>y=.non∧Q (.bl (!decide (x=.non))) H):=by
 intro pins s σ H x y v u Q I rx ry h
 obtain⟨rfl,q⟩:=h
 cases ry
 refine isnot_none_gen (bM I q ?_)
 cases x <;> first
  | (cases rx;rfl)
  | (obtain⟨t,rfl⟩:=rx;rfl)
theorem aS(b:Expr){op:CmpOp}(h:op≠.In:=by decide)(h2:op≠.NotIn:=by decide):behindInMarks op b=false:=by
 have e1:(op == CmpOp.In)=false:=by cases op <;> first | rfl | exact absurd rfl h
 have e2:(op == CmpOp.NotIn)=false:=by cases op <;> first | rfl | exact absurd rfl h2
 cases b <;> simp[behindInMarks,e1,e2]
theorem dM{op:CmpOp}{r:R2}(ho:iC X (compareOp op) r)(ha:PE X a ta)(hb:PE X b tb)(hm:behindInMarks op b=false):PE X (.Compare a [op] [b] pos) (Km r ta tb):=by
 intro pins s σ H Q I h
 exact wpAny_Compare1 (FK ha hb I h fun v u s2 x y H2 I2 rx ry q=>ho pins s2 σ H2 x y v u Q I2 rx ry q) hm
def Ju(t:TE):TT:=fun σ H Q=>t σ H fun x H'=>∃ k,x=.bl k∧Q k H'
theorem aP{op:CmpOp}{r:R2}(ho:iC X (compareOp op) r)(ha:PE X a ta)(hb:PE X b tb)(hm:behindInMarks op b=false):PT X (.Compare a [op] [b] pos) (Ju (Km r ta tb)):=by
 intro pins s σ H Q I h
 refine wpAny_isTrue_Compare1 (bS (ha pins s σ H _ I h) fun v s1 ⟨x,H1,I1,r1,q1⟩=>bS (hb pins s1 σ H1 _ I1 q1) fun u s2 ⟨y,H2,I2,r2,q2⟩ =>
  bS (ho pins s2 σ H2 x y v u _ I2 r1 r2 q2) fun c s3 ⟨z,H3,I3,r3,k,e,q3⟩=>?_) hm
 subst e
 cases r3
 exact wpAny_truthy_bool ⟨H3,I3,q3⟩
theorem mR:(sizeLine:Nat)<2 ^ 63:=by rw[sizeLine_eq];decide
theorem cH:iC X (binaryOp .Add) (fun x y H Q=>∃ i j,x=.str i∧y=.str j∧i.length+j.length≤sizeLine∧Q (.str (i++j)) H):=by
 intro pins s σ H x y v u Q I rx ry h
 obtain⟨i,j,rfl,rfl,hz,q⟩:=h
 obtain⟨t,rfl⟩:=rx
 obtain⟨t',rfl⟩:=ry
 exact add_str (fun t' tk=>⟨.str (i++j),H,I.tok _,⟨_,rfl⟩,q⟩) hz
theorem nQ{x:V}{us:List Value}(r:Vals [x] us):∃ u,us=[u]∧RelV x u:=by
 cases r with
 | cons r1 r2=>cases r2;exact⟨_,rfl,r1⟩
theorem Ao{x y:V}{us:List Value}(r:Vals [x,y] us):∃ u w',us=[u,w']∧RelV x u∧RelV y w':=by
 cases r with
 | cons r1 r2 =>
  cases r2 with
  | cons r3 r4=>cases r4;exact⟨_,_,rfl,r1,r3⟩
theorem AS(hc:X.calm=true):eS X (.builtin "max") (fun xs H Q=>∃ i j,xs=[.int i,.int j]∧Q (.int (if j > i then j else i)) H):=by
 intro pins s σ H xs us Q I r h
 obtain⟨i,j,rfl,q⟩:=h
 obtain⟨u,w',rfl,⟨t,rfl⟩,⟨t',rfl⟩⟩:=Ao r
 refine max_two_ints (I.ok.hd hc) fun h' tk k=>⟨_,H,I.kept k,?_,q⟩
 by_cases hj:j > i
 ·rw[if_pos hj,if_pos hj];exact⟨_,rfl⟩
 ·rw[if_neg hj,if_neg hj];exact⟨_,rfl⟩
theorem Az(hc:X.calm=true):eS X (.builtin "min") (fun xs H Q=>∃ i j,xs=[.int i,.int j]∧Q (.int (if j<i then j else i)) H):=by
 intro pins s σ H xs us Q I r h
 obtain⟨i,j,rfl,q⟩:=h
 obtain⟨u,w',rfl,⟨t,rfl⟩,⟨t',rfl⟩⟩:=Ao r
 refine min_two_ints (I.ok.hd hc) fun h' tk k=>⟨_,H,I.kept k,?_,q⟩
 by_cases hj:j<i
 ·rw[if_pos hj,if_pos hj];exact⟨_,rfl⟩
 ·rw[if_neg hj,if_neg hj];exact⟨_,rfl⟩
theorem rZ:eS X (.type "int") (fun xs H Q=>(∃ i,xs=[.int i]∧Q (.int i) H)∨∃ k,xs=[.bl k]∧Q (.int (if k then 1 else 0)) H):=by
 intro pins s σ H xs us Q I r h
 rcases h with ⟨i,rfl,q⟩ | ⟨k,rfl,q⟩
 ·obtain⟨u,rfl,t,rfl⟩:=nQ r
  exact call_int_int ⟨.int i,H,I,⟨_,rfl⟩,q⟩
 ·obtain⟨u,rfl,r1⟩:=nQ r
  cases r1
  exact call_int_bool ⟨.int (if k then 1 else 0),H,I.tok _,⟨_,rfl⟩,q⟩
end
structure ObjM(h:Heap)(x dx C:Addr)(mA:Str→Option Value):Prop where
 obj:h.get? x=some (PySem.W.instObj C dx)
 ns:h.Ns1 dx mA
 ne:dx≠x
theorem Ay{h:Heap}{dx:Addr}{mA:Str→Option Value}(n:h.Ns1 dx mA):∃ od,h.get? dx=some od∧∀ name,PySem.W.lookIn name od=some (mA name):=by
 obtain⟨o,es,ep,ho,hd,hk,_,hm⟩:=n
 refine⟨o,ho,fun name=>?_⟩
 have e:=hm name
 unfold nsFind findBy at e
 rw[← Array.find?_toList] at e
 unfold PySem.W.lookIn
 rw[hd]
 dsimp only
 split
 ·rename_i y q
  rw[q] at e
  exact congrArg some e
 ·rename_i q
  rw[q] at e
  have a:es.toList.any (·.refKey)=false:=by
   rw[List.any_eq_false]
   intro y hy
   obtain⟨z,t,hkey⟩:=hk y (Array.mem_toList_iff.mp hy)
   simp[DictEntry.refKey,hkey]
  have a':¬ es.toList.any (·.refKey)=true:=by rw[a];exact Bool.false_ne_true
  rw[if_neg a']
  exact congrArg some e
theorem ObjM.look{h:Heap}{x dx C:Addr}{mA:Str→Option Value}(I:ObjM h x dx C mA):∃ od,PySem.W.InstAt h x (PySem.W.instObj C dx) C (some od)∧∀ name,PySem.W.lookIn name od=some (mA name) :=
 let ⟨od,ho,hl⟩:=Ay I.ns
 ⟨od,⟨I.obj,rfl,rfl,ho⟩,hl⟩
section
variable {prog:Program}{w:World}{A:Around}{E:Value→Shared→Prop}{s:Shared}{K:PySem.W.Frag}{x dx C f:Addr}{mA:Str→Option Value}{name:Str}{v:Value}
theorem Eu{expr:Bool}{Q:Value→Shared→Prop}(X:K.In s.heap)(I:ObjM s.heap x dx C mA)(hg:PySem.W.plainGet K C name=true)(hh:PySem.W.hasDictIn K C=true)
  (ha:PySem.W.findIn K (.ref C) name=some none) (hv:mA name=some v) (hv':PySem.W.handedIn v=true) (h:Q v { s with toks:=s.toks+1 }) :
  wpAny (model prog w) A (getAttr (.ref x) name expr) Q E s:=by
 obtain⟨od,J,hl⟩:=I.look
 exact PySem.W.get_value X J (PySem.W.plainGet_of hg).1 (PySem.W.findObj_own hh ha rfl (by rw[hl,hv])) hv' h
theorem Dz{pl:Sem Bool}{Q:Value×List Value→Shared→Prop}(X:K.In s.heap)(I:ObjM s.heap x dx C mA)(hg:PySem.W.plainGet K C name=true)
  (hf:PySem.W.findIn K (.ref C) name=some (some (.ref f))) (ht:PySem.W.isFn K (.ref f)=true) (hv:mA name=none) (h:Q (.ref f,[.ref x]) s) :
  wpAny (model prog w) A (getMethod (.ref x) name pl) Q E s:=by
 obtain⟨od,J,hl⟩:=I.look
 exact PySem.W.method_fn X J (PySem.W.plainGet_of hg).1 (PySem.W.plainGet_of hg).2 hf (beq_iff_eq.mp ht) (by show (PySem.W.lookIn name od).map (·.isSome)=some false;rw[hl,hv];rfl) h
theorem Fc{ns:List Str}{Q:Unit→Shared→Prop}(X:K.In s.heap)(I:ObjM s.heap x dx C mA)
  (hs:PySem.W.findIn K (.ref C) "__setattr__"=some (some (.builtin "object.__setattr__"))) (hp:PySem.W.plainOver K C=true) (ht:PySem.W.takerIn K C name=some none) (hh:PySem.W.hasDictIn K C=true)
  (hw:PySem.Within mA ns) (hsz:ns.length≤sizeLine)
  (h:∀ h',ObjM h' x dx C (fun y=>if y=name then some v else mA y)→Heap.SameBut dx s.heap h'→Q () { s with heap:=h',toks:=s.toks+2 }) :
  wpAny (model prog w) A (setAttr (.ref x) name v) Q E s:=by
 obtain⟨od,J,hl⟩:=I.look
 refine PySem.W.set_plain X J hs (PySem.W.osa_open (s:={ s with toks:=s.toks+1 }) (r:=none) X J hp ht fun b=>?_)
 obtain⟨cd,hc,hd'⟩:=PySem.W.any_some hh
 have hx:s.heap.get? x=some ⟨.ref C,some dx,.plain,#[]⟩:=I.obj
 refine wpAny_bind (wpAny_pure (wpAny_bind (wpAny_bind (wpAny_loadPart hx (wpAny_bind (PySem.W.Looks.here (s:={ s with toks:=s.toks+1 }) (PySem.W.looks_clsIn X hc) ?_))))))
 rw[hd']
 refine wpAny_pure (a:=some dx) (wpAny_bind (wpAny_pure (wpAny_bind ?_)))
 refine wpAny_nsSet1 (s:={ s with toks:=s.toks+1 }) I.ns fun h' hn2 hs2=>?_
 obtain⟨oD,esD,epD,hoD,hdD,hcD⟩:=hn2.count (PySem.Within.cons name v hw)
 refine wpAny_bind (wpAny_lookBehind hoD (by rw[hdD];exact pastItsLine_dict (Nat.le_trans hcD (by rw[List.length_cons];omega))) ?_)
 exact wpAny_pure (h _ ⟨(hs2.2 _ (Ne.symm I.ne)).trans I.obj,hn2,I.ne⟩ hs2)
theorem DG{R:Result→Shared→Prop}{vs:List Value}{kw:List (Str×Value)}(X:K.In s.heap)(hm:PySem.W.makesIn K C=true)
  (hi:PySem.W.findIn K (.ref C) "__init__"=some (some (.ref f))) (hf:PySem.W.typeIn K (.ref f)=some (.type "function"))
  (h:codeAny (model prog w) (A.under (.builtin "type.__call__" ⟨.ref C::vs,kw⟩)) (.call (.ref f) ⟨.ref (s.heap.objs.size+1)::vs,kw⟩) (PySem.W.InitBack (s.heap.objs.size+1) R)
   { s with heap:=(s.heap.push PySem.W.emptyDict).push (PySem.W.instObj C s.heap.objs.size) }) :
  codeAny (model prog w) A (.call (.ref C) ⟨vs,kw⟩) R s:=by
 obtain⟨hh,g,d,t,os⟩:=s
 exact PySem.W.make_core (PySem.W.makes_of X hm) (PySem.W.looks_findIn X hi) (fun self=>PySem.W.bind_fn X self hf) (.inl rfl) h
end
def fB(f:Str)(v:V):List (Str×V)→List (Str×V)
 | []=>[(f,v)]
 | (g,x)::r=>if g=f then (g,v)::r else (g,x)::fB f v r
theorem bP(f g:Str)(v:V):∀ fs:List (Str×V),(fB f v fs).lookup g=if g=f then some v else fs.lookup g
 | []=>by
  show List.lookup g [(f,v)]=_
  by_cases h:g=f
  ·have hb:(g == f)=true:=beq_iff_eq.mpr h
   simp only [List.lookup,hb,if_pos h]
  ·have hb:(g == f)=false:=beq_eq_false_iff_ne.mpr h
   simp only [List.lookup,hb,if_neg h]
 | (k,x)::r=>by
  have ih:=bP f g v r
  rw[show fB f v ((k,x)::r)=(if k=f then (k,v)::r else (k,x)::fB f v r) from rfl]
  by_cases hk:k=f
  ·rw[if_pos hk]
   by_cases h:g=k
   ·have hb:(g == k)=true:=beq_iff_eq.mpr h
    simp only [List.lookup,hb,if_pos (h.trans hk)]
   ·have hb:(g == k)=false:=beq_eq_false_iff_ne.mpr h
    simp only [List.lookup,hb,if_neg (fun e:g=f=>h (e.trans hk.symm))]
  ·rw[if_neg hk]
   by_cases h:g=k
   ·have hb:(g == k)=true:=beq_iff_eq.mpr h
    simp only [List.lookup,hb,if_neg (fun e:g=f=>hk (h.symm.trans e))]
   ·have hb:(g == k)=false:=beq_eq_false_iff_ne.mpr h
    simp only [List.lookup,hb]
    exact ih
theorem mZ(f:Str)(v:V):∀ fs:List (Str×V),f∈(fB f v fs).map (·.1)∧∀ g,g∈fs.map (·.1)→g∈(fB f v fs).map (·.1)
 | []=>⟨by simp[fB],fun g h=>by simp at h⟩
 | (k,x)::r=>by
  obtain⟨i1,i2⟩:=mZ f v r
  rw[show fB f v ((k,x)::r)=(if k=f then (k,v)::r else (k,x)::fB f v r) from rfl]
  by_cases hk:k=f
  ·rw[if_pos hk]
   subst hk
   exact⟨by simp,fun g h=>by simpa using h⟩
  ·rw[if_neg hk]
   refine⟨?_,fun g h=>?_⟩
   ·rw[List.map_cons]
    exact List.mem_cons_of_mem _ i1
   ·rw[List.map_cons] at h ⊢
    rcases List.mem_cons.mp h with e | e
    ·exact List.mem_cons.mpr (.inl e)
    ·exact List.mem_cons_of_mem _ (i2 g e)
theorem nE(f:Str)(v:V):∀ fs:List (Str×V),(fB f v fs).length≤fs.length+1
 | []=>by simp[fB]
 | (k,x)::r=>by
  have ih:=nE f v r
  rw[show fB f v ((k,x)::r)=(if k=f then (k,v)::r else (k,x)::fB f v r) from rfl]
  by_cases hk:k=f
  ·rw[if_pos hk,List.length_cons,List.length_cons];omega
  ·rw[if_neg hk,List.length_cons,List.length_cons];omega
theorem RelO.some_of{v:V}{o:Option Value}(r:RelO (some v) o):∃ u,o=some u∧RelV v u:=by
 cases o with
 | none=>exact(show False from r).elim
 | some u=>exact⟨u,rfl,r⟩
theorem RelO.none_of{o:Option Value}(r:RelO none o):o=none:=by
 cases o with
 | none=>rfl
 | some u=>exact(show False from r).elim
theorem AX{v:V}{u:Value}(r:RelV v u):PySem.W.handedIn u=true:=by
 cases v with
 | non=>cases (show u=Value.none from r);rfl
 | bl b=>cases (show u=Value.bool b from r);rfl
 | int i=>obtain⟨t,e⟩:=(show ∃ t,u=Value.int i t from r);cases e;rfl
 | str x=>obtain⟨t,e⟩:=(show ∃ t,u=Value.str x t from r);cases e;rfl
 | byt b=>obtain⟨t,e⟩:=(show ∃ t,u=Value.bytes b t from r);cases e;rfl
 | flt b=>obtain⟨t,e⟩:=(show ∃ t,u=Value.float b t from r);cases e;rfl
 | ref a=>cases (show u=Value.ref a from r);rfl
 | ty n=>cases (show u=Value.type n from r);rfl
section
variable {P:Program}{w:World}{H H':Hp}{h h':Heap}{a C dx:Addr}{fs fs':List (Str×V)}
theorem sW(hok:HOk P w H h)(e:H a=some (.ins C dx fs)):∃ mA,ObjM h a dx C mA∧(∀ f,RelO (fs.lookup f) (mA f))∧PySem.Within mA (fs.map (·.1))∧fs.length≤1000∧H dx=some (.own a):=by
 obtain⟨d,z,ne,ob,mA,n,r,q⟩:=(show ObjOk P w H h a (.ins C dx fs) from hok a _ e)
 exact⟨mA,⟨ob,n,ne⟩,r,q,z,d⟩
end
structure Cls(K:PySem.W.Frag)(C:Addr):Prop where
 pg:PySem.W.plainGet K C Str.empty=true
 hd:PySem.W.hasDictIn K C=true
 po:PySem.W.plainOver K C=true
 sa:PySem.W.findIn K (.ref C) "__setattr__"=some (some (.builtin "object.__setattr__"))
theorem Cls.get{K:PySem.W.Frag}{C:Addr}(c:Cls K C)(f:Str):PySem.W.plainGet K C f=true:=c.pg
def NoAttr(K:PySem.W.Frag)(C:Addr)(f:Str):Prop:=PySem.W.findIn K (.ref C) f=some none
theorem NoAttr.taker{K:PySem.W.Frag}{C:Addr}{f:Str}(n:NoAttr K C f):PySem.W.takerIn K C f=some none:=by
 unfold PySem.W.takerIn
 rw[show PySem.W.findIn K (.ref C) f=some none from n]
 rfl
structure Meth(K:PySem.W.Frag)(C:Addr)(m:Str)(f:Addr):Prop where
 at_:PySem.W.findIn K (.ref C) m=some (some (.ref f))
 fn:PySem.W.isFn K (.ref f)=true
 kp:PySem.W.keepIn K (.ref f)=true
section
variable {X:Cx}{pins:List (Addr×Obj)}{σ:St}{H:Hp}{s:Shared}{a C dx:Addr}{fs:List (Str×V)}{f:Str}{v:V}{A:Around}{E:Value→Shared→Prop}
theorem yP{b:Bool}{Q:Value→Shared→Prop}(I:Inv X pins σ H s)(e:H a=some (.ins C dx fs))(c:Cls X.K C)(n:NoAttr X.K C f)(l:fs.lookup f=some v)
  (h:∀ u s',Inv X pins σ H s'→RelV v u→Q u s'):wpAny (model X.prog X.w) A (getAttr (.ref a) f b) Q E s:=by
 obtain⟨mA,O,r,_,_,_⟩:=sW I.hok e
 obtain⟨u,hu,ru⟩:=RelO.some_of (v:=v) (o:=mA f) (by rw[← l];exact r f)
 exact Eu I.kIn O (c.get f) c.hd n hu (AX ru) (h u _ (I.tok _) ru)
theorem kO{m:Str}{g:Addr}{pl:Sem Bool}{Q:Value×List Value→Shared→Prop}(I:Inv X pins σ H s)(e:H a=some (.ins C dx fs))(c:Cls X.K C)(k:Meth X.K C m g)(l:fs.lookup m=none)
  (h:Q (.ref g,[.ref a]) s):wpAny (model X.prog X.w) A (getMethod (.ref a) m pl) Q E s:=by
 obtain⟨mA,O,r,_,_,_⟩:=sW I.hok e
 have hn:mA m=none:=RelO.none_of (by rw[← l];exact r m)
 exact Dz I.kIn O (c.get m) k.at_ k.fn hn h
theorem wS{y:V}{u:Value}{Q:Unit→Shared→Prop}(I:Inv X pins σ H s)(e:H a=some (.ins C dx fs))(c:Cls X.K C)(n:NoAttr X.K C f)(hl:fs.length<1000)(ry:RelV y u)
  (h:∀ s',Inv X pins σ (upd H a (.ins C dx (fB f y fs))) s'→Q () s'):wpAny (model X.prog X.w) A (setAttr (.ref a) f u) Q E s:=by
 obtain⟨mA,O,r,wi,_,ho⟩:=sW I.hok e
 have hz:(fs.map (·.1)).length≤sizeLine:=by rw[List.length_map,sizeLine_eq];omega
 refine Fc I.kIn O c.sa c.po n.taker c.hd wi hz fun h' O' sb=>h _ ?_
 have hd:∃ o,h'.get? dx=some o:=let ⟨o,_,_,e',_⟩:=O'.ns;⟨o,e'⟩
 refine I.write (x:=a) (e:=dx) (by rw[e];exact True.intro) (.inr ho) (fun b q hb z=>(sb.2 b hb).trans z) hd ?_
 refine⟨by rw[aJ O.ne];exact ho,?_,O.ne,O'.obj,_,O'.ns,fun g=>?_,fun g hg=>?_⟩
 ·have:=nE f y fs;omega
 ·show RelO ((fB f y fs).lookup g) (if g=f then some u else mA g)
  rw[bP]
  by_cases q:g=f
  ·rw[if_pos q,if_pos q];exact ry
  ·rw[if_neg q,if_neg q];exact r g
 ·by_cases q:g=f
  ·rw[q];exact(mZ f y fs).1
  ·refine(mZ f y fs).2 g (wi g fun z=>hg ?_)
   show (if g=f then some u else mA g)=none
   rw[if_neg q];exact z
theorem Inv.made(I:Inv X pins σ H s):Inv X pins σ (upd (upd H s.heap.objs.size (.own (s.heap.objs.size+1))) (s.heap.objs.size+1) (.ins C s.heap.objs.size []))
  { s with heap:=(s.heap.push PySem.W.emptyDict).push (PySem.W.instObj C s.heap.objs.size) }:=by
 have e1:(s.heap.push PySem.W.emptyDict).get? s.heap.objs.size=some PySem.W.emptyDict:=Heap.get?_push_size s.heap rfl
 have e2:((s.heap.push PySem.W.emptyDict).push (PySem.W.instObj C s.heap.objs.size)).get? (s.heap.objs.size+1)=some (PySem.W.instObj C s.heap.objs.size):=by
  have:=Heap.get?_push_size (s.heap.push PySem.W.emptyDict) (o:=PySem.W.instObj C s.heap.objs.size) rfl
  rwa [Heap.size_push] at this
 have e3:(s.heap.push PySem.W.emptyDict).Ns s.heap.objs.size (fun _=>none):=⟨PySem.W.emptyDict,#[],_,e1,rfl,(fun e he=>absurd he (by simp)),fun _=>rfl⟩
 have I1:=I.laid (a:=s.heap.objs.size) (o:=.own (s.heap.objs.size+1)) (h':=s.heap.push PySem.W.emptyDict) (t':=s.toks) (fun b u q=>Heap.get?_push_of_some _ q) (Nat.le_refl _) ⟨_,e1⟩
 refine I1.laid (a:=s.heap.objs.size+1) (o:=.ins C s.heap.objs.size []) (t':=s.toks) (fun b u q=>Heap.get?_push_of_some _ q) (Nat.le_of_eq (Heap.size_push _ _)) ?_
 have ne:s.heap.objs.size≠s.heap.objs.size+1:=Nat.ne_of_lt (Nat.lt_succ_self _)
 refine⟨by rw[aJ ne,aC],Nat.zero_le _,ne,e2,fun _=>none,(Heap.Ns1.of_empty e3).at fun o q=>Heap.get?_push_of_some _ q,fun _=>True.intro,fun y hy=>absurd rfl hy⟩
theorem E2{prog:Program}{w:World}{env:Env}{e:Expr}{f:Str}{pos:Pos}{s:Shared}{Q:Value→Shared→Prop}(hb:attributeBase e f env (eval e env)=eval e env)
  (h:wpAny (model prog w) A (eval e env) (fun o s₁=>wpAny (model prog w) A (getAttr o f true) Q E s₁) E s):wpAny (model prog w) A (eval (.Attribute e f pos) env) Q E s :=
 Attribute_any_ h (by rw[arm_eval_Attribute,hb])
end
def Jx(K:PySem.W.Frag)(ta:TE)(f:Str):TE:=fun σ H Q=>ta σ H fun x H1=>∃ a C dx fs v,x=.ref a∧H1 a=some (.ins C dx fs)∧Cls K C∧NoAttr K C f∧fs.lookup f=some v∧Q v H1
def IS(K:PySem.W.Frag)(ta tv:TE)(f:Str):TS:=fun D σ H=>tv σ H fun y H1=>ta σ H1 fun x H2=>∃ a C dx fs,x=.ref a∧H2 a=some (.ins C dx fs)∧Cls K C∧NoAttr K C f∧fs.length<1000 ∧
 D.nx σ (upd H2 a (.ins C dx (fB f y fs)))
section
variable {X:Cx}{o e value:Expr}{f:Str}{pos pos' tpos:Pos}{ta tv:TE}
theorem F0(he:PE X e ta)(hb:attributeBase e f X.env (eval e X.env)=eval e X.env):PE X (.Attribute e f pos) (Jx X.K ta f):=by
 intro pins s σ H Q I h
 refine E2 hb (bS (he pins s σ H _ I h) fun u s1 ⟨x,H1,I1,rx,a,C,dx,fs,v,ex,ea,c,n,l,q⟩=>?_)
 subst ex
 obtain rfl:u=Value.ref a:=rx
 exact yP I1 ea c n l fun u' s2 I2 ru=>⟨v,H1,I2,ru,q⟩
theorem Hj(ha:PE X o ta)(hv:PE X value tv)(hs:swapsWith value (some (.Attribute o f pos')) pos.line X.env=pure false):PS X (.Assign [.Attribute o f pos'] value pos) (IS X.K ta tv f):=by
 intro pins s σ H D I h
 refine plainObj_wpAny_Assign_Attribute (bS (hv pins s σ H _ I h) fun u s1 ⟨y,H1,I1,ry,q⟩=>bS (ha pins s1 σ H1 _ I1 q) fun ov s2 ⟨x,H2,I2,rx,a,C,dx,fs,ex,ea,c,n,l,q2⟩=>?_) hs
 subst ex
 obtain rfl:ov=Value.ref a:=rx
 exact wS I2 ea c n l ry fun s3 I3=>⟨σ,_,I3,q2⟩
theorem Fn{pl:Sem Bool}{m:Str}{apos:Pos}{args:List Expr}{pins:List (Addr×Obj)}{s:Shared}{σ:St}{H:Hp}{Q:Value→Shared→Prop}{te:TE}(he:PE X e te)(I:Inv X pins σ H s)
  (h:te σ H fun x H1=>∃ a C dx fs g,x=.ref a∧H1 a=some (.ins C dx fs)∧Cls X.K C∧Meth X.K C m g∧fs.lookup m=none ∧
   ∀ s1,Inv X pins σ H1 s1→wpAny (model X.prog X.w) X.A (callWith pos (.ref g) [.ref a] (backTo pos (starEach args X.env)) (backToKw pos (keywordEach [] X.env))) Q X.xe s1)
  (ht:eval (.Call (.Attribute e m apos) args [] pos) X.env=(do
   let ov ← eval e X.env
   standAt apos.atName
   let (f,first) ← holding [ov] (getMethod ov m pl)
   callWith pos f first (backTo pos (starEach args X.env)) (backToKw pos (keywordEach [] X.env)))) :
  wpAny (model X.prog X.w) X.A (eval (.Call (.Attribute e m apos) args [] pos) X.env) Q X.xe s:=by
 refine PySem.W.methodCall_KW (pl:=pl) (bS (he pins s σ H _ I h) fun u s1 ⟨x,H1,I1,rx,a,C,dx,fs,g,ex,ea,c,k,l,q⟩=>?_) ht
 subst ex
 obtain rfl:u=Value.ref a:=rx
 exact kO I1 ea c k l (q s1 I1)
end
section
variable {X:Cx}{pins:List (Addr×Obj)}{σ:St}{H:Hp}{s:Shared}{A:Around}{E:Value→Shared→Prop}{Q:Value→Shared→Prop}{c:Value}{b:Bool}
end
structure Room(k:Nat)(A:Around):Prop where
 hd:A.handled=none
 dp:A.depth+3 * k+5<recursionLimit
 un:A.units+16 * k+200<cLine
theorem Room.mono{j k:Nat}{A:Around}(r:Room k A)(h:j≤k):Room j A:=⟨r.hd,by have:=r.dp;omega,by have:=r.un;omega⟩
theorem Room.deeper{k:Nat}{A:Around}(r:Room (k+1) A)(env:Env):Room k (A.deeper env) :=
 ⟨r.hd,by have:=r.dp;show A.depth+1+3 * k+5<_;omega,by have:=r.un;show A.units+3+16 * k+200<_;omega⟩
theorem Room.in1{k:Nat}{A:Around}(r:Room (k+1) A):Room k A.in1 :=
 ⟨r.hd,by have:=r.dp;show A.depth+3 * k+5<_;omega,by have:=r.un;show A.units+1+16 * k+200<_;omega⟩
theorem xL{A:Around}{C:Addr}{us:List Value}{kw:List (Str×Value)}:(A.under (.builtin "type.__call__" ⟨.ref C::us,kw⟩)).depth=A.depth+1:=by
 first | rfl | simp[Around.under,Code.weight,Code.isCreation,Code.isGuard,Code.isCaller,Code.frames,Code.isFrame,guardIds]
theorem xY{A:Around}{C:Addr}{us:List Value}{kw:List (Str×Value)}:(A.under (.builtin "type.__call__" ⟨.ref C::us,kw⟩)).units=A.units+1:=by
 first | rfl | simp[Around.under,Code.cUnits,Code.frames,Code.isFrame]
theorem Room.make{k:Nat}{A:Around}(r:Room (k+1) A)(C:Addr)(us:List Value)(kw:List (Str×Value)):Room k (A.under (.builtin "type.__call__" ⟨.ref C::us,kw⟩)) :=
 ⟨r.hd,by have:=r.dp;rw[xL];omega,by have:=r.un;rw[xY];omega⟩
theorem Room.depth{k:Nat}{A:Around}(r:Room k A):A.depth<recursionLimit:=by have:=r.dp;omega
theorem Room.units{k:Nat}{A:Around}(r:Room k A):A.units+64<cLine:=by have:=r.un;omega
theorem Room.units0{k:Nat}{A:Around}(r:Room k A):A.units<cLine:=by have:=r.un;omega
def DH:TA:=fun _ H Q=>Q [] H
def Dx(ta:TE)(tr:TA):TA:=fun σ H Q=>ta σ H fun x H1=>tr σ H1 fun xs H2=>Q (x::xs) H2
section
variable {X:Cx}{e:Expr}{es:List Expr}{te:TE}{t:TA}{pos:Pos}
theorem aB:PA X [] DH:=fun _ _ _ _ H Q I h=>Calls.spliced_nil ⟨[],H,I,.nil,h⟩
theorem aA(ha:PE X e te)(hr:PA X es t)(hs:starEach (e::es) X.env=(false,eval e X.env)::starEach es X.env:=by rfl):PA X (e::es) (Dx te t):=by
 intro pos pins s σ H Q I h
 rw[hs]
 show wpAny _ _ (spliced ((false,eval e X.env)::backTo pos (starEach es X.env))) _ _ s
 refine Calls.spliced_cons (bS (ha pins s σ H _ I h) fun u s1 ⟨x,H1,I1,r1,q1⟩=>?_)
 exact bS (hr pos pins s1 σ H1 _ I1 q1) fun us s2 ⟨xs,H2,I2,r2,q2⟩=>⟨x::xs,H2,I2,.cons r1 r2,q2⟩
def KL(t:TA):TE:=fun σ H Q=>t σ H fun xs H1=>xs.length≤sizeLine∧∀ p,H1 p=none→Q (.ref p) (upd H1 p (.tup xs))
def K1(t:TA):TE:=fun σ H Q=>t σ H fun xs H1=>xs.length≤sizeLine∧∀ p,H1 p=none→Q (.ref p) (upd H1 p (.lst xs))
theorem bY{x1}(h:PA X es t):PE X (.Tuple es x1 pos) (KL t):=by
 intro pins s σ H Q I hq
 refine wpAny_Tuple_spliced (bS (h pos pins s σ H _ I hq) fun us s1 ⟨xs,H1,I1,r,z,q⟩=>⟨by rw[← r.length];exact z,?_⟩)
 have hf:H1 s1.heap.objs.size=none:=I1.hok.fresh (Nat.le_refl _)
 refine⟨.ref s1.heap.objs.size,upd H1 s1.heap.objs.size (.tup xs),I1.laid (t':=s1.toks) (fun b u e=>Heap.get?_push_of_some _ e) (Nat.le_refl _) ?_,rfl,q _ hf⟩
 exact⟨z,us,r,⟨_,Heap.get?_push_size _ rfl,rfl,_,rfl⟩,NoD.new _ _⟩
theorem dG(h:PA X es t):PE X (.List es pos) (K1 t):=by
 intro pins s σ H Q I hq
 refine wpAny_List_spliced (bS (h pos pins s σ H _ I hq) fun us s1 ⟨xs,H1,I1,r,z,q⟩=>⟨by rw[← r.length];exact z,?_⟩)
 have hf:H1 s1.heap.objs.size=none:=I1.hok.fresh (Nat.le_refl _)
 refine⟨.ref s1.heap.objs.size,upd H1 s1.heap.objs.size (.lst xs),I1.laid (t':=s1.toks) (fun b u e=>Heap.get?_push_of_some _ e) (Nat.le_refl _) ?_,rfl,q _ hf⟩
 exact⟨z,us,0,r,Heap.get?_push_size _ rfl⟩
end
abbrev Sp:=List V→Hp→VK→XK→Prop
abbrev A5:=List Env→Hp→Shared→XK→Value→Shared→Prop
structure Env0(P:Program)(w:World)(K:PySem.W.Frag)(mg:Str→Option Value)(base:Heap)(A:Around)(outer:List Env)(s:Shared)(H:Hp):Prop where
 frames:A.frames=some outer
 mod:Mod K mg base
 bs:∀ b o,base.get? b=some o→s.heap.get? b=some o∧H b=none
 bsz:base.objs.size≤s.heap.objs.size
 funs:s.heap.FunFrames base outer
 frf:∀ b∈Bf outer,H b=none
 hok:HOk P w H s.heap
 bare:AllBare s.gens
def CE(outer:List Env)(P:Program)(w:World)(H:Hp)(s:Shared)(Q:VK)(u:Value)(s':Shared):Prop :=
 ∃ v H',s'.os=s.os∧AllBare s'.gens∧Un (Bf outer) [] H H' s.heap s'.heap∧HOk P w H' s'.heap∧RelV v u∧Q v H'
def CR(CX:A5)(outer:List Env)(P:Program)(w:World)(H:Hp)(s:Shared)(Q:VK)(E:XK)(r:Result)(s':Shared):Prop :=
 match r with
 | .ok (.ret u)=>CE outer P w H s Q u s'
 | .ok _=>False
 | .error e=>CX outer H s E e s'
structure FnOk(P:Program)(w:World)(K:PySem.W.Frag)(mg:Str→Option Value)(base:Heap)(CX:A5)(k:Nat)(f:Addr)(fd:FuncData)(ps:List Str)(sp:Sp):Prop where
 len:∀ vs H Q E,sp vs H Q E→vs.length=ps.length
 run:∀ (A:Around) (outer:List Env) (s:Shared) (H:Hp) (args:Args) (us:List Value) (vs:List V) (Q:VK) (E:XK),Room k A→Env0 P w K mg base A outer s H→BindsTo s fd args (ps.zip us)→Vals vs us→sp vs H Q E →
  codeAny (model P w) A (.call (.ref f) args) (CR CX outer P w H s Q E) s
theorem FnOk.mono{P:Program}{w:World}{K:PySem.W.Frag}{mg:Str→Option Value}{base:Heap}{CX:A5}{j k:Nat}{f:Addr}{fd:FuncData}{ps:List Str}{sp:Sp}(F:FnOk P w K mg base CX j f fd ps sp)(h:j≤k) :
  FnOk P w K mg base CX k f fd ps sp:=⟨F.len,fun A outer s H args us vs Q E hr=>F.run A outer s H args us vs Q E (hr.mono h)⟩
theorem Env0.make{P:Program}{w:World}{K:PySem.W.Frag}{mg:Str→Option Value}{base:Heap}{A:Around}{outer:List Env}{s:Shared}{H:Hp}(e:Env0 P w K mg base A outer s H)(C:Addr)(us:List Value)(kw:List (Str×Value)) :
  Env0 P w K mg base (A.under (.builtin "type.__call__" ⟨.ref C::us,kw⟩)) outer s H:=⟨by first | exact e.frames | (simpa [Around.under,Code.envs,Code.isFrame,pushEnvs] using e.frames),e.mod,e.bs,e.bsz,e.funs,e.frf,e.hok,e.bare⟩
section
variable {X:Cx}{pins:List (Addr×Obj)}{σ:St}{H:Hp}{s s':Shared}
theorem Inv.env0(I:Inv X pins σ H s):Env0 X.prog X.w X.K X.mg X.base X.A X.stack s H :=
 ⟨I.ok.frames,I.ok.mod,I.bs,Nat.le_trans I.ok.bsz I.sz,I.stack,I.stkFree,I.hok,I.bare⟩
theorem Inv.after{Q:VK}{u:Value}(I:Inv X pins σ H s)(h:CE X.stack X.prog X.w H s Q u s'):EP X pins σ Q u s':=by
 obtain⟨v,H',os,bare,un,hok,r,q⟩:=h
 obtain⟨hh,g,d,t,os'⟩:=s'
 obtain rfl:os'=s.os:=os
 exact⟨v,H',I.call (h':=hh) (g':=g) (d':=d) (t':=t) (ch:=[]) un hok bare (fun b z=>absurd z (by simp)),r,q⟩
end
def Fz(sp:Sp)(dvs:List V)(E:XK)(t:TA):TE:=fun σ H Q=>t σ H fun vs H1=>sp (vs++dvs) H1 Q E
def Fr(C:Addr)(m:Str)(sp:Sp)(dvs:List V)(E:XK)(ta:TE)(t:TA):TE:=fun σ H Q=>ta σ H fun x H1=>∃ a dx fs,x=.ref a∧H1 a=some (.ins C dx fs)∧fs.lookup m=none ∧
 t σ H1 fun vs H2=>sp (x::(vs++dvs)) H2 Q E
def Jj(C:Addr)(sp:Sp)(dvs:List V)(E:XK)(t:TA):TE:=fun σ H Q=>t σ H fun vs H1=>∀ x dx,H1 x=none→H1 dx=none→dx≠x →
 sp (.ref x::(vs++dvs)) (upd (upd H1 dx (.own x)) x (.ins C dx [])) (fun v H2=>v=.non∧Q (.ref x) H2) E
def Binds(K:PySem.W.Frag)(fd:FuncData)(ps:List Str)(ds:List Value):Prop :=
 ∀ (s:Shared) (us:List Value),K.In s.heap→(us++ds).length=ps.length→BindsTo s fd ⟨us,[]⟩ (ps.zip (us++ds))
theorem Binds.all{K:PySem.W.Frag}{fd:FuncData}{ps:List Str}(h:∀ us:List Value,us.length=ps.length→bindArgs fd ⟨us,[]⟩=pure (ps.zip us)):Binds K fd ps []:=fun s us _ hl=>by
 rw[List.append_nil] at hl ⊢
 exact .of_eq (h us hl)
def kE(CX:A5)(X:Cx)(E:XK):Prop:=∀ (pins:List (Addr×Obj)) (σ:St) (H:Hp) (s:Shared) (e:Value) (s':Shared),Inv X pins σ H s→CX X.stack H s E e s'→X.xe e s'
section
variable {X:Cx}{CX:A5}{k:Nat}{f C:Addr}{fd:FuncData}{ps:List Str}{sp:Sp}{dvs:List V}{ds:List Value}{E:XK}{x m:Str}{p pos apos:Pos}{e o:Expr}{es:List Expr}{ta:TE}{t:TA}
theorem qE{pins:List (Addr×Obj)}{σ:St}{H:Hp}{s:Shared}{Q:VK}{us:List Value}{vs:List V}(F:FnOk X.prog X.w X.K X.mg X.base CX k f fd ps sp)(hr:Room k X.A)(hb:Binds X.K fd ps ds)(hd:Vals dvs ds)(hx:kE CX X E)
  (I:Inv X pins σ H s) (r:Vals vs us) (h:sp (vs++dvs) H Q E):wpAny (model X.prog X.w) X.A (call (.ref f) us) (EP X pins σ Q) X.xe s:=by
 have r2:Vals (vs++dvs) (us++ds):=r.append hd
 have hl:(us++ds).length=ps.length:=by rw[← r2.length];exact F.len _ _ _ _ h
 refine wpAny_call (codeAny_mono (F.run X.A X.stack s H ⟨us,[]⟩ (us++ds) (vs++dvs) Q E hr I.env0 (hb s us I.kIn hl) r2 h) fun r s' hq=>?_)
 cases r with
 | error e=>exact hx pins σ H s e s' I hq
 | ok fl =>
  cases fl with
  | ret u=>exact I.after hq
  | next=>exact False.elim hq
  | brk=>exact False.elim hq
  | cont=>exact False.elim hq
theorem D7(F:FnOk X.prog X.w X.K X.mg X.base CX k f fd ps sp)(hr:Room k X.A)(hg:Gl X x)(hm:X.mg x=some (.ref f))(hk:PySem.W.keepIn X.K (.ref f)=true)(hb:Binds X.K fd ps ds)(hd:Vals dvs ds)(hx:kE CX X E)
  (ha:PA X (e::es) t) (hdb:(x == ("__debug__":Str))=false:=by decide) (he:starEach (e::es) X.env=(false,eval e X.env)::starEach es X.env:=by rfl) (hpl:(backTo pos (starEach es X.env)).any (·.1)=false:=by rfl) :
  PE X (.Call (.Name x p) (e::es) [] pos) (Fz sp dvs E t):=by
 intro pins s σ H Q I h
 refine wpAny_Call_Name_kw (tN I hg hm ?_ hdb)
 refine PySem.W.callWith_K (h₀:=X.base) I.ok.mod.kin hk (bS (ha pos pins s σ H _ I h) fun us s1 ⟨vs,H1,I1,r,q⟩=>⟨I1.kIn,?_⟩) he hpl
 exact qE F hr hb hd hx I1 r q
theorem dE{pl:Sem Bool}(he:PE X o ta)(c:Cls X.K C)(hm:Meth X.K C m f)(F:FnOk X.prog X.w X.K X.mg X.base CX k f fd ps sp)(hr:Room k X.A)(hb:Binds X.K fd ps ds)(hd:Vals dvs ds)(hx:kE CX X E)(ha:PA X (e::es) t)
  (hst:starEach (e::es) X.env=(false,eval e X.env)::starEach es X.env:=by rfl) (hpl:(backTo pos (starEach es X.env)).any (·.1)=false:=by rfl)
  (ht:eval (.Call (.Attribute o m apos) (e::es) [] pos) X.env=(do
   let ov ← eval o X.env
   standAt apos.atName
   let (f,first) ← holding [ov] (getMethod ov m pl)
   callWith pos f first (backTo pos (starEach (e::es) X.env)) (backToKw pos (keywordEach [] X.env))):=by rfl) :
  PE X (.Call (.Attribute o m apos) (e::es) [] pos) (Fr C m sp dvs E ta t):=by
 intro pins s σ H Q I h
 refine PySem.W.methodCall_KW (pl:=pl) (bS (he pins s σ H _ I h) fun u s1 ⟨x,H1,I1,rx,a,dx,fs,ex,ea,l,q⟩=>?_) ht
 subst ex
 obtain rfl:u=Value.ref a:=rx
 refine kO I1 ea c hm l ?_
 refine PySem.W.callWith_K (first:=[.ref a]) (h₀:=X.base) I.ok.mod.kin hm.kp (bS (ha pos pins s1 σ H1 _ I1 q) fun us s2 ⟨vs,H2,I2,r,q2⟩=>⟨I2.kIn,?_⟩) hst hpl
 exact qE (us:=.ref a::us) (vs:=.ref a::vs) F hr hb hd hx I2 (.cons rfl r) q2
theorem pI{pl:Sem Bool}(he:PE X o ta)(c:Cls X.K C)(hm:Meth X.K C m f)(F:FnOk X.prog X.w X.K X.mg X.base CX k f fd ps sp)(hr:Room k X.A)(hb:Binds X.K fd ps ds)(hd:Vals dvs ds)(hx:kE CX X E)
  (ht:eval (.Call (.Attribute o m apos) [] [] pos) X.env=(do
   let ov ← eval o X.env
   standAt apos.atName
   let (f,first) ← holding [ov] (getMethod ov m pl)
   callWith pos f first (backTo pos (starEach [] X.env)) (backToKw pos (keywordEach [] X.env))):=by rfl) :
  PE X (.Call (.Attribute o m apos) [] [] pos) (Fr C m sp dvs E ta DH):=by
 intro pins s σ H Q I h
 refine PySem.W.methodCall_KW (pl:=pl) (bS (he pins s σ H _ I h) fun u s1 ⟨x,H1,I1,rx,a,dx,fs,ex,ea,l,q⟩=>?_) ht
 subst ex
 obtain rfl:u=Value.ref a:=rx
 refine kO I1 ea c hm l ?_
 exact PySem.W.callWith_K0 (first:=[.ref a]) I1.kIn hm.kp (qE (us:=[.ref a]) (vs:=[.ref a]) F hr hb hd hx I1 (.cons rfl .nil) q)
structure Mk(K:PySem.W.Frag)(C f:Addr):Prop where
 makes:PySem.W.makesIn K C=true
 init:PySem.W.findIn K (.ref C) "__init__"=some (some (.ref f))
 fn:PySem.W.isFn K (.ref f)=true
 kp:PySem.W.keepIn K (.ref C)=true
theorem Du{pins:List (Addr×Obj)}{σ:St}{H:Hp}{s:Shared}{Q:VK}{us:List Value}{vs:List V}(M:Mk X.K C f)(F:FnOk X.prog X.w X.K X.mg X.base CX k f fd ps sp)(hr:Room (k+1) X.A)(hb:Binds X.K fd ps ds)(hd:Vals dvs ds)
  (hx:kE CX X E) (I:Inv X pins σ H s) (r:Vals vs us)
  (h:∀ x dx,H x=none→H dx=none→dx≠x→sp (.ref x::(vs++dvs)) (upd (upd H dx (.own x)) x (.ins C dx [])) (fun v H2=>v=.non∧Q (.ref x) H2) E) :
  wpAny (model X.prog X.w) X.A (call (.ref C) us) (EP X pins σ Q) X.xe s:=by
 have hq:=h (s.heap.objs.size+1) s.heap.objs.size (I.hok.fresh (Nat.le_succ _)) (I.hok.fresh (Nat.le_refl _)) (Nat.ne_of_lt (Nat.lt_succ_self _))
 have I2:=Inv.made (C:=C) I
 have r2:Vals (V.ref (s.heap.objs.size+1)::(vs++dvs)) (Value.ref (s.heap.objs.size+1)::(us++ds)):=.cons rfl (r.append hd)
 have hl:(Value.ref (s.heap.objs.size+1)::us++ds).length=ps.length:=by
  have e:=r2.length
  rw[F.len _ _ _ _ hq] at e
  exact e.symm
 refine wpAny_call (DG (f:=f) I.kIn M.makes M.init (beq_iff_eq.mp M.fn) (codeAny_mono (F.run _ X.stack _ _ ⟨Value.ref (s.heap.objs.size+1)::us,[]⟩ (Value.ref (s.heap.objs.size+1)::(us++ds)) _ _ E (hr.make C us [])
  (I2.env0.make C us []) (hb _ (Value.ref (s.heap.objs.size+1)::us) I2.kIn hl) r2 hq) fun r s' hq'=>?_))
 cases r with
 | error e=>exact hx pins σ _ _ e s' I2 hq'
 | ok fl =>
  cases fl with
  | ret u =>
   obtain⟨v,H',I3,rv,ev,q3⟩:=I2.after hq'
   subst ev
   exact⟨rv,⟨V.ref (s.heap.objs.size+1),H',I3,rfl,q3⟩⟩
  | next=>exact False.elim hq'
  | brk=>exact False.elim hq'
  | cont=>exact False.elim hq'
theorem uR(M:Mk X.K C f)(F:FnOk X.prog X.w X.K X.mg X.base CX k f fd ps sp)(hr:Room (k+1) X.A)(hg:Gl X x)(hm:X.mg x=some (.ref C))(hb:Binds X.K fd ps ds)(hd:Vals dvs ds)(hx:kE CX X E)
  (hdb:(x == ("__debug__":Str))=false:=by decide):PE X (.Call (.Name x p) [] [] pos) (Jj C sp dvs E DH):=by
 intro pins s σ H Q I h
 refine wpAny_Call_Name_kw (tN I hg hm ?_ hdb)
 exact PySem.W.callWith_K0 I.kIn M.kp (Du (us:=[]) M F hr hb hd hx I .nil h)
end
def PK(X:Cx)(kws:List Keyword)(t:TA):Prop :=
 ∀ (pos:Pos) (pins:List (Addr×Obj)) (s:Shared) (σ:St) (H:Hp) (Q:List V→Hp→Prop),Inv X pins σ H s→t σ H Q→wpAny (model X.prog X.w) X.A (evalAll ((backToKw pos (keywordEach kws X.env)).map (·.2))) (AP X pins σ Q) X.xe s
section
variable {X:Cx}{CX:A5}{k:Nat}{f C:Addr}{fd:FuncData}{ps ks:List Str}{sp:Sp}{E:XK}{x m:Str}{p pos apos kpos:Pos}{e o:Expr}{es:List Expr}{kws:List Keyword}{te ta:TE}{t tk:TA}{nm:Option Str}
theorem FO:PK X [] DH:=fun _ _ _ _ H Q I h=>wpAny_evalAll_nil ⟨[],H,I,.nil,h⟩
theorem Fd(ha:PE X e te)(hr:PK X kws t):PK X (⟨nm,e,kpos⟩::kws) (Dx te t):=by
 intro pos pins s σ H Q I h
 show wpAny _ _ (evalAll ((do let v ← eval e X.env;standAt pos;pure v)::(backToKw pos (keywordEach kws X.env)).map (·.2))) _ _ s
 refine wpAny_evalAll_cons (wpAny_bind (bS (ha pins s σ H _ I h) fun u s1 ⟨x,H1,I1,r1,q1⟩=>wpAny_bind (wpAny_standAt (wpAny_pure ?_))))
 exact bS (hr pos pins s1 σ H1 _ I1 q1) fun us s2 ⟨xs,H2,I2,r2,q2⟩=>⟨x::xs,H2,I2,.cons r1 r2,q2⟩
variable {g:List Value→List Value→List Value}{gV:List V→List V→List V}
end
structure FnScope(N P:List Str)(sc:Scope):Prop where
 kind:sc.kind=.function
 co:sc.isCoroutine=false
 gen:sc.isGenerator=false
 nd:N.Nodup
 pre:N.take P.length=P
 par:∀ x∈P,sc.names.lookup x=some .local∨sc.names.lookup x=some .cell
 nofree:∀ y∈sc.names,y.2≠.free
theorem rX{kindOf:Str→Option NameKind}{x:Str}:∀ {binds:List (Str×Value)} {m:Str→Option Value},(∀ v,(x,v) ∉ binds)→bindL kindOf binds m x=m x
 | [],_,_=>rfl
 | (n,v)::r,m,h=>by
  unfold bindL
  rw[rX fun w hw=>h w (List.mem_cons_of_mem _ hw)]
  split
  ·have:x≠n:=by rintro rfl;exact h v List.mem_cons_self
   simp[this]
  ·rfl
theorem rB{kindOf:Str→Option NameKind}{x:Str}:∀ {binds:List (Str×Value)} {m:Str→Option Value},(∀ v,(x,v) ∉ binds)→bindC kindOf binds m x=m x
 | [],_,_=>rfl
 | (n,v)::r,m,h=>by
  unfold bindC
  rw[rB fun w hw=>h w (List.mem_cons_of_mem _ hw)]
  split
  ·rfl
  ·have:x≠n:=by rintro rfl;exact h v List.mem_cons_self
   simp[this]
theorem sP{kindOf:Str→Option NameKind}{x:Str}{v:Value}:∀ {P:List Str} {vs:List Value} {i:Nat} {m:Str→Option Value},P.Nodup→P[i]?=some x→vs[i]?=some v→kindOf x=some .local →
  bindL kindOf (P.zip vs) m x=some v
 | [],_,_,_,_,h,_,_=>by simp at h
 | _::_,[],_,_,_,_,h,_=>by simp at h
 | p::P,w::vs,0,m,nd,h1,h2,hk=>by
  simp at h1 h2;subst h1;subst h2
  show bindL kindOf ((p,w)::P.zip vs) m p=_
  unfold bindL
  rw[rX fun v hv=>(List.nodup_cons.mp nd).1 (List.of_mem_zip hv).1,if_pos hk]
  simp
 | p::P,w::vs,i+1,m,nd,h1,h2,hk=>by
  show bindL kindOf ((p,w)::P.zip vs) m x=_
  unfold bindL
  exact sP (i:=i) (List.nodup_cons.mp nd).2 (by simpa using h1) (by simpa using h2) hk
theorem rN{kindOf:Str→Option NameKind}{x:Str}{v:Value}:∀ {P:List Str} {vs:List Value} {i:Nat} {m:Str→Option Value},P.Nodup→P[i]?=some x→vs[i]?=some v→kindOf x≠some .local →
  bindC kindOf (P.zip vs) m x=some v
 | [],_,_,_,_,h,_,_=>by simp at h
 | _::_,[],_,_,_,_,h,_=>by simp at h
 | p::P,w::vs,0,m,nd,h1,h2,hk=>by
  simp at h1 h2;subst h1;subst h2
  show bindC kindOf ((p,w)::P.zip vs) m p=_
  unfold bindC
  rw[rB fun v hv=>(List.nodup_cons.mp nd).1 (List.of_mem_zip hv).1,if_neg hk]
  simp
 | p::P,w::vs,i+1,m,nd,h1,h2,hk=>by
  show bindC kindOf ((p,w)::P.zip vs) m x=_
  unfold bindC
  exact rN (i:=i) (List.nodup_cons.mp nd).2 (by simpa using h1) (by simpa using h2) hk
def nI(N:List Str)(vs:List V):St:=vs.map some++List.replicate (N.length - vs.length) none
def AH(CX:A5)(P:Program)(w:World)(K:PySem.W.Frag)(mg:Str→Option Value)(base:Heap)(N:List Str)(qual:Str)(scope:Scope)(f:Addr)(cd:Value)(A:Around)(outer:List Env)(s:Shared)(H:Hp)(E:XK):Cx where
 prog:=P
 w:=w
 K:=K
 mg:=mg
 base:=base
 A:=A.deeper (envOfC qual scope s.heap.objs.size f cd)
 N:=N
 s₀:=s
 H₀:=H
 env:=envOfC qual scope s.heap.objs.size f cd
 outer:=outer
 stack:=envOfC qual scope s.heap.objs.size f cd::outer
 ex:=[]
 calm:=true
 fn:=fun _=>true
 pn:=[]
 xe:=fun e s'=>wpAny (model P w) (A.deeper (envOfC qual scope s.heap.objs.size f cd)) (leaving (envOfC qual scope s.heap.objs.size f cd) e) (fun _ s''=>CX outer H s E e s'') (fun e' s''=>CX outer H s E e' s'') s'
theorem vG{sc:Scope}{n:Nat}{x:Str}(h:sc.names.lookup x=some .cell):∃ c,(cellsFrom n sc.names []).lookup x=some c:=by
 have q:=PySem.W.cellsFrom_some sc.names n [] (.inl h)
 exact Option.isSome_iff_exists.mp q
theorem Bd{CX:A5}{P:Program}{w:World}{K:PySem.W.Frag}{mg:Str→Option Value}{base:Heap}{N ps:List Str}{qual:Str}{scope:Scope}{f:Addr}{cd:Value}{A:Around}{outer:List Env}{s s1:Shared}{H:Hp}{E:XK}{us:List Value}{vs:List V}
  (S:FnScope N ps scope) (hd:A.handled=none) (e0:Env0 P w K mg base A outer s H) (hl:vs.length=ps.length) (r:Vals vs us)
  (x:InCallC s s.heap.objs.size (bindL (envOfC qual scope s.heap.objs.size f cd).kindOf (ps.zip us) fun _=>none) (cellsFrom (s.heap.objs.size+1) scope.names []) (bindC (envOfC qual scope s.heap.objs.size f cd).kindOf (ps.zip us) fun _=>none) s1) :
  Inv (AH CX P w K mg base N qual scope f cd A outer s H E) [] (nI N vs) H s1:=by
 have hpl:ps.length≤N.length:=by have:=congrArg List.length S.pre;rw[List.length_take] at this;omega
 obtain⟨h1,tk,rfl,hk⟩:=x.done
 have noA:∀ b:Addr,b ∉ (AH CX P w K mg base N qual scope f cd A outer s H E).ex:=fun b z=>absurd (show b∈([]:List Addr) from z) (by simp)
 refine⟨⟨e0.mod,S.kind,rfl,rfl,Nat.le_refl _,fun y z c h1 h2=>?_,fun y hy=>?_,fun y c _ h=>?_,fun _=>hd,Around.frames_deeper e0.frames,.inr ⟨rfl,rfl⟩,fun b z=>absurd z (noA b),e0.bs,e0.bsz,fun b _ _=>noA b,fun b z=>absurd z (noA b),e0.funs,e0.frf⟩,
  rfl,e0.bare,Un.kept hk,⟨_,x.toInCall.ns,fun i y v h1 h2 h3=>?_⟩,fun y c h=>⟨_,x.cell y c h⟩,e0.hok.fresh (Nat.le_refl _),fun y c h=>?_,fun p hp=>absurd (show p∈([]:List (Addr×Obj)) from hp) (by simp),e0.hok.kept hk,?_⟩
 ·exact name_of_addr x.apart (PySem.mem_of_lookup h1) (PySem.mem_of_lookup h2)
 ·have hy:scope.names.lookup y=some .cell∨scope.names.lookup y=some .free:=hy
  rcases hy with hy | hy
  ·exact vG hy
  ·exact absurd rfl (S.nofree _ (PySem.mem_of_lookup hy))
 ·exact Nat.le_of_lt (x.above y c (PySem.mem_of_lookup h))
 ·have hi:i<vs.length:=by
   unfold nI at h2
   by_cases hi:i<vs.length
   ·exact hi
   ·rw[List.getElem?_append_right (by simpa using hi)] at h2
    rw[List.getElem?_replicate] at h2
    split at h2 <;> cases h2
  have ha:vs[i]?=some v:=by
   unfold nI at h2
   rw[List.getElem?_append_left (by simpa using hi),List.getElem?_map] at h2
   cases e:vs[i]? with
   | none=>rw[e] at h2;cases h2
   | some a=>rw[e] at h2;cases h2;rfl
  obtain⟨u,hu,rv⟩:=r.get ha
  have hp:ps[i]?=some y:=by
   rw[← S.pre,List.getElem?_take_of_lt (by omega)];exact h1
  have ndP:ps.Nodup:=by rw[← S.pre];exact S.nd.sublist (List.take_sublist _ _)
  refine⟨u,rv,?_⟩
  rcases S.par y (List.mem_of_getElem? hp) with k | k
  ·exact .inl ⟨k,sP ndP hp hu k⟩
  ·obtain⟨c,e⟩:=vG (n:=s.heap.objs.size+1) k
   refine .inr ⟨.inl k,c,e,?_⟩
   have q:=x.cell y c e
   rw[rN ndP hp hu (by show scope.names.lookup y≠_;rw[k];decide)] at q
   exact q
 ·exact e0.hok.fresh (Nat.le_of_lt (x.above y c (PySem.mem_of_lookup h)))
 ·unfold nI
  show _=N.length
  rw[List.length_append,List.length_map,List.length_replicate]
  omega
theorem JQ{CX:A5}{P:Program}{w:World}{K:PySem.W.Frag}{mg:Str→Option Value}{base:Heap}{k:Nat}{f:Addr}{name qual:Str}{params:Arguments}{body:List Stmt}{scope:Scope}{dV kV doc pm cdv ct oc:Value}{an od:Option Addr}
  {osl:Array (Option Value)} {N ps:List Str} {sp:Sp} (lk:K.lookup f=some ⟨oc,od,.func (PySem.W.fnOf name qual params body scope dV kV doc pm an cdv ct),osl⟩) (hcd:PySem.W.codeIn K cdv qual=true) (S:FnScope N ps scope)
  (len:∀ vs H Q E,sp vs H Q E→vs.length=ps.length)
  (hbody:∀ (A:Around) (outer:List Env) (s:Shared) (H:Hp) (vs:List V) (Q:VK) (E:XK),Room k (A.deeper (envOfC qual scope s.heap.objs.size f cdv))→sp vs H Q E →
   ∃ t,PSs (AH CX P w K mg base N qual scope f cdv A outer s H E) body t∧t { nx:=fun _ H'=>Q .non H',rt:=Q } (nI N vs) H) :
  FnOk P w K mg base CX (k+1) f (PySem.W.fnOf name qual params body scope dV kV doc pm an cdv ct) ps sp:=by
 refine⟨len,fun A outer s H args us vs Q E hr e0 hb r hsp=>?_⟩
 have hl:=len _ _ _ _ hsp
 have KX:K.In s.heap:=e0.mod.kin.keeps fun b o e=>(e0.bs b o e).1
 have lim:s.heap.NoLimit:=e0.mod.nolimit.keeps fun b o e=>(e0.bs b o e).1
 have hkind:∀ y∈ps.zip us,scope.names.lookup y.1=some .local∨(scope.names.lookup y.1=some .cell∧((cellsFrom (s.heap.objs.size+1) scope.names []).lookup y.1).isSome=true):=fun ⟨n,v⟩ hy=>by
  rcases S.par n (List.of_mem_zip hy).1 with q | q
  ·exact .inl q
  ·exact .inr ⟨q,PySem.W.cellsFrom_some _ _ _ (.inl q)⟩
 refine codeAny_call_function hr.depth (KX _ _ lk) rfl S.co S.gen rfl (PySem.W.codeRec_of KX hcd) (hb _ _ _ _ ?_)
 refine wpAny_newFunctionEnv_cells S.kind hkind fun env he s1 x=>?_
 subst he
 refine⟨lim.keeps x.toInCall.keep,codeAny_func ?_⟩
 obtain⟨t,ht,hq⟩:=hbody A outer s H vs Q E (hr.deeper _) hsp
 have I:Inv (AH CX P w K mg base N qual scope f cdv A outer s H E) [] (nI N vs) H s1:=Bd S hr.hd e0 hl r x
 refine wpAny_mono (ht [] s1 (nI N vs) H _ I hq) (fun fl s' hs=>?_) fun e s' hs=>hs
 have fin:∀ {σ':St} {H':Hp} {v:V} {u:Value},Inv (AH CX P w K mg base N qual scope f cdv A outer s H E) [] σ' H' s'→RelV v u→Q v H'→CE outer P w H s Q u s' :=
  fun {σ' H' v u} J rv q=>⟨v,H',J.os,J.bare,J.base,J.hok,rv,q⟩
 cases fl with
 | ret u =>
  obtain⟨v,σ',H',J,rv,q⟩:=hs
  exact fin J rv q
 | next =>
  obtain⟨σ',H',J,q⟩:=hs
  exact fin (v:=V.non) (u:=Value.none) J rfl q
 | brk =>
  obtain⟨_,_,_,q⟩:=hs
  exact False.elim q
 | cont =>
  obtain⟨_,_,_,q⟩:=hs
  exact False.elim q
section
variable {X:Cx}{x:Str}{p pos:Pos}{e:Expr}{es:List Expr}{t:TA}{id T:String}{r:List V→Hp→VK→Prop}
def Lg(r:List V→Hp→VK→Prop)(t:TA):TE:=fun σ H Q=>t σ H fun vs H1=>r vs H1 Q
theorem aO(hc:eS X (.builtin id) r)(hg:Gl X x)(hm:X.mg x=none)(hv:bootBuiltins x=some (.builtin id))(ha:PA X (e::es) t)(hn:x≠"__name__":=by decide)(hdb:(x == ("__debug__":Str))=false:=by decide)
  (he:starEach (e::es) X.env=(false,eval e X.env)::starEach es X.env:=by rfl) (hpl:(backTo pos (starEach es X.env)).any (·.1)=false:=by rfl):PE X (.Call (.Name x p) (e::es) [] pos) (Lg r t):=by
 intro pins s σ H Q I h
 refine wpAny_Call_Name_kw (gE I hg hm hv ?_ hn hdb)
 exact PyProof.Rows.callWith_builtin1 (bS (ha pos pins s σ H _ I h) fun us s1 ⟨vs,H1,I1,r1,q1⟩=>hc pins s1 σ H1 vs us Q I1 r1 q1) he hpl
theorem bG(hc:eS X (.type T) r)(hg:Gl X x)(hm:X.mg x=none)(hv:bootBuiltins x=some (.type T))(ha:PA X (e::es) t)(hn:x≠"__name__":=by decide)(hdb:(x == ("__debug__":Str))=false:=by decide)
  (he:starEach (e::es) X.env=(false,eval e X.env)::starEach es X.env:=by rfl) (hpl:(backTo pos (starEach es X.env)).any (·.1)=false:=by rfl):PE X (.Call (.Name x p) (e::es) [] pos) (Lg r t):=by
 intro pins s σ H Q I h
 refine wpAny_Call_Name_kw (gE I hg hm hv ?_ hn hdb)
 exact PyProof.Rows.callWith_type1 (bS (ha pos pins s σ H _ I h) fun us s1 ⟨vs,H1,I1,r1,q1⟩=>hc pins s1 σ H1 vs us Q I1 r1 q1) he hpl
end
end L2
namespace HT
open PySem PyProof.Rows
def lexLt:List Int→List Int→Bool
 | [],[]=>false
 | [],_::_=>true
 | _::_,[]=>false
 | x::xs,y::ys=>if x=y then lexLt xs ys else decide (x<y)
theorem lexLt_cons(x y:Int)(xs ys:List Int):lexLt (x::xs) (y::ys)=if x=y then lexLt xs ys else decide (x<y):=rfl
theorem Cg(A:Around)(s:Shared)(a:Int)(t:Tok)(c:Int)(u:Tok)(prog:Program)(w:World)(E:Value→Shared→Prop)(Q:Value→Shared→Prop)(h:Q (.bool (decide (a<c))) s) :
  wpAny (model prog w) A (richCompare .Lt (.int a t) (.int c u)) Q E s :=
 (PyProof.Rows.lt_int h:wpAny (model prog w) A (compareOp .Lt (.int a t) (.int c u)) Q E s)
section
open PySem.SeqAt
open PySem.AutoSeq1 (wpAny_loadPart')
open PySem.MeetsSeq PySem.MeetsSeq2 PySem.MeetsSeq3
end
section
variable {prog:Program}{w:World}{A:Around}{E:Value→Shared→Prop}{s:Shared}
theorem cat_tup{t b:Addr}{vs ws:List Value}{Q:Value→Shared→Prop}(ht:IsTup s.heap t vs.toArray)(hb:IsTup s.heap b ws.toArray)(hv:vs≠[])
  (h1:ws=[]→Q (.ref t) s) (h2:ws≠[]→Q (.ref s.heap.objs.size) { s with heap:=s.heap.push { cls:=.type "tuple",data:=.seq (vs++ws).toArray } })
  (hsz:vs.length+ws.length≤sizeLine):wpAny (model prog w) A (binaryOp .Add (.ref t) (.ref b)) Q E s:=by
 obtain⟨⟨cls,dd,data,sl⟩,ho,hc,n,hd⟩:=id ht
 obtain⟨⟨cls2,dd2,data2,sl2⟩,ho2,hc2,n2,hd2⟩:=id hb
 simp only at hc hd hc2 hd2
 subst hc hd hc2 hd2
 have e:vs.toArray++ws.toArray=(vs++ws).toArray:=by simp
 by_cases hw:ws=[]
 ·exact concat_meets ⟨_,ho,rfl⟩ ⟨_,ho2,rfl⟩ noFill_tuple_add seq_tuple_add PySem.F.slot_tuple_add PySem.F.entry_tuple_add (PySem.F.args_tuple_add_2 _ _)
   (tuple_addW1 t b vs.toArray ws.toArray n n2 dd dd2 sl sl2 (by simpa using hv) (by simp[hw])) ⟨ho,ho2,h1 hw⟩
 ·refine concat_meets ⟨_,ho,rfl⟩ ⟨_,ho2,rfl⟩ noFill_tuple_add seq_tuple_add PySem.F.slot_tuple_add PySem.F.entry_tuple_add (PySem.F.args_tuple_add_2 _ _)
   (tuple_addW2 t b vs.toArray ws.toArray n n2 dd dd2 sl sl2 (by simpa using hv) (by simpa using hw) (by rw[List.size_toArray,List.size_toArray];exact hsz)) ⟨ho,ho2,?_⟩
  rw[e]
  exact h2 hw
def sIx(n d:Nat):Option Int→Nat
 | none=>d
 | some v=>if v<0 then (v+(n:Int)).toNat else min v.toNat n
theorem HN(n d:Nat)(hd:d≤n)(o:Option Int):sIx n d o≤n:=by
 cases o with
 | none=>exact hd
 | some v =>
  show (if v<0 then (v+(n:Int)).toNat else min v.toNat n)≤n
  by_cases hv:v<0
  ·rw[if_pos hv];omega
  ·rw[if_neg hv];exact Nat.min_le_right _ _
theorem Ab(v:Int)(n d:Nat):(if v<0 then max (v+(n:Int)) 0 else min v (n:Int))=((sIx n d (some v):Nat):Int):=by
 show (if v<0 then max (v+(n:Int)) 0 else min v (n:Int))=(((if v<0 then (v+(n:Int)).toNat else min v.toNat n):Nat):Int)
 by_cases hv:v<0
 ·simp only [if_pos hv];omega
 ·simp only [if_neg hv];omega
theorem xI(lo hi:Option Int)(n:Nat):Builtin.Slice.sliceAdjust lo hi 1 (n:Int)=(((sIx n 0 lo:Nat):Int),((sIx n n hi:Nat):Int)):=by
 have h1:¬ ((1:Int)<0):=by omega
 unfold Builtin.Slice.sliceAdjust
 simp only [h1,if_false]
 refine Prod.ext ?_ ?_
 ·cases lo with
  | none=>rfl
  | some v=>exact Ab v n 0
 ·cases hi with
  | none=>rfl
  | some v=>exact Ab v n n
theorem yE(i j:Nat):Builtin.Slice.slicePlaces (i:Int) (j:Int) 1=j - i:=by
 unfold Builtin.Slice.slicePlaces
 have h1:(1:Int) > 0:=by omega
 simp only [h1,if_true,Int.ediv_one]
 split <;> omega
theorem slicePart_{v:Value}{o:Option Int}{Q:Option Int→Shared→Prop}(p:IsPart v o)(h:Q o s):wpAny (model prog w) A (Builtin.Slice.slicePartIndex v) Q E s:=by
 cases p with
 | none=>exact slicePart_none h
 | int i t=>exact slicePart_int h
theorem sliceApplied_gen{sl:Addr}{vl vu:Value}{lo hi:Option Int}{n:Nat}{Q:Int×Int×Nat→Shared→Prop}(hs:s.heap.IsSliceOf sl vl vu .none)(pl:IsPart vl lo)(pu:IsPart vu hi)
  (h:Q (((sIx n 0 lo:Nat):Int),1,sIx n n hi - sIx n 0 lo) s):wpAny (model prog w) A (Builtin.Slice.sliceApplied (.ref sl) (pure (n:Int))) Q E s:=by
 obtain⟨os,hos,hcs,hds⟩:=id hs
 unfold Builtin.Slice.sliceApplied Builtin.Slice.sliceFields
 refine wpAny_bind (wpAny_bind (wpAny_field hos hds (x:=vl) rfl (wpAny_bind (wpAny_field hos hds (x:=vu) rfl (wpAny_bind (wpAny_field hos hds (x:=.none) rfl (wpAny_pure ?_)))))))
 refine wpAny_bind (slicePart_none ?_)
 show wpAny _ _ (if ((1:Int) == 0)=true then _ else _) _ _ s
 rw[if_neg (by decide)]
 refine wpAny_bind (slicePart_ pl (wpAny_bind (slicePart_ pu (wpAny_bind (wpAny_pure ?_)))))
 show wpAny _ _ (match Builtin.Slice.sliceAdjust lo hi 1 (n:Int) with | (lo,hi)=>pure (lo,(1:Int),Builtin.Slice.slicePlaces lo hi 1)) _ _ s
 rw[xI lo hi n]
 show wpAny _ _ (pure (((sIx n 0 lo:Nat):Int),(1:Int),Builtin.Slice.slicePlaces ((sIx n 0 lo:Nat):Int) ((sIx n n hi:Nat):Int) 1)) _ _ s
 rw[yE]
 exact wpAny_pure h
theorem BY(xs:Array Value)(i k:Nat):((List.range k).filterMap fun (m:Nat)=>xs[((i:Int)+(m:Int) * 1).toNat]?).toArray=((xs.toList.drop i).take k).toArray:=by
 have e:(fun (m:Nat)=>xs[((i:Int)+(m:Int) * 1).toNat]?)=fun m=>xs[i+m]?:=by
  funext m
  have:((i:Int)+(m:Int) * 1).toNat=i+m:=by omega
  rw[this]
 rw[e]
 have:=pick_run xs i k
 rw[List.filterMap_map] at this
 have e2:((fun x=>xs[x]?) ∘ fun x=>i+x)=fun m=>xs[i+m]?:=rfl
 rw[e2] at this
 rw[this]
theorem getItem_tuple_cut{t sl:Addr}{items:Array Value}{vl vu:Value}{lo hi:Option Int}{Q:Value→Shared→Prop}(ht:IsTup s.heap t items)(hs:s.heap.IsSliceOf sl vl vu .none)(pl:IsPart vl lo)(pu:IsPart vu hi)
  (hw:¬ (sIx items.size 0 lo=0∧sIx items.size items.size hi=items.size))
  (h:Q (.ref s.heap.objs.size) { s with heap:=s.heap.push { cls:=.type "tuple",data:=.seq ((items.toList.drop (sIx items.size 0 lo)).take (sIx items.size items.size hi - sIx items.size 0 lo)).toArray } })
  (hsz:items.size≤sizeLine):wpAny (model prog w) A (getItem (.ref t) (.ref sl)) Q E s:=by
 have htake:sizeOk (.seq ((items.toList.drop (sIx items.size 0 lo)).take (sIx items.size items.size hi - sIx items.size 0 lo)).toArray):=by
  show ((items.toList.drop (sIx items.size 0 lo)).take (sIx items.size items.size hi - sIx items.size 0 lo)).toArray.size≤sizeLine
  rw[List.size_toArray,List.length_take,List.length_drop,Array.length_toList]
  omega
 have hj:sIx items.size items.size hi≤items.size:=HN _ _ (Nat.le_refl _) hi
 obtain⟨os,hos,hcs,hds⟩:=id hs
 have hTs:s.TypeIs (.ref sl) "slice":=⟨os,hos,hcs⟩
 unfold getItem
 try with_reducible refine wpAny_holding ?_
 first | refine wpAny_bind (wpAny_pure ?_) | skip
 refine wpAny_bind (wpAny_sequenceKey ht.typeIs (by decide) ?_)
 refine wpAny_bind (wpAny_callSpecial?_slot (name:=Str.ofString "__getitem__") ht.typeIs PyProof.Rows.slot_tuple_getitem
  (wpAny_call_entry PyProof.Rows.slot_tuple_getitem ht.typeIs entry_tuple_getitem ?_ (args_tuple_getitem _ _)))
 show wpAny _ _ (Builtin.Tuple.tupleItemsOf (.ref t) >>= _) _ _ s
 refine wpAny_bind (tupleItemsOf_ ht ?_)
 refine wpAny_bind (wpAny_typeOf hTs ?_)
 rw[if_pos (by decide)]
 refine wpAny_bind (sliceApplied_gen hs pl pu ?_)
 have hno:¬ ((((sIx items.size 0 lo:Nat):Int) == 0 && (1:Int) == 1 && (sIx items.size items.size hi - sIx items.size 0 lo) == items.size)=true):=by
  intro q
  rw[Bool.and_eq_true,Bool.and_eq_true] at q
  have q1:((sIx items.size 0 lo:Nat):Int)=0:=eq_of_beq q.1.1
  have q2:sIx items.size items.size hi - sIx items.size 0 lo=items.size:=eq_of_beq q.2
  exact hw ⟨by omega,by omega⟩
 show wpAny _ _ (if (((sIx items.size 0 lo:Nat):Int) == 0 && (1:Int) == 1 && (sIx items.size items.size hi - sIx items.size 0 lo) == items.size)=true then _ else _) _ _ s
 rw[if_neg hno,BY]
 first
  | exact wpAny_bind (m:=Builtin.Tuple.tupleExact _) (wpAny_newObj_type (wpAny_pure ⟨_,rfl,wpAny_pure h⟩) htake)
  | exact wpAny_bind (m:=Builtin.Tuple.tupleExact _) (wpAny_newObj_type (wpAny_bind (wpAny_pure (wpAny_pure ⟨_,rfl,wpAny_pure h⟩))) htake)
  | exact wpAny_bind (wpAny_bind (m:=Builtin.Tuple.tupleExact _) (wpAny_newObj_type (wpAny_pure (wpAny_pure ⟨_,rfl,wpAny_pure h⟩)) htake))
  | exact wpAny_bind (wpAny_bind (m:=Builtin.Tuple.tupleExact _) (wpAny_newObj_type (wpAny_pure ⟨_,rfl,wpAny_pure h⟩) htake))
end
end HT
namespace L2
open PySem PySem.Spec PyProof.Rows
abbrev TO:=St→Hp→(Option Int→Hp→Prop)→Prop
def PO(X:Cx)(e:Option Expr)(t:TO):Prop :=
 ∀ (pins:List (Addr×Obj)) (s:Shared) (σ:St) (H:Hp) (Q:Option Int→Hp→Prop),Inv X pins σ H s→t σ H Q →
  wpAny (model X.prog X.w) X.A (evalPart e X.env) (fun u s'=>∃ o H',Inv X pins σ H' s'∧IsPart u o∧Q o H') X.xe s
def EG:TO:=fun _ H Q=>Q none H
def IN(t:TE):TO:=fun σ H Q=>t σ H fun x H1=>∃ i,x=.int i∧Q (some i) H1
theorem qA{ns:List Int}:∀ {us:List Value},Vals (ns.map V.int) us→IntsAre us ns:=by
 induction ns with
 | nil=>intro us r;rw[List.map_nil] at r;cases r;exact .nil
 | cons n ns ih =>
  intro us r
  rw[List.map_cons] at r
  cases r with
  | cons r1 r2 =>
   obtain⟨t,e⟩:=r1
   subst e
   exact .cons n t (ih r2)
section
variable {X:Cx}{e:Expr}{te:TE}{lo hi:Option Expr}{tl th:TO}{pos p2:Pos}
theorem cT:PO X none EG:=by
 intro pins s σ H Q I h
 rw[evalPart_none]
 exact wpAny_pure ⟨none,H,I,.none,h⟩
theorem cC(h:PE X e te):PO X (some e) (IN te):=by
 intro pins s σ H Q I hw
 rw[evalPart_some]
 refine bS (h pins s σ H _ I hw) fun u s1 ⟨x,H1,I1,r1,q1⟩=>?_
 obtain⟨i,rfl,q⟩:=q1
 obtain⟨t,rfl⟩:=r1
 exact⟨some i,H1,I1,.int i t,q⟩
def Gn(X:Cx)(r:V→Option Int→Option Int→Hp→VK→Prop):Prop :=
 ∀ (pins:List (Addr×Obj)) (s:Shared) (σ:St) (H:Hp) (x:V) (v vl vu:Value) (lo hi:Option Int) (sl:Addr) (Q:VK),Inv X pins σ H s→RelV x v→s.heap.IsSliceOf sl vl vu .none→IsPart vl lo→IsPart vu hi→r x lo hi H Q →
  ∃ T id,typeLookup (.type T) "__getitem__"=pure (some (.builtin id))∧s.TypeIs v T∧wpAny (model X.prog X.w) X.A (getItem v (.ref sl)) (EP X pins σ Q) X.xe s
def LA(r:V→Option Int→Option Int→Hp→VK→Prop)(te:TE)(tl th:TO):TE:=fun σ H Q=>te σ H fun x H1=>tl σ H1 fun l H2=>th σ H2 fun u H3=>r x l u H3 Q
theorem cG{r:V→Option Int→Option Int→Hp→VK→Prop}(hr:Gn X r)(he:PE X e te)(hl:PO X lo tl)(hu:PO X hi th):PE X (.Subscript e (.Slice lo hi none p2) pos) (LA r te tl th):=by
 intro pins s σ H Q I h
 refine Subscript_ (bS (he pins s σ H _ I h) fun v s1 ⟨x,H1,I1,r1,q1⟩=>?_)
 refine wpAny_Slice (bS (hl pins s1 σ H1 _ I1 q1) fun vl s2 ⟨l,H2,I2,pl,q2⟩=>bS (hu pins s2 σ H2 _ I2 q2) fun vu s3 ⟨u,H3,I3,pu,q3⟩=>?_)
 rw[evalPart_none]
 refine wpAny_pure ?_
 have I4:Inv X pins σ H3 { s3 with heap:=s3.heap.push { cls:=.type "slice",data:=.fields #[vl,vu,.none] } }:=I3.kept (t':=s3.toks) fun b ob q=>Heap.get?_push_of_some _ q
 obtain⟨T,id,hT,ht,hg⟩:=hr pins { s3 with heap:=s3.heap.push { cls:=.type "slice",data:=.fields #[vl,vu,.none] } } σ H3 x v vl vu l u s3.heap.objs.size Q I4 r1 (Heap.IsSliceOf.new ..) pl pu q3
 show wpAny (model X.prog X.w) X.A (subscriptTail e (.Slice lo hi none p2) v (.ref s3.heap.objs.size)) (EP X pins σ Q) X.xe { s3 with heap:=s3.heap.push { cls:=.type "slice",data:=.fields #[vl,vu,.none] } }
 exact tail_any (ops:=[.ref s3.heap.objs.size,v]) ht hT hg (by with_unfolding_all rfl)
def iL(xs:List V)(lo hi:Option Int):List V:=(xs.drop (HT.sIx xs.length 0 lo)).take (HT.sIx xs.length xs.length hi - HT.sIx xs.length 0 lo)
theorem nK(xs:List V)(lo hi:Option Int):(iL xs lo hi).length≤xs.length:=by
 unfold iL
 rw[List.length_take,List.length_drop]
 omega
def JH(K:PySem.W.Frag):V→Option Int→Option Int→Hp→VK→Prop:=fun x lo hi H Q=>∃ a xs,x=.ref a∧SqT K H a xs ∧
 ¬ (HT.sIx xs.length 0 lo=0∧HT.sIx xs.length xs.length hi=xs.length)∧∀ p,H p=none→Q (.ref p) (upd H p (.tup (iL xs lo hi)))
theorem DX:Gn X (JH X.K):=by
 intro pins s σ H x v vl vu lo hi sl Q I rx hs pl pu h
 obtain⟨a,xs,rfl,hx,hw,q⟩:=h
 cases rx
 obtain⟨its,r,ht,hz⟩:=I.tuple hx
 have hlen:its.toArray.size=xs.length:=by rw[List.size_toArray];exact r.length.symm
 refine⟨"tuple",_,PyProof.Rows.slot_tuple_getitem.lookup,ht.typeIs,?_⟩
 refine HT.getItem_tuple_cut ht hs pl pu (by rw[hlen];exact hw) ?_ (by rw[hlen];exact hz)
 rw[hlen]
 refine⟨.ref s.heap.objs.size,_,I.laid (t':=s.toks) (o:=.tup (iL xs lo hi)) (fun b ob q=>Heap.get?_push_of_some _ q) (Nat.le_refl _) ?_,rfl,q _ (I.hok.fresh (Nat.le_refl _))⟩
 exact⟨Nat.le_trans (nK xs lo hi) hz,_,(r.drop (HT.sIx xs.length 0 lo)).take (HT.sIx xs.length xs.length hi - HT.sIx xs.length 0 lo),IsTup.new _ _,NoD.new _ _⟩
def Fx(K:PySem.W.Frag):R2:=fun x y H Q=>∃ a b xs ys,x=.ref a∧y=.ref b∧SqT K H a xs∧SqT K H b ys∧xs≠[]∧xs.length+ys.length≤sizeLine ∧
 (ys=[]→Q (.ref a) H)∧(ys≠[]→∀ p,H p=none→Q (.ref p) (upd H p (.tup (xs++ys))))
theorem Vals.nil_iff{xs:List V}{us:List Value}(r:Vals xs us):us=[]↔xs=[]:=by
 cases r with
 | nil=>simp
 | cons _ _=>simp
theorem Ag:iC X (binaryOp .Add) (Fx X.K):=by
 intro pins s σ H x y v u Q I rx ry h
 obtain⟨a,b,xs,ys,rfl,rfl,ha,hb,hx,hz,q1,q2⟩:=h
 cases rx
 cases ry
 obtain⟨its,r1,p1,_⟩:=I.tuple ha
 obtain⟨its2,r2,p2,_⟩:=I.tuple hb
 refine HT.cat_tup p1 p2 (fun z=>hx (r1.nil_iff.mp z)) (fun z=>⟨.ref a,H,I,rfl,q1 (r2.nil_iff.mp z)⟩) (fun z=>?_) (by rw[← r1.length,← r2.length];exact hz)
 refine⟨.ref s.heap.objs.size,_,I.laid (t':=s.toks) (o:=.tup (xs++ys)) (fun b ob q=>Heap.get?_push_of_some _ q) (Nat.le_refl _) ?_,rfl,q2 (fun w=>z (r2.nil_iff.mpr w)) _ (I.hok.fresh (Nat.le_refl _))⟩
 exact⟨by rw[List.length_append];exact hz,_,r1.append r2,IsTup.new _ _,NoD.new _ _⟩
end
def DZ(n:Nat)(i:Int):Option Nat:=if 0≤i then (if i<n then some i.toNat else none) else if -(n:Int)≤i then some (i+n).toNat else none
def tR{α:Type}(xs:List α)(i:Int):Option α:=(DZ xs.length i).bind fun j=>xs[j]?
theorem Aa{n:Nat}{i:Int}{j:Nat}(h:DZ n i=some j):seqIndex? i n=some j∧j<n∧-(n:Int)≤i∧i<n:=by
 unfold DZ at h
 by_cases h0:0≤i
 ·rw[if_pos h0] at h
  by_cases h1:i<n
  ·rw[if_pos h1] at h
   have e:i.toNat=j:=Option.some.inj h
   exact⟨by rw[seqIndex_of h0 h1,e],by omega,by omega,h1⟩
  ·rw[if_neg h1] at h;cases h
 ·rw[if_neg h0] at h
  by_cases h1:-(n:Int)≤i
  ·rw[if_pos h1] at h
   have e:(i+n).toNat=j:=Option.some.inj h
   exact⟨by rw[seqIndex_neg (by omega) h1,e],by omega,h1,by omega⟩
  ·rw[if_neg h1] at h;cases h
theorem tU{α:Type}{xs:List α}{i:Int}{v:α}(h:tR xs i=some v):∃ j,seqIndex? i xs.length=some j∧xs[j]?=some v∧j<xs.length∧-(xs.length:Int)≤i∧i<xs.length:=by
 unfold tR at h
 cases e:DZ xs.length i with
 | none=>rw[e] at h;cases h
 | some j =>
  rw[e] at h
  obtain⟨h1,h2,h3,h4⟩:=Aa e
  exact⟨j,h1,h,h2,h3,h4⟩
theorem lO{α:Type}{xs:List α}{j:Nat}{v:α}(h:xs[j]?=some v):tR xs (j:Int)=some v:=by
 have hj:j<xs.length:=(List.getElem?_eq_some_iff.mp h).1
 have e:DZ xs.length (j:Int)=some j:=by
  unfold DZ
  rw[if_pos (by omega),if_pos (by omega)];simp
 unfold tR;rw[e];exact h
theorem gP{α:Type}(xs:List α)(v:α):tR (xs++[v]) (-1)=some v:=by
 have hl:(xs++[v]).length=xs.length+1:=by simp
 have e:DZ (xs++[v]).length (-1)=some xs.length:=by
  unfold DZ
  rw[hl,if_neg (by decide),if_pos (by omega)]
  congr 1
  omega
 unfold tR
 rw[e]
 show (xs++[v])[xs.length]?=some v
 simp
def E4(b:Expr):Prop:=∀ o i,subscripted b false o i=operate [o,i] (getItem o i)
def Hc(X:Cx)(r:R2):Prop :=
 ∀ (value slice:Expr) (pins:List (Addr×Obj)) (s:Shared) (σ:St) (H:Hp) (x y:V) (v u:Value) (Q:VK),Inv X pins σ H s→RelV x v→RelV y u→r x y H Q →
  subscripted slice false v u=operate [v,u] (getItem v u)→wpAny (model X.prog X.w) X.A (subscriptTail value slice v u) (EP X pins σ Q) X.xe s
def A9(X:Cx)(id:String)(r:V→List V→Hp→VK→Prop):Prop :=
 ∀ (pins:List (Addr×Obj)) (s:Shared) (σ:St) (H:Hp) (x:V) (xs:List V) (v:Value) (us:List Value) (Q:VK),Inv X pins σ H s→RelV x v→Vals xs us→r x xs H Q →
  wpAny (model X.prog X.w) X.A (call (.builtin id) (v::us)) (EP X pins σ Q) X.xe s
section
variable {X:Cx}{a b:Expr}{ta tb:TE}{pos:Pos}
theorem aR{r:R2}(hr:Hc X r)(ha:PE X a ta)(hb:PE X b tb)(hs:E4 b):PE X (.Subscript a b pos) (Km r ta tb):=by
 intro pins s σ H Q I h
 exact Subscript_ (FK ha hb I h fun v u s2 x y H2 I2 rx ry q=>hr a b pins s2 σ H2 x y v u Q I2 rx ry q (hs _ _))
def Iy(K:PySem.W.Frag):R2:=fun x y H Q=>∃ p xs i v,x=.ref p∧y=.int i∧SqL K H p xs∧tR xs i=some v∧Q v H
def IV(K:PySem.W.Frag):R2:=fun x y H Q=>∃ p xs i v,x=.ref p∧y=.int i∧SqT K H p xs∧tR xs i=some v∧Q v H
def KQ:R2:=fun x y H Q=>∃ z i c,x=.str z∧y=.int i∧z.length≤sizeLine∧tR z.cps.toList i=some c∧Q (.str ⟨#[c]⟩) H
theorem E9:Hc X (Iy X.K):=by
 intro value slice pins s σ H x y v u Q I rx ry h hs
 obtain⟨p,xs,i,z,rfl,rfl,hq,he,q⟩:=h
 cases rx
 obtain⟨t,rfl⟩:=ry
 obtain⟨its,r,pl,hz⟩:=I.list hq
 obtain⟨j,h1,h2,h3,h4,h5⟩:=tU he
 obtain⟨w,ew,rw'⟩:=r.get h2
 have hl:=r.length
 have hn:=mR
 have fin:EP X pins σ Q w s:=⟨z,H,I,rw',q⟩
 by_cases h0:0≤i
 ·have hj:i.toNat=j:=by
   rw[seqIndex_of h0 h5] at h1
   exact Option.some.inj h1
  exact item_listR pl.isList h0 (by omega) (by rw[hj];simpa using ew) fin hs
 ·have hj:(i+(its.toArray.size:Int)).toNat=j:=by
   rw[seqIndex_neg (by omega) h4] at h1
   rw[List.size_toArray,← hl]
   exact Option.some.inj h1
  exact subscriptTail_builtinR (x:=w) pl.isList.typeIs slot_list_getitem.lookup
   (wpAny_getItem_list_neg (Q:=fun r s'=>r=w∧EP X pins σ Q r s') pl.isList (by omega) (by rw[List.size_toArray] <;> omega) (by omega) (by rw[hj];simpa using ew) ⟨rfl,fin⟩) hs
theorem G0:Hc X (IV X.K):=by
 intro value slice pins s σ H x y v u Q I rx ry h hs
 obtain⟨p,xs,i,z,rfl,rfl,hq,he,q⟩:=h
 cases rx
 obtain⟨t,rfl⟩:=ry
 obtain⟨its,r,pl,hz⟩:=I.tuple hq
 obtain⟨j,h1,h2,h3,h4,h5⟩:=tU he
 obtain⟨w,ew,rw'⟩:=r.get h2
 have hl:=r.length
 have hn:=mR
 have fin:EP X pins σ Q w s:=⟨z,H,I,rw',q⟩
 exact subscriptTail_builtinR (x:=w) pl.typeIs slot_tuple_getitem.lookup
  (getItem_tuple (j:=j) (Q:=fun r s'=>r=w∧EP X pins σ Q r s') pl (by omega) (by omega) (by rw[List.size_toArray,← hl];exact h1) (by simpa using ew) ⟨rfl,fin⟩) hs
theorem mE:Hc X KQ:=by
 intro value slice pins s σ H x y v u Q I rx ry h hs
 obtain⟨z,i,c,rfl,rfl,hz,he,q⟩:=h
 obtain⟨t,rfl⟩:=rx
 obtain⟨t',rfl⟩:=ry
 obtain⟨j,h1,h2,h3,h4,h5⟩:=tU he
 have hl:z.cps.toList.length=z.length:=by simp[Str.length]
 rw[hl] at h1 h4 h5
 have hn:=mR
 exact tail_any (typeIs_str s z t) slot_str_getitem.lookup (getItem_str (c:=c) (by
  have e1:decide (i < -(2 ^ 63:Int))=false:=decide_eq_false (by omega)
  have e2:decide (i ≥ 2 ^ 63)=false:=decide_eq_false (by omega)
  rw[e1,e2,Bool.or_false]) (by rw[h1];simpa using h2) ⟨.str ⟨#[c]⟩,H,I.tok _,⟨_,rfl⟩,q⟩) hs
theorem xU(its:List Value)(n j:Nat)(u:Value):Obj.mapSeq (·.setIfInBounds j u) { cls:=.type "list",data:=.seq its.toArray n }={ cls:=.type "list",data:=.seq (its.set j u).toArray n }:=by
 simp[Obj.mapSeq]
theorem Inv.lst{pins:List (Addr×Obj)}{σ:St}{H:Hp}{s:Shared}{p:Addr}{xs:List V}(I:Inv X pins σ H s)(h:H p=some (.lst xs)) :
  ∃ (its:List Value) (n:Nat),Vals xs its∧s.heap.get? p=some { cls:=.type "list",data:=.seq its.toArray n }∧xs.length≤sizeLine:=by
 obtain⟨z,its,n,r,e⟩:=I.hok p _ h
 exact⟨its,n,r,e,z⟩
theorem Inv.lstUpd{pins:List (Addr×Obj)}{σ:St}{H:Hp}{s:Shared}{p:Addr}{xs ys:List V}{its its':List Value}{n n':Nat}{f:Obj→Obj}(I:Inv X pins σ H s)(h:H p=some (.lst xs))
  (ho:s.heap.get? p=some { cls:=.type "list",data:=.seq its.toArray n }) (hf:f { cls:=.type "list",data:=.seq its.toArray n }={ cls:=.type "list",data:=.seq its'.toArray n' }) (r:Vals ys its') (hz:ys.length≤sizeLine) (t:Nat) :
  Inv X pins σ (upd H p (.lst ys)) { s with heap:=s.heap.update p f,toks:=t }:=by
 have e:(s.heap.update p f).get? p=some { cls:=.type "list",data:=.seq its'.toArray n' }:=by
  rw[Heap.get?_update_self f ho (by rw[hf] <;> rfl),hf]
 refine I.write (x:=p) (e:=p) (by rw[h];trivial) (.inl rfl) (fun b u hb q=>(Heap.get?_update_other _ _ (Ne.symm hb)).trans q) ⟨_,e⟩ ?_
 exact⟨hz,its',n',r,e⟩
def JC:V→V→V→Hp→(Hp→Prop)→Prop:=fun o i v H Q=>∃ p xs k j,o=.ref p∧i=.int k∧H p=some (.lst xs)∧DZ xs.length k=some j∧Q (upd H p (.lst (xs.set j v)))
theorem fE:IJ X JC:=by
 intro pins s σ H o i v ov iv u Q I ro ri rv h
 obtain⟨p,xs,k,j,rfl,rfl,hp,hj,q⟩:=h
 cases ro
 obtain⟨t,rfl⟩:=ri
 obtain⟨its,n,r,ho,hz⟩:=I.lst hp
 obtain⟨h1,h2,h3,h4⟩:=Aa hj
 have hl:=r.length
 have hn:=mR
 have I':Inv X pins σ (upd H p (.lst (xs.set j v))) { s with heap:=s.heap.update p (Obj.mapSeq (·.setIfInBounds j u)) } :=
  I.lstUpd hp ho (xU its n j u) (r.set rv j) (by rw[List.length_set];exact hz) s.toks
 by_cases h0:0≤k
 ·have hk:k.toNat=j:=by
   rw[seqIndex_of h0 h4] at h1
   exact Option.some.inj h1
  exact PySem.W.ki_setAt ho h0 (by omega) (by rw[List.size_toArray,← hl];exact h4) (by rw[hk];exact⟨_,I',q⟩)
 ·have hk:(k+(its.toArray.size:Int)).toNat=j:=by
   rw[seqIndex_neg (by omega) h3] at h1
   rw[List.size_toArray,← hl]
   exact Option.some.inj h1
  exact PySem.W.ki_setBack ho (by omega) (by rw[List.size_toArray,← hl];exact h3) (by omega) (by rw[hk];exact⟨_,I',q⟩)
theorem sX(lo hi:Option Int)(n:Nat):(sliceBounds lo hi none n).1=((HT.sIx n 0 lo:Nat):Int)∧(sliceBounds lo hi none n).2.1=((HT.sIx n n hi:Nat):Int)∧(sliceBounds lo hi none n).2.2=1:=by
 refine⟨?_,?_,rfl⟩
 ·cases lo with
  | none=>simp[sliceBounds,HT.sIx]
  | some i =>
   simp only [sliceBounds,HT.sIx,Option.getD_none,show (1:Int) > 0 by decide,if_true]
   by_cases h:i<0
   ·simp only [h,if_true] <;> omega
   ·simp only [h,if_false] <;> omega
 ·cases hi with
  | none=>simp[sliceBounds,HT.sIx]
  | some i =>
   simp only [sliceBounds,HT.sIx,Option.getD_none,show (1:Int) > 0 by decide,if_true]
   by_cases h:i<0
   ·simp only [h,if_true] <;> omega
   ·simp only [h,if_false] <;> omega
theorem qV(its:List Value)(lo hi:Option Int):slicePick its.toArray lo hi none=((its.drop (HT.sIx its.length 0 lo)).take (HT.sIx its.length its.length hi - HT.sIx its.length 0 lo)).toArray:=by
 obtain⟨h1,h2,h3⟩:=sX lo hi its.toArray.size
 unfold slicePick
 rw[h1,h2,h3]
 simp only [sliceRange_one,pick_run,List.size_toArray] <;> rfl
def Jl(K:PySem.W.Frag):V→Option Int→Option Int→Hp→VK→Prop:=fun x lo hi H Q=>∃ a xs,x=.ref a∧SqL K H a xs∧∀ p,H p=none→Q (.ref p) (upd H p (.lst (iL xs lo hi)))
theorem E8:Gn X (Jl X.K):=by
 intro pins s σ H x v vl vu lo hi sl Q I rx hs pl pu h
 obtain⟨a,xs,rfl,hx,q⟩:=h
 cases rx
 obtain⟨its,r,ht,hz⟩:=I.list hx
 have hlen:=r.length
 refine⟨"list",_,slot_list_getitem.lookup,ht.isList.typeIs,?_⟩
 refine wpAny_getItem_list_slice ht.isList hs pl pu .none (by simp) ?_ (by rw[List.size_toArray] <;> omega)
 rw[qV,← hlen]
 refine⟨.ref s.heap.objs.size,_,I.laid (t':=s.toks) (o:=.lst (iL xs lo hi)) (fun b ob q=>Heap.get?_push_of_some _ q) (Nat.le_refl _) ?_,rfl,q _ (I.hok.fresh (Nat.le_refl _))⟩
 exact⟨Nat.le_trans (nK xs lo hi) hz,_,0,(r.drop (HT.sIx xs.length 0 lo)).take (HT.sIx xs.length xs.length hi - HT.sIx xs.length 0 lo),Heap.get?_push_size _ rfl⟩
def eO:V→Bool
 | .non=>true
 | .bl _=>true
 | .int _=>true
 | .str _=>true
 | _=>false
def wP:V→V→Bool
 | .non,.non=>true
 | .bl a,.bl b=>a == b
 | .bl a,.int b=>(if a then 1 else 0) == b
 | .int a,.bl b=>a == (if b then 1 else 0)
 | .int a,.int b=>a == b
 | .str a,.str b=>a == b
 | _,_=>false
theorem xG{A:Around}{s:Shared}{y x:V}{u v:Value}(ry:RelV y u)(rx:RelV x v)(fy:eO y=true)(fx:eO x=true):SeqAt.EqAt A s u v (wP y x):=by
 cases y with
 | non =>
  cases ry
  cases x with
  | non=>cases rx;exact SeqAt.EqAt.same _
  | bl b=>cases rx;exact SeqAt.EqAt.none_bool b
  | int b=>obtain⟨t,rfl⟩:=rx;exact SeqAt.EqAt.none_int b t
  | str b=>obtain⟨t,rfl⟩:=rx;exact SeqAt.EqAt.none_str b t
  | _=>exact absurd (show false=true from fx) Bool.false_ne_true
 | bl a =>
  cases ry
  cases x with
  | non=>cases rx;exact SeqAt.EqAt.bool_none a
  | bl b=>cases rx;exact SeqAt.EqAt.bool_bool a b
  | int b=>obtain⟨t,rfl⟩:=rx;exact SeqAt.EqAt.bool_int a b t
  | str b=>obtain⟨t,rfl⟩:=rx;exact SeqAt.EqAt.bool_str a b t
  | _=>exact absurd (show false=true from fx) Bool.false_ne_true
 | int a =>
  obtain⟨t',rfl⟩:=ry
  cases x with
  | non=>cases rx;exact SeqAt.EqAt.int_none a t'
  | bl b=>cases rx;exact SeqAt.EqAt.int_bool a t' b
  | int b=>obtain⟨t,rfl⟩:=rx;exact SeqAt.EqAt.int_int a t' b t
  | str b=>obtain⟨t,rfl⟩:=rx;exact SeqAt.EqAt.int_str a t' b t
  | _=>exact absurd (show false=true from fx) Bool.false_ne_true
 | str a =>
  obtain⟨t',rfl⟩:=ry
  cases x with
  | non=>cases rx;exact SeqAt.EqAt.str_none a t'
  | bl b=>cases rx;exact SeqAt.EqAt.str_bool a t' b
  | int b=>obtain⟨t,rfl⟩:=rx;exact SeqAt.EqAt.str_int a t' b t
  | str b=>obtain⟨t,rfl⟩:=rx;exact SeqAt.EqAt.str_str a t' b t
  | _=>exact absurd (show false=true from fx) Bool.false_ne_true
 | _=>exact absurd (show false=true from fy) Bool.false_ne_true
def ES(x:V)(u:Value):Bool:=match u with
 | .none=>wP .non x
 | .bool b=>wP (.bl b) x
 | .int i _=>wP (.int i) x
 | .str z _=>wP (.str z) x
 | _=>false
theorem B1{x y:V}{u:Value}(r:RelV y u)(f:eO y=true):ES x u=wP y x:=by
 cases y with
 | non=>cases r;rfl
 | bl b=>cases r;rfl
 | int i=>obtain⟨t,rfl⟩:=r;rfl
 | str z=>obtain⟨t,rfl⟩:=r;rfl
 | _=>exact absurd (show false=true from f) Bool.false_ne_true
theorem tX{x:V}:∀ {xs:List V} {us:List Value},Vals xs us→xs.all eO=true→us.any (ES x)=xs.any fun y=>wP y x
 | _,_,.nil,_=>rfl
 | y::xs,u::us,.cons r t,f=>by
  rw[List.all_cons,Bool.and_eq_true] at f
  rw[List.any_cons,List.any_cons,B1 r f.1,tX t f.2]
theorem oT{A:Around}{s:Shared}{x:V}{v:Value}(rx:RelV x v)(fx:eO x=true):∀ {xs:List V} {us:List Value},Vals xs us→xs.all eO=true→∀ u∈us,SeqAt.EqAt A s u v (ES x u)
 | _,_,.nil,_=>fun u hu=>by cases hu
 | y::xs,u::us,.cons r t,f=>fun u' hu=>by
  rw[List.all_cons,Bool.and_eq_true] at f
  rcases List.mem_cons.mp hu with rfl | hu
  ·rw[B1 r f.1];exact xG r rx f.1 fx
  ·exact oT rx fx t f.2 u' hu
def nT(x:V)(xs:List V):Bool:=xs.any fun y=>wP y x
def Lh(K:PySem.W.Frag)(neg:Bool):R2:=fun x y H Q=>∃ p xs,y=.ref p∧(SqL K H p xs∨SqT K H p xs)∧eO x=true∧xs.all eO=true∧Q (.bl (if neg then !nT x xs else nT x xs)) H
theorem AI:iC X (compareOp .In) (Lh X.K false):=by
 intro pins s σ H x y v u Q I rx ry h
 obtain⟨p,xs,rfl,hq,fx,fs,q⟩:=h
 cases ry
 rcases hq with hq | hq
 ·obtain⟨its,r,pl,hz⟩:=I.list hq
  refine SeqAt.in_listAt (ES x) pl.isList (fun w hw=>oT rx fx r fs w (by simpa using hw)) ⟨.bl _,H,I,rfl,?_⟩
  rw[show its.toArray.any (ES x)=its.any (ES x) by simp,tX r fs]
  exact q
 ·obtain⟨its,r,pl,hz⟩:=I.tuple hq
  refine SeqAt.in_tupleAt (ES x) pl (fun w hw=>oT rx fx r fs w (by simpa using hw)) ⟨.bl _,H,I,rfl,?_⟩
  rw[show its.toArray.any (ES x)=its.any (ES x) by simp,tX r fs]
  exact q
theorem tT:eS X (.builtin "len") (fun xs H Q=>∃ p ys,xs=[.ref p]∧(SqL X.K H p ys∨SqT X.K H p ys)∧Q (.int ys.length) H):=by
 intro pins s σ H xs us Q I r h
 obtain⟨p,ys,rfl,hq,q⟩:=h
 obtain⟨u,rfl,rx⟩:=nQ r
 cases rx
 have hn:=mR
 rcases hq with hq | hq
 ·obtain⟨its,r',pl,hz⟩:=I.list hq
  have hlen:=r'.length
  exact Calls.call_len_list pl.isList (by simp only [List.size_toArray] <;> omega) ⟨.int ys.length,H,I.tok _,⟨s.toks+1,by rw[List.size_toArray,hlen]⟩,q⟩
 ·obtain⟨its,r',pl,hz⟩:=I.tuple hq
  have hlen:=r'.length
  exact len_tuple pl (by simp only [List.size_toArray] <;> omega) ⟨.int ys.length,H,I.tok _,⟨s.toks+1,by rw[List.size_toArray,hlen]⟩,q⟩
theorem cQ:eS X (.builtin "len") (fun xs H Q=>∃ z,xs=[.str z]∧z.length≤sizeLine∧Q (.int z.length) H):=by
 intro pins s σ H xs us Q I r h
 obtain⟨z,rfl,hz,q⟩:=h
 obtain⟨u,rfl,t,rfl⟩:=nQ r
 have hn:=mR
 exact len_str (by omega) ⟨.int z.length,H,I.tok _,⟨_,rfl⟩,q⟩
theorem uI:eS X (.type "list") (fun xs H Q=>∃ p ys,xs=[.ref p]∧(SqL X.K H p ys∨SqT X.K H p ys)∧∀ l,H l=none→Q (.ref l) (upd H l (.lst ys))):=by
 intro pins s σ H xs us Q I r h
 obtain⟨p,ys,rfl,hq,q⟩:=h
 obtain⟨u,rfl,rx⟩:=nQ r
 cases rx
 have fin:∀ (its:List Value),Vals ys its→ys.length≤sizeLine→∀ (h':Heap) (c':Nat),(∀ b o',s.heap.get? b=some o'→h'.get? b=some o') →
   h'.get? s.heap.objs.size=some { cls:=.type "list",dict:=none,data:=.seq its.toArray c',slots:=#[] }→EP X pins σ Q (.ref s.heap.objs.size) { s with heap:=h' }:=fun its r' hz h' c' kp e =>
  ⟨.ref s.heap.objs.size,_,I.laid (t':=s.toks) kp (Nat.le_refl _) (show ObjOk X.prog X.w _ h' _ (.lst ys) from ⟨hz,its,c',r',e⟩),rfl,q _ (I.hok.fresh (Nat.le_refl _))⟩
 rcases hq with hq | hq
 ·obtain⟨its,r',pl,hz⟩:=I.list hq
  have hlen:=r'.length
  obtain⟨o,ho,hc,n,hd⟩:=pl.isList
  exact call_list_seq p (.inl rfl) ho hc hd (fun h' c' kp e=>fin its r' hz h' c' kp e) (by simp only [List.size_toArray] <;> omega)
 ·obtain⟨its,r',pl,hz⟩:=I.tuple hq
  have hlen:=r'.length
  obtain⟨o,ho,hc,n,hd⟩:=pl
  exact call_list_seq p (.inr rfl) ho hc hd (fun h' c' kp e=>fin its r' hz h' c' kp e) (by simp only [List.size_toArray] <;> omega)
theorem qY:eS X (.type "tuple") (fun xs H Q=>∃ p ys,xs=[.ref p]∧((SqL X.K H p ys∧∀ l,H l=none→Q (.ref l) (upd H l (.tup ys)))∨(SqT X.K H p ys∧Q (.ref p) H))):=by
 intro pins s σ H xs us Q I r h
 obtain⟨p,ys,rfl,h⟩:=h
 obtain⟨u,rfl,rx⟩:=nQ r
 cases rx
 rcases h with ⟨hq,q⟩ | ⟨hq,q⟩
 ·obtain⟨its,r',pl,hz⟩:=I.list hq
  have hlen:=r'.length
  refine call_tuple_list pl.isList (fun h' kp=>?_) (by simp only [List.size_toArray] <;> omega)
  have I1:Inv X pins σ H { s with heap:=h' }:=I.kept (t':=s.toks) kp
  have I2:Inv X pins σ (upd H h'.objs.size (.tup ys)) { s with heap:=h'.push { cls:=.type "tuple",data:=.seq its.toArray } } :=
   I1.laid (t':=s.toks) (fun b o e=>Heap.get?_push_of_some _ e) (Nat.le_refl _) (show ObjOk X.prog X.w _ _ _ (.tup ys) from ⟨hz,its,r',IsTup.new _ _,NoD.new _ _⟩)
  exact⟨.ref h'.objs.size,_,I2,rfl,q _ (I1.hok.fresh (Nat.le_refl _))⟩
 ·obtain⟨its,r',pl,hz⟩:=I.tuple hq
  exact call_tuple_same pl ⟨.ref p,H,I,rfl,q⟩
def KK(K:PySem.W.Frag)(T:String)(x:V)(H:Hp):Prop:=match x with
 | .str _=>T="str"
 | .int _=>T="int"
 | .ref p=>(T="list"∧∃ xs,SqL K H p xs)∨(T="tuple"∧∃ o,K.lookup p=some o∧o.cls=.type "tuple"∧o.dict=none) ∨
   (T="dict"∧((∃ kvs,H p=some (.dK kvs))∨∃ kvs,H p=some (.dT kvs)))∨(T="set"∧∃ S n,H p=some (.set S n))
 | _=>False
theorem B0{pins:List (Addr×Obj)}{σ:St}{H:Hp}{s:Shared}{T:String}{x:V}{v:Value}(I:Inv X pins σ H s)(r:RelV x v)(ty:KK X.K T x H) :
  s.TypeIs v T∧∀ a,v=.ref a→∃ ob,s.heap.get? a=some ob∧ob.dict=none:=by
 cases x with
 | str z =>
  obtain⟨t,rfl⟩:=r
  cases (show T="str" from ty)
  exact⟨typeIs_str s z t,fun _ e=>nomatch e⟩
 | int i =>
  obtain⟨t,rfl⟩:=r
  cases (show T="int" from ty)
  exact⟨typeIs_int s i t,fun _ e=>nomatch e⟩
 | ref p =>
  cases r
  rcases ty with ⟨rfl,xs,hq⟩ | ⟨rfl,o,hk,hc,hd⟩ | ⟨rfl,hk⟩ | ⟨rfl,S,n,hk⟩
  ·obtain⟨its,_,pl,_⟩:=I.list hq
   refine⟨pl.isList.typeIs,fun a e=>?_⟩
   cases e
   obtain⟨o,n,e,c,hd,_⟩:=pl
   exact⟨o,e,hd⟩
  ·refine⟨⟨o,I.kIn p o hk,hc⟩,fun a e=>?_⟩
   cases e
   exact⟨o,I.kIn _ o hk,hd⟩
  ·have z:∃ o,s.heap.get? p=some o∧o.ExactDict:=by
    rcases hk with ⟨kvs,hk⟩ | ⟨kvs,hk⟩
    ·obtain⟨_,_,_,_,o,_,_,e,ex,_⟩:=I.hok p _ hk
     exact⟨o,e,ex⟩
    ·obtain⟨_,_,_,_,o,_,_,e,ex,_⟩:=I.hok p _ hk
     exact⟨o,e,ex⟩
   obtain⟨o,e,ex⟩:=z
   refine⟨⟨o,e,ex.1⟩,fun a e2=>?_⟩
   cases e2
   exact⟨o,e,ex.2.1⟩
  ·obtain⟨o,_,_,_,e,ex,_⟩:=I.hok p _ hk
   refine⟨⟨o,e,ex.1⟩,fun a e2=>?_⟩
   cases e2
   exact⟨o,e,ex.2.1⟩
 | _=>exact False.elim ty
def IW(K:PySem.W.Frag)(T:String)(r:V→List V→Hp→VK→Prop)(to:TE):TE:=fun σ H Q=>to σ H fun x H1=>KK K T x H1∧r x [] H1 Q
def Lc(K:PySem.W.Frag)(T:String)(r:V→List V→Hp→VK→Prop)(to:TE)(t:TA):TE:=fun σ H Q=>to σ H fun x H1=>KK K T x H1∧t σ H1 fun xs H2=>r x xs H2 Q
variable {o e:Expr}{es:List Expr}{to:TE}{t:TA}{name:Str}{apos cpos:Pos}{T id:String}{r:V→List V→Hp→VK→Prop}
theorem Gj(pa:PlainAttrs T)(slot:Slot T name id)(hty:typeOf (.builtin id)=pure (.type "method_descriptor"))(hm:A9 X id r)(ho:PE X o to)
  (hbase:attributeBase o name X.env (eval o X.env)=eval o X.env:=by rfl) (hline:(apos.endLine == cpos.line)=true:=by rfl):PE X (.Call (.Attribute o name apos) [] [] cpos) (IW X.K T r to):=by
 intro pins s σ H Q I h
 refine wpAny_Call_method0_late hbase hline (bS (ho pins s σ H _ I h) fun v s1 ⟨x,H1,I1,r1,ty,q1⟩=>?_)
 obtain⟨h1,h2⟩:=B0 I1 r1 ty
 exact⟨T,id,pa,slot,hty,h1,h2,Calls.callWith_builtin rfl (PySem.evalArgs_none (hm pins s1 σ H1 x [] v [] Q I1 r1 .nil q1))⟩
theorem I_(pa:PlainAttrs T)(slot:Slot T name id)(hty:typeOf (.builtin id)=pure (.type "method_descriptor"))(hm:A9 X id r)(ho:PE X o to)(ha:PA X (e::es) t)
  (hbase:attributeBase o name X.env (eval o X.env)=eval o X.env:=by rfl)
  (hfew:((backTo cpos (starEach (e::es) X.env)).all (fun x=>!x.1) && (backToKw cpos (keywordEach [] X.env)).all (fun x=>x.1.isSome)
   && decide ((e::es).length+([]:List Keyword).length+(if ([]:List Keyword).isEmpty then 0 else 1)<30))=true:=by rfl)
  (hline:(apos.endLine == cpos.line)=true:=by rfl) (hs:starEach (e::es) X.env=(false,eval e X.env)::starEach es X.env:=by rfl) (hplain:(backTo cpos (starEach es X.env)).any (·.1)=false:=by rfl) :
  PE X (.Call (.Attribute o name apos) (e::es) [] cpos) (Lc X.K T r to t):=by
 intro pins s σ H Q I h
 refine wpAny_Call_method_late hbase hfew hline rfl (bS (ho pins s σ H _ I h) fun v s1 ⟨x,H1,I1,r1,ty,q1⟩=>?_)
 obtain⟨h1,h2⟩:=B0 I1 r1 ty
 refine⟨T,id,pa,slot,hty,h1,h2,?_⟩
 have hA:=ha cpos pins s1 σ H1 _ I1 q1
 rw[hs] at hA ⊢
 refine Calls.callWith_builtin (by show (false || (backTo cpos (starEach es X.env)).any (·.1))=false;rw[hplain] <;> rfl) (Calls.evalArgs_plain ?_)
 exact bS hA fun us s2 ⟨vs,H2,I2,r2,q2⟩=>hm pins s2 σ H2 x vs v us Q I2 r1 r2 q2
/- xs.append(e),list.index on a module's tuple .. are A9 facts of 06m -/
end
def JM(X:Cx)(id:String)(r:V→List V→Hp→VK→Prop):Prop :=
 ∀ (pins:List (Addr×Obj)) (s:Shared) (σ:St) (H:Hp) (x:V) (xs:List V) (v:Value) (us:List Value) (Q:VK),Inv X pins σ H s→RelV x v→Vals xs us→r x xs H Q →
  wpAny (model X.prog X.w) X.A (call (.builtin id) (v::us)) (EP X pins σ Q) X.xe s
theorem Vals.one:∀ {x:V} {us:List Value},Vals [x] us→∃ u,us=[u]∧RelV x u
 | _,_,.cons r .nil=>⟨_,rfl,r⟩
theorem Vals.two:∀ {x y:V} {us:List Value},Vals [x,y] us→∃ u v,us=[u,v]∧RelV x u∧RelV y v
 | _,_,_,.cons r (.cons q .nil)=>⟨_,_,rfl,r,q⟩
theorem Vals.zero:∀ {us:List Value},Vals [] us→us=[]
 | _,.nil=>rfl
theorem Vals.dropLast{xs:List V}{us:List Value}(h:Vals xs us):Vals xs.dropLast us.dropLast:=by
 induction h with
 | nil=>exact .nil
 | cons r t ih =>
  cases t with
  | nil=>exact .nil
  | cons q t'=>exact .cons r ih
theorem Vals.eraseIdx:∀ {xs:List V} {us:List Value} (i:Nat),Vals xs us→Vals (xs.eraseIdx i) (us.eraseIdx i)
 | _,_,_,.nil=>.nil
 | _,_,0,.cons _ t=>t
 | _,_,i+1,.cons r t=>.cons r (Vals.eraseIdx i t)
theorem Vals.rep{xs:List V}{us:List Value}(h:Vals xs us):∀ k:Nat,Vals (List.replicate k xs).flatten (List.replicate k us).flatten
 | 0=>.nil
 | k+1=>by
  rw[List.replicate_succ,List.replicate_succ,List.flatten_cons,List.flatten_cons]
  exact Vals.append h (Vals.rep h k)
theorem yA{α:Type}(l:List α):l.eraseIdx (l.length - 1)=l.dropLast:=by
 induction l with
 | nil=>rfl
 | cons a r ih =>
  cases r with
  | nil=>rfl
  | cons b r =>
   have e:(a::b::r).length - 1=((b::r).length - 1)+1:=by
    have h1:(a::b::r).length=r.length+2:=rfl
    have h2:(b::r).length=r.length+1:=rfl
    omega
   rw[e,List.eraseIdx_cons_succ,ih]
   all_goals rfl
theorem rG{α:Type}:∀ (l:List α) (i:Nat),(l.eraseIdx i).length≤l.length
 | [],_=>Nat.le_refl _
 | _::_,0=>Nat.le_succ _
 | _::r,i+1=>Nat.succ_le_succ (rG r i)
theorem foldl_rep(its:List Value):∀ (k:Nat) (acc:List Value),
  List.foldl (fun x1 x2=>x1++x2) acc.toArray (List.replicate k its.toArray)=(acc++(List.replicate k its).flatten).toArray
 | 0,acc=>by simp
 | k+1,acc=>by
  have e:acc.toArray++its.toArray=(acc++its).toArray:=by simp
  have e2:(acc++its)++(List.replicate k its).flatten=acc++(List.replicate (k+1) its).flatten:=by
   rw[List.replicate_succ,List.flatten_cons,List.append_assoc]
  rw[← e2,← foldl_rep its k (acc++its),← e,List.replicate_succ,List.foldl_cons]
section
variable {X:Cx}{pins:List (Addr×Obj)}{σ:St}{H:Hp}{s:Shared}{l b:Addr}{xs ys zs:List V}
theorem Inv.lset{its its':List Value}{n:Nat}{f:Array Value→Array Value}{t':Nat}(I:Inv X pins σ H s)(hH:H l=some (.lst xs))
  (e:s.heap.get? l=some { cls:=.type "list",data:=.seq its.toArray n }) (hf:f its.toArray=its'.toArray) (hv:Vals ys its') (hz:ys.length≤sizeLine) :
  Inv X pins σ (upd H l (.lst ys)) { s with heap:=s.heap.update l (Obj.mapSeq f),toks:=t' }:=by
 have q:=PySem.IsL.update e f
 rw[hf] at q
 refine I.write (x:=l) (e:=l) (by rw[hH];exact trivial) (.inl rfl) (fun b' u hb hu=>(Heap.get?_update_other s.heap (Obj.mapSeq f) (Ne.symm hb)).trans hu) ⟨_,q⟩ ?_
 exact⟨hz,its',_,hv,q⟩
theorem Inv.lnew{its:List Value}{t':Nat}(I:Inv X pins σ H s)(hv:Vals ys its)(hz:ys.length≤sizeLine) :
  Inv X pins σ (upd H s.heap.objs.size (.lst ys)) { s with heap:=s.heap.push { cls:=.type "list",data:=.seq its.toArray },toks:=t' } :=
 I.laid (fun _ _ q=>Heap.get?_push_of_some _ q) (Nat.le_refl _) ⟨hz,its,0,hv,Heap.get?_push_size _ rfl⟩
theorem Inv.fresh(I:Inv X pins σ H s):H s.heap.objs.size=none:=I.hok.fresh (Nat.le_refl _)
theorem Inv.lstM(I:Inv X pins σ H s)(hH:H l=some (.lst xs)):xs.length≤sizeLine∧∃ (its:List Value) (n:Nat),Vals xs its∧xs.length=its.length∧s.heap.get? l=some { cls:=.type "list",data:=.seq its.toArray n }:=by
 obtain⟨z,its,n,r,e⟩:=I.hok l _ hH
 exact⟨z,its,n,r,r.length,e⟩
theorem Dg{n:Nat}(h:n≤sizeLine):Builtin.List.listTooLong n=false:=by
 unfold Builtin.List.listTooLong
 exact decide_eq_false (by omega)
end
section
variable {X:Cx}
def Ew:V→List V→Hp→VK→Prop:=fun x vs H Q=>∃ l xs y,x=.ref l∧vs=[y]∧H l=some (.lst xs)∧xs.length<sizeLine∧Q .non (upd H l (.lst (xs++[y])))
theorem cW:JM X "list.append" Ew:=by
 intro pins s σ H x vs v us Q I rx rv h
 obtain⟨l,xs,y,rfl,rfl,hH,hz,q⟩:=h
 cases rx
 obtain⟨u,rfl,ru⟩:=rv.one
 obtain⟨z,its,n,r,hl,e⟩:=I.lstM hH
 refine call_meets F.slot_list_append ⟨_,e,rfl⟩ F.entry_list_append (F.args_list_append_2 _ _) (PySem.list_append l its.toArray n u (by rw[List.size_toArray];omega)) ⟨e,?_⟩
 refine⟨.non,_,I.lset (its':=its++[u]) hH e (by simp) (r.append (.cons ru .nil)) ?_,rfl,q⟩
 rw[List.length_append,List.length_singleton]
 omega
def E7:V→List V→Hp→VK→Prop:=fun x vs H Q=>∃ l b xs zs,x=.ref l∧vs=[.ref b]∧H l=some (.lst xs)∧H b=some (.lst zs)∧xs.length+zs.length≤sizeLine∧Q .non (upd H l (.lst (xs++zs)))
theorem Ih:JM X "list.extend" E7:=by
 intro pins s σ H x vs v us Q I rx rv h
 obtain⟨l,b,xs,zs,rfl,rfl,hH,hB,hz,q⟩:=h
 cases rx
 obtain⟨u,rfl,ru⟩:=rv.one
 cases ru
 obtain⟨z,its,n,r,hl,e⟩:=I.lstM hH
 obtain⟨z2,its2,n2,r2,hl2,e2⟩:=I.lstM hB
 have hsz:its.toArray.size+its2.toArray.size≤sizeLine:=by rw[List.size_toArray,List.size_toArray];omega
 have hlong:¬ (!its.toArray.isEmpty && Builtin.List.listTooLong (its.toArray.size+its2.toArray.size))=true:=by
  rw[Dg hsz,Bool.and_false]
  exact Bool.false_ne_true
 refine call_meets F.slot_list_extend ⟨_,e,rfl⟩ F.entry_list_extend (F.args_list_extend_2 _ _)
  (AutoSeq1.list_extend_list_list_0 l its.toArray n b its2.toArray n2 hlong (by rw[List.size_toArray];omega) (by omega)) ⟨e,e2,?_⟩
 refine⟨.non,_,I.lset (its':=its++its2) hH e (by simp) (r.append r2) ?_,rfl,q⟩
 rw[List.length_append]
 omega
def Kz:V→List V→Hp→VK→Prop:=fun x vs H Q=>∃ l xs y,x=.ref l∧vs=[]∧H l=some (.lst xs)∧xs[xs.length - 1]?=some y∧Q y (upd H l (.lst xs.dropLast))
theorem Di:JM X "list.pop" Kz:=by
 intro pins s σ H x vs v us Q I rx rv h
 obtain⟨l,xs,y,rfl,rfl,hH,hy,q⟩:=h
 cases rx
 have hus:=rv.zero
 subst hus
 obtain⟨z,its,n,r,hl,e⟩:=I.lstM hH
 obtain⟨u,hu,ru⟩:=r.get hy
 have hy':its.toArray[its.toArray.size - 1]?=some u:=by
  show its.toArray[its.length - 1]?=some u
  rw[← Array.getElem?_toList,← hl]
  exact hu
 refine call_meets F.slot_list_pop ⟨_,e,rfl⟩ F.entry_list_pop (F.args_list_pop_1 _) (MeetsSeq.list_pop_last l its.toArray n u hy' (by rw[List.size_toArray];omega)) ⟨e,?_⟩
 refine⟨y,_,I.lset (its':=its.dropLast) hH e ?_ r.dropLast ?_,ru,q⟩
 ·show its.toArray.eraseIdxIfInBounds (its.toArray.size - 1)=its.dropLast.toArray
  rw[List.size_toArray,List.eraseIdxIfInBounds_toArray,yA]
 ·rw[List.length_dropLast]
  omega
def GC:V→List V→Hp→VK→Prop:=fun x vs H Q=>∃ l xs i k y,x=.ref l∧vs=[.int i]∧H l=some (.lst xs)∧-(2 ^ 63)≤i∧i<2 ^ 63∧seqIndex? i xs.length=some k∧xs[k]?=some y∧Q y (upd H l (.lst (xs.eraseIdx k)))
theorem vF:JM X "list.pop" GC:=by
 intro pins s σ H x vs v us Q I rx rv h
 obtain⟨l,xs,i,k,y,rfl,rfl,hH,h1,h2,hk,hy,q⟩:=h
 cases rx
 obtain⟨u,rfl,ru⟩:=rv.one
 obtain⟨t,rfl⟩:=ru
 obtain⟨z,its,n,r,hl,e⟩:=I.lstM hH
 obtain⟨w,hw,rw'⟩:=r.get hy
 refine call_meets F.slot_list_pop ⟨_,e,rfl⟩ F.entry_list_pop (F.args_list_pop_2 _ _)
  (MeetsSeq.list_pop_at l its.toArray n i t k w (fitsIndex_both h1 h2) (by rw[List.size_toArray,← hl];exact hk) (by rw[← Array.getElem?_toList];exact hw) (by rw[List.size_toArray];omega)) ⟨e,?_⟩
 refine⟨y,_,I.lset (its':=its.eraseIdx k) hH e ?_ (r.eraseIdx k) ?_,rw',q⟩
 ·show its.toArray.eraseIdxIfInBounds k=(its.eraseIdx k).toArray
  rw[List.eraseIdxIfInBounds_toArray]
 ·have:=rG xs k
  omega
def GY:V→List V→Hp→VK→Prop:=fun x vs H Q=>∃ l xs,x=.ref l∧vs=[]∧H l=some (.lst xs)∧Q .non (upd H l (.lst []))
theorem DW:JM X "list.clear" GY:=by
 intro pins s σ H x vs v us Q I rx rv h
 obtain⟨l,xs,rfl,rfl,hH,q⟩:=h
 cases rx
 have hus:=rv.zero
 subst hus
 obtain⟨z,its,n,r,hl,e⟩:=I.lstM hH
 refine call_meets F.slot_list_clear ⟨_,e,rfl⟩ F.entry_list_clear (F.args_list_clear_1 _) (AutoSeq1.list_clear_list_0 l its.toArray n (by rw[List.size_toArray];omega)) ⟨e,?_⟩
 exact⟨.non,_,I.lset (its':=[]) (ys:=[]) hH e rfl .nil (Nat.zero_le _),rfl,q⟩
def KB:R2:=fun x y H Q=>∃ l b xs zs,x=.ref l∧y=.ref b∧H l=some (.lst xs)∧H b=some (.lst zs)∧xs.length+zs.length≤sizeLine∧∀ p,H p=none→Q (.ref p) (upd H p (.lst (xs++zs)))
theorem xN:iC X (binaryOp .Add) KB:=by
 intro pins s σ H x y v u Q I rx ry h
 obtain⟨l,b,xs,zs,rfl,rfl,hH,hB,hz,q⟩:=h
 cases rx
 cases ry
 obtain⟨z,its,n,r,hl,e⟩:=I.lstM hH
 obtain⟨z2,its2,n2,r2,hl2,e2⟩:=I.lstM hB
 refine PySem.P.add_list e e2 ?_ (by rw[List.size_toArray,List.size_toArray];omega)
 have ea:its.toArray++its2.toArray=(its++its2).toArray:=by simp
 rw[ea]
 exact⟨.ref _,_,I.lnew (t':=s.toks) (r.append r2) (by rw[List.length_append];omega),rfl,q _ I.fresh⟩
theorem len_rep{α:Type}(xs:List α)(k:Nat):(List.replicate k xs).flatten.length=k * xs.length:=by
 induction k with
 | zero=>simp
 | succ k ih=>rw[List.replicate_succ,List.flatten_cons,List.length_append,ih,Nat.succ_mul,Nat.add_comm]
end
section
variable {prog:Program}{w:World}{A:Around}{E:Value→Shared→Prop}{s:Shared}
set_option maxRecDepth 100000 in
end
section
variable {X:Cx}
end
end L2
namespace Att
open PySem PySem.W PySem.Calls PyProof.Rows
theorem nS{P:Params}{h:Heap}:∀ (ns:List Int) (vs:List Value),WellAll P h vs (ns.map WData.int)→IntsAre vs ns:=by
 intro ns
 induction ns with
 | nil =>
  intro vs w
  rw[List.map_nil] at w
  cases w
  exact .nil
 | cons n ns ih =>
  intro vs w
  rw[List.map_cons] at w
  cases w with
  | cons a b =>
   cases a
   exact .cons _ _ (ih _ b)
theorem Bs{l:OpenLaw}{n:Nat}(hn:l.most=some n){P:Params}{h:Heap}{args:List WData}{vals:List Value}
  (hpre:l.row.toRowW.claim.pre args=true) (hwl:WellAll P h vals args) :
  ∃ a vs ns,vals=[Value.ref a]∧args=[WData.list (ns.map WData.int)]∧h.get? a=some { cls:=.type "list",data:=.seq vs.toArray }∧IntsAre vs ns∧ns.length≤n:=by
 have hsh:WShape.hasAll [] args [.list .int]=true:=(pre_splitW hpre).1
 have hc:l.pre.holds [] { args:=args }=true:=(pre_splitW hpre).2
 obtain⟨d,r,rfl,h1,h2⟩:=hasAllW_cons hsh
 obtain rfl:=hasAllW_nil h2
 obtain⟨xs,rfl,h3⟩:=hasW_list h1
 obtain⟨ns,rfl⟩:=items_int h3
 have hlen:ns.length≤n:=by
  unfold OpenLaw.pre at hc
  have h4:(WTm.not (.lt (.lit (.int (n:Int))) (.len (.arg 0)))).holds [] { args:=[.list (ns.map .int)] }=true:=by
   have h4:=(holds_andW hc).1
   rw[hn] at h4
   exact h4
  have h5:=condW_of h4 (w_not (w_lt w_lit (w_len_list (w_arg rfl))))
  rw[List.length_map] at h5
  refine Nat.le_of_not_lt fun q=>?_
  have q':(n:Int)<((ns.length:Nat):Int):=by omega
  first
   | (rw[decide_eq_true q'] at h5;exact absurd h5 (by decide))
   | (simp at h5;omega)
 cases hwl with
 | cons w1 w2 =>
  cases w2
  cases w1 with
  | list ho hall=>exact⟨_,_,ns,rfl,rfl,ho,nS ns _ hall,hlen⟩
theorem Bp(l:OpenLaw)(args:List WData):l.row.toRowW.claim.post args (.bool true) args=true :=
 postW_of (r:=l.row.toRowW) (X:=(true == true))
  (show WShape.has [] (.bool true) .bool=true by first | rfl | decide | simp[WShape.has,WShape.arms,WShape.armsAll])
  (show (WTm.eq .res (.lit (.bool true))).value [] { args:=args,res:=some (.bool true),after:=args }=some (.bool (true == true)) from w_eq_bool (w_res rfl) w_lit) rfl
theorem attach_call{l:OpenLaw}{n:Nat}{q:Program}{loose:List Str}{XP:(Str→Option Value)→Heap→Prop}{YP:World→Heap→Prop}{d:DefRec}
  (hn:l.most=some n) (hdf:d.params.defaults=[])
  (call:∀ (w:World) (s₀ s₁:Shared) (mg mb:Str→Option Value) (fa:Addr) (o:Obj) (pm cd doc:Value) (a:Addr) (vs:List Value) (ns:List Int),
   Ground q loose [] XP w s₀ mg mb s₁.heap→YP w s₁.heap →
   s₁.heap.get? fa=some o→o.data=.func (docDef d.name d.params d.body d.scope pm cd doc)→s₁.heap.CodeRec cd d.name→mg d.name=some (.ref fa) →
   s₁.heap.get? a=some { cls:=.type "list",data:=.seq vs.toArray }→IntsAre vs ns→ns.length≤n→s₁.gens=#[] →
   codeAny (model l.prog w) callerA (.call (.ref fa) ⟨[.ref a],[]⟩) (fun r s'=>r=.ok (.ret (.bool true))∧OldK s₁.heap s'.heap∧s'.os=s₁.os∧AllBare s'.gens) s₁) :
  WalkO q loose XP YP l.row.toRowW d [] (fun f vs=>PySem.call f vs):=by
 intro w s₀ s₁ mg mb G Y fa o pm cd doc dV kV ho hd hcd hD hmg hg args vals as hpre hlay hrd hwl hlo
 obtain rfl:dV=.none:=Dflts.none hD hdf
 obtain rfl:kV=.none:=Dflts.noKw hD
 obtain⟨a,vs,ns,rfl,rfl,hobj,hints,hlen⟩:=Bs hn hpre hwl
 refine enter_call (codeAny_mono (call w s₀ s₁ mg mb fa o pm cd doc a vs ns G Y ho (fd_plain hd) hcd hmg hobj hints hlen hg) fun r s' hq=>?_)
 obtain⟨rfl,h2,h3,h4⟩:=hq
 exact⟨.inl ⟨.bool true,.bool true,[],rfl,fun _=>rfl,.bool true,Bp l _,fun _=>⟨List.Pairwise.nil,fun _ hm=>(nomatch hm)⟩⟩,h2,h3,h4⟩
section
variable {prog:Program}{w:World}{A:Around}{E:Value→Shared→Prop}{s:Shared}{K:Frag}
end
end Att
namespace L2
open PySem PySem.Spec PyProof.Rows
theorem rC:∀ {vs:List Value} {ns:List Int},IntsAre vs ns→Vals (ns.map V.int) vs
 | _,_,.nil=>.nil
 | _,_,.cons n t h=>.cons ⟨t,rfl⟩ (rC h)
def HR(H:Hp):Prop:=∀ b,H b=none∨∃ o xs,H b=some (.frz o (.lst xs))
theorem BZ{P:Program}{w:World}{K:PySem.W.Frag}{mg mb:Str→Option Value}{CX:A5}{k:Nat}{fa a:Addr}{fd:FuncData}{x:Str}{sp:Sp}{s₁:Shared}{vs:List Value}{ns:List Int}
  (KX:K.In s₁.heap) (hns:s₁.heap.Ns mainGlobals mg) (hb:s₁.heap.Ns builtinsNs mb) (hbb:∀ x:Str,x≠"__name__"→mb x=bootBuiltins x) (hlim:s₁.heap.NoLimit) (hg:s₁.gens=#[])
  (ha:s₁.heap.get? a=some { cls:=.type "list",data:=.seq vs.toArray }) (hi:IntsAre vs ns) (hl:ns.length≤sizeLine) (hr:Room k callerA)
  (F:∀ base:Heap,K.In base→base.Ns mainGlobals mg→FnOk P w K mg base CX k fa fd [x] sp) (hbind:∀ (s:Shared) (u:Value),BindsTo s fd ⟨[u],[]⟩ [(x,u)])
  (hsp:∀ H:Hp,HR H→SqL K H a (ns.map V.int)→sp [.ref a] H (fun v _=>v=.bl true) fun _ _ _=>False)
  (hCX:∀ H e s',CX [] H s₁ (fun _ _ _=>False) e s'→False) :
  codeAny (model P w) callerA (.call (.ref fa) ⟨[.ref a],[]⟩) (fun r s'=>r=.ok (.ret (.bool true))∧OldK s₁.heap s'.heap∧s'.os=s₁.os∧AllBare s'.gens) s₁:=by
 have rv:=rC hi
 have lenV:=hi.length
 -- from an abstract heap in which nothing but the script may be tracked
 have core:∀ H:Hp,HR H→SqL K H a (ns.map V.int)→HOk P w H s₁.heap→(∀ b,H b≠none→b=a)→(H a≠none→K.lookup a=none) →
   codeAny (model P w) callerA (.call (.ref fa) ⟨[.ref a],[]⟩) (fun r s'=>r=.ok (.ret (.bool true))∧OldK s₁.heap s'.heap∧s'.os=s₁.os∧AllBare s'.gens) s₁:=by
  intro H hO hS hok hA hK
  have base_of:∀ {b:Addr} {o:Obj},s₁.heap.get? b=some o→H b=none→(uH s₁.heap H).get? b=some o:=fun e n=>CF e n
  have noA:∀ {b:Addr} {o:Obj} {es:Array DictEntry} {ep:Nat},s₁.heap.get? b=some o→o.data=.dict es ep→H b=none:=fun {b o es ep} e d=>by
   cases q:H b with
   | none=>rfl
   | some u =>
    have e':b=a:=hA b (by rw[q];simp)
    subst e'
    rw[ha] at e;cases e
    have d':Data.seq vs.toArray _=Data.dict es ep:=d
    cases d'
  have nsK:∀ {b:Addr} {m:Str→Option Value},s₁.heap.Ns b m→(uH s₁.heap H).Ns b m:=fun {b m} ⟨o,es,ep,e,d,r⟩=>⟨o,es,ep,base_of e (noA e d),d,r⟩
  have hKb:K.In (uH s₁.heap H):=fun b o e=>base_of (KX b o e) (by
   cases q:H b with
   | none=>rfl
   | some u =>
    have e':b=a:=hA b (by rw[q];simp)
    subst e'
    rw[hK (by rw[q];simp)] at e;cases e)
  have hM:Mod K mg (uH s₁.heap H):=⟨hKb,nsK hns,⟨mb,nsK hb,hbb⟩,let ⟨mc,h1,h2⟩:=hlim;⟨mc,nsK h1,h2⟩⟩
  have e0:Env0 P w K mg (uH s₁.heap H) callerA [] s₁ H:=⟨rfl,hM,fun b o e=>D2 e,Nat.le_of_eq (AC _ _),trivial,fun b hb=>absurd (show b∈([]:List Addr) from hb) (by simp),hok,.of_eq hg⟩
  refine codeAny_mono ((F _ hKb (nsK hns)).run callerA [] s₁ H ⟨[.ref a],[]⟩ [.ref a] [.ref a] _ _ hr e0 (hbind s₁ (.ref a)) (.cons rfl .nil) (hsp H hO hS)) fun r s' h=>?_
  cases r with
  | error e=>exact(hCX H e s' h).elim
  | ok fl =>
   cases fl with
   | next=>exact False.elim h
   | brk=>exact False.elim h
   | cont=>exact False.elim h
   | ret u =>
    obtain⟨v,H',os,bare,un,hok',r',q⟩:=h
    have q':v=.bl true:=q
    subst q'
    obtain rfl:u=Value.bool true:=r'
    refine⟨rfl,OldK.of_keep fun b o e=>?_,os,bare⟩
    cases q:H b with
    | none=>exact un.keep b o e q (by intro z;exact absurd (show b∈([]:List Addr) from z) (by simp)) (by simp)
    | some u =>
     rcases hO b with z | ⟨ob,xs,z⟩
     ·rw[q] at z;cases z
     ·have z2:=un.frzs b ob _ z
      obtain⟨e1,_⟩:=hok b _ z
      obtain⟨e2,_⟩:=hok' b _ z2
      rw[e] at e1;cases e1
      exact e2
 cases hk:K.lookup a with
 | some o =>
  -- the script is one of the module's own objects
  have e:=KX a o hk
  rw[ha] at e
  cases e
  refine core (fun _=>none) (fun _=>.inl rfl) (.inr ⟨_,vs.toArray,_,hk,rfl,rfl,rfl,by rw[List.size_toArray,lenV];exact hl,by simpa using rv⟩) (fun b u z=>by have z':(none:Option HO)=some u:=z;cases z') (fun b z=>absurd rfl z) fun z=>absurd rfl z
 | none =>
  refine core (fun b=>if b=a then some (.frz { cls:=.type "list",data:=.seq vs.toArray } (.lst (ns.map V.int))) else none) (fun b=>?_) (.inl (.inr ⟨{ cls:=.type "list",data:=.seq vs.toArray },if_pos rfl⟩)) (fun b u z=>?_) (fun b z=>?_) fun _=>hk
  ·by_cases hb:b=a
   ·exact .inr ⟨_,_,if_pos hb⟩
   ·exact .inl (if_neg hb)
  ·by_cases hb:b=a
   ·have z':=(if_pos hb).symm.trans z
    cases z'
    subst hb
    exact⟨ha,by rw[List.length_map];exact hl,vs,_,rv,ha⟩
   ·have z':=(if_neg hb).symm.trans z
    cases z'
  ·by_cases hb:b=a
   ·exact hb
   ·exact absurd (if_neg hb) z
theorem walk_of{l:PySem.W.OpenLaw}{n k:Nat}{q:Program}{loose:List Str}{XP:(Str→Option Value)→Heap→Prop}{YP:World→Heap→Prop}{d:DefRec}{K:Params→PySem.W.Frag}{CX:World→A5}{sp:World→Sp}{x:Str}
  (hn:l.most=some n) (hn2:n≤sizeLine) (hdf:d.params.defaults=[]) (hr:Room k callerA)
  (hY:∀ (w:World) (h:Heap),YP w h→(K w.params).In h)
  (F:∀ (w:World) (mg:Str→Option Value) (fa:Addr) (h:Heap),(K w.params).In h→h.Ns mainGlobals mg→mg d.name=some (.ref fa) →
   ∃ fd:FuncData,(∀ (s:Shared) (u:Value),BindsTo s fd ⟨[u],[]⟩ [(x,u)]) ∧
    ∀ base:Heap,(K w.params).In base→base.Ns mainGlobals mg→FnOk l.prog w (K w.params) mg base (CX w) k fa fd [x] (sp w))
  (hsp:∀ (w:World) (H:Hp) (a:Addr) (ns:List Int),ns.length≤n→HR H→SqL (K w.params) H a (ns.map V.int)→sp w [.ref a] H (fun v _=>v=.bl true) fun _ _ _=>False)
  (hCX:∀ (w:World) (H:Hp) (s:Shared) (e:Value) (s':Shared),CX w [] H s (fun _ _ _=>False) e s'→False) :
  PySem.W.WalkO q loose XP YP l.row.toRowW d [] (fun f vs=>PySem.call f vs):=by
 refine Att.attach_call hn hdf fun w s₀ s₁ mg mb fa o pm cd doc a vs ns G Y ho hd hcd hmg hobj hints hlen hg=>?_
 have KX:=hY w _ Y
 obtain⟨fd,hb,hF⟩:=F w mg fa _ KX G.T.g hmg
 exact BZ KX G.T.g G.T.b G.T.builtins G.T.nolimit hg hobj hints (Nat.le_trans hlen hn2) hr hF hb (fun H hO hS=>hsp w H a ns hlen hO hS) fun H e s'=>hCX w H s₁ e s'
end L2
/- THE LAST THEOREM (shape;LID,My.* are yours):
   My.Adr: a structure of the addresses that your layer names (classes,functions);My.Txt K t: a structure (Prop) of the equations over K;
   My.txt_mk:{K} {implicit addresses ..} (e1:nsIn K mainGlobals "law"=some (some (.ref f))) (e2:K.lookup f=some ⟨oc,od,.func (fnOf "law" "law" params body scope dV kV doc pm an cdv ct),sl⟩) (e3:codeIn K cdv "law"=true) ..:∃ t,My.Txt K t
set_option maxRecDepth 100000 in
set_option maxHeartbeats 0 in
theorem PySem.Challenge.cw_LID_holds : PySem.Challenge.rw_LID.Holds := by
 w_on;o_law;k_head;(case hw=>w_witness2)
 k_fill
 refine L2.walk_of (l:=PySem.Challenge.rw_LID) (n:=63) (k:=40) (x:="script") (CX:=fun w=>..) (sp:=fun _=>My.sp_law) rfl (by decide) rfl ⟨rfl,by decide,by decide⟩ (fun w h Y=>PySem.W.kIn_of Y) ?F ?S ?C
 case F =>
  intro w mg fa h KX G hmg
  have T:∃ t,My.Txt (L2.KOf KX) t:=by
   dsimp only [L2.KOf]                          -- K must stand as «<heap const> w.params» for k_is
   refine' My.txt_mk ?e1 ?e2 ?e3 ..
   (case e1=>PySem.W.k_is)                    -- in the order: a name -> its address -> its object -> its parts
   (case e2=>PySem.W.k_is)
   ..
  obtain⟨t,T⟩:=T
  have e0:=hmg.symm.trans (PySem.W.mg_of KX G T.law)
  cases e0                                       -- fa is the law's own address
  exact⟨_,fun s u=>.of_eq rfl,fun base kb nb=>My.law_fn T kb nb⟩     -- if «.of_eq rfl» comes too early: refine' ⟨_,?b,fun base kb nb=>My.law_fn T kb nb⟩;exact fun s u=>.of_eq rfl
 case S=>exact fun w H a ns hl hO hS=>..
 case C=>exact ..
(the tactic k_is has no namespace: write k_is) -/
namespace L2
open PySem PySem.Spec PyProof.Rows
def eA(s:Stmt):Arguments:=match s with
 | .FunctionDef _ a _ _ _ _ _ _ _ _=>a
 | _=>{ posonlyargs:=[],args:=[],vararg:=none,kwonlyargs:=[],kw_defaults:=[],kwarg:=none,defaults:=[] }
def dS(s:Stmt):List Stmt:=match s with
 | .FunctionDef _ _ b _ _ _ _ _ _ _=>b
 | _=>[]
def aF(s:Stmt):Scope:=match s with
 | .FunctionDef _ _ _ _ _ _ sc _ _ _=>sc
 | _=>{ kind:=.function,names:=[],isGenerator:=false,isCoroutine:=false }
abbrev xZ:A5:=fun _ _ _ _ _ _=>False
abbrev E0:XK:=fun _ _ _=>False
theorem dP{X:Cx}:kE xZ X E0:=fun _ _ _ _ _ _ _ h=>h.elim
structure Fun(K:PySem.W.Frag)(x qual:Str)(st:Stmt)(f:Addr)(fd:FuncData):Prop where
 ex:∃ (oc:Value) (od:Option Addr) (kV doc pm:Value) (an:Option Addr) (cdv ct:Value) (osl:Array (Option Value)),
  fd=PySem.W.fnOf x qual (eA st) (dS st) (aF st) .none kV doc pm an cdv ct∧K.lookup f=some ⟨oc,od,.func fd,osl⟩∧PySem.W.codeIn K cdv qual=true
 kp:PySem.W.keepIn K (.ref f)=true
section
variable {P:Program}{w:World}{K:PySem.W.Frag}{mg:Str→Option Value}{base:Heap}
theorem Fun.ok{x qual:Str}{st:Stmt}{f:Addr}{fd:FuncData}{N ps:List Str}{k:Nat}{sp:Sp}(F:Fun K x qual st f fd)(S:FnScope N ps (aF st))(len:∀ vs H Q E,sp vs H Q E→vs.length=ps.length)
  (hbody:∀ (cdv:Value) (A:Around) (outer:List Env) (s:Shared) (H:Hp) (vs:List V) (Q:VK) (E:XK),Room k (A.deeper (envOfC qual (aF st) s.heap.objs.size f cdv))→sp vs H Q E →
   ∃ t,PSs (AH xZ P w K mg base N qual (aF st) f cdv A outer s H E).nox (dS st) t∧t { nx:=fun _ H'=>Q .non H',rt:=Q } (nI N vs) H):FnOk P w K mg base xZ (k+1) f fd ps sp:=by
 obtain⟨oc,od,kV,doc,pm,an,cdv,ct,osl,rfl,lk,hcd⟩:=F.ex
 refine JQ lk hcd S len fun A outer s H vs Q E hr hsp=>?_
 obtain⟨t,h,q⟩:=hbody cdv A outer s H vs Q E hr hsp
 exact⟨t,h.nox,q⟩
theorem Fun.binds{x qual:Str}{st:Stmt}{f:Addr}{fd:FuncData}{ps:List Str}(F:Fun K x qual st f fd)
  (h:∀ (kV doc pm:Value) (an:Option Addr) (cdv ct:Value) (us:List Value),us.length=ps.length→bindArgs (PySem.W.fnOf x qual (eA st) (dS st) (aF st) .none kV doc pm an cdv ct) ⟨us,[]⟩=pure (ps.zip us)):Binds K fd ps []:=by
 obtain⟨oc,od,kV,doc,pm,an,cdv,ct,osl,rfl,lk,hcd⟩:=F.ex
 exact .all (h kV doc pm an cdv ct)
theorem mK{x qual:Str}{st:Stmt}{f:Addr}{oc:Value}{od an:Option Addr}{osl:Array (Option Value)}{kV doc pm cdv ct:Value}(l:K.lookup f=some ⟨oc,od,.func (PySem.W.fnOf x qual (eA st) (dS st) (aF st) .none kV doc pm an cdv ct),osl⟩)
  (c:PySem.W.codeIn K cdv qual=true) (k:PySem.W.keepIn K (.ref f)=true):Fun K x qual st f (PySem.W.fnOf x qual (eA st) (dS st) (aF st) .none kV doc pm an cdv ct):=⟨⟨oc,od,kV,doc,pm,an,cdv,ct,osl,rfl,l,c⟩,k⟩
end
theorem aW{n:Nat}(h:n≤1000):n<sizeLine:=Nat.lt_of_le_of_lt h (by decide)
section
variable {X:Cx}
theorem pv(i:Nat){x:Str}{pos:Pos}(hN:X.N[i]?=some x:=by rfl)(hv:Jy X.env.scope x:=by first | exact Or.inl rfl | exact Or.inr (Or.inl rfl) | exact Or.inr (Or.inr rfl))(hd:(x == ("__debug__":Str))=false:=by decide)
  (hcd:(x == ("__classdict__":Str))=false:=by decide):PE X (.Name x pos) (Ep i):=HH hN hv hd hcd
end
theorem eQ{A B:Prop}(h:B):if false=true then A else B:=by
 rw[if_neg Bool.false_ne_true]
 exact h
theorem kP{A B:Prop}(h:A):if true=true then A else B:=by
 rw[if_pos rfl]
 exact h
theorem cJ{c A B:Prop}[Decidable c](h1:c→A)(h2:¬ c→B):if c then A else B:=by
 by_cases h:c
 ·rw[if_pos h]
  exact h1 h
 ·rw[if_neg h]
  exact h2 h
def Same(H H':Hp):Prop:=∀ b o,H b=some o→H' b=some o
theorem Same.refl(H:Hp):Same H H:=fun _ _ h=>h
theorem Same.trans{H H1 H2:Hp}(a:Same H H1)(b:Same H1 H2):Same H H2:=fun c o h=>b c o (a c o h)
theorem Same.free{H H':Hp}(e:Same H H'){l:Addr}(h:H' l=Option.none):H l=Option.none:=by
 cases q:H l with
 | none=>rfl
 | some o =>
  rw[e l o q] at h
  cases h
def eW(cells:List (Str×Addr))(acc:List (Str×Addr))(p:Str×NameKind):List (Str×Addr) :=
 if p.2 == .free then (match cells.lookup p.1 with | some c=>(p.1,c)::acc | none=>acc) else acc
def AU(names:List (Str×NameKind))(cells:List (Str×Addr)):List (Str×Addr):=names.foldl (eW cells) []
theorem kX{env:Env}:∀ (names:List (Str×NameKind)) (acc:List (Str×Addr)),(∀ y∈names,y.2=.free→∃ c,env.cells.lookup y.1=some c) →
  (forIn names acc (fun (p:Str×NameKind) (cs:List (Str×Addr))=>(match p with
   | (name,kind)=>if (kind == .free)=true then (do let c ← cellOf env name;pure (ForInStep.yield ((name,c)::cs))) else pure (ForInStep.yield cs):Sem (ForInStep (List (Str×Addr))))))=pure (names.foldl (eW env.cells) acc)
 | [],acc,_=>rfl
 | (n,k)::r,acc,h=>by
  have ih:=fun acc=>kX (env:=env) r acc fun y hy=>h y (List.mem_cons_of_mem _ hy)
  rw[List.forIn_cons,List.foldl_cons]
  by_cases e:(k == NameKind.free)=true
  ·obtain⟨c,hc⟩:=h (n,k) List.mem_cons_self (by simpa using e)
   have hc':env.cells.lookup n=some c:=hc
   have e1:eW env.cells acc (n,k)=(n,c)::acc:=by unfold eW;rw[if_pos e];simp only [hc']
   rw[e1,← ih]
   have e2:cellOf env n=pure c:=by unfold cellOf;rw[hc']
   simp only [e,if_true,e2]
   rfl
  ·have e1:eW env.cells acc (n,k)=acc:=by unfold eW;rw[if_neg e]
   rw[e1,← ih]
   simp only [e,if_false]
   rfl
theorem gH{scope:Scope}{env:Env}(h:∀ y∈scope.names,y.2=.free→∃ c,env.cells.lookup y.1=some c):closureFor scope env=pure (AU scope.names env.cells):=by
 unfold closureFor
 have q:=kX (env:=env) scope.names [] h
 unfold AU
 exact(congrArg (fun (m:Sem (List (Str×Addr)))=>m >>= fun cs=>pure cs) q).trans rfl
theorem vU{cells:List (Str×Addr)}:∀ (names:List (Str×NameKind)) (acc:List (Str×Addr)),(∀ y c,acc.lookup y=some c→cells.lookup y=some c)→∀ y c,(names.foldl (eW cells) acc).lookup y=some c→cells.lookup y=some c
 | [],acc,h,y,c,e=>h y c e
 | p::r,acc,h,y,c,e=>by
  refine vU r (eW cells acc p) (fun z d q=>?_) y c e
  unfold eW at q
  split at q
  ·split at q
   ·rename_i c' hc'
    rw[List.lookup_cons] at q
    split at q
    ·rename_i hz
     have hz':z=p.1:=by simpa using hz
     cases q
     rw[hz'];exact hc'
    ·exact h z d q
   ·exact h z d q
  ·exact h z d q
theorem uX{cells:List (Str×Addr)}:∀ (names:List (Str×NameKind)) (acc:List (Str×Addr)) (y:Str),(acc.lookup y).isSome=true→((names.foldl (eW cells) acc).lookup y).isSome=true
 | [],_,_,h=>h
 | p::r,acc,y,h=>by
  refine uX r _ y ?_
  unfold eW
  split
  ·split
   ·rw[List.lookup_cons]
    split
    ·rfl
    ·exact h
   ·exact h
  ·exact h
theorem xR{cells:List (Str×Addr)}:∀ (names:List (Str×NameKind)) (acc:List (Str×Addr)) (y:Str) (c:Addr),(y,NameKind.free)∈names→cells.lookup y=some c→((names.foldl (eW cells) acc).lookup y).isSome=true
 | [],_,_,_,h,_=>by simp at h
 | p::r,acc,y,c,h,hc=>by
  rcases List.mem_cons.mp h with e | e
  ·refine uX r _ y ?_
   subst e
   unfold eW
   simp only [hc]
   simp[List.lookup_cons]
  ·exact xR r _ y c e hc
theorem lJ{env:Env}:∀ {names:List (Str×NameKind)} {x:Str},names.lookup x=some .free →
  (names.map fun (n,k)=>if (k == NameKind.free && env.scope.kind == .function && env.kindOf n == some .cell) then (n,NameKind.cell) else (n,k)).lookup x=some .cell ∨
  (names.map fun (n,k)=>if (k == NameKind.free && env.scope.kind == .function && env.kindOf n == some .cell) then (n,NameKind.cell) else (n,k)).lookup x=some .free
 | [],_,h=>by simp at h
 | (n,k)::r,x,h=>by
  have ih:=@lJ env r x
  rw[List.map_cons]
  cases hx:x == n with
  | true =>
   simp only [List.lookup_cons,hx] at h
   cases h
   by_cases hc:(NameKind.free == NameKind.free && env.scope.kind == .function && env.kindOf n == some .cell)=true
   ·left;dsimp only;rw[if_pos hc];simp[List.lookup_cons,hx]
   ·right;dsimp only;rw[if_neg hc];simp[List.lookup_cons,hx]
  | false =>
   simp only [List.lookup_cons,hx] at h
   have e:∀ z:Str×NameKind,z.1=n→((z::(r.map fun (n,k)=>if (k == NameKind.free && env.scope.kind == .function && env.kindOf n == some .cell) then (n,NameKind.cell) else (n,k))).lookup x=(r.map fun (n,k)=>if (k == NameKind.free && env.scope.kind == .function && env.kindOf n == some .cell) then (n,NameKind.cell) else (n,k)).lookup x):=fun z hz=>by
    obtain⟨z1,z2⟩:=z
    cases hz
    rw[List.lookup_cons,hx]
   dsimp only
   split
   ·rw[e _ rfl];exact ih h
   ·rw[e _ rfl];exact ih h
theorem lC{env:Env}:∀ {names:List (Str×NameKind)} {x:Str},(∀ y∈names,y.2≠.cell) →
  ((names.map fun (n,k)=>if (k == NameKind.free && env.scope.kind == .function && env.kindOf n == some .cell) then (n,NameKind.cell) else (n,k)).lookup x=some .cell ∨
  (names.map fun (n,k)=>if (k == NameKind.free && env.scope.kind == .function && env.kindOf n == some .cell) then (n,NameKind.cell) else (n,k)).lookup x=some .free)→names.lookup x=some .free
 | [],_,_,h=>by simp at h
 | (n,k)::r,x,hn,h=>by
  have ih:=@lC env r x fun y hy=>hn y (List.mem_cons_of_mem _ hy)
  have hk:k≠.cell:=hn (n,k) List.mem_cons_self
  rw[List.map_cons] at h
  cases hx:x == n with
  | true =>
   by_cases hc:(k == NameKind.free && env.scope.kind == .function && env.kindOf n == some .cell)=true
   ·have:k=.free:=by
     cases k <;> simp at hc ⊢
    subst this
    simp[List.lookup_cons,hx]
   ·dsimp only at h;rw[if_neg hc] at h
    simp only [List.lookup_cons,hx] at h ⊢
    rcases h with h | h
    ·cases h;exact absurd rfl hk
    ·exact h
  | false =>
   have e:∀ z:Str×NameKind,z.1=n→((z::(r.map fun (n,k)=>if (k == NameKind.free && env.scope.kind == .function && env.kindOf n == some .cell) then (n,NameKind.cell) else (n,k))).lookup x=(r.map fun (n,k)=>if (k == NameKind.free && env.scope.kind == .function && env.kindOf n == some .cell) then (n,NameKind.cell) else (n,k)).lookup x):=fun z hz=>by
    obtain⟨z1,z2⟩:=z
    cases hz
    rw[List.lookup_cons,hx]
   dsimp only at h
   have h':(r.map fun (n,k)=>if (k == NameKind.free && env.scope.kind == .function && env.kindOf n == some .cell) then (n,NameKind.cell) else (n,k)).lookup x=some .cell∨(r.map fun (n,k)=>if (k == NameKind.free && env.scope.kind == .function && env.kindOf n == some .cell) then (n,NameKind.cell) else (n,k)).lookup x=some .free:=by
    split at h
    ·rw[e _ rfl] at h;exact h
    ·rw[e _ rfl] at h;exact h
   rw[List.lookup_cons,hx]
   exact ih h'
structure CompSc(X:Cx)(scope:Scope)(x:Str)(ix:List Nat):Prop where
 kind:scope.kind=.function
 nocell:∀ y∈scope.names,y.2≠.cell
 loc:∀ y∈scope.names,y.2=.local→scope.names.lookup y.1=some .local
 x:scope.names.lookup x=some .local
 free:∀ y∈scope.names,y.2=.free→X.env.scope.names.lookup y.1=some .cell∨X.env.scope.names.lookup y.1=some .free
 cap:∀ i∈ix,i<X.N.length∧scope.names.lookup (X.N.getD i "")=some .free
def nP(X:Cx)(x:Str)(ix:List Nat):List Str:=x::ix.map fun i=>X.N.getD i ""
def qR(σ:St)(ix:List Nat):St:=none::ix.map fun i=>σ.getD i none
def bX(X:Cx)(scope:Scope)(x:Str)(ix:List Nat)(ex:List Addr)(s:Shared)(H:Hp):Cx where
 prog:=X.prog
 w:=X.w
 K:=X.K
 mg:=X.mg
 base:=X.base
 A:=X.A
 N:=nP X x ix
 s₀:=s
 H₀:=H
 env:=compEnvC scope (AU scope.names X.env.cells) s.heap.objs.size X.env
 outer:=X.stack
 stack:=X.stack
 ex:=ex
 fn:=fun _=>false
 calm:=X.calm
 pn:=[]
 xe:=fun _ _=>False
section
variable {X:Cx}{scope:Scope}{x:Str}{ix:List Nat}
theorem CompSc.cells(S:CompSc X scope x ix)(ok:X.Ok):∀ y∈scope.names,y.2=.free→∃ c,X.env.cells.lookup y.1=some c:=fun y hy hf=>ok.has y.1 (S.free y hy hf)
theorem vY{pins:List (Addr×Obj)}{σ:St}{H:Hp}{s:Shared}{h':Heap}{t':Nat}{fp:List Addr}(S:CompSc X scope x ix)(I:Inv X pins σ H s)(hf:∀ b∈fp,fV X pins H b)(hlt:∀ b∈fp,b<s.heap.objs.size)
  (ns:h'.Ns s.heap.objs.size (fun y=>([]:List (Str×Value)).reverse.lookup y)) (sb:Heap.SameBut s.heap.objs.size (s.heap.push { cls:=.type "dict",data:=.dict #[] }) h') :
  Inv (bX X scope x ix fp s H) [] (qR σ ix) H { s with heap:=h',toks:=t' }:=by
 have hk:∀ b u,s.heap.get? b=some u→h'.get? b=some u:=fun b u e=>(sb.2 b (Nat.ne_of_lt (Heap.lt_size e))).trans (Heap.get?_push_of_some _ e)
 have sound:∀ y c,(AU scope.names X.env.cells).lookup y=some c→X.env.cells.lookup y=some c:=vU scope.names [] (fun _ _ q=>by simp at q)
 have cellLt:∀ y c,X.env.cells.lookup y=some c→c<s.heap.objs.size:=fun y c e=>by
  obtain⟨v,q⟩:=I.cell y c e
  exact q.lt
 have cellK:∀ y c v,X.env.cells.lookup y=some c→s.heap.IsCell c v→h'.IsCell c v:=fun y c v _ ⟨o,ho,hd⟩=>⟨o,hk c o ho,hd⟩
 refine⟨⟨I.ok.mod,S.kind,I.ok.glob,I.ok.blt,Nat.le_refl _,fun y z c h1 h2=>I.ok.inj y z c (sound y c h1) (sound z c h2),fun y hy=>?_,fun y c hf _=>(by cases hf),I.ok.hd,I.ok.frames,.inl rfl,fun b hb=>⟨Nat.ne_of_lt (hlt b hb),fun y c e=>(hf b hb).2.2.2.2.1 y c (sound y c e)⟩,I.bs,Nat.le_trans I.ok.bsz I.sz,fun b o e hb=>?_,fun b hb hs=>?_,I.stack,I.stkFree⟩,
  rfl,I.bare,Un.kept hk,⟨_,ns,fun i y v h1 h2 h3=>?_⟩,fun y c e=>?_,I.hok.fresh (Nat.le_refl _),fun y c e=>I.freeC y c (sound y c e),fun p hp=>absurd (show p∈([]:List (Addr×Obj)) from hp) (by simp),I.hok.kept hk,?_⟩
 ·have hy':scope.names.lookup y=some .free:=lC (env:=X.env) S.nocell hy
  obtain⟨c,hc⟩:=S.cells I.ok (y,.free) (PySem.mem_of_lookup hy') rfl
  exact Option.isSome_iff_exists.mp (xR scope.names [] y c (PySem.mem_of_lookup hy') hc)
 ·obtain⟨_,_,_,f3,_⟩:=hf b hb
  rcases f3 with f3 | f3
  ·exact I.ok.noex b o e f3
  ·exact absurd (Nat.lt_of_lt_of_le (Heap.lt_size e) (Nat.le_trans I.ok.bsz f3)) (Nat.lt_irrefl _)
 ·rcases List.mem_cons.mp (I.stkSub b hs) with e | e
  ·exact(hf b hb).2.1 e
  ·exact(hf b hb).2.2.1 e
 ·cases i with
  | zero =>
   have h2':(none:Option V)=some v:=by simpa [qR] using h2
   cases h2'
  | succ i =>
   have h1':(ix.map fun i=>X.N.getD i "")[i]?=some y:=by simpa [bX,nP] using h1
   have h2':(ix.map fun i=>σ.getD i none)[i]?=some (some v):=by simpa [qR] using h2
   rw[List.getElem?_map] at h1' h2'
   cases ei:ix[i]? with
   | none=>rw[ei] at h1';cases h1'
   | some j =>
    rw[ei] at h1' h2'
    have h1'':X.N.getD j ""=y:=Option.some.inj h1'
    have h2'':σ.getD j none=some v:=Option.some.inj h2'
    obtain⟨hj,hfr⟩:=S.cap j (List.mem_of_getElem? ei)
    rw[h1''] at hfr
    have e1:X.N[j]?=some y:=by
     rw[List.getElem?_eq_getElem hj]
     rw[List.getD_eq_getElem?_getD,List.getElem?_eq_getElem hj] at h1''
     exact congrArg some h1''
    have e2:σ[j]?=some (some v):=by
     have hj':j<σ.length:=by rw[I.len];exact hj
     rw[List.getElem?_eq_getElem hj']
     rw[List.getD_eq_getElem?_getD,List.getElem?_eq_getElem hj'] at h2''
     exact congrArg some h2''
    have vis:Jy X.env.scope y:=by
     rcases S.free (y,.free) (PySem.mem_of_lookup hfr) rfl with q | q
     ·exact .inr (.inl q)
     ·exact .inr (.inr q)
    obtain⟨m,hn,hl⟩:=I.loc
    obtain⟨u,r,q⟩:=hl j y v e1 e2 vis
    refine⟨u,r,.inr ⟨?_,?_⟩⟩
    ·exact lJ (env:=X.env) hfr
    ·rcases q with ⟨k,_⟩ | ⟨_,c,hc,z⟩
     ·rcases S.free (y,.free) (PySem.mem_of_lookup hfr) rfl with q | q
      ·rw[show X.env.kindOf y=X.env.scope.names.lookup y from rfl,q] at k;cases k
      ·rw[show X.env.kindOf y=X.env.scope.names.lookup y from rfl,q] at k;cases k
     ·obtain⟨c',hc'⟩:=Option.isSome_iff_exists.mp (xR scope.names [] y c (PySem.mem_of_lookup hfr) hc)
      have e3:=sound y c' hc'
      rw[hc] at e3;cases e3
      exact⟨c,hc',cellK y c _ hc z⟩
 ·obtain⟨v,q⟩:=I.cell y c (sound y c e)
  exact⟨v,cellK y c v (sound y c e) q⟩
 ·simp[qR,bX,nP]
theorem wB{pins:List (Addr×Obj)}{σ σ':St}{H H':Hp}{s s':Shared}{fp:List Addr}{h'':Heap}(I:Inv X pins σ H s)(hf:∀ b∈fp,fV X pins H b)(J:Inv (bX X scope x ix fp s H) [] σ' H' s')
  (sb:Heap.SameBut s.heap.objs.size s'.heap h''):Inv X pins σ H' { s' with heap:=h'' }:=by
 have neC:∀ b o,s.heap.get? b=some o→b≠s.heap.objs.size:=fun b o e=>Nat.ne_of_lt (Heap.lt_size e)
 have B:Un (Bf X.stack) fp H H' s.heap s'.heap:=J.base
 have hC:H' s.heap.objs.size=none:=J.free
 refine I.call' (ch:=fp) J.os ?_ ?_ J.bare fun b hb=>⟨(hf b hb).2.2.2.1,(hf b hb).2.1,(hf b hb).2.2.2.2.1,(hf b hb).2.2.2.2.2⟩
 ·refine⟨fun b o e n hb hx=>(sb.2 b (neC b o e)).trans (B.keep b o e n hb hx),fun b o e n hb hx=>?_,B.free,fun b o e hx=>?_,B.tups,B.frzs,B.tbls⟩
  ·obtain⟨sl,q⟩:=B.slot b o e n hb hx
   exact⟨sl,(sb.2 b (neC b o e)).trans q⟩
  ·obtain⟨o',q⟩:=B.there b o e hx
   exact⟨o',(sb.2 b (neC b o e)).trans q⟩
 ·intro b ob e
  refine(J.hok b ob e).stay (fun c w' hc q=>(sb.2 c ?_).trans q) (fun _ q=>q) fun _ _ q=>q
  rintro rfl
  rcases hc with hc | hc
  ·rw[← hc,hC] at e;cases e
  ·rw[hC] at hc;cases hc
end
theorem qU{α β:Type}{M:Model}{A:Around}{a:α}{t:Sem β}{P:α→Shared→Prop}{Q:β→Shared→Prop}{E E':Value→Shared→Prop}{s:Shared}(h:wpAny M A (pure a:Sem α) P E s)(k:P a s→wpAny M A t Q E' s):wpAny M A t Q E' s:=fun Γ p hΓ=>k (h Γ p hΓ) Γ p hΓ
def qX(X:Cx)(ifs:List Expr)(t:TT):Prop :=
 ∀ (pins:List (Addr×Obj)) (s:Shared) (σ:St) (H:Hp) (Q:Bool→Hp→Prop),Inv X pins σ H s→t σ H Q →
  wpAny (model X.prog X.w) X.A (forIn ifs true fun c r=>if r=true then do let ok ← isTrue c X.env (eval c X.env);pure (ForInStep.yield ok) else pure (ForInStep.yield r)) (TP X pins σ Q) X.xe s
def IZ:TT:=fun _ H Q=>Q true H
theorem bF{X:Cx}:qX X [] IZ:=fun _ _ _ H _ I h=>wpAny_tests_nil ⟨H,I,h⟩
theorem vW{X:Cx}{c:Expr}{t:TT}(h:PT X c t):qX X [c] t:=fun pins s σ H Q I q=>wpAny_tests_one (h pins s σ H Q I q)
def lP(σ:St)(ix:List Nat):St:=ix.map fun i=>σ.getD i none
def iP(J:It)(D:Addr)(Q:VK)(ti:TT)(te:TE)(c:St)(H0:Hp):Prop :=
 ∃ W:Nat→Nat→Hp→Prop,(∃ m,W 0 m H0)∧∀ i m H,W i m H →
  (J.stop i H∧Q (.ref D) H)∨(J.go i H∧∃ N:Hp→Prop,(∀ H',N H'→∃ m',m' < m∧W (i+1) m' H')∧∀ v H',J.yld i H v H' →
   ti (some v::c) H' fun b H2=>if b=true then te (some v::c) H2 fun y H3=>∃ ys,H3 D=some (.lst ys)∧ys.length<sizeLine∧N (upd H3 D (.lst (ys++[y]))) else N H2)
def BV(wi:TI)(ix:List Nat)(ti:TT)(te:TE):TE:=fun σ H Q=>wi σ H fun J H1=>∀ D,H1 D=none→iP J D Q ti te (lP σ ix) (upd H1 D (.lst []))
section
variable {X:Cx}{scope:Scope}{x:Str}{px pos:Pos}{ix:List Nat}{elt iter:Expr}{ifs:List Expr}{wi:TI}{ti:TT}{te:TE}
theorem pL{pins:List (Addr×Obj)}{σ:St}{H:Hp}{s:Shared}{fp:List Addr}{it D:Addr}{tn:Nat→Heap→Prop}{J:It}{Q:VK}{E:Value→Shared→Prop}{RR:Result→Shared→Prop}(S:CompSc X scope x ix)(hc:X.calm=true)
  (he:∀ s H,PE (bX X scope x ix fp s H) elt te) (hi:∀ s H,qX (bX X scope x ix fp s H) ifs ti)
  (I:Inv X pins σ H s) (T:Turn X.prog X.w X.K (.Name x px) J fp it tn) (st:tn 0 s.heap) (hf:∀ b∈fp,fV X pins H b) (go:iP J D Q ti te (lP σ ix) H)
  (nd:(nP X x ix).Nodup)
  (hR:∀ σ' H' s',Inv (bX X scope x ix fp s H) [] σ' H' s'→Q (.ref D) H'→RR (.ok .next) s') :
  wpAny (model X.prog X.w) X.A (newFunctionEnv scope X.env.globals (AU scope.names X.env.cells) [] X.env.qual none .none (some X.env)) (fun cenv s₄=>cenv.locals=s.heap.objs.size ∧
   codeAny (model X.prog X.w) X.A (.compStart (.ListComp elt [⟨.Name x px,iter,ifs,0⟩] scope pos) 0 (.ref it) (.ref D) { cenv with scope:=relabel scope X.env }) RR s₄) E s:=by
 refine wpAny_newFunctionEnv S.nocell (by intro y hy;simp at hy) (fun h' ns sb=>⟨rfl,?_⟩) S.kind
 have hlt:∀ b∈fp,b<s.heap.objs.size:=fun b hb=>by
  obtain⟨o,e,_⟩:=T.obj 0 _ st b hb
  exact Heap.lt_size e
 have I0:Inv (bX X scope x ix fp s H) [] (qR σ ix) H { s with heap:=h',toks:=s.toks+([]:List (Str×Value)).length }:=vY S I hf hlt ns sb
 have st0:tn 0 h':=T.keep 0 _ _ st fun b hb o e=>(sb.2 b (Nat.ne_of_lt (Heap.lt_size e))).trans (Heap.get?_push_of_some _ e)
 obtain⟨W,⟨m0,w0⟩,turn⟩:=go
 have stat:∀ {H':Hp},(∀ b∈fp,H' b=none)→∀ b∈fp,fV (bX X scope x ix fp s H) [] H' b:=fun hn b hb=>by
  refine⟨hn b hb,Nat.ne_of_lt (hlt b hb),fun z=>?_,.inl hb,fun y c e=>(I0.ok.exf b hb).2 y c e,fun p hp=>absurd (show p∈([]:List (Addr×Obj)) from hp) (by simp)⟩
  exact I0.ok.exfs b hb z
 have loop:codeAny (model X.prog X.w) X.A (.compLoop (.ListComp elt [⟨.Name x px,iter,ifs,0⟩] scope pos) 0 (.ref it) (.ref D) (bX X scope x ix fp s H).env) RR { s with heap:=h',toks:=s.toks+([]:List (Str×Value)).length }:=by
  refine codeAny_compLoop_tests (fun n s'=>∃ i o H',Inv (bX X scope x ix fp s H) [] (o::lP σ ix) H' s'∧tn i s'.heap∧(∀ b∈fp,H' b=none)∧W i n H') ?_ m0 ⟨0,none,H,I0,st0,fun b hb=>(hf b hb).1,w0⟩
  rintro n s3 ⟨i,o3,H3,I3,st3,fr3,w3⟩
  rcases turn i n H3 w3 with ⟨stop,qn⟩ | ⟨gone,N,hN,step⟩
  ·refine bS (T.done (bX X scope x ix fp s H) rfl rfl rfl hc i [] s3 _ H3 _ I3 (stat fr3) st3 stop) fun r s4 ⟨hr,I4⟩=>?_
   subst hr
   exact hR _ H3 s4 I4 qn
  ·refine bS (T.item (bX X scope x ix fp s H) rfl rfl rfl hc i [] s3 _ H3 (fun _ _=>False) I3 (stat fr3) st3 gone |> fun z=>wpAny_mono z (fun _ _ q=>q) fun _ _ f=>f.elim) fun r s4 ⟨u,hr,h4⟩=>?_
   subst hr
   refine qU (a:=()) h4 fun ⟨y,H5,I5,r5,y5,st5,fr5⟩=>?_
   have I5':=I5.pinned (stat fr5) (T.obj _ _ st5)
   have hx0:(bX X scope x ix fp s H).N[0]?=some x:=rfl
   refine wpAny_assign_Name (gL I5' nd hx0 (.inl (lookup_relabel_local S.x)) r5 (fun s6 I6=>?_) (.inr (lookup_relabel_local S.x)))
   refine wpAny_mono (hi s H _ s6 _ H5 _ I6 (step y H5 y5)) (fun ok s7 ⟨H7,I7,q7⟩=>?_) fun _ _ f=>f.elim
   have again:∀ {o7:Option V} {H7:Hp} {s7:Shared},Inv (bX X scope x ix fp s H) ([]++mP fp s4.heap) (o7::lP σ ix) H7 s7→N H7→∃ m,m<n∧∃ i o H',Inv (bX X scope x ix fp s H) [] (o::lP σ ix) H' s7∧tn i s7.heap∧(∀ b∈fp,H' b=none)∧W i m H':=fun {o7 H7 s7} I7 n7=>by
    obtain⟨m',hm,w7⟩:=hN H7 n7
    refine⟨m',hm,i+1,o7,H7,I7.unpinned,T.keep _ _ _ st5 fun b hb o e=>(I7.pin (b,o) (List.mem_append_right _ (List.mem_append_right _ (dO hb e)))).1,fun b hb=>?_,w7⟩
    obtain⟨o,e,d⟩:=T.obj _ _ st5 b hb
    exact(I7.pin (b,o) (List.mem_append_right _ (List.mem_append_right _ (dO hb e)))).2.1
   cases ok with
   | false =>
    rw[if_neg (by simp)] at q7
    exact again I7 q7
   | true =>
    rw[if_pos rfl] at q7
    refine wpAny_mono (he s H _ s7 _ H7 _ I7 q7) (fun v s8 ⟨y8,H8,I8,r8,ys,hD,hz,n8⟩=>?_) fun _ _ f=>f.elim
    obtain⟨z,its,k,rv,e⟩:=I8.hok D _ hD
    have hl:s8.heap.IsList D its.toArray:=⟨_,e,rfl,k,rfl⟩
    refine cW _ s8 _ H8 (.ref D) [y8] (.ref D) [v] _ I8 rfl (.cons r8 .nil) ⟨D,ys,y8,rfl,rfl,hD,hz,n8⟩ |> fun z=>wpAny_mono z (fun _ s9 ⟨_,H9,I9,_,q9⟩=>again I9 q9) fun _ _ f=>f.elim
 exact codeAny_compStart_list loop (T.self _ 0 _ _ _ st0 loop)
end
section
variable {X:Cx}{scope:Scope}{x:Str}{px pos:Pos}{ix:List Nat}{elt iter:Expr}{ifs:List Expr}{wi:TI}{ti:TT}{te:TE}
theorem Inv.fp_upd{pins:List (Addr×Obj)}{H:Hp}{D:Addr}{o:HO}{fp:List Addr}(hf:∀ b∈fp,fV X pins H b)(hD:∀ b∈fp,b≠D):∀ b∈fp,fV X pins (upd H D o) b:=fun b hb =>
 ⟨by rw[aJ (hD b hb)];exact(hf b hb).1,(hf b hb).2⟩
theorem EB(S:CompSc X scope x ix)(nd:(nP X x ix).Nodup)(hc:X.calm=true)(hi:PI X (.Name x px) iter wi)(hif:∀ fp s H,qX (bX X scope x ix fp s H) ifs ti)(he:∀ fp s H,PE (bX X scope x ix fp s H) elt te)
  (hs:∀ z,foldedSetIterable iter X.env z=pure z:=by intro _;rfl):PE X (.ListComp elt [⟨.Name x px,iter,ifs,0⟩] scope pos) (BV wi ix ti te):=by
 intro pins s σ H Q I h
 rw[eval_ListComp]
 refine wpAny_comprehension_free (use:=none) rfl hs (gH (S.cells I.ok)) S.kind S.loc (bS (hi pins s σ H _ I h) fun v s1 h1=>bS h1 fun itv s2 h2=>?_)
 obtain⟨it,fp,tn,J,H2,rfl,I2,T,st2,f2,q⟩:=h2
 refine wpAny_newObj_type ?_
 have fr:=I2.fresh
 have I3:Inv X pins σ (upd H2 s2.heap.objs.size (.lst [])) { s2 with heap:=s2.heap.push { cls:=.type "list",data:=.seq ([]:List Value).toArray } }:=I2.lnew (t':=s2.toks) .nil (Nat.zero_le _)
 have hD:∀ b∈fp,b≠s2.heap.objs.size:=fun b hb=>by
  obtain⟨o,e,_⟩:=T.obj 0 _ st2 b hb
  exact Nat.ne_of_lt (Heap.lt_size e)
 have f3:=Inv.fp_upd (o:=.lst []) f2 hD
 have st3:tn 0 (s2.heap.push { cls:=.type "list",data:=.seq ([]:List Value).toArray }):=T.keep 0 _ _ st2 fun b hb o e=>Heap.get?_push_of_some _ e
 refine bS (pL (px:=px) (pos:=pos) (iter:=iter) (E:=X.xe) (RR:=compPost (model X.prog X.w) X.A X.xe none (EP X pins σ Q) (.ref s2.heap.objs.size) (s2.heap.push { cls:=.type "list",data:=.seq ([]:List Value).toArray }).objs.size) S hc (he fp) (hif fp) I3 T st3 f3 (q _ fr) nd ?_) fun cenv s4 ⟨e,z⟩=>?_
 ·intro σ' H' s' J' q'
  obtain⟨m,hn,_⟩:=J'.loc
  exact⟨m,hn,fun h'' sb=>⟨_,H',wB I3 f3 J' sb,(show RelV (.ref s2.heap.objs.size) _ from rfl),q'⟩⟩
 ·rw[← show cenv.locals=(s2.heap.push { cls:=.type "list",data:=.seq ([]:List Value).toArray }).objs.size from e] at z;exact z
def FJ(i:Nat)(wi:TI)(ix:List Nat)(ti:TT)(te:TE):TS:=fun D σ H=>BV wi ix ti te σ H fun v H1=>D.nx (σ.set i (some v)) H1
theorem Fg{i:Nat}{y:Str}{py spos:Pos}(hN:X.N.Nodup)(hy:X.N[i]?=some y)(hyl:X.env.scope.names.lookup y=some .local)(S:CompSc X scope x ix)(nd:(nP X x ix).Nodup)(hc:X.calm=true)(hi:PI X (.Name x px) iter wi)
  (hif:∀ fp s H,qX (bX X scope x ix fp s H) ifs ti) (he:∀ fp s H,PE (bX X scope x ix fp s H) elt te)
  (hsw:swapsWith (.ListComp elt [⟨.Name x px,iter,ifs,0⟩] scope pos) (some (.Name y py)) spos.line X.env=pure true:=by rfl)
  (hs:∀ z,foldedSetIterable iter X.env z=pure z:=by intro _;rfl):PS X (.Assign [.Name y py] (.ListComp elt [⟨.Name x px,iter,ifs,0⟩] scope pos) spos) (FJ i wi ix ti te):=by
 intro pins s σ H D I h
 rw[exec_Assign_Name_used _ _ _ _ hsw]
 refine wpAny_bind (wpAny_standAt (wpAny_bind ?_))
 show wpAny _ X.A (do let _ ← comprehension (.ListComp elt [⟨.Name x px,iter,ifs,0⟩] scope pos) scope X.env _ (newList []) false (eval iter X.env) (some (assign (.Name y py) X.env))) _ _ s
 refine wpAny_bind (wpAny_mono (wpAny_comprehension_free (use:=some (assign (.Name y py) X.env)) (Q:=fun _ s'=>SP X pins D .next s') rfl hs (gH (S.cells I.ok)) S.kind S.loc (bS (hi pins s σ H _ I h) fun v s1 h1=>bS h1 fun itv s2 h2=>?_)) (fun _ s' hq=>wpAny_pure (wpAny_pure hq)) fun _ _ e=>e)
 obtain⟨it,fp,tn,J,H2,rfl,I2,T,st2,f2,q⟩:=h2
 refine wpAny_newObj_type ?_
 have fr:=I2.fresh
 have I3:Inv X pins σ (upd H2 s2.heap.objs.size (.lst [])) { s2 with heap:=s2.heap.push { cls:=.type "list",data:=.seq ([]:List Value).toArray } }:=I2.lnew (t':=s2.toks) .nil (Nat.zero_le _)
 have hD:∀ b∈fp,b≠s2.heap.objs.size:=fun b hb=>by
  obtain⟨o,e,_⟩:=T.obj 0 _ st2 b hb
  exact Nat.ne_of_lt (Heap.lt_size e)
 have f3:=Inv.fp_upd (o:=.lst []) f2 hD
 have st3:tn 0 (s2.heap.push { cls:=.type "list",data:=.seq ([]:List Value).toArray }):=T.keep 0 _ _ st2 fun b hb o e=>Heap.get?_push_of_some _ e
 refine bS (pL (px:=px) (pos:=pos) (iter:=iter) (E:=X.xe) (RR:=compPost (model X.prog X.w) X.A X.xe (some (assign (.Name y py) X.env)) (fun _ s'=>SP X pins D .next s') (.ref s2.heap.objs.size) (s2.heap.push { cls:=.type "list",data:=.seq ([]:List Value).toArray }).objs.size) S hc (he fp) (hif fp) I3 T st3 f3 (q _ fr) nd ?_) fun cenv s4 ⟨e,z⟩=>?_
 ·intro σ' H' s' J' q'
  have neL:(s2.heap.push { cls:=.type "list",data:=.seq ([]:List Value).toArray }).objs.size≠X.env.locals:=Nat.ne_of_gt I3.lt
  have I4:Inv X pins σ H' { s' with heap:=s'.heap }:=wB I3 f3 J' (.refl ..)
  show wpAny (model X.prog X.w) X.A (assign (.Name y py) X.env (.ref s2.heap.objs.size)) _ X.xe s'
  refine wpAny_assign_Name (sH (s:=s') I4 hN hy (.inl hyl) (show RelV (.ref s2.heap.objs.size) _ from rfl) (fun s6 I6 ⟨a,sb,ha⟩=>?_) (.inr hyl))
  have ha':a≠(s2.heap.push { cls:=.type "list",data:=.seq ([]:List Value).toArray }).objs.size:=by
   rcases ha with ha | ha
   ·rw[ha];exact Ne.symm neL
   ·obtain⟨v,z⟩:=I3.cell y a ha
    exact Nat.ne_of_lt z.lt
  obtain⟨m,hn,_⟩:=J'.loc
  refine⟨m,hn.sameBut sb (Ne.symm ha'),fun h'' sb2=>⟨σ.set i (some (.ref s2.heap.objs.size)),H',?_,q'⟩⟩
  -- the block's dict is not ours: its change is no matter
  have I7:Inv X pins (σ.set i (some (.ref s2.heap.objs.size))) H' s6:=I6
  have hCn:H' (s2.heap.push { cls:=.type "list",data:=.seq ([]:List Value).toArray }).objs.size=none:=J'.free
  refine I7.turned (s:=s6) (t':=s6.toks) (it:=(s2.heap.push { cls:=.type "list",data:=.seq ([]:List Value).toArray }).objs.size) (fun b o hb e=>(sb2.2 b hb).trans e) hCn neL (.inr (Nat.le_trans I3.sz (Nat.le_refl _))) (fun y c e z=>?_) fun p hp z=>?_
  ·obtain⟨v,q⟩:=I3.cell y c e
   exact absurd z (Nat.ne_of_lt q.lt)
  ·exact absurd z (Nat.ne_of_lt (Heap.lt_size (I3.pin p hp).1))
 ·rw[← show cenv.locals=(s2.heap.push { cls:=.type "list",data:=.seq ([]:List Value).toArray }).objs.size from e] at z;exact z
end
theorem gZ{lo:Int}{n:Nat}{D:Addr}{Q:VK}{te:TE}{c:St}{H0:Hp}(Pv:Nat→Hp→Prop)(h0:Pv 0 H0)
  (hs:∀ i H,i<n→Pv i H→te (some (.int (lo+i))::c) H fun y H2=>∃ ys,H2 D=some (.lst ys)∧ys.length<sizeLine∧Pv (i+1) (upd H2 D (.lst (ys++[y])))) (hd:∀ H,Pv n H→Q (.ref D) H) :
  iP (HZ lo n) D Q IZ te c H0:=by
 refine⟨fun i m H'=>m=n - i∧i≤n∧Pv i H',⟨n,by simp,Nat.zero_le _,h0⟩,?_⟩
 rintro i m H' ⟨rfl,hi,p⟩
 by_cases hlt:i<n
 ·refine .inr ⟨hlt,Pv (i+1),fun H'' p=>⟨n - (i+1),by omega,rfl,hlt,p⟩,fun v H2 y=>?_⟩
  obtain⟨e,y⟩:=y
  subst e y
  exact kP (B:=Pv (i+1) H2) (hs i H2 hlt p)
 ·have e:i=n:=by omega
  subst e
  exact .inl ⟨Nat.le_refl _,hd H' p⟩
theorem nG{K:PySem.W.Frag}{a:Addr}{xs:List V}{D:Addr}{Q:VK}{ti:TT}{te:TE}{c:St}{H0:Hp}(Pv:Nat→Hp→Prop)(h0:Pv 0 H0)(hl:∀ i H,i≤xs.length→Pv i H→SqL K H a xs)
  (hs:∀ i x H,xs[i]?=some x→Pv i H→ti (some x::c) H fun b H1=>if b=true then te (some x::c) H1 fun y H2=>∃ ys,H2 D=some (.lst ys)∧ys.length<sizeLine∧Pv (i+1) (upd H2 D (.lst (ys++[y]))) else Pv (i+1) H1) (hd:∀ H,Pv xs.length H→Q (.ref D) H) :
  iP (Ii K a) D Q ti te c H0:=by
 refine⟨fun i m H'=>m=xs.length - i∧i≤xs.length∧Pv i H',⟨xs.length,by simp,Nat.zero_le _,h0⟩,?_⟩
 rintro i m H' ⟨rfl,hi,p⟩
 have q:=hl i H' hi p
 by_cases hlt:i<xs.length
 ·refine .inr ⟨⟨xs,xs[i],q,by simp[hlt]⟩,Pv (i+1),fun H'' p=>⟨xs.length - (i+1),by omega,rfl,hlt,p⟩,fun v H2 y=>?_⟩
  obtain⟨e,y⟩:=y
  subst e
  exact hs i v H2 (y xs q) p
 ·have e:i=xs.length:=by omega
  subst e
  exact .inl ⟨⟨xs,q,Nat.le_refl _⟩,hd H' p⟩
theorem cI{K:PySem.W.Frag}{a:Addr}{xs:List V}{D:Addr}{Q:VK}{ti:TT}{te:TE}{c:St}{H0:Hp}(Pv:Nat→Hp→Prop)(h0:Pv 0 H0)(hl:∀ i H,i≤xs.length→Pv i H→SqT K H a xs)
  (hs:∀ i x H,xs[i]?=some x→Pv i H→ti (some x::c) H fun b H1=>if b=true then te (some x::c) H1 fun y H2=>∃ ys,H2 D=some (.lst ys)∧ys.length<sizeLine∧Pv (i+1) (upd H2 D (.lst (ys++[y]))) else Pv (i+1) H1) (hd:∀ H,Pv xs.length H→Q (.ref D) H) :
  iP (Ik K a) D Q ti te c H0:=by
 refine⟨fun i m H'=>m=xs.length - i∧i≤xs.length∧Pv i H',⟨xs.length,by simp,Nat.zero_le _,h0⟩,?_⟩
 rintro i m H' ⟨rfl,hi,p⟩
 have q:=hl i H' hi p
 by_cases hlt:i<xs.length
 ·refine .inr ⟨⟨xs,xs[i],q,by simp[hlt]⟩,Pv (i+1),fun H'' p=>⟨xs.length - (i+1),by omega,rfl,hlt,p⟩,fun v H2 y=>?_⟩
  obtain⟨e,y⟩:=y
  subst e
  exact hs i v H2 (y xs q) p
 ·have e:i=xs.length:=by omega
  subst e
  exact .inl ⟨⟨xs,q,Nat.le_refl _⟩,hd H' p⟩
def Cu(x:Str):It:=⟨fun i _=>i<x.cps.size,fun i H v H'=>H'=H∧∃ c,x.cps[i]?=some c∧v=.str ⟨#[c]⟩,fun i _=>i=x.cps.size⟩
theorem CJ{P:Program}{w:World}{K:PySem.W.Frag}{tg:Expr}(x:Str)(t:Tok)(T:String)(it:Addr)(hT:T="str_ascii_iterator"∨T="str_iterator"):Turn P w K tg (Cu x) [it] it (fun i h=>h.IsStrIter it T x t i) where
 mem:=by simp
 obj:=fun i h st b hb=>by
  have e:b=it:=by simpa using hb
  subst e
  obtain⟨o,e,c,d⟩:=st
  exact⟨o,e,fun v z=>by rw[d] at z;cases z⟩
 keep:=fun i h h' st k=>by
  obtain⟨o,e,r⟩:=st
  exact⟨o,k it (by simp) o e,r⟩
 item:=by
  intro X hP hw hK hc i pins s σ H E I hf st hg
  subst hP hw hK
  obtain⟨f0,f1,f2,f3,f4,f5⟩:=hf it (by simp)
  have hn:["enumerate","zip","dict_itemiterator","dict_reverseitemiterator","odict_iterator","itertools.zip_longest","itertools.pairwise"].contains T=false:=by rcases hT with rfl | rfl <;> decide
  have fin:∀ (v:Value) (h':Heap) (tk:Nat),SignAt x i v→h'.IsStrIter it T x t (i+1)→(∀ b o,b ∉ [it]→s.heap.get? b=some o→h'.get? b=some o) →
    ∃ u,some v=some u∧wpAny (model X.prog X.w) X.A (letOwnedTupleGo tg (.ref it) u) (fun _ s2=>∃ y H',Inv X pins σ H' s2∧RelV y u∧(Cu x).yld i H y H'∧s2.heap.IsStrIter it T x t (i+1)∧∀ b∈[it],H' b=none) E { s with heap:=h',toks:=tk }:=fun v h' tk hv st' kk=>by
   obtain⟨c,u,hc',rfl⟩:=hv
   have I1:Inv X pins σ H { s with heap:=h',toks:=tk }:=I.turned (fun b o hb e=>kk b o (by simpa using hb) e) f0 f1 f3 f4 f5
   obtain⟨o,e,c2,d⟩:=id st'
   exact⟨_,rfl,pX (s:={ s with heap:=h',toks:=tk }) e c2 d hn ⟨.str ⟨#[c]⟩,H,I1,⟨u,rfl⟩,⟨rfl,c,hc',rfl⟩,st',fun b hb=>(hf b hb).1⟩⟩
  rcases hT with rfl | rfl
  ·exact(Walks.strAscii (prog:=X.prog) (w:=X.w) (I.ok.hd hc) it x t).item i s _ _ hg st fin
  ·exact(Walks.strWide (prog:=X.prog) (w:=X.w) (I.ok.hd hc) it x t).item i s _ _ hg st fin
 done:=by
  intro X hP hw hK hc i pins s σ H E I hf st hg
  subst hP hw hK
  obtain⟨f0,f1,f2,f3,f4,f5⟩:=hf it (by simp)
  have hi:i=x.cps.size:=hg
  subst hi
  have fin:∀ (h':Heap) (tk:Nat),(∀ b o,b ∉ [it]→s.heap.get? b=some o→h'.get? b=some o)→(none:Option Value)=none∧Inv X pins σ H { s with heap:=h',toks:=tk }:=fun h' tk kk =>
   ⟨rfl,I.turned (fun b o hb e=>kk b o (by simpa using hb) e) f0 f1 f3 f4 f5⟩
  rcases hT with rfl | rfl
  ·exact(Walks.strAscii (prog:=X.prog) (w:=X.w) (I.ok.hd hc) it x t).done s _ _ st fin
  ·exact(Walks.strWide (prog:=X.prog) (w:=X.w) (I.ok.hd hc) it x t).done s _ _ st fin
 self:=fun A i s Q E st h=>by
  rcases hT with rfl | rfl
  ·exact wpAny_pyIter_striter_ascii st h
  ·exact wpAny_pyIter_striter_wide st h
section
variable {X:Cx}{tg:Expr}
def K6(tl:TE):TI:=fun σ H R=>tl σ H fun x H1=>∃ z,x=.str z∧R (Cu z) H1
theorem kL{l:Expr}{tl:TE}(hl:PE X l tl):PI X tg l (K6 tl):=by
 intro pins s σ H R I h
 refine bS (hl pins s σ H _ I h) fun v s1 ⟨x,H1,I1,r1,q1⟩=>?_
 obtain⟨z,e,q⟩:=q1
 subst e
 obtain⟨t,rfl⟩:=r1
 refine wpAny_pyIter_strU ?_
 refine⟨s1.heap.objs.size,[s1.heap.objs.size],_,_,H1,rfl,I1.kept (t':=s1.toks) fun b o e=>Heap.get?_push_of_some _ e,CJ z t (strIterType z) _ (by unfold strIterType;split <;> simp),⟨_,Heap.get?_push_size _ rfl,rfl,rfl⟩,fun b hb=>?_,q⟩
 have e:b=s1.heap.objs.size:=by simpa using hb
 subst e
 exact I1.fpOk (Nat.le_refl _) (I1.hok.fresh (Nat.le_refl _))
end
abbrev S(w:List Nat):Str:=⟨w.toArray⟩
theorem oC{w:List Nat}{g:TG}{tb:TS}{D:Ends}{σ:St}{H:Hp}(Pv:Nat→St→Hp→Prop)(h0:Pv 0 σ H)
  (hs:∀ i c σ H,w[i]?=some c→Pv i σ H→g (.str (S [c])) σ H fun σ2 H2=>tb { D with nx:=Pv (i+1),ct:=Pv (i+1),bk:=D.nx } σ2 H2) (hd:∀ σ H,Pv w.length σ H→D.nx σ H) :
  ∃ W:Nat→Nat→St→Hp→Prop,(∃ m,W 0 m σ H)∧∀ i m σ H,W i m σ H →
   ((Cu (S w)).stop i H∧D.nx σ H)∨((Cu (S w)).go i H∧∃ N:St→Hp→Prop,(∀ σ' H',N σ' H'→∃ m',m' < m∧W (i+1) m' σ' H')∧∀ x H',(Cu (S w)).yld i H x H'→g x σ H' fun σ2 H2=>tb { D with nx:=N,ct:=N,bk:=D.nx } σ2 H2):=by
 refine⟨fun i m σ H=>m=w.length - i∧i≤w.length∧Pv i σ H,⟨w.length,by simp,Nat.zero_le _,h0⟩,?_⟩
 rintro i m σ H ⟨rfl,hi,p⟩
 by_cases hlt:i<w.length
 ·refine .inr ⟨by simpa [Cu] using hlt,Pv (i+1),fun σ' H' p'=>⟨w.length - (i+1),by omega,rfl,hlt,p'⟩,fun x H' y=>?_⟩
  obtain⟨e,c,hc,rfl⟩:=y
  subst e
  exact hs i c σ _ (by simpa using hc) p
 ·have e:i=w.length:=by omega
  subst e
  exact .inl ⟨by simp[Cu],hd σ H p⟩
theorem kN{w:List Nat}{D:Addr}{Q:VK}{ti:TT}{te:TE}{c:St}{H0:Hp}(Pv:Nat→Hp→Prop)(h0:Pv 0 H0)
  (hs:∀ i k H,w[i]?=some k→Pv i H→ti (some (.str (S [k]))::c) H fun b H1=>if b=true then te (some (.str (S [k]))::c) H1 fun y H2=>∃ ys,H2 D=some (.lst ys)∧ys.length<sizeLine∧Pv (i+1) (upd H2 D (.lst (ys++[y]))) else Pv (i+1) H1) (hd:∀ H,Pv w.length H→Q (.ref D) H) :
  iP (Cu (S w)) D Q ti te c H0:=by
 refine⟨fun i m H'=>m=w.length - i∧i≤w.length∧Pv i H',⟨w.length,by simp,Nat.zero_le _,h0⟩,?_⟩
 rintro i m H' ⟨rfl,hi,p⟩
 by_cases hlt:i<w.length
 ·refine .inr ⟨by simpa [Cu] using hlt,Pv (i+1),fun H'' p=>⟨w.length - (i+1),by omega,rfl,hlt,p⟩,fun v H2 y=>?_⟩
  obtain⟨e,k,hk,rfl⟩:=y
  subst e
  exact hs i k H2 (by simpa using hk) p
 ·have e:i=w.length:=by omega
  subst e
  exact .inl ⟨by simp[Cu],hd H' p⟩
section
variable {X:Cx}
def KG(a:Addr)(D:List (PyData×PyData)):R2:=fun x y H Q=>x=.ref a∧∃ z,y=.str z∧((∃ v,lookup (.str z) D=some (.str v)∧Q (.str v) H)∨∃ i,lookup (.str z) D=some (.int i)∧Q (.int i) H)
theorem Dt{a:Addr}{D:List (PyData×PyData)}(T:∀ h,X.K.In h→StrTab X.prog X.w h a D):Hc X (KG a D):=by
 intro value slice pins s σ H x y v u Q I rx ry h hs
 obtain⟨rfl,z,rfl,q⟩:=h
 cases rx
 obtain⟨t,rfl⟩:=ry
 obtain⟨lo,kvs,hd,hf⟩:=T s.heap I.kIn
 rcases q with ⟨y,hl,q⟩ | ⟨y,hl,q⟩
 ·obtain⟨v,hv,hfl⟩:=hf.of_lookup (enc:=PyData.str) PyProof.V.same_str hl
  exact tail_any hd.typeIs slot_dict_getitem.lookup (wpAny_getItem_of (strKind_is X.prog X.w z t) hd.mapOf hv ⟨.str y,H,I.tok _,PyProof.V.Flat.str_inv hfl,q⟩) hs
 ·obtain⟨v,hv,hfl⟩:=hf.of_lookup (enc:=PyData.str) PyProof.V.same_str hl
  exact tail_any hd.typeIs slot_dict_getitem.lookup (wpAny_getItem_of (strKind_is X.prog X.w z t) hd.mapOf hv ⟨.int y,H,I.tok _,PyProof.V.Flat.int_inv hfl,q⟩) hs
def KY:V→Option Int→Option Int→Hp→VK→Prop:=fun x lo hi H Q=>∃ z,x=.str z∧z.length≤sizeLine∧Q (.str (Txt.slice z lo hi)) H
theorem iO:Gn X KY:=by
 intro pins s σ H x v vl vu lo hi sl Q I rx hs pl pu h
 obtain⟨z,rfl,hz,q⟩:=h
 obtain⟨t,rfl⟩:=rx
 refine⟨"str",_,F.slot_str_getitem.lookup,typeIs_str _ _ _,?_⟩
 obtain⟨o,ho,hc,hd⟩:=hs
 have fin:∀ t' k,EP X pins σ Q (.str (Txt.slice z lo hi) t') { s with toks:=k }:=fun t' k=>⟨.str (Txt.slice z lo hi),H,I.tok _,⟨t',rfl⟩,q⟩
 cases pl with
 | none =>
  cases pu with
  | none=>exact wpAny_getItem_str_slice (l:=none) (u:=none) (st:=none) ⟨o,ho,hc,hd⟩ rfl (post_val_or_str ⟨Nat.le_trans (Txt.slice_le z _ _) hz,fin⟩)
  | int j uj=>exact wpAny_getItem_str_slice (l:=none) (u:=some (j,uj)) (st:=none) ⟨o,ho,hc,hd⟩ rfl (post_val_or_str ⟨Nat.le_trans (Txt.slice_le z _ _) hz,fin⟩)
 | int i ui =>
  cases pu with
  | none=>exact wpAny_getItem_str_slice (l:=some (i,ui)) (u:=none) (st:=none) ⟨o,ho,hc,hd⟩ rfl (post_val_or_str ⟨Nat.le_trans (Txt.slice_le z _ _) hz,fin⟩)
  | int j uj=>exact wpAny_getItem_str_slice (l:=some (i,ui)) (u:=some (j,uj)) (st:=none) ⟨o,ho,hc,hd⟩ rfl (post_val_or_str ⟨Nat.le_trans (Txt.slice_le z _ _) hz,fin⟩)
theorem yO:A9 X "str.islower" (fun x xs H Q=>∃ z,x=.str z∧xs=[]∧Q (.bl (Txt.islower z)) H):=by
 intro pins s σ H x xs v us Q I rx rs h
 obtain⟨z,rfl,rfl,q⟩:=h
 obtain⟨t,rfl⟩:=rx
 cases rs
 exact SC.islower ⟨.bl _,H,I,rfl,q⟩
theorem yJ:A9 X "str.isupper" (fun x xs H Q=>∃ z,x=.str z∧xs=[]∧Q (.bl (Txt.isupper z)) H):=by
 intro pins s σ H x xs v us Q I rx rs h
 obtain⟨z,rfl,rfl,q⟩:=h
 obtain⟨t,rfl⟩:=rx
 cases rs
 exact SC.isupper ⟨.bl _,H,I,rfl,q⟩
theorem vT:A9 X "str.upper" (fun x xs H Q=>∃ z,x=.str z∧xs=[]∧Builtin.Str.tooLong (Txt.upper z).length=false∧Q (.str (Txt.upper z)) H):=by
 intro pins s σ H x xs v us Q I rx rs h
 obtain⟨z,rfl,rfl,hf,q⟩:=h
 obtain⟨t,rfl⟩:=rx
 cases rs
 exact SC.upper hf ⟨.str _,H,I.tok _,⟨_,rfl⟩,q⟩
theorem pN:A9 X "str.lower" (fun x xs H Q=>∃ z,x=.str z∧xs=[]∧Builtin.Str.tooLong (Txt.lower z).length=false∧Q (.str (Txt.lower z)) H):=by
 intro pins s σ H x xs v us Q I rx rs h
 obtain⟨z,rfl,rfl,hf,q⟩:=h
 obtain⟨t,rfl⟩:=rx
 cases rs
 exact SC.lower hf ⟨.str _,H,I.tok _,⟨_,rfl⟩,q⟩
theorem qN:∀ {zs:List Str} {us:List Value},Vals (zs.map V.str) us→StrsAre us zs
 | [],_,r=>by
  cases r
  exact .nil
 | z::zs,_,r=>by
  rw[List.map_cons] at r
  cases r with
  | cons r1 r2 =>
   obtain⟨t,rfl⟩:=r1
   exact .cons z t (qN r2)
theorem Er:A9 X "str.join" (fun x xs H Q=>∃ z a zs,x=.str z∧xs=[.ref a]∧SqL X.K H a (zs.map V.str)∧(zs.map (·.length)).sum+zs.length * z.length≤16777216∧Q (.str (Txt.join z zs)) H):=by
 intro pins s σ H x xs v us Q I rx rs h
 obtain⟨z,a,zs,rfl,rfl,hq,hz,q⟩:=h
 obtain⟨t,rfl⟩:=rx
 obtain⟨u,rfl,ru⟩:=rs.one
 cases ru
 obtain⟨its,r,pl,_⟩:=I.list hq
 exact join_list pl.isList (by simpa using qN r) hz fun t' k=>⟨.str _,H,I.tok _,⟨t',rfl⟩,q⟩
end
def oK:List String:=["str","int","bool","list","tuple","NoneType","dict"]
def bT:List String:=["list","tuple","bool","str","int"]
def gN(t c:String):Bool:=t == c || (t == "bool" && c == "int")
theorem Et(K:PySem.W.Frag)(c:String)(h:c∈bT):PySem.W.kitOne K (.type "str") (.type c)=some (gN "str" c):=by
 simp only [bT,List.mem_cons,List.not_mem_nil,or_false] at h
 rcases h with rfl | rfl | rfl | rfl | rfl <;> kernel_rfl
theorem E1(K:PySem.W.Frag)(c:String)(h:c∈bT):PySem.W.kitOne K (.type "int") (.type c)=some (gN "int" c):=by
 simp only [bT,List.mem_cons,List.not_mem_nil,or_false] at h
 rcases h with rfl | rfl | rfl | rfl | rfl <;> kernel_rfl
theorem Do(K:PySem.W.Frag)(c:String)(h:c∈bT):PySem.W.kitOne K (.type "bool") (.type c)=some (gN "bool" c):=by
 simp only [bT,List.mem_cons,List.not_mem_nil,or_false] at h
 rcases h with rfl | rfl | rfl | rfl | rfl <;> kernel_rfl
theorem CP(K:PySem.W.Frag)(c:String)(h:c∈bT):PySem.W.kitOne K (.type "list") (.type c)=some (gN "list" c):=by
 simp only [bT,List.mem_cons,List.not_mem_nil,or_false] at h
 rcases h with rfl | rfl | rfl | rfl | rfl <;> kernel_rfl
theorem Bq(K:PySem.W.Frag)(c:String)(h:c∈bT):PySem.W.kitOne K (.type "tuple") (.type c)=some (gN "tuple" c):=by
 simp only [bT,List.mem_cons,List.not_mem_nil,or_false] at h
 rcases h with rfl | rfl | rfl | rfl | rfl <;> kernel_rfl
theorem CU(K:PySem.W.Frag)(c:String)(h:c∈bT):PySem.W.kitOne K (.type "NoneType") (.type c)=some (gN "NoneType" c):=by
 simp only [bT,List.mem_cons,List.not_mem_nil,or_false] at h
 rcases h with rfl | rfl | rfl | rfl | rfl <;> kernel_rfl
theorem DF(K:PySem.W.Frag)(c:String)(h:c∈bT):PySem.W.kitOne K (.type "dict") (.type c)=some (gN "dict" c):=by
 simp only [bT,List.mem_cons,List.not_mem_nil,or_false] at h
 rcases h with rfl | rfl | rfl | rfl | rfl <;> kernel_rfl
theorem tK(K:PySem.W.Frag)(t c:String)(ht:t∈oK)(h:c∈bT):PySem.W.kitOne K (.type t) (.type c)=some (gN t c):=by
 simp only [oK,List.mem_cons,List.not_mem_nil,or_false] at ht
 rcases ht with rfl | rfl | rfl | rfl | rfl | rfl | rfl
 ·exact Et K c h
 ·exact E1 K c h
 ·exact Do K c h
 ·exact CP K c h
 ·exact Bq K c h
 ·exact CU K c h
 ·exact DF K c h
section
variable {X:Cx}
inductive BTy(K:PySem.W.Frag)(H:Hp):V→String→Prop where
 | non:BTy K H .non "NoneType"
 | bl (x:Bool):BTy K H (.bl x) "bool"
 | int (i:Int):BTy K H (.int i) "int"
 | str (x:Str):BTy K H (.str x) "str"
 | lst {a:Addr} {xs:List V} (e:SqL K H a xs):BTy K H (.ref a) "list"
 | tup {a:Addr} {xs:List V} (e:SqT K H a xs):BTy K H (.ref a) "tuple"
theorem BTy.mem{K:PySem.W.Frag}{H:Hp}{x:V}{t:String}(h:BTy K H x t):t∈oK:=by cases h <;> decide
theorem Ey{pins:List (Addr×Obj)}{σ:St}{H:Hp}{s:Shared}{A:Around}{E:Value→Shared→Prop}{Q:Value→Shared→Prop}{x:V}{u:Value}{t c:String}(I:Inv X pins σ H s)(rx:RelV x u)(ty:BTy X.K H x t)(hc:c∈bT)
  (h:∀ tk,Q (.bool (gN t c)) { s with toks:=tk }):wpAny (model X.prog X.w) A (call (.builtin "isinstance") [u,.type c]) Q E s:=by
 have e:=tK X.K t c ty.mem hc
 cases ty with
 | non=>cases (show u=Value.none from rx);exact PySem.W.kia_one PySem.W.kitx_none I.kIn True.intro e (fun z=>nomatch z) h
 | bl y=>cases (show u=Value.bool y from rx);exact PySem.W.kia_one PySem.W.kitx_bool I.kIn True.intro e (fun z=>nomatch z) h
 | int i=>obtain⟨t,q⟩:=(show ∃ t,u=Value.int i t from rx);cases q;exact PySem.W.kia_one PySem.W.kitx_int I.kIn True.intro e (fun z=>nomatch z) h
 | str y=>obtain⟨t,q⟩:=(show ∃ t,u=Value.str y t from rx);cases q;exact PySem.W.kia_one PySem.W.kitx_str I.kIn True.intro e (fun z=>nomatch z) h
 | @lst a xs ea =>
  cases (show u=Value.ref a from rx)
  obtain⟨its,_,⟨o,n,h1,h2,_⟩,_⟩:=I.list ea
  exact PySem.W.kia_one PySem.W.kitx_list I.kIn ⟨o,h1,h2⟩ e (fun z=>nomatch z) h
 | @tup a xs ea =>
  cases (show u=Value.ref a from rx)
  obtain⟨its,_,⟨o,h1,h2,_⟩,_⟩:=I.tuple ea
  exact PySem.W.kia_one PySem.W.kitx_tuple I.kIn ⟨o,h1,h2⟩ e (fun z=>nomatch z) h
theorem xC{K:PySem.W.Frag}{t c d:String}(ht:t∈oK)(hc:c∈bT)(hd:d∈bT):PySem.W.kitAny K (.type t) [.type c,.type d]=some (gN t c || gN t d):=by
 unfold PySem.W.kitAny
 rw[tK K t c ht hc]
 cases gN t c with
 | true=>rfl
 | false =>
  dsimp only
  unfold PySem.W.kitAny
  rw[tK K t d ht hd]
  cases gN t d <;> rfl
theorem EI{pins:List (Addr×Obj)}{σ:St}{H:Hp}{s:Shared}{A:Around}{E:Value→Shared→Prop}{Q:Value→Shared→Prop}{x:V}{u:Value}{t c d:String}{p:Addr}(I:Inv X pins σ H s)(rx:RelV x u)(ty:BTy X.K H x t)(hp:H p=some (.tup [.ty c,.ty d]))(hc:c∈bT)(hd:d∈bT)
  (h:∀ tk,Q (.bool (gN t c || gN t d)) { s with toks:=tk }):wpAny (model X.prog X.w) A (call (.builtin "isinstance") [u,.ref p]) Q E s:=by
 have e:=xC (K:=X.K) ty.mem hc hd
 obtain⟨_,its,r,⟨ot,h1,h2,n,h3⟩,_⟩:=I.hok p _ hp
 obtain⟨u1,u2,rfl,r1,r2⟩:=r.two
 cases (show u1=Value.type c from r1)
 cases (show u2=Value.type d from r2)
 obtain⟨cl,dd,dt,sl⟩:=ot
 have h2':cl=.type "tuple":=h2
 have h3':dt=.seq [Value.type c,Value.type d].toArray n:=h3
 subst h2' h3'
 cases ty with
 | non=>cases (show u=Value.none from rx);exact PySem.W.kia_tup PySem.W.kitx_none I.kIn True.intro h1 e (fun z=>nomatch z) h
 | bl y=>cases (show u=Value.bool y from rx);exact PySem.W.kia_tup PySem.W.kitx_bool I.kIn True.intro h1 e (fun z=>nomatch z) h
 | int i=>obtain⟨t,q⟩:=(show ∃ t,u=Value.int i t from rx);cases q;exact PySem.W.kia_tup PySem.W.kitx_int I.kIn True.intro h1 e (fun z=>nomatch z) h
 | str y=>obtain⟨t,q⟩:=(show ∃ t,u=Value.str y t from rx);cases q;exact PySem.W.kia_tup PySem.W.kitx_str I.kIn True.intro h1 e (fun z=>nomatch z) h
 | @lst a xs ea =>
  cases (show u=Value.ref a from rx)
  obtain⟨its,_,⟨o,n,g1,g2,_⟩,_⟩:=I.list ea
  exact PySem.W.kia_tup PySem.W.kitx_list I.kIn ⟨o,g1,g2⟩ h1 e (fun z=>nomatch z) h
 | @tup a xs ea =>
  cases (show u=Value.ref a from rx)
  obtain⟨its,_,⟨o,g1,g2,_⟩,_⟩:=I.tuple ea
  exact PySem.W.kia_tup PySem.W.kitx_tuple I.kIn ⟨o,g1,g2⟩ h1 e (fun z=>nomatch z) h
def Jr(K:PySem.W.Frag):List V→Hp→VK→Prop:=fun xs H Q=>∃ x t,BTy K H x t ∧
 ((∃ c,xs=[x,.ty c]∧c∈bT∧Q (.bl (gN t c)) H)∨∃ c d p,xs=[x,.ref p]∧H p=some (.tup [.ty c,.ty d])∧c∈bT∧d∈bT∧Q (.bl (gN t c || gN t d)) H)
theorem B7:eS X (.builtin "isinstance") (Jr X.K):=by
 intro pins s σ H xs us Q I r h
 obtain⟨x,t,ty,⟨c,rfl,hc,q⟩ | ⟨c,d,p,rfl,hp,hc,hd,q⟩⟩:=h
 ·obtain⟨u,v,rfl,r1,r2⟩:=r.two
  cases (show v=Value.type c from r2)
  exact Ey I r1 ty hc fun tk=>⟨.bl _,H,I.tok _,rfl,q⟩
 ·obtain⟨u,v,rfl,r1,r2⟩:=r.two
  cases (show v=Value.ref p from r2)
  exact EI I r1 ty hp hc hd fun tk=>⟨.bl _,H,I.tok _,rfl,q⟩
theorem dJ{x:Str}{T:String}{pos:Pos}(hg:Gl X x)(hm:X.mg x=none)(hv:bootBuiltins x=some (.type T))(hn:x≠"__name__":=by decide)(hd:(x == ("__debug__":Str))=false:=by decide):PE X (.Name x pos) (tC (.ty T)):=Ea hg hm hv rfl hn hd
theorem nM:∀ {bs:List Bool} {us:List Value},Vals (bs.map V.bl) us→LSm.BoolsAre us bs
 | [],_,r=>by
  cases r
  exact .nil
 | b::bs,_,r=>by
  rw[List.map_cons] at r
  cases r with
  | cons r1 r2 =>
   cases (show _=Value.bool b from r1)
   exact .cons b (nM r2)
theorem AR(hc:X.calm=true):eS X (.builtin "all") (fun xs H Q=>∃ (a:Addr) (bs:List Bool),xs=[.ref a]∧SqL X.K H a (bs.map V.bl)∧Q (.bl (bs.all id)) H):=by
 intro pins s σ H xs us Q I r h
 obtain⟨a,bs,rfl,hq,q⟩:=h
 obtain⟨u,rfl,ru⟩:=r.one
 cases ru
 obtain⟨its,rv,pl,_⟩:=I.list hq
 have hl:=pl.isList
 have hb:=nM rv
 have hlt:a<s.heap.objs.size:=by obtain⟨_,e,_⟩:=hl;exact Heap.lt_size e
 refine call_all_walk (wpAny_pyIter_list hl ?_)
 refine⟨s.heap.objs.size,[s.heap.objs.size,a],[s.heap.objs.size],its.toArray.size,_,_,fun i=>(bs[i]?).getD true,rfl,Walks.list (A:=X.A.in1) (I.ok.hd hc) _ a (Nat.ne_of_lt hlt) its.toArray,
  ⟨⟨_,Heap.get?_push_size _ rfl,rfl,rfl⟩,hl.push _⟩,fun i v s' Q' E' hP hQ=>?_,fun h' tk hk=>?_⟩
 ·obtain⟨b,e,rfl⟩:=hb.get i v (by simpa using hP)
  simp only [e,Option.getD_some] at hQ
  exact wpAny_truthy_bool hQ
 ·have e:((List.range its.toArray.size).all fun i=>(bs[i]?).getD true)=bs.all id:=by
   rw[List.size_toArray,hb.length];exact LSm.range_all bs
  rw[e]
  exact⟨.bl _,H,I.kept (t':=tk) (LSm.kept_iter hk),rfl,q⟩
end
end L2
namespace PySem
open Sem (wp)
namespace F
theorem rS:Manifest.owners.lookup (String.ofList ['d','e','s','r','e','v','e','r'].reverse)=some Manifest.sig_reversed:=by kernel_rfl
theorem slot_rvd_next:Slot "reversed" "__next__" "reversed.__next__" :=
 .of (owner:="reversed") (n:="__next__") (by rw[typeLookup_type,builtinLookup_eq_fast];kernel_rfl) (by decide +kernel) (by decide +kernel) (by decide +kernel)
  (by first | exact .inl (by decide +kernel) | exact .inr (by decide +kernel)) (by rw[isSubtype_type];kernel_rfl)
theorem entry_rvd_next:entryFor table "reversed.__next__"=some Builtin.«reversed.__next__»:=entryFor_of_tree (by kernel_rfl)
theorem args_rvd_next_1(a:Value):argsOk "reversed.__next__" ⟨[a],[]⟩:=by
 unfold argsOk;rw[signature?_of (id:="reversed.__next__") (n:=['_','_','t','x','e','n','_','_']) (o:=['d','e','s','r','e','v','e','r']) (by kernel_rfl) rS];kernel_rfl
theorem slot_rvd_iter:Slot "reversed" "__iter__" "reversed.__iter__" :=
 .of (owner:="reversed") (n:="__iter__") (by rw[typeLookup_type,builtinLookup_eq_fast];kernel_rfl) (by decide +kernel) (by decide +kernel) (by decide +kernel)
  (by first | exact .inl (by decide +kernel) | exact .inr (by decide +kernel)) (by rw[isSubtype_type];kernel_rfl)
theorem args_rvd_iter_1(a:Value):argsOk "reversed.__iter__" ⟨[a],[]⟩:=by
 unfold argsOk;rw[signature?_of (id:="reversed.__iter__") (n:=['_','_','r','e','t','i','_','_']) (o:=['d','e','s','r','e','v','e','r']) (by kernel_rfl) rS];kernel_rfl
theorem entry_rvd_iter:entryFor table "reversed.__iter__"=some Builtin.«dict_keyiterator.__iter__» :=
 entryFor_alias (id':="dict_keyiterator.__iter__") (by kernel_rfl) (by first | rfl | decide +kernel | (unfold String.splitOn;simp +decide [String.splitOnAux])) (by decide +kernel) (by kernel_rfl)
theorem qW:Slot "reversed" "__init__" "object.__init__" :=
 .of (owner:="object") (n:="__init__") (by rw[typeLookup_type,builtinLookup_eq_fast];kernel_rfl) (by decide +kernel) (by decide +kernel) (by decide +kernel)
  (by first | exact .inl (by decide +kernel) | exact .inr (by decide +kernel)) (by rw[isSubtype_type];kernel_rfl)
theorem called_reversed:TypeCalled "reversed" "reversed.__new__" "object.__init__" :=
 ⟨by decide +kernel,by decide +kernel,⟨_,_,mro_reversed⟩,madeBy_type mro_reversed lookup_reversed_new (by decide +kernel),by decide +kernel,by rw[isSubtype_type];kernel_rfl,qW⟩
theorem str_norev:typeLookup (.type "str") "__reversed__"=pure none:=by rw[typeLookup_type,builtinLookup_eq_fast];kernel_rfl
end F
theorem jX(x:Str)(t:Tok)(hx:¬ (x.length:Int) ≥ 2 ^ 63) :
  Meets (Builtin.«reversed.__new__» ⟨[.type "reversed",.str x t],[]⟩) (fun _ R s=>∀ tk,
   R (.ok (.ret (.ref s.heap.objs.size))) { s with heap:=s.heap.push { cls:=.type "reversed",data:=.fields #[.str x t,rawInt ((x.length:Int) - 1)] },toks:=tk }) :=
 .of_wp fun prog w A R s h=>by
  obtain⟨hp,g,d,tk,os⟩:=s
  have hsub:=F.sub_reversed_self
  have hnr:=F.str_norev
  have hsd:isSubtype (.type "str") (.type "dict")=pure false:=by rw[isSubtype_type];kernel_rfl
  have hgi:=F.slot_str_getitem.lookup
  unfold Builtin.«reversed.__new__»
  refine wpAny_bind (wpAny_of_eq (newClass_reversed _) ?_)
  dsimp only
  refine wpAny_bind (wpAny_of_eq (a:=()) (by first | rfl | kernel_rfl) ?_)
  refine wpAny_bind (wpAny_of_eq (a:=()) (by first | rfl | kernel_rfl) ?_)
  try dsimp only
  wp_walk using P.len_str
  case hfit=>exact hx
  all_goals
   refine wpAny_bind (m:=asInt? _) (wpAny_of_eq (a:=some (x.length:Int)) rfl ?_)
   dsimp only
   refine wpAny_bind ?_
   show wpAny _ _ (newObj (.type "reversed") (.fields #[Value.str x t,rawInt ((x.length:Int) - 1)])) _ _ _
   exact wpAny_newObj_type (wpAny_pure ⟨_,rfl,h _⟩)
def Heap.IsRvd(h:Heap)(a:Addr)(x:Str)(t:Tok)(i:Int):Prop:=∃ o,h.get? a=some o∧o.cls=.type "reversed"∧o.data=.fields #[.str x t,rawInt i]
section
variable {prog:Program}{w:World}{A:Around}{E:Value→Shared→Prop}{s:Shared}
theorem Heap.IsRvd.typeIs{a:Addr}{x:Str}{t:Tok}{i:Int}(h:s.heap.IsRvd a x t i):s.TypeIs (.ref a) "reversed":=let ⟨o,ho,hc,_⟩:=h;⟨o,ho,hc⟩
theorem lQ{x:Str}{t:Tok}{Q:Value→Shared→Prop}(hx:¬ (x.length:Int) ≥ 2 ^ 63)
  (h:∀ tk,Q (.ref s.heap.objs.size) { s with heap:=s.heap.push { cls:=.type "reversed",data:=.fields #[.str x t,rawInt ((x.length:Int) - 1)] },toks:=tk }):wpAny (model prog w) A (call (.type "reversed") [.str x t]) Q E s :=
 callType_new F.called_reversed (by decide) (F.typeCall_reversed_1 _) (F.newCall_reversed_1 _) (fun obj=>F.args_object_init_2 obj _) F.entry_reversed_new (jX x t hx) fun tk=>⟨⟨_,Heap.get?_push_size _ rfl,rfl⟩,h tk⟩
theorem gM{it:Addr}{x:Str}{t:Tok}{i:Int}{Q:Value→Shared→Prop}(hit:s.heap.IsRvd it x t i)(h:Q (.ref it) s):wpAny (model prog w) A (pyIter (.ref it)) Q E s:=by
 refine wpAny_pyIter_slot hit.typeIs F.slot_rvd_iter (wpAny_call_entry F.slot_rvd_iter hit.typeIs F.entry_rvd_iter ?_ (F.args_rvd_iter_1 _))
 show wpAny _ _ (ret (.ref it)) _ _ s
 exact wpAny_pure ⟨_,rfl,"reversed",_,hit.typeIs,F.slot_rvd_next.lookup,h⟩
theorem iT{it:Addr}{x:Str}{t:Tok}{i c:Nat}{Q:Option Value→Shared→Prop}(hit:s.heap.IsRvd it x t (i:Int))(hc:x.cps[i]?=some c)(hx:(x.length:Int)<2 ^ 63)
  (hQ:∀ h' tk u,h'.IsRvd it x t ((i:Int) - 1)→Heap.SameBut it s.heap h'→Q (some (.str ⟨#[c]⟩ u)) { s with heap:=h',toks:=tk }):wpAny (model prog w) A (pyNext (.ref it)) Q E s:=by
 obtain⟨o,ho,hcl,hd⟩:=id hit
 have hi:i<x.length:=by
  have:=(Array.getElem?_eq_some_iff.mp hc).1
  exact this
 unfold pyNext
 refine wpAny_bind (wpAny_attempt (wpAny_callSpecial?_slot (name:=Str.ofString "__next__") hit.typeIs F.slot_rvd_next
  (wpAny_call_entry F.slot_rvd_next hit.typeIs F.entry_rvd_next ?_ (F.args_rvd_next_1 _))))
 unfold Builtin.«reversed.__next__»
 refine wpAny_bind (wpAny_of_eq (a:=(Value.ref it,[])) rfl ?_)
 try dsimp only
 refine wpAny_bind (wpAny_field ho hd (x:=.str x t) rfl ?_)
 refine wpAny_bind (wpAny_field ho hd (x:=rawInt (i:Int)) rfl ?_)
 show wpAny _ _ (if (i:Int)<0 then _ else _) _ _ s
 rw[if_neg (by omega)]
 have hgi:=F.slot_str_getitem.lookup
 refine wpAny_bind (wpAny_specialOf (T:="str") (typeIs_str _ _ _) hgi ?_)
 show wpAny _ _ (if (some (Value.builtin "str.__getitem__")).isNone=true then _ else _) _ _ _
 rw[if_neg (by simp)]
 refine wpAny_bind (m:=mkInt _) (wpAny_mkInt ?_)
 refine wpAny_bind (wpAny_attempt (P.getItem_str (c:=c) (by
  have e1:decide ((i:Int) < -(2 ^ 63:Int))=false:=decide_eq_false (by omega)
  have e2:decide ((i:Int) ≥ 2 ^ 63)=false:=decide_eq_false (by omega)
  rw[e1,e2,Bool.or_false]) (by rw[seqIndex_of (by omega) (by omega)];simpa using hc) ?_))
 dsimp only
 refine wpAny_bind (wpAny_field ho hd (x:=rawInt (i:Int)) rfl ?_)
 refine wpAny_bind (wpAny_setField ho hd (by simp) ?_)
 refine wpAny_pure ⟨_,rfl,wpAny_pure (hQ _ _ _ ?_ (Heap.SameBut.update ..))⟩
 exact⟨_,Heap.get?_update_self _ ho (Obj.isFreed_of_fields (Obj.data_mapFields hd _)),(Obj.cls_mapFields ..).trans hcl,by
  rw[Obj.data_mapFields hd];simp⟩
theorem jA{it:Addr}{x:Str}{t:Tok}{Q:Option Value→Shared→Prop}(hh:A.handled=none)(hit:s.heap.IsRvd it x t (-1))
  (hQ:∀ h',Heap.ExtBut it s.heap h'→Q none { s with heap:=h' }):wpAny (model prog w) A (pyNext (.ref it)) Q E s:=by
 obtain⟨o,ho,hcl,hd⟩:=id hit
 unfold pyNext
 refine wpAny_bind (wpAny_attempt (wpAny_callSpecial?_slot (name:=Str.ofString "__next__") hit.typeIs F.slot_rvd_next
  (wpAny_call_entry F.slot_rvd_next hit.typeIs F.entry_rvd_next ?_ (F.args_rvd_next_1 _))))
 unfold Builtin.«reversed.__next__»
 refine wpAny_bind (wpAny_of_eq (a:=(Value.ref it,[])) rfl ?_)
 try dsimp only
 refine wpAny_bind (wpAny_field ho hd (x:=.str x t) rfl ?_)
 refine wpAny_bind (wpAny_field ho hd (x:=rawInt (-1)) rfl ?_)
 show wpAny _ _ (if (-1:Int)<0 then _ else _) _ _ s
 rw[if_pos (by decide)]
 refine wpAny_bind (wpAny_rule ?_)
 refine wpAny_bind ?_
 show wpAny _ _ (setField (.ref it) 1 (rawInt (-1)) >>= fun _=>setField (.ref it) 0 .none) _ _ _
 refine wpAny_bind (wpAny_setField ho hd (by simp) ?_)
 have ho':(s.heap.update it (Obj.mapFields fun xs=>xs.setIfInBounds 1 (rawInt (-1)))).get? it=some _:=Heap.get?_update_self _ ho (Obj.isFreed_of_fields (Obj.data_mapFields hd (fun xs=>xs.setIfInBounds 1 (rawInt (-1)))))
 have hd':=Obj.data_mapFields hd (fun xs=>xs.setIfInBounds 1 (rawInt (-1)))
 refine wpAny_setField (s:={ s with heap:=s.heap.update it (Obj.mapFields fun xs=>xs.setIfInBounds 1 (rawInt (-1))) }) ho' hd' (by simp) ?_
 have eb:Heap.ExtBut it s.heap ((s.heap.update it (Obj.mapFields fun xs=>xs.setIfInBounds 1 (rawInt (-1)))).update it (Obj.mapFields fun xs=>xs.setIfInBounds 0 .none)):=fun b ob hb e =>
  (Heap.get?_update_other _ _ (Ne.symm hb)).trans ((Heap.get?_update_other _ _ (Ne.symm hb)).trans e)
 refine wpAny_bind ?_
 show wpAny _ _ (newExc (.type "StopIteration") [] >>= _) _ _ _
 refine wpAny_bind ?_
 simp only [newExc,newTuple]
 refine wpAny_bind (wpAny_newObj_type ?_ (by size_fits))
 refine wpAny_bind (m:=firstArgMember _ _) (wpAny_of_eq (a:=Value.none) (by first | rfl | (simp only [firstArgMember];rfl)) ?_)
 refine wpAny_newObj_type ?_ (by size_fits)
 simp only [raiseNew]
 refine wpAny_bind (wpAny_handled ?_)
 first | rw[show A.in1.handled=none from hh] | rw[hh]
 refine wpAny_bind (wpAny_pure (wpAny_throw ?_))
 refine wpAny_bind (wpAny_isInstance (T:="StopIteration") (b:=true) ⟨_,Heap.get?_push_size _ rfl,rfl⟩ isSubtype_stop ?_)
 exact wpAny_pure (hQ _ ((eb.push _).push _))
end
end PySem
namespace L2
open PySem PySem.Spec PyProof.Rows
def Kg(x:Str):It:=⟨fun i _=>i<x.cps.size,fun i H v H'=>H'=H∧∃ c,x.cps[x.cps.size - 1 - i]?=some c∧v=.str ⟨#[c]⟩,fun i _=>i=x.cps.size⟩
theorem CC{P:Program}{w:World}{K:PySem.W.Frag}{tg:Expr}(x:Str)(t:Tok)(it:Addr)(hx:(x.length:Int)<2 ^ 63):Turn P w K tg (Kg x) [it] it (fun i h=>i≤x.cps.size∧h.IsRvd it x t ((x.cps.size:Int) - 1 - (i:Int))) where
 mem:=by simp
 obj:=fun i h st b hb=>by
  have e:b=it:=by simpa using hb
  subst e
  obtain⟨_,o,e,c,d⟩:=st
  exact⟨o,e,fun v z=>by rw[d] at z;cases z⟩
 keep:=fun i h h' st k=>by
  obtain⟨hi,o,e,r⟩:=st
  exact⟨hi,o,k it (by simp) o e,r⟩
 item:=by
  intro X hP hw hK hc i pins s σ H E I hf st hg
  subst hP hw hK
  obtain⟨f0,f1,f2,f3,f4,f5⟩:=hf it (by simp)
  obtain⟨hi,st⟩:=st
  have hg':i<x.cps.size:=hg
  have e1:(x.cps.size:Int) - 1 - (i:Int)=((x.cps.size - 1 - i:Nat):Int):=by omega
  rw[e1] at st
  have hcx:x.cps[x.cps.size - 1 - i]?=some (x.cps[x.cps.size - 1 - i]'(by omega)):=Array.getElem?_eq_getElem (by omega)
  refine iT st hcx hx fun h' tk u st' sb=>?_
  have e2:((x.cps.size - 1 - i:Nat):Int) - 1=(x.cps.size:Int) - 1 - ((i+1:Nat):Int):=by omega
  rw[e2] at st'
  have I1:Inv X pins σ H { s with heap:=h',toks:=tk }:=I.turned (fun b o hb e=>(sb.2 b hb).trans e) f0 f1 f3 f4 f5
  obtain⟨o,e,c,d⟩:=id st'
  exact⟨_,rfl,pX (s:={ s with heap:=h',toks:=tk }) e c d (by decide) ⟨.str ⟨#[_]⟩,H,I1,⟨u,rfl⟩,⟨rfl,_,hcx,rfl⟩,⟨hg',st'⟩,fun b hb=>(hf b hb).1⟩⟩
 done:=by
  intro X hP hw hK hc i pins s σ H E I hf st hg
  subst hP hw hK
  obtain⟨f0,f1,f2,f3,f4,f5⟩:=hf it (by simp)
  have hi:i=x.cps.size:=hg
  subst hi
  have e1:(x.cps.size:Int) - 1 - ((x.cps.size:Nat):Int)=-1:=by omega
  have st':=st.2
  rw[e1] at st'
  exact jA (I.ok.hd hc) st' fun h' eb=>⟨rfl,I.turned (t':=s.toks) (fun b o hb e=>eb b o hb e) f0 f1 f3 f4 f5⟩
 self:=fun A i s Q E st h=>gM st.2 h
section
variable {X:Cx}{tg:Expr}
def KI(ta:TA):TI:=fun σ H R=>ta σ H fun vs H1=>∃ z:Str,vs=[.str z]∧z.length≤1000∧R (Kg z) H1
theorem Da{a:Expr}{ta:TA}{p pos:Pos}(hg:Gl X "reversed")(hm:X.mg "reversed"=none)(ha:PA X [a] ta)(hs:starEach [a] X.env=[(false,eval a X.env)]:=by rfl):PI X tg (.Call (.Name "reversed" p) [a] [] pos) (KI ta):=by
 intro pins s σ H R I h
 refine Call_ (gE I hg hm boot_reversed (PyProof.Rows.callWith_type1 (bS (ha pos pins s σ H _ I h) fun us s1 ⟨vs,H1,I1,r1,q1⟩=>?_) hs rfl))
 obtain⟨z,e,hz,q⟩:=q1
 subst e
 obtain⟨u,rfl,ru⟩:=r1.one
 obtain⟨t,rfl⟩:=ru
 refine lQ (by omega) fun tk=>?_
 have I2:Inv X pins σ H1 { s1 with heap:=s1.heap.push { cls:=.type "reversed",data:=.fields #[.str z t,rawInt ((z.length:Int) - 1)] },toks:=tk }:=I1.kept fun b o e=>Heap.get?_push_of_some _ e
 have st:(s1.heap.push { cls:=.type "reversed",data:=.fields #[.str z t,rawInt ((z.length:Int) - 1)] }).IsRvd s1.heap.objs.size z t ((z.length:Int) - 1):=⟨_,Heap.get?_push_size _ rfl,rfl,rfl⟩
 refine gM st ?_
 refine⟨s1.heap.objs.size,[s1.heap.objs.size],_,_,H1,rfl,I2,CC z t _ (by omega),⟨Nat.zero_le _,?_⟩,fun b hb=>?_,q⟩
 ·have e0:(z.cps.size:Int) - 1 - ((0:Nat):Int)=(z.length:Int) - 1:=by show (z.cps.size:Int) - 1 - ((0:Nat):Int)=(z.cps.size:Int) - 1;omega
  rw[e0];exact st
 ·have e:b=s1.heap.objs.size:=by simpa using hb
  subst e
  exact I1.fpOk (Nat.le_refl _) (I1.hok.fresh (Nat.le_refl _))
end
theorem pZ{w:List Nat}{D:Addr}{Q:VK}{ti:TT}{te:TE}{c:St}{H0:Hp}(Pv:Nat→Hp→Prop)(h0:Pv 0 H0)
  (hs:∀ i k H,w.reverse[i]?=some k→Pv i H→ti (some (.str (S [k]))::c) H fun b H1=>if b=true then te (some (.str (S [k]))::c) H1 fun y H2=>∃ ys,H2 D=some (.lst ys)∧ys.length<sizeLine∧Pv (i+1) (upd H2 D (.lst (ys++[y]))) else Pv (i+1) H1) (hd:∀ H,Pv w.length H→Q (.ref D) H) :
  iP (Kg (S w)) D Q ti te c H0:=by
 refine⟨fun i m H'=>m=w.length - i∧i≤w.length∧Pv i H',⟨w.length,by simp,Nat.zero_le _,h0⟩,?_⟩
 rintro i m H' ⟨rfl,hi,p⟩
 by_cases hlt:i<w.length
 ·refine .inr ⟨by simpa [Kg] using hlt,Pv (i+1),fun H'' p=>⟨w.length - (i+1),by omega,rfl,hlt,p⟩,fun v H2 y=>?_⟩
  obtain⟨e,k,hk,rfl⟩:=y
  subst e
  refine hs i k H2 ?_ p
  rw[List.getElem?_reverse hlt]
  simpa using hk
 ·have e:i=w.length:=by omega
  subst e
  exact .inl ⟨by simp[Kg],hd H' p⟩
def mY:List V→List V→Bool
 | [],[]=>true
 | x::xs,y::ys=>wP x y && mY xs ys
 | _,_=>false
theorem pY:∀ {xs ys:List V},xs.length≠ys.length→mY xs ys=false
 | [],[],h=>absurd rfl h
 | [],_::_,_=>rfl
 | _::_,[],_=>rfl
 | x::xs,y::ys,h=>by unfold mY;rw[pY (by simpa using h),Bool.and_false]
theorem pE(n:Nat)(e:Nat→Bool):(List.range (n+1)).all e=(e 0 && (List.range n).all fun i=>e (i+1)):=by
 rw[List.range_succ_eq_map,List.all_cons,List.all_map];rfl
theorem iF:∀ {xs ys:List V},xs.length=ys.length→(List.range xs.length).all (fun i=>match xs[i]?,ys[i]? with | some x,some y=>wP x y | _,_=>true)=mY xs ys
 | [],[],_=>rfl
 | [],_::_,h=>by simp at h
 | _::_,[],h=>by simp at h
 | x::xs,y::ys,h=>by
  have h':xs.length=ys.length:=by simpa using h
  rw[List.length_cons,pE]
  unfold mY
  rw[← iF h']
  simp
section
variable {X:Cx}
theorem oU{A:Around}{s:Shared}{xs ys:List V}{us vs:List Value}(rx:Vals xs us)(ry:Vals ys vs)(fx:xs.all eO=true)(fy:ys.all eO=true) :
  ∀ (j:Nat) (h1:j<us.toArray.size) (h2:j<vs.toArray.size),SeqAt.EqAt A s us.toArray[j] vs.toArray[j] (match xs[j]?,ys[j]? with | some x,some y=>wP x y | _,_=>true):=fun j h1 h2=>by
 have hx:j<xs.length:=by rw[rx.length];simpa using h1
 have hy:j<ys.length:=by rw[ry.length];simpa using h2
 obtain⟨u,hu,ru⟩:=rx.get (List.getElem?_eq_getElem hx)
 obtain⟨v,hv,rv⟩:=ry.get (List.getElem?_eq_getElem hy)
 have eu:us.toArray[j]=u:=by
  have:us[j]?=some us.toArray[j]:=by rw[List.getElem?_eq_getElem (by simpa using h1)];simp
  rw[hu] at this;exact(Option.some.inj this).symm
 have ev:vs.toArray[j]=v:=by
  have:vs[j]?=some vs.toArray[j]:=by rw[List.getElem?_eq_getElem (by simpa using h2)];simp
  rw[hv] at this;exact(Option.some.inj this).symm
 rw[eu,ev,List.getElem?_eq_getElem hx,List.getElem?_eq_getElem hy]
 exact xG ru rv (List.all_eq_true.mp fx _ (List.getElem_mem hx)) (List.all_eq_true.mp fy _ (List.getElem_mem hy))
def Ka(K:PySem.W.Frag)(neg:Bool):R2:=fun x y H Q=>∃ a b xs ys,x=.ref a∧y=.ref b∧((SqL K H a xs∧SqL K H b ys)∨(SqT K H a xs∧SqT K H b ys))∧xs.all eO=true∧ys.all eO=true∧Q (.bl (if neg then !mY xs ys else mY xs ys)) H
theorem Gu(hu:X.A.units<cLine):iC X (compareOp .Eq) (Ka X.K false):=by
 intro pins s σ H x y v u Q I rx ry h
 obtain⟨a,b,xs,ys,rfl,rfl,hq,fx,fy,q⟩:=h
 cases rx
 cases ry
 rcases hq with ⟨ha,hb⟩ | ⟨ha,hb⟩
 ·obtain⟨us,r1,p1,_⟩:=I.list ha
  obtain⟨vs,r2,p2,_⟩:=I.list hb
  by_cases hl:xs.length=ys.length
  ·refine SeqAt.eq_listAt p1.isList p2.isList (by simp;rw[← r1.length,← r2.length];exact hl) hu (oU r1 r2 fx fy) ?_
   rw[List.size_toArray,← r1.length,iF hl]
   exact⟨.bl _,H,I,rfl,q⟩
  ·refine SeqAt.eq_list_lengthsAt p1.isList p2.isList (by simp;rw[← r1.length,← r2.length];exact hl) hu ?_
   rw[pY hl] at q
   exact⟨.bl _,H,I,rfl,q⟩
 ·obtain⟨us,r1,p1,_⟩:=I.tuple ha
  obtain⟨vs,r2,p2,_⟩:=I.tuple hb
  refine SeqAt.eq_tupleAt (show s.heap.IsTuple a us.toArray from p1) (show s.heap.IsTuple b vs.toArray from p2) hu (oU r1 r2 fx fy) ?_
  refine⟨.bl _,H,I,rfl,?_⟩
  have e:((List.range (min us.toArray.size vs.toArray.size)).all (fun i=>match xs[i]?,ys[i]? with | some x,some y=>wP x y | _,_=>true) && us.toArray.size == vs.toArray.size)=mY xs ys:=by
   rw[List.size_toArray,List.size_toArray,← r1.length,← r2.length]
   by_cases hl:xs.length=ys.length
   ·rw[← hl,Nat.min_self,iF hl];simp
   ·rw[pY hl];simp[hl]
  rw[e]
  exact q
theorem lB(hc:X.calm=true):eS X (.type "list") (fun xs H Q=>∃ w:List Nat,xs=[.str (S w)]∧w.length≤1000∧∀ l,H l=none→Q (.ref l) (upd H l (.lst (w.map fun c=>V.str (S [c]))))):=by
 intro pins s σ H xs us Q I r h
 obtain⟨w,rfl,hz,q⟩:=h
 obtain⟨u,rfl,ru⟩:=r.one
 obtain⟨t,rfl⟩:=ru
 have hz2:w.length≤sizeLine:=Nat.le_of_lt (aW hz)
 refine call_list_str (I.ok.hd hc) (S w) t (fun h' tk acc c hk hl hit=>?_) (by simpa using hz2)
 have hv:Vals (w.map fun c=>V.str (S [c])) acc.toList:=by
  have hn:acc.size=w.length:=by simpa using hit.1
  have:∀ (n:Nat) (w:List Nat) (l:List Value),w.length=n→l.length=n→(∀ (j:Nat) (v:Value),l[j]?=some v→∃ (c:Nat) (u:Tok),w[j]?=some c∧v=Value.str ⟨#[c]⟩ u)→Vals (w.map fun c=>V.str (S [c])) l:=by
   intro n
   induction n with
   | zero =>
    intro w l h1 h2 _
    have e1:=List.length_eq_zero_iff.mp h1
    have e2:=List.length_eq_zero_iff.mp h2
    subst e1 e2
    exact .nil
   | succ n ih =>
    intro w l h1 h2 h3
    cases w with
    | nil=>simp at h1
    | cons c w =>
     cases l with
     | nil=>simp at h2
     | cons v l =>
      obtain⟨c',u,hc',rfl⟩:=h3 0 v rfl
      have hc'':c=c':=by simpa using hc'
      subst hc''
      exact .cons ⟨u,rfl⟩ (ih w l (by simpa using h1) (by simpa using h2) fun j v hv=>by simpa using h3 (j+1) v (by simpa using hv))
  refine this w.length w acc.toList rfl (by simpa using hn) fun j v hv=>?_
  obtain⟨c,u,hc,hv'⟩:=hit.2 j v (by simpa using hv)
  exact⟨c,u,by simpa using hc,hv'⟩
 refine⟨.ref s.heap.objs.size,_,I.laid (t':=tk) (o:=.lst (w.map fun c=>V.str (S [c]))) hk (Nat.le_refl _) ⟨by rw[List.length_map];exact hz2,acc.toList,c,hv,?_⟩,rfl,q _ I.fresh⟩
 simpa using hl
end
def lH(sc0 scope:Scope)(N:List Str)(x:Str)(ix:List Nat):Bool :=
 decide (scope.kind=.function) && scope.names.all (fun y=>decide (y.2≠.cell)) && scope.names.all (fun y=>decide (y.2=.local→scope.names.lookup y.1=some .local)) && decide (scope.names.lookup x=some .local) &&
 scope.names.all (fun y=>decide (y.2=.free→sc0.names.lookup y.1=some .cell∨sc0.names.lookup y.1=some .free)) && ix.all (fun i=>decide (i<N.length) && decide (scope.names.lookup (N.getD i "")=some .free)) && decide ((x::ix.map fun i=>N.getD i "").Nodup)
theorem gI{X:Cx}{sc0 scope:Scope}{N:List Str}{x:Str}{ix:List Nat}(h:lH sc0 scope N x ix=true)(e1:X.env.scope=sc0)(e2:X.N=N):CompSc X scope x ix∧(nP X x ix).Nodup:=by
 subst e1 e2
 simp only [lH,Bool.and_eq_true,List.all_eq_true,decide_eq_true_eq] at h
 obtain⟨⟨⟨⟨⟨⟨h1,h2⟩,h3⟩,h4⟩,h5⟩,h6⟩,h7⟩:=h
 exact⟨⟨h1,h2,h3,h4,h5,h6⟩,h7⟩
section
variable {prog:Program}{w:World}{A:Around}{E:Value→Shared→Prop}{s:Shared}
theorem rV{it t:Addr}{items:Array Value}(hne:t≠it):∀ (n i:Nat) (s:Shared) (Q:List Value→Shared→Prop),s.heap.IsListIter it t i→s.heap.IsList t items→i+n≤items.size →
  (∀ h',h'.IsListIter it t (i+n)→Heap.SameBut it s.heap h'→Q ((items.toList.drop i).take n) { s with heap:=h' })→wpAny (model prog w) A (draw (.ref it) n) Q E s
 | 0,i,s,Q,hit,_,_,hQ=>by
  show wpAny _ _ (pure []) Q E s
  exact wpAny_pure (by simpa using hQ s.heap hit (Heap.SameBut.refl ..))
 | n+1,i,s,Q,hit,ht,hle,hQ=>by
  have hlt:i<items.size:=by omega
  show wpAny _ _ (pyNext (.ref it) >>= _) Q E s
  refine wpAny_bind (wpAny_pyNext_list_item hit ht (x:=items[i]) (by simp[hlt]) fun h₁ hit₁ hs₁=>?_)
  refine wpAny_bind (wpAny_holding (rV hne n (i+1) _ _ hit₁ (ht.extBut hs₁.extBut hne) (by omega) fun h₂ hit₂ hs₂=>wpAny_pure ?_))
  have hd:items.toList.drop i=items[i]::items.toList.drop (i+1):=by simp[List.drop_eq_getElem_cons,hlt]
  have:=hQ h₂ (by rw[show i+(n+1)=i+1+n by omega];exact hit₂) (hs₁.trans hs₂)
  rw[hd,List.take_succ_cons] at this
  exact this
theorem mN{t:Addr}{items:Array Value}{Q:List Value→Shared→Prop}(hh:A.handled=none)(ht:s.heap.IsList t items)
  (hQ:∀ h',Heap.ExtBut s.heap.objs.size s.heap h'→Q items.toList { s with heap:=h' }):wpAny (model prog w) A (unpackItems (.ref t) items.size none) Q E s:=by
 have hlt:t≠s.heap.objs.size:=by obtain⟨o,ho,_⟩:=ht;exact Nat.ne_of_lt (Heap.lt_size ho)
 unfold unpackItems
 refine wpAny_bind ?_
 ·unfold notIterableAtAll
  refine wpAny_bind (wpAny_specialOf ht.typeIs slot_list_iter.lookup ?_)
  refine wpAny_pure ?_
  simp only [Bool.false_eq_true,if_false]
  refine wpAny_bind (wpAny_holding (wpAny_pyIter_list ht ?_))
  refine wpAny_bind (wpAny_holding (rV hlt items.size 0 _ _ ⟨_,Heap.get?_push_size _ rfl,rfl,rfl⟩ (ht.push _) (by omega) fun h₁ hit₁ hs₁=>?_))
  have hall:List.take items.size (List.drop 0 items.toList)=items.toList:=by
   rw[List.drop_zero];exact List.take_of_length_le (by simp)
  rw[hall]
  rw[if_neg (by simp)]
  have ht₁:h₁.IsList t items:=(ht.push _).extBut hs₁.extBut hlt
  refine wpAny_bind (wpAny_holding (wpAny_pyNext_list_end hh hit₁ ht₁ (by simp) fun h₂ he₂=>?_))
  simp only [Option.isSome_none,Bool.false_eq_true,if_false]
  refine wpAny_pure (hQ h₂ fun b o hb e=>he₂ b o hb (hs₁.extBut b o hb (Heap.get?_push_of_some _ e)))
theorem lL{env:Env}{elts:List Expr}{x1}{pos:Pos}{t:Addr}{items:Array Value}{Q:Unit→Shared→Prop}(hh:A.handled=none)(ht:s.heap.IsList t items)
  (hn:(assignEach elts env).length=items.size) (hstar:(assignEach elts env).findIdx? (·.1)=none)
  (h:∀ h',Heap.ExtBut s.heap.objs.size s.heap h'→wpAny (model prog w) A (assignInOrder ((assignEach elts env).map (·.2)) items.toList) Q E { s with heap:=h' }) :
  wpAny (model prog w) A (assign (.Tuple elts x1 pos) env (.ref t)) Q E s:=by
 rw[assign_Tuple]
 refine wpAny_bind (wpAny_standAt ?_)
 unfold unpack
 rw[hn,hstar]
 exact wpAny_bind (wpAny_holding (mN hh ht h))
end
section
variable {X:Cx}{pos:Pos}{K:PySem.W.Frag}
def K3(K:PySem.W.Frag)(n:Nat)(t:Gw):TG:=fun v σ H Q=>∃ a xs,v=.ref a∧(SqL K H a xs∨SqT K H a xs)∧xs.length=n∧t xs σ H Q
theorem kH{es:List Expr}{k:Nat}{t:Gw}{n:Nat}(hK:X.K=K)(hc:X.calm=true)(h:Kt X es t)
  (hn:(assignEach es X.env).length=n:=by rfl) (hst:(assignEach es X.env).findIdx? (·.1)=none:=by rfl):PG X (.Tuple es k pos) (K3 K n t):=by
 subst hK
 intro pins s σ H v u Q I r hw
 obtain⟨a,xs,e1,hq,hl,hw⟩:=hw
 subst e1
 cases r
 rcases hq with hq | hq
 ·obtain⟨its,rv,ht,hz⟩:=I.list hq
  refine lL (I.ok.hd hc) ht.isList (by simp[hn,← hl,rv.length]) hst fun h' hx=>?_
  have I1:Inv X pins σ H { s with heap:=h' }:=I.kept (t':=s.toks) fun b o e=>hx b o (Nat.ne_of_lt (Heap.lt_size e)) e
  exact h pins _ σ H xs _ Q I1 (by simpa using rv) hw
 ·obtain⟨its,rv,ht,hz⟩:=I.tuple hq
  refine assign_Tuple_tuple (I.ok.hd hc) ht (by simp[hn,← hl,rv.length]) hst fun h' hx=>?_
  have I1:Inv X pins σ H { s with heap:=h' }:=I.kept (t':=s.toks) fun b o e=>hx b o (Nat.ne_of_lt (Heap.lt_size e)) e
  exact h pins _ σ H xs _ Q I1 (by simpa using rv) hw
end
end L2
namespace Ma
def con(c:Nat):Nat:=if 96<c then c - 32 else c+32
def bU(c:Nat):Prop:=(97≤c∧c≤100)∨(65≤c∧c≤68)
theorem aN{c:Nat}(h:bU c):con (con c)=c:=by unfold con;unfold bU at h;split <;> split <;> omega
theorem cN{c:Nat}(h:bU c):bU (con c):=by unfold con;unfold bU at *;split <;> omega
theorem oE{a b:Nat}(ha:bU a)(hb:bU b)(h:con a=con b):a=b:=by rw[← aN ha,← aN hb,h]
theorem hV{c:Nat}(h:bU c):con c≠c:=by unfold con;unfold bU at h;split <;> omega
def push(k:List Nat)(c:Nat):List Nat:=match k with
 | []=>[c]
 | x::r=>if x=con c then r else c::x::r
def PlainR:List Nat→Prop
 | []=>True
 | [_]=>True
 | a::b::r=>b≠con a∧PlainR (b::r)
def AllL(w:List Nat):Prop:=∀ c∈w,bU c
def gQ(k:List Nat)(w:List Nat):List Nat:=w.foldl push k
def lay(w:List Nat):List Nat:=(gQ [] w).reverse
def bC(w:List Nat):Prop:=PlainR w.reverse
def back(w:List Nat):List Nat:=(w.map con).reverse
theorem AllL.cons{c:Nat}{w:List Nat}:AllL (c::w)↔bU c∧AllL w:=by unfold AllL;simp
theorem AllL.nil:AllL []:=by unfold AllL;simp
theorem AllL.app{u w:List Nat}:AllL (u++w)↔AllL u∧AllL w:=by
 unfold AllL;constructor
 ·intro h;exact⟨fun c hc=>h c (List.mem_append_left _ hc),fun c hc=>h c (List.mem_append_right _ hc)⟩
 ·rintro⟨h1,h2⟩ c hc;rcases List.mem_append.mp hc with h | h;exact h1 c h;exact h2 c h
theorem AllL.rev{w:List Nat}:AllL w.reverse↔AllL w:=by unfold AllL;simp
theorem PlainR.tail{a:Nat}{r:List Nat}(h:PlainR (a::r)):PlainR r:=by
 cases r with
 | nil=>trivial
 | cons b r=>exact h.2
theorem xQ{k:List Nat}{c:Nat}(hk:PlainR k):PlainR (push k c):=by
 cases k with
 | nil=>trivial
 | cons x r =>
  unfold push
  dsimp only
  split
  ·exact hk.tail
  ·rename_i h;exact⟨h,hk⟩
theorem CZ{k:List Nat}{c:Nat}(hk:AllL k)(hc:bU c):AllL (push k c):=by
 cases k with
 | nil=>exact AllL.cons.mpr ⟨hc,hk⟩
 | cons x r =>
  unfold push
  dsimp only
  split
  ·exact(AllL.cons.mp hk).2
  ·exact AllL.cons.mpr ⟨hc,hk⟩
theorem fJ:∀ {w k:List Nat},PlainR k→PlainR (gQ k w)
 | [],_,h=>h
 | c::w,k,h=>fJ (w:=w) (xQ h)
theorem iE:∀ {w k:List Nat},AllL k→AllL w→AllL (gQ k w)
 | [],_,h,_=>h
 | c::w,k,h,hw=>iE (w:=w) (CZ h (AllL.cons.mp hw).1) (AllL.cons.mp hw).2
theorem iI(k u w:List Nat):gQ k (u++w)=gQ (gQ k u) w:=by unfold gQ;rw[List.foldl_append]
theorem fL(k u:List Nat)(c:Nat):gQ k (u++[c])=push (gQ k u) c:=by rw[iI];rfl
theorem lG(k w:List Nat)(c:Nat):gQ k (c::w)=gQ (push k c) w:=rfl
theorem sC{k:List Nat}{c:Nat}(hk:PlainR k)(ha:AllL k)(hc:bU c):push (push k c) (con c)=k:=by
 cases k with
 | nil =>
  show (if c=con (con c) then [] else _)=[]
  rw[if_pos (aN hc).symm]
 | cons x r =>
  have hx:bU x:=(AllL.cons.mp ha).1
  by_cases e:x=con c
  ·have e1:push (x::r) c=r:=by unfold push;dsimp only;rw[if_pos e]
   rw[e1]
   cases r with
   | nil=>unfold push;dsimp only;rw[e]
   | cons y r =>
    have h1:y≠con x:=hk.1
    unfold push
    dsimp only
    rw[if_neg (by rw[← e];exact h1),e]
  ·have e1:push (x::r) c=c::x::r:=by unfold push;dsimp only;rw[if_neg e]
   rw[e1]
   unfold push
   dsimp only
   rw[if_pos (aN hc).symm]
theorem jM{w:List Nat}(h:AllL w):AllL (lay w):=AllL.rev.mpr (iE AllL.nil h)
theorem eJ(w:List Nat):bC (lay w):=by unfold bC lay;rw[List.reverse_reverse];exact fJ trivial
theorem Dp(k:List Nat)(c:Nat):(push k c).length≤k.length+1:=by
 cases k with
 | nil=>simp[push]
 | cons x r =>
  unfold push
  dsimp only
  split
  ·simp;omega
  ·simp
theorem oH:∀ (w k:List Nat),(gQ k w).length≤k.length+w.length
 | [],k=>by simp[gQ]
 | c::w,k=>by
  have h1:=oH w (push k c)
  have h2:=Dp k c
  rw[lG,List.length_cons]
  omega
theorem tG(w:List Nat):(lay w).length≤w.length:=by
 unfold lay;rw[List.length_reverse];have:=oH w [];simpa using this
theorem fZ(u v:List Nat){a b:Nat}(hu:AllL u)(hb:bU b)(e:a=con b):lay (u++a::b::v)=lay (u++v):=by
 unfold lay
 have ha:bU a:=by rw[e];exact cN hb
 rw[iI,lG,lG,iI]
 have e2:b=con a:=by rw[e,aN hb]
 rw[e2,sC (fJ (k:=[]) trivial) (iE AllL.nil hu) ha]
theorem gW:∀ (w k:List Nat),PlainR (w.reverse++k)→gQ k w=w.reverse++k
 | [],k,_=>rfl
 | c::w,k,h=>by
  have h0:PlainR (w.reverse++(c::k)):=by simpa using h
  have e:push k c=c::k:=by
   cases k with
   | nil=>rfl
   | cons x r =>
    have h1:x≠con c:=by
     have:∀ (l:List Nat),PlainR (l++(c::x::r))→x≠con c:=by
      intro l
      induction l with
      | nil=>intro h;exact h.1
      | cons y l ih =>
       intro h
       exact ih (PlainR.tail h)
     exact this _ h0
    unfold push
    dsimp only
    rw[if_neg h1]
  rw[lG,e,gW w (c::k) h0]
  simp
theorem eN{w:List Nat}(h:bC w):lay w=w:=by
 unfold lay
 rw[gW w [] (by rw[List.append_nil];exact h)]
 simp
theorem Eo:∀ (n:Nat) (w k:List Nat),w.length=n→PlainR k→AllL k→AllL w→gQ k (lay w)=gQ k w:=by
 intro n
 induction n with
 | zero =>
  intro w k hn _ _ _
  have:w=[]:=List.length_eq_zero_iff.mp hn
  subst this;rfl
 | succ n ih =>
  intro w k hn hk ha hw
  have hne:w≠[]:=by intro h;subst h;simp at hn
  obtain⟨u,c,rfl⟩:∃ u c,w=u++[c]:=⟨w.dropLast,w.getLast hne,(List.dropLast_concat_getLast hne).symm⟩
  have hu:u.length=n:=by simpa using hn
  obtain⟨hau,hac⟩:=AllL.app.mp hw
  have hc:bU c:=(AllL.cons.mp hac).1
  have ihu:=ih u k hu hk ha hau
  have hal:=iE (k:=[]) AllL.nil hau
  unfold lay at ihu ⊢
  rw[fL,fL,← ihu]
  cases e:gQ [] u with
  | nil=>simp[push,gQ]
  | cons x r =>
   rw[e] at hal
   have hx:bU x:=(AllL.cons.mp hal).1
   have har:AllL r:=(AllL.cons.mp hal).2
   by_cases h:x=con c
   ·have e1:push (x::r) c=r:=by unfold push;dsimp only;rw[if_pos h]
    rw[e1,List.reverse_cons,fL]
    have e2:c=con x:=by rw[h,aN hc]
    rw[e2,sC (fJ hk) (iE ha (AllL.rev.mpr har)) hx]
   ·have e1:push (x::r) c=c::x::r:=by unfold push;dsimp only;rw[if_neg h]
    rw[e1,List.reverse_cons,fL]
theorem fK(u w:List Nat)(hu:AllL u)(hw:AllL w):lay (u++lay w)=lay (u++w):=by
 unfold lay
 rw[iI,iI]
 have:=Eo w.length w (gQ [] u) rfl (fJ trivial) (iE AllL.nil hu) hw
 unfold lay at this
 rw[this]
theorem fU(u w:List Nat)(hu:AllL u):lay (lay u++w)=lay (u++w):=by
 unfold lay
 rw[iI,iI]
 have e:=gW (lay u) [] (by rw[List.append_nil];exact eJ u)
 unfold lay at e
 rw[e]
 simp
theorem fO(u w:List Nat):back (u++w)=back w++back u:=by unfold back;simp
theorem lF(w:List Nat):(back w).length=w.length:=by unfold back;simp
theorem eM{w:List Nat}(h:AllL w):AllL (back w):=by
 unfold back AllL
 intro c hc
 simp only [List.mem_reverse,List.mem_map] at hc
 obtain⟨a,ha,rfl⟩:=hc
 exact cN (h a ha)
theorem mX:∀ {w:List Nat},AllL w→back (back w)=w
 | [],_=>rfl
 | c::w,h=>by
  have e:back (c::w)=back w++[con c]:=by unfold back;simp
  have ih:=mX (AllL.cons.mp h).2
  rw[e,fO,ih]
  unfold back
  simp[aN (AllL.cons.mp h).1]
theorem nV:∀ (n:Nat) (w:List Nat),w.length=n→AllL w→lay (w++back w)=[]:=by
 intro n
 induction n with
 | zero =>
  intro w hn _
  have:w=[]:=List.length_eq_zero_iff.mp hn
  subst this;rfl
 | succ n ih =>
  intro w hn hw
  have hne:w≠[]:=by intro h;subst h;simp at hn
  obtain⟨u,c,rfl⟩:∃ u c,w=u++[c]:=⟨w.dropLast,w.getLast hne,(List.dropLast_concat_getLast hne).symm⟩
  obtain⟨hau,hac⟩:=AllL.app.mp hw
  have hc:bU c:=(AllL.cons.mp hac).1
  have e:u++[c]++back (u++[c])=u++c::con c::back u:=by rw[fO];simp[back]
  rw[e,fZ u (back u) hau (cN hc) (aN hc).symm]
  exact ih u (by simpa using hn) hau
theorem jI{w:List Nat}(h:AllL w):lay (w++back w)=[]:=nV _ w rfl h
theorem uL{w:List Nat}(h:AllL w):lay (back w++w)=[]:=by
 have:=jI (eM h)
 rwa [mX h] at this
theorem nJ:∀ (l:List Nat) (a b:Nat),PlainR (l++[a])→b≠con a→PlainR (l++[a,b])
 | [],a,b,_,h=>⟨h,trivial⟩
 | [x],a,b,h,h2=>⟨h.1,h2,trivial⟩
 | x::y::l,a,b,h,h2=>⟨h.1,nJ (y::l) a b h.2 h2⟩
theorem kB:∀ {k:List Nat},AllL k→PlainR k→PlainR (k.map con).reverse
 | [],_,_=>trivial
 | [a],_,_=>trivial
 | a::b::r,ha,h=>by
  have ih:=kB (AllL.cons.mp ha).2 h.2
  have hA:=AllL.cons.mp ha
  have hB:=AllL.cons.mp hA.2
  rw[List.map_cons,List.reverse_cons] at ih ⊢
  rw[List.map_cons,List.reverse_cons] at *
  have e:((r.map con).reverse++[con b])++[con a]=(r.map con).reverse++[con b,con a]:=by simp
  rw[e]
  refine nJ _ _ _ ih ?_
  rw[aN hB.1]
  intro e2
  exact h.1 e2.symm
theorem kR{w:List Nat}(hw:AllL w)(h:bC w):bC (back w):=by
 unfold bC back at *
 rw[List.reverse_reverse]
 have:=kB (AllL.rev.mpr hw) h
 rwa [List.map_reverse,List.reverse_reverse] at this
theorem BP:∀ (n:Nat) (w:List Nat),w.length=n→AllL w→lay (back w)=back (lay w):=by
 intro n
 induction n with
 | zero =>
  intro w hn _
  have:w=[]:=List.length_eq_zero_iff.mp hn
  subst this;rfl
 | succ n ih =>
  intro w hn hw
  have hne:w≠[]:=by intro h;subst h;simp at hn
  obtain⟨u,c,rfl⟩:∃ u c,w=u++[c]:=⟨w.dropLast,w.getLast hne,(List.dropLast_concat_getLast hne).symm⟩
  obtain⟨hau,hac⟩:=AllL.app.mp hw
  have hc:bU c:=(AllL.cons.mp hac).1
  have ihu:=ih u (by simpa using hn) hau
  have e0:back (u++[c])=[con c]++back u:=by rw[fO];simp[back]
  have hcc:AllL [con c]:=AllL.cons.mpr ⟨cN hc,AllL.nil⟩
  rw[e0,← fK [con c] (back u) hcc (eM hau),ihu]
  have hal:=iE (k:=[]) AllL.nil hau
  have hpl:=fJ (w:=u) (k:=[]) trivial
  have el:lay u=(gQ [] u).reverse:=rfl
  have el2:lay (u++[c])=(push (gQ [] u) c).reverse:=by unfold lay;rw[fL]
  rw[el2,el]
  cases e:gQ [] u with
  | nil=>rfl
  | cons x r =>
   rw[e] at hal hpl
   have hx:bU x:=(AllL.cons.mp hal).1
   have har:AllL r:=(AllL.cons.mp hal).2
   have hbr:AllL (back r.reverse):=eM (AllL.rev.mpr har)
   have eb:back (x::r).reverse=con x::back r.reverse:=by rw[List.reverse_cons,fO];rfl
   rw[eb]
   have hp2:bC (back (x::r).reverse):=kR (AllL.rev.mpr hal) (by unfold bC;rw[List.reverse_reverse];exact hpl)
   by_cases h:x=con c
   ·have e1:push (x::r) c=r:=by unfold push;dsimp only;rw[if_pos h]
    rw[e1]
    show lay ([]++con c::con x::back r.reverse)=_
    rw[fZ [] _ AllL.nil (cN hx) (by rw[aN hx,h])]
    exact eN (kR (AllL.rev.mpr har) (by unfold bC;rw[List.reverse_reverse];exact hpl.tail))
   ·have e1:push (x::r) c=c::x::r:=by unfold push;dsimp only;rw[if_neg h]
    rw[e1]
    have e3:back (c::x::r).reverse=[con c]++con x::back r.reverse:=by rw[List.reverse_cons,fO,eb];rfl
    rw[e3]
    refine eN ?_
    rw[← e3]
    refine kR (AllL.rev.mpr (AllL.cons.mpr ⟨hc,hal⟩)) ?_
    unfold bC
    rw[List.reverse_reverse]
    exact⟨h,hpl⟩
theorem Cm{w:List Nat}(h:AllL w):lay (back w)=back (lay w):=BP _ w rfl h
end Ma
namespace Lw
open PySem PySem.Spec PyProof.Rows L2 Ma
theorem aT(w:List Nat):(S w).length=w.length:=by simp[Str.length]
theorem dI(u w:List Nat):(S u++S w:Str)=S (u++w):=by
 show Str.append (S u) (S w)=S (u++w)
 unfold Str.append;simp
theorem uT{u w:List Nat}(h:S u=S w):u=w:=by
 have h':u.toArray=w.toArray:=congrArg Str.cps h
 simpa using congrArg Array.toList h'
theorem eK(u w:List Nat):decide (V.str (S u)=V.str (S w))=decide (u=w):=by
 by_cases h:u=w
 ·subst h;simp
 ·rw[decide_eq_false h,decide_eq_false fun e=>h (uT (V.str.inj e))]
theorem fQ:(Str.ofString "":Str)=S []:=by decide +kernel
theorem Bj(w:List Nat):(S w).cps.toList=w:=by simp
theorem aI{n:Nat}(h:n≤100000):n≤sizeLine:=Nat.le_trans h (by decide)
theorem Gs{n:Nat}(h:n≤99999):n<sizeLine:=Nat.lt_of_lt_of_le (show n<100000 by omega) (aI (Nat.le_refl _))
theorem fR(w:List Nat){j:Int}(h0:0≤j)(h2:j≤w.length):Txt.slice (S w) none (some j)=S (w.take j.toNat):=by
 have:=slice_closes_toL (x:=S w) h0 (by rw[aT];exact h2)
 rw[beq_iff_eq.mp this]
 simp
theorem iD(w:List Nat){i:Int}(h0:0≤i)(h2:i≤w.length):Txt.slice (S w) (some i) none=S (w.drop i.toNat):=by
 have:=slice_closes_fromL (x:=S w) (b:=(S w).length) h0 (by rw[aT];exact h2) rfl
 rw[beq_iff_eq.mp this]
 congr 1
 rw[Bj,aT,List.take_of_length_le (by rw[List.length_drop];omega)]
theorem xA:∀ (zs:List (List Nat)),Txt.join (S []) (zs.map S)=S zs.flatten
 | []=>by unfold Txt.join;rw[StrLaws.glued_eq_join];rfl
 | [z]=>by unfold Txt.join;rw[StrLaws.glued_eq_join];simp[Str.join]
 | z::y::r=>by
  have ih:=xA (y::r)
  unfold Txt.join at ih ⊢
  rw[StrLaws.glued_eq_join] at ih ⊢
  rw[List.map_cons,List.map_cons]
  show (S z++S [])++Str.join (S []) (S y::r.map S)=_
  rw[List.map_cons] at ih
  rw[ih,dI,dI]
  simp
theorem zD(zs:List (List Nat)):((zs.map S).map (·.length)).sum=zs.flatten.length:=by
 induction zs with
 | nil=>rfl
 | cons z zs ih=>simp only [List.map_cons,List.sum_cons,List.flatten_cons,List.length_append,ih,aT]
def bK(c:Nat):Bool:=decide (96<c)
theorem aV{c:Nat}(h:bU c):c=97∨c=98∨c=99∨c=100∨c=65∨c=66∨c=67∨c=68:=by unfold bU at h;omega
theorem A0{c:Nat}(h:bU c):Txt.islower (S [c])=bK c:=by
 rcases aV h with rfl | rfl | rfl | rfl | rfl | rfl | rfl | rfl <;> decide +kernel
theorem Bw{c:Nat}(h:bU c):Txt.isupper (S [c])=!bK c:=by
 rcases aV h with rfl | rfl | rfl | rfl | rfl | rfl | rfl | rfl <;> decide +kernel
theorem oF{c:Nat}(h:bU c)(hl:bK c=true):Txt.upper (S [c])=S [con c]:=by
 rcases aV h with rfl | rfl | rfl | rfl | rfl | rfl | rfl | rfl <;> first | (decide +kernel) | (exact absurd hl (by decide))
theorem Aq{c:Nat}(h:bU c)(hl:bK c=false):Txt.lower (S [c])=S [con c]:=by
 rcases aV h with rfl | rfl | rfl | rfl | rfl | rfl | rfl | rfl <;> first | (decide +kernel) | (exact absurd hl (by decide))
theorem yF(c:Nat):Builtin.Str.tooLong (S [c]).length=false:=by rw[aT];show Builtin.Str.tooLong 1=false;decide +kernel
def conTab_rows:List (Str×PyData):=[("a",.str "A"),("A",.str "a"),("b",.str "B"),("B",.str "b"),("c",.str "C"),("C",.str "c"),("d",.str "D"),("D",.str "d")]
def BM:List (PyData×PyData):=conTab_rows.map fun p=>(PyData.str p.1,p.2)
theorem uS{c:Nat}(h:bU c):lookup (.str (S [c])) BM=some (.str (S [con c])):=by
 rcases aV h with rfl | rfl | rfl | rfl | rfl | rfl | rfl | rfl <;> kernel_rfl
def Kp(fl:Addr)(H H':Hp):Prop:=∀ b o,H b=some o→b≠fl→H' b=some o
theorem Kp.refl(fl:Addr)(H:Hp):Kp fl H H:=fun _ _ h _=>h
theorem Kp.trans{fl:Addr}{H H1 H2:Hp}(a:Kp fl H H1)(b:Kp fl H1 H2):Kp fl H H2:=fun c o h n=>b c o (a c o h n) n
theorem _root_.L2.Same.kp{fl:Addr}{H H':Hp}(h:Same H H'):Kp fl H H':=fun b o e _=>h b o e
theorem _root_.L2.Same.new{H:Hp}{l:Addr}{o:HO}(h:H l=none):Same H (upd H l o):=fun b u e=>by rw[aJ (aH e h)];exact e
theorem _root_.L2.Same.upd{H H':Hp}{l:Addr}{o:HO}(s:Same H H')(h:H l=none):Same H (upd H' l o):=fun b u e=>by rw[aJ (aH e h)];exact s b u e
theorem _root_.L2.Same.upd'{H H':Hp}{l:Addr}{o:HO}(s:Same H H')(h:H' l=none):Same H (upd H' l o):=s.trans (Same.new h)
theorem Kp.upd{fl:Addr}{H H':Hp}{l:Addr}{o:HO}(s:Kp fl H H')(h:H l=none):Kp fl H (upd H' l o):=fun b u e n=>by rw[aJ (aH e h)];exact s b u e n
theorem Kp.self{fl:Addr}{H H':Hp}{o:HO}(s:Kp fl H H'):Kp fl H (L2.upd H' fl o):=fun b u e n=>by rw[aJ n];exact s b u e n
theorem Kp.free{fl:Addr}{H H':Hp}(k:Kp fl H H'){l:Addr}(h:H' l=none)(n:l≠fl):H l=none:=by
 cases q:H l with
 | none=>rfl
 | some o=>rw[k l o q n] at h;cases h
def IsFl(H:Hp)(fl sc:Addr):Prop:=∃ (ns:List Int) (i a b c:Int),H fl=some (.lst [.ref sc,.int i,.int a,.int b,.int c])∧H sc=some (.lst (ns.map V.int))∧ns.length≤63∧0≤i∧0≤a∧0≤b
theorem IsFl.same{H H':Hp}{fl sc:Addr}(s:Same H H')(h:IsFl H fl sc):IsFl H' fl sc:=by
 obtain⟨ns,i,a,b,c,h1,h2,r⟩:=h
 exact⟨ns,i,a,b,c,s _ _ h1,s _ _ h2,r⟩
theorem IsFl.some{H:Hp}{fl sc:Addr}(h:IsFl H fl sc):(∃ o,H fl=some o)∧∃ o,H sc=some o:=by
 obtain⟨ns,i,a,b,c,h1,h2,r⟩:=h
 exact⟨⟨_,h1⟩,⟨_,h2⟩⟩
theorem IsFl.ne{H:Hp}{fl sc l:Addr}(h:IsFl H fl sc)(n:H l=none):l≠fl:=by
 obtain⟨⟨o,e⟩,_⟩:=h.some
 exact(aH e n).symm
theorem IsFl.ne2{H:Hp}{fl sc l:Addr}(h:IsFl H fl sc)(n:H l=none):l≠sc:=by
 obtain⟨_,⟨o,e⟩⟩:=h.some
 exact(aH e n).symm
theorem IsFl.upd{H:Hp}{fl sc l:Addr}{o:HO}(h:IsFl H fl sc)(n:H l=none):IsFl (L2.upd H l o) fl sc:=h.same (Same.new n)
theorem IsFl.set{H:Hp}{fl sc l:Addr}{o:HO}(h:IsFl H fl sc)(n:l≠fl)(n2:l≠sc):IsFl (L2.upd H l o) fl sc:=by
 obtain⟨ns,i,a,b,c,h1,h2,r⟩:=h
 exact⟨ns,i,a,b,c,by rw[aJ n.symm];exact h1,by rw[aJ n2.symm];exact h2,r⟩
structure Df(K:PySem.W.Frag)(mg:Str→Option Value)(x:Str)(st:Stmt)(ps:List Str)(f:Addr)(fd:FuncData):Prop where
 F:Fun K x x st f fd
 b:Binds K fd ps []
 m:mg x=some (.ref f)
def Cl(P:Program)(w:World)(K:PySem.W.Frag)(mg:Str→Option Value)(base:Heap)(x:Str)(ps:List Str)(n:Nat)(sp:Sp):Prop :=
 ∃ f fd,FnOk P w K mg base xZ n f fd ps sp∧mg x=some (.ref f)∧PySem.W.keepIn K (.ref f)=true∧Binds K fd ps []
theorem Df.cl{P:Program}{w:World}{K:PySem.W.Frag}{mg:Str→Option Value}{base:Heap}{x:Str}{st:Stmt}{ps:List Str}{f:Addr}{fd:FuncData}{n:Nat}{sp:Sp}(D:Df K mg x st ps f fd)(h:FnOk P w K mg base xZ n f fd ps sp):Cl P w K mg base x ps n sp :=
 ⟨f,fd,h,D.m,D.F.kp,D.b⟩
def lets:List Nat:=[97,65,98,66,99,67,100,68]
def aQ(n:Int):List Nat:=lets.take (2 * n).toNat
def OfN(n:Int)(w:List Nat):Prop:=∀ c∈w,c∈aQ n
theorem aK{n:Int}{c:Nat}(h:c∈aQ n):bU c:=by
 have h2:c∈lets:=List.mem_of_mem_take h
 unfold lets at h2
 simp only [List.mem_cons,List.not_mem_nil,or_false] at h2
 unfold bU
 omega
theorem OfN.all{n:Int}{w:List Nat}(h:OfN n w):AllL w:=fun c hc=>aK (h c hc)
theorem jL{n:Int}(h1:1≤n)(h4:n≤4):(aQ n).length=(2 * n).toNat:=by
 unfold aQ lets
 rw[List.length_take]
 simp
 omega
def aX(w:List Nat):List V:=w.map fun c=>V.str (S [c])
theorem oB(w:List Nat):aX w=(w.map fun c=>S [c]).map V.str:=by unfold aX;rw[List.map_map];rfl
theorem mG:∀ (w:List Nat),(w.map fun c=>[c]).flatten=w
 | []=>rfl
 | c::w=>by rw[List.map_cons,List.flatten_cons,mG w];rfl
theorem DN(w:List Nat):(w.map fun c=>[c]).map S=w.map fun c=>S [c]:=by rw[List.map_map];rfl
theorem jU(w:List Nat):Txt.join (Str.ofString "") (w.map fun c=>S [c])=S w:=by
 have h:=xA (w.map fun c=>[c])
 rw[DN,mG] at h
 rw[fQ]
 exact h
theorem iN(w:List Nat)(hw:w.length≤100000):((w.map fun c=>S [c]).map (·.length)).sum+(w.map fun c=>S [c]).length * (Str.ofString "").length≤16777216:=by
 have h:=zD (w.map fun c=>[c])
 rw[DN,mG] at h
 have e2:(Str.ofString "").length=0:=by decide +kernel
 rw[e2,Nat.mul_zero,Nat.add_zero,h]
 omega
theorem cM(w:List Nat)(c:Nat):aX (w++[c])=aX w++[V.str (S [c])]:=by unfold aX;simp
theorem bB(w:List Nat):(aX w).length=w.length:=by unfold aX;simp
theorem pS{w:List Nat}{i:Nat}{c:Nat}(h:w[i]?=some c):(aX w)[i]?=some (.str (S [c])):=by unfold aX;rw[List.getElem?_map,h];rfl
theorem Fv{w:List Nat}{i:Int}{c:Nat}(h0:0≤i)(h:w[i.toNat]?=some c):tR (S w).cps.toList i=some c:=by
 rw[Bj]
 have:=lO h
 rwa [Int.toNat_of_nonneg h0] at this
theorem gG{α:Type}{xs:List α}{i:Int}{v:α}(h0:0≤i)(h:xs[i.toNat]?=some v):tR xs i=some v:=by
 have:=lO h
 rwa [Int.toNat_of_nonneg h0] at this
theorem cA{w:List Nat}{i c:Nat}(h:w[i]?=some c):w.take (i+1)=w.take i++[c]:=by rw[List.take_add_one,h];rfl
def BX(K:PySem.W.Frag):Sp:=fun vs H Q _=>∃ (a:Addr) (ns:List Int),vs=[.ref a]∧SqL K H a (ns.map V.int)∧ns.length≤63∧∀ (fl sc:Addr) (H':Hp),H fl=none→Same H H'→IsFl H' fl sc→Q (.ref fl) H'
def iM:Sp:=fun vs H Q _=>∃ (fl sc:Addr) (m:Int),vs=[.ref fl,.int m]∧IsFl H fl sc∧0<m∧m<1073741824∧∀ (d:Int) (H':Hp),0≤d→d<m→IsFl H' fl sc→Kp fl H H'→Q (.int d) H'
def fA:Sp:=fun vs H Q _=>∃ c:Nat,vs=[.str (S [c])]∧bU c∧∀ H',Same H H'→Q (.str (S [con c])) H'
def rQ:Sp:=fun vs H Q _=>∃ w:List Nat,vs=[.str (S w)]∧AllL w∧w.length≤60000∧∀ H',Same H H'→Q (.str (S (lay w))) H'
def iY:Sp:=fun vs H Q _=>∃ w:List Nat,vs=[.str (S w)]∧AllL w∧w.length≤1000∧∀ H',Same H H'→Q (.str (S (back w))) H'
def tP:Sp:=fun vs H Q _=>∃ u w:List Nat,vs=[.str (S u),.str (S w)]∧AllL u∧AllL w∧u.length+w.length≤10000∧∀ H',Same H H'→Q (.str (S (lay (u++w)))) H'
def mL:Sp:=fun vs H Q _=>∃ n:Int,vs=[.int n]∧1≤n∧n≤4∧∀ (l:Addr) (H':Hp),H l=none→Same H H'→H' l=some (.lst (aX (aQ n)))→Q (.ref l) H'
def wW:Sp:=fun vs H Q _=>∃ (fl sc:Addr) (n most:Int),vs=[.ref fl,.int n,.int most]∧IsFl H fl sc∧1≤n∧n≤4∧0≤most∧most≤900 ∧
 ∀ (w:List Nat) (H':Hp),OfN n w→bC w→(w.length:Int)≤most→IsFl H' fl sc→Kp fl H H'→Q (.str (S w)) H'
def Aj(K:PySem.W.Frag):Sp:=fun vs H Q _=>∃ (a:Addr) (ns:List Int),vs=[.ref a]∧SqL K H a (ns.map V.int)∧ns.length≤63∧∀ H',Q (.bl true) H'
end Lw
namespace L2
open PySem PySem.Spec PyProof.Rows
def K8(t u:TS):TS:=fun D σ H=>∃ M:St→Hp→Prop,t { D with nx:=M } σ H∧∀ σ' H',M σ' H'→u D σ' H'
theorem hX{X:Cx}{st:Stmt}{rest:List Stmt}{t u:TS}(h1:PS X st t)(h2:PSs X rest u):PSs X (st::rest) (K8 t u):=by
 intro pins s σ H D I ⟨M,q1,q2⟩
 refine wpAny_execs_cons (bS (h1 pins s σ H { D with nx:=M } I q1) fun f s1 q=>?_)
 cases f with
 | next =>
  obtain⟨σ',H',I',q⟩:=q
  exact h2 pins s1 σ' H' D I' (q2 σ' H' q)
 | ret v=>exact q
 | brk=>exact q
 | cont=>exact q
end L2
namespace Lw
open PySem PySem.Spec PyProof.Rows L2 Ma
def lY(x:List Nat)(c:Nat):Bool:=match x.getLast? with
 | none=>true
 | some z=>!decide ([c]=[con z])
theorem Es{n:Int}{x:List Nat}(h1:1≤n)(h4:n≤4):0<((aQ n).filter (lY x)).length:=by
 have m1:97∈aQ n∧65∈aQ n:=by
  have:n=1∨n=2∨n=3∨n=4:=by omega
  rcases this with rfl | rfl | rfl | rfl <;> decide
 have:lY x 97=true∨lY x 65=true:=by
  unfold lY
  cases x.getLast? with
  | none=>exact .inl rfl
  | some z =>
   by_cases e:con z=97
   ·right;dsimp only;rw[e];rfl
   ·left;dsimp only;simp;omega
 rcases this with h | h
 ·exact List.length_pos_of_mem (List.mem_filter.mpr ⟨m1.1,h⟩)
 ·exact List.length_pos_of_mem (List.mem_filter.mpr ⟨m1.2,h⟩)
theorem mF{x:List Nat}{c:Nat}(hx:AllL x)(hc:bU c)(hp:bC x)(h:lY x c=true):bC (x++[c]):=by
 unfold bC at *
 rw[List.reverse_append]
 show PlainR (c::x.reverse)
 cases hq:x.reverse with
 | nil=>trivial
 | cons z r =>
  rw[hq] at hp
  refine⟨?_,hp⟩
  intro e
  have hz:x.getLast?=some z:=by
   rw[List.getLast?_eq_head?_reverse,hq];rfl
  unfold lY at h
  rw[hz] at h
  have h':¬ c=con z:=by simpa using h
  exact h' (by rw[e,aN hc])
end Lw
namespace L2
open PySem PySem.Spec PyProof.Rows
section
variable {X:Cx}{K:PySem.W.Frag}
theorem aU(h:X.K=K):Hc X (Iy K):=by subst h;exact E9
theorem aZ(h:X.K=K):Hc X (IV K):=by subst h;exact G0
theorem CS(h:X.K=K):Gn X (Jl K):=by subst h;exact E8
theorem oM(h:X.K=K):Gn X (JH K):=by subst h;exact DX
theorem bH(h:X.K=K):eS X (.builtin "len") (fun xs H Q=>∃ p ys,xs=[.ref p]∧(SqL K H p ys∨SqT K H p ys)∧Q (.int ys.length) H):=by subst h;exact tT
theorem bD(h:X.K=K):eS X (.builtin "isinstance") (Jr K):=by subst h;exact B7
theorem wX(h:X.K=K):eS X (.type "list") (fun xs H Q=>∃ p ys,xs=[.ref p]∧(SqL K H p ys∨SqT K H p ys)∧∀ l,H l=none→Q (.ref l) (upd H l (.lst ys))):=by subst h;exact uI
theorem bJ(h:X.K=K):eS X (.type "tuple") (fun xs H Q=>∃ p ys,xs=[.ref p]∧((SqL K H p ys∧∀ l,H l=none→Q (.ref l) (upd H l (.tup ys)))∨(SqT K H p ys∧Q (.ref p) H))):=by subst h;exact qY
theorem rY(h:X.K=K)(hc:X.calm=true):eS X (.builtin "all") (fun xs H Q=>∃ (a:Addr) (bs:List Bool),xs=[.ref a]∧SqL K H a (bs.map V.bl)∧Q (.bl (bs.all id)) H):=by subst h;exact AR hc
theorem jF(h:X.K=K):A9 X "str.join" (fun x xs H Q=>∃ z a zs,x=.str z∧xs=[.ref a]∧SqL K H a (zs.map V.str)∧(zs.map (·.length)).sum+zs.length * z.length≤16777216∧Q (.str (Txt.join z zs)) H):=by subst h;exact Er
theorem yV(h:X.K=K)(hu:X.A.units<cLine):iC X (compareOp .Eq) (Ka K false):=by subst h;exact Gu hu
theorem kF(h:X.K=K):iC X (compareOp .In) (Lh K false):=by subst h;exact AI
theorem Dw(h:X.K=K):iC X (binaryOp .Add) (Fx K):=by subst h;exact Ag
theorem pR{tg l:Expr}{tl:TE}(h:X.K=K)(hl:PE X l tl):PI X tg l (FC K tl):=by subst h;exact EC hl
theorem cS{tg l:Expr}{tl:TE}(h:X.K=K)(hl:PE X l tl):PI X tg l (IF K tl):=by subst h;exact FS hl
variable {o e:Expr}{es:List Expr}{to:TE}{t:TA}{name:Str}{apos cpos:Pos}{T id:String}{r:V→List V→Hp→VK→Prop}
theorem eY(h:X.K=K)(pa:PlainAttrs T)(slot:Slot T name id)(hty:typeOf (.builtin id)=pure (.type "method_descriptor"))(hm:A9 X id r)(ho:PE X o to)
  (hbase:attributeBase o name X.env (eval o X.env)=eval o X.env:=by rfl) (hline:(apos.endLine == cpos.line)=true:=by rfl):PE X (.Call (.Attribute o name apos) [] [] cpos) (IW K T r to):=by subst h;exact Gj pa slot hty hm ho hbase hline
theorem cY(h:X.K=K)(pa:PlainAttrs T)(slot:Slot T name id)(hty:typeOf (.builtin id)=pure (.type "method_descriptor"))(hm:A9 X id r)(ho:PE X o to)(ha:PA X (e::es) t)
  (hbase:attributeBase o name X.env (eval o X.env)=eval o X.env:=by rfl)
  (hfew:((backTo cpos (starEach (e::es) X.env)).all (fun x=>!x.1) && (backToKw cpos (keywordEach [] X.env)).all (fun x=>x.1.isSome)
   && decide ((e::es).length+([]:List Keyword).length+(if ([]:List Keyword).isEmpty then 0 else 1)<30))=true:=by rfl)
  (hline:(apos.endLine == cpos.line)=true:=by rfl) (hs:starEach (e::es) X.env=(false,eval e X.env)::starEach es X.env:=by rfl) (hplain:(backTo cpos (starEach es X.env)).any (·.1)=false:=by rfl) :
  PE X (.Call (.Attribute o name apos) (e::es) [] cpos) (Lc K T r to t):=by subst h;exact I_ pa slot hty hm ho ha hbase hfew hline hs hplain
end
section
variable {X:Cx}{scope:Scope}{x:Str}{px pos:Pos}{ix:List Nat}{elt iter:Expr}{ifs:List Expr}{wi:TI}{ti:TT}{te:TE}
theorem bL{sc0:Scope}{N:List Str}(h:lH sc0 scope N x ix=true)(e1:X.env.scope=sc0)(e2:X.N=N)(hc:X.calm=true)(hi:PI X (.Name x px) iter wi)(hif:∀ fp s H,qX (bX X scope x ix fp s H) ifs ti)(he:∀ fp s H,PE (bX X scope x ix fp s H) elt te)
  (hs:∀ z,foldedSetIterable iter X.env z=pure z:=by intro _;rfl):PE X (.ListComp elt [⟨.Name x px,iter,ifs,0⟩] scope pos) (BV wi ix ti te) :=
 EB (gI h e1 e2).1 (gI h e1 e2).2 hc hi hif he hs
theorem qC{i:Nat}{y:Str}{py spos:Pos}{sc0:Scope}{N:List Str}(hN:X.N.Nodup)(hy:X.N[i]?=some y)(hyl:X.env.scope.names.lookup y=some .local)(h:lH sc0 scope N x ix=true)(e1:X.env.scope=sc0)(e2:X.N=N)(hc:X.calm=true)(hi:PI X (.Name x px) iter wi)
  (hif:∀ fp s H,qX (bX X scope x ix fp s H) ifs ti) (he:∀ fp s H,PE (bX X scope x ix fp s H) elt te)
  (hsw:swapsWith (.ListComp elt [⟨.Name x px,iter,ifs,0⟩] scope pos) (some (.Name y py)) spos.line X.env=pure true:=by rfl)
  (hs:∀ z,foldedSetIterable iter X.env z=pure z:=by intro _;rfl):PS X (.Assign [.Name y py] (.ListComp elt [⟨.Name x px,iter,ifs,0⟩] scope pos) spos) (FJ i wi ix ti te) :=
 Fg hN hy hyl (gI h e1 e2).1 (gI h e1 e2).2 hc hi hif he hsw hs
end
end L2
namespace Lw
open PySem PySem.Spec PyProof.Rows L2 Ma
def Ir(x:List Nat)(k:Nat):Prop:=∃ a b,x[k]?=some a∧x[k+1]?=some b∧a=con b
theorem sE{x:List Nat}{k:Nat}(h:Ir x k):∃ a b,x=x.take k++a::b::x.drop (k+2)∧a=con b∧k+1<x.length:=by
 obtain⟨a,b,h1,h2,e⟩:=h
 obtain⟨l1,e1⟩:=List.getElem?_eq_some_iff.mp h1
 obtain⟨l2,e2⟩:=List.getElem?_eq_some_iff.mp h2
 refine⟨a,b,?_,e,l2⟩
 have q1:x.drop k=x[k]::x.drop (k+1):=List.drop_eq_getElem_cons l1
 have q2:x.drop (k+1)=x[k+1]::x.drop (k+1+1):=List.drop_eq_getElem_cons l2
 rw[e1] at q1
 rw[e2] at q2
 have q3:=List.take_append_drop k x
 rw[q1,q2] at q3
 exact q3.symm
theorem ET{x:List Nat}{k:Nat}(hx:AllL x)(h:Ir x k):lay (x.take k++x.drop (k+2))=lay x:=by
 obtain⟨a,b,e,hab,_⟩:=sE h
 have hx':AllL (x.take k++a::b::x.drop (k+2)):=by rw[← e];exact hx
 obtain⟨h1,h2⟩:=AllL.app.mp hx'
 have hb:bU b:=(AllL.cons.mp (AllL.cons.mp h2).2).1
 have:=fZ (x.take k) (x.drop (k+2)) h1 hb hab
 rw[← this,← e]
theorem sS:∀ (k:List Nat),(∀ i a b,k[i]?=some a→k[i+1]?=some b→b≠con a)→PlainR k
 | [],_=>trivial
 | [_],_=>trivial
 | a::b::r,h=>⟨h 0 a b rfl rfl,sS (b::r) fun i x y h1 h2=>h (i+1) x y (by simpa using h1) (by simpa using h2)⟩
theorem fT{x:List Nat}(h:∀ k,¬ Ir x k):bC x:=by
 unfold bC
 refine sS _ fun i a b h1 h2 e=>?_
 have l2:i+1<x.length:=by
  have:=(List.getElem?_eq_some_iff.mp h2).1
  simpa using this
 rw[List.getElem?_reverse (by omega)] at h1 h2
 refine h (x.length - 1 - (i+1)) ⟨b,a,h2,?_,e⟩
 rw[show x.length - 1 - (i+1)+1=x.length - 1 - i by omega]
 exact h1
theorem eV{n:Int}{c:Nat}(h1:1≤n)(h4:n≤4)(h:c∈aQ n):con c∈aQ n:=by
 have:n=1∨n=2∨n=3∨n=4:=by omega
 have hL:=aV (aK h)
 rcases this with rfl | rfl | rfl | rfl <;> rcases hL with rfl | rfl | rfl | rfl | rfl | rfl | rfl | rfl <;> revert h <;> decide
theorem BT{k:List Nat}{c d:Nat}(h:d∈push k c):d∈k∨d=c:=by
 cases k with
 | nil=>right;simpa [push] using h
 | cons x r =>
  unfold push at h
  dsimp only at h
  split at h
  ·left;exact List.mem_cons_of_mem _ h
  ·rcases List.mem_cons.mp h with q | q
   ·exact .inr q
   ·exact .inl q
theorem zE:∀ {w k:List Nat} {d:Nat},d∈gQ k w→d∈k∨d∈w
 | [],_,_,h=>.inl h
 | c::w,k,d,h=>by
  rcases zE (w:=w) (k:=push k c) h with q | q
  ·rcases BT q with q | q
   ·exact .inl q
   ·exact .inr (by rw[q];exact List.mem_cons_self)
  ·exact .inr (List.mem_cons_of_mem _ q)
theorem EW{w:List Nat}{c:Nat}(h:c∈lay w):c∈w:=by
 rcases zE (w:=w) (k:=[]) (List.mem_reverse.mp h) with q | q
 ·exact nomatch q
 ·exact q
theorem OfN.back{n:Int}{w:List Nat}(h:OfN n w)(h1:1≤n)(h4:n≤4):OfN n (Ma.back w):=fun c hc=>by
 unfold Ma.back at hc
 simp only [List.mem_reverse,List.mem_map] at hc
 obtain⟨a,ha,rfl⟩:=hc
 exact eV h1 h4 (h a ha)
theorem OfN.lay{n:Int}{w:List Nat}(h:OfN n w):OfN n (Ma.lay w):=fun c hc=>h c (EW hc)
theorem OfN.app{n:Int}{u w:List Nat}(h:OfN n u)(h2:OfN n w):OfN n (u++w):=fun c hc=>(List.mem_append.mp hc).elim (h c) (h2 c)
theorem OfN.nil{n:Int}:OfN n []:=fun c hc=>nomatch hc
theorem fN:∀ (k l:List Nat),PlainR (k++l)→PlainR k
 | [],_,_=>trivial
 | [_],_,_=>trivial
 | a::b::r,l,h=>⟨h.1,fN (b::r) l h.2⟩
theorem fH:∀ (k l:List Nat),PlainR (k++l)→PlainR l
 | [],_,h=>h
 | a::r,l,h=>fH r l (PlainR.tail h)
theorem pH{x:List Nat}(h:bC x)(i:Nat):bC (x.drop i):=by
 unfold bC at *
 have e:x=x.take i++x.drop i:=(List.take_append_drop i x).symm
 rw[e,List.reverse_append] at h
 exact fN _ _ h
theorem qO{x:List Nat}(h:bC x)(i:Nat):bC (x.take i):=by
 unfold bC at *
 have e:x=x.take i++x.drop i:=(List.take_append_drop i x).symm
 rw[e,List.reverse_append] at h
 exact fH _ _ h
end Lw
namespace LtL
open PySem PyProof.Rows HT
open PySem.SeqAt
open PySem.AutoSeq1 (wpAny_loadPart')
open PySem.MeetsSeq PySem.MeetsSeq2 PySem.MeetsSeq3
theorem uB:∀ {us:List Value} {ns:List Int},IntsAre us ns→∀ i,i<us.length→∃ a t,us[i]?=some (.int a t)∧ns[i]?=some a
 | _,_,.nil,i,h=>by simp at h
 | _,_,.cons a t r,0,_=>⟨a,t,rfl,rfl⟩
 | _,_,.cons a t r,i+1,h=>by
  obtain⟨c,u,h1,h2⟩:=uB r i (by simpa using h)
  exact⟨c,u,by simpa using h1,by simpa using h2⟩
theorem zM{ns:List Int}{i:Nat}{a:Int}(h:ns[i]?=some a):ns.drop i=a::ns.drop (i+1):=by
 obtain⟨hl,e⟩:=List.getElem?_eq_some_iff.mp h
 rw[List.drop_eq_getElem_cons hl,e]
theorem Em(l b:Addr)(us vs:List Value)(n n2:Nat)(ns ms:List Int)(hi:IntsAre us ns)(hj:IntsAre vs ms)(k:Nat) :
  ∀ i:Nat,us.length - i=k→us.length=vs.length→Meets (Builtin.«list.__eq__.loop» ⟨[.ref l,.ref b,rawInt i,rawInt 0],[]⟩)
   (fun A R s=>s.heap.get? l=some { cls:=.type "list",data:=.seq us.toArray n }∧s.heap.get? b=some { cls:=.type "list",data:=.seq vs.toArray n2 }∧R (.ok (.ret (.bool (lexLt (ns.drop i) (ms.drop i))))) s):=by
 have ln:us.length=ns.length:=hi.length
 have lm:vs.length=ms.length:=hj.length
 induction k with
 | zero =>
  intro i hk hlen prog w A R s h
  obtain⟨hp,g,d,tk,os⟩:=s;obtain⟨hl,hb,h⟩:=h
  wp_walk using wpAny_loadPart' hl,wpAny_loadPart' hb
  have n1:us.toArray[((i:Nat):Int).toNat]?=none:=by simp;omega
  have n2':vs.toArray[((i:Nat):Int).toNat]?=none:=by simp;omega
  rw[n1,n2']
  wp_walk using wpAny_loadPart' hl,wpAny_loadPart' hb
  have d1:ns.drop i=[]:=by simp;omega
  have d2:ms.drop i=[]:=by simp;omega
  rw[d1,d2] at h
  have e:(decide (us.toArray.size<vs.toArray.size))=HT.lexLt [] []:=by rw[List.size_toArray,List.size_toArray,hlen];simp[HT.lexLt]
  show R (.ok (.ret (.bool (decide (us.toArray.size<vs.toArray.size))))) _
  rw[e]
  exact h
 | succ k ih =>
  intro i hk hlen prog w A R s h
  obtain⟨hp,g,d,tk,os⟩:=s;obtain⟨hl,hb,h⟩:=h
  obtain⟨a,t,ha,ha'⟩:=uB hi i (by omega)
  obtain⟨c,u,hc,hc'⟩:=uB hj i (by omega)
  have n1:us.toArray[((i:Nat):Int).toNat]?=some (.int a t):=by simpa using ha
  have n2':vs.toArray[((i:Nat):Int).toNat]?=some (.int c u):=by simpa using hc
  rw[zM ha',zM hc',lexLt_cons] at h
  wp_walk using wpAny_loadPart' hl,wpAny_loadPart' hb
  rw[n1,n2']
  have he:=SeqAt.EqAt.int_int (A:=A.in1) (s:=⟨hp,g,d,tk,os⟩) a t c u
  refine wpAny_bind (he prog w _ _ ?_)
  cases q:(a == c) with
  | true =>
   have q':a=c:=by simpa using q
   rw[if_pos q'] at h
   wp_walk
   refine⟨plainId_quiet plain_eq_loop _,codeAny_builtin entry_eq_loop ?_⟩
   rw[Around.under_plainId plain_eq_loop _]
   exact ih (i+1) (by omega) hlen prog w A R _ ⟨hl,hb,h⟩
  | false =>
   have q':¬ a=c:=by simpa using q
   rw[if_neg q'] at h
   have hri:=Cg A.in1 ⟨hp,g,d,tk,os⟩ a t c u prog w
   wp_walk using wpAny_loadPart' hl,wpAny_loadPart' hb
   rw[n1,n2']
   wp_walk using hri
   exact h
theorem list_lt(l b:Addr)(us vs:List Value)(n n2:Nat)(ns ms:List Int)(hi:IntsAre us ns)(hj:IntsAre vs ms)(hlen:us.length=vs.length) :
  Meets (Builtin.«list.__lt__» ⟨[.ref l,.ref b],[]⟩)
   (fun A R s=>s.heap.get? l=some { cls:=.type "list",data:=.seq us.toArray n }∧s.heap.get? b=some { cls:=.type "list",data:=.seq vs.toArray n2 }∧R (.ok (.ret (.bool (lexLt ns ms)))) s):=by
 intro prog w A R s h
 obtain⟨hp,g,d,tk,os⟩:=s;obtain⟨hl,hb,h⟩:=h
 have f3:=AutoSeq1.sub_list_list
 wp_walk using wpAny_loadPart' hl,wpAny_loadPart' hb
 refine⟨plainId_quiet plain_eq_loop _,codeAny_builtin entry_eq_loop ?_⟩
 rw[Around.under_plainId plain_eq_loop _]
 exact Em l b us vs n n2 ns ms hi hj _ 0 rfl hlen prog w A R _ ⟨hl,hb,h⟩
theorem pair_lt(l b a c:Addr)(L:Int)(t u:Tok)(n n2:Nat)(dd dd2:Option Addr)(sl sl2:Array (Option Value))(e r:Bool) :
  Meets (Builtin.«tuple.__lt__» ⟨[.ref l,.ref b],[]⟩)
   (fun A R s=>s.heap.get? l=some { cls:=.type "tuple",dict:=dd,data:=.seq #[.int L t,.ref a] n,slots:=sl }∧s.heap.get? b=some { cls:=.type "tuple",dict:=dd2,data:=.seq #[.int L u,.ref c] n2,slots:=sl2 } ∧
    SeqAt.EqAt A.in1 s (.ref a) (.ref c) e∧(e=false→∀ (prog:Program) (w:World) (E:Value→Shared→Prop) (Q:Value→Shared→Prop),Q (.bool r) s→wpAny (model prog w) A.in1 (richCompare .Lt (.ref a) (.ref c)) Q E s)∧(e=true→r=false)∧R (.ok (.ret (.bool r))) s) :=
 .of_wp fun prog w A R s h=>by
  obtain⟨hp,g,d,tk,os⟩:=s;obtain⟨hl,hb,he,hr,her,h⟩:=h
  have f2:=AutoSeq1.sub_tuple_tuple
  have e1:=SeqAt.EqAt.int_int (A:=A.in1) (s:=⟨hp,g,d,tk,os⟩) L t L u
  rw[show (L == L)=true by simp] at e1
  have hE1:=e1 prog w
  have hE2:=he prog w
  cases e with
  | true =>
   have hr0:r=false:=her rfl
   subst hr0
   wp_walk using wpAny_loadPart' hl,wpAny_loadPart' hb,hE1,hE2
   exact⟨_,rfl,h⟩
  | false =>
   have hr1:=hr rfl prog w
   wp_walk using wpAny_loadPart' hl,wpAny_loadPart' hb,hE1,hE2,hr1
   exact⟨_,rfl,h⟩
end LtL
namespace L2
open PySem PySem.Spec PyProof.Rows
def CV:R2:=fun x y H Q=>∃ (p q a c:Addr) (L:Int) (ns ms:List Int),x=.ref p∧y=.ref q∧H p=some (.tup [.int L,.ref a])∧H q=some (.tup [.int L,.ref c])∧H a=some (.lst (ns.map V.int))∧H c=some (.lst (ms.map V.int))∧ns.length=ms.length∧a≠c∧Q (.bl (HT.lexLt ns ms)) H
theorem oX:∀ ns:List Int,HT.lexLt ns ns=false
 | []=>rfl
 | n::ns=>by rw[HT.lexLt_cons,if_pos rfl];exact oX ns
theorem vZ:∀ (a b:List Int),mY (a.map V.int) (b.map V.int)=decide (a=b)
 | [],[]=>by simp[mY]
 | [],_::_=>by simp[mY]
 | _::_,[]=>by simp[mY]
 | x::xs,y::ys=>by
  have e:wP (V.int x) (V.int y)=decide (x=y):=by
   unfold wP;by_cases h:x=y <;> simp[h]
  rw[List.map_cons,List.map_cons]
  unfold mY
  rw[vZ xs ys,e]
  by_cases h:x=y <;> by_cases h2:xs=ys <;> simp[h,h2]
theorem Dh{X:Cx}(hu:X.A.units+8<cLine):iC X (compareOp .Lt) CV:=by
 intro pins s σ H x y v u Q I rx ry h
 obtain⟨p,q,a,c,L,ns,ms,rfl,rfl,hp,hq,ha,hc,hlen,hne,k⟩:=h
 cases rx
 cases ry
 obtain⟨_,ip,rp,⟨op,gp1,gp2,np,gp3⟩,_⟩:=I.hok p _ hp
 obtain⟨_,iq,rq,⟨oq,gq1,gq2,nq,gq3⟩,_⟩:=I.hok q _ hq
 obtain⟨u1,u2,rfl,r1,r2⟩:=rp.two
 obtain⟨w1,w2,rfl,r3,r4⟩:=rq.two
 obtain⟨t1,rfl⟩:=r1
 obtain⟨t3,rfl⟩:=r3
 cases r2
 cases r4
 obtain⟨_,us,n1,ru,gu⟩:=I.hok a _ ha
 obtain⟨_,vs,n2,rv,gv⟩:=I.hok c _ hc
 have lus:us.length=ns.length:=by rw[← ru.length,List.length_map]
 have lvs:vs.length=ms.length:=by rw[← rv.length,List.length_map]
 have hla:s.heap.IsList a us.toArray:=⟨_,gu,rfl,n1,rfl⟩
 have hlc:s.heap.IsList c vs.toArray:=⟨_,gv,rfl,n2,rfl⟩
 have fl:∀ zs:List Int,(zs.map V.int).all eO=true:=fun zs=>by rw[List.all_map];exact List.all_eq_true.mpr fun _ _=>rfl
 have hu1:X.A.in1.units<cLine:=by show X.A.in1.units<cLine;unfold Around.in1;show X.A.units+1<cLine;omega
 have hu2:X.A.in1.in1.units<cLine:=by unfold Around.in1;show X.A.units+1+1<cLine;omega
 have hu0:X.A.units<cLine:=by omega
 have hiu:=qA ru
 have hiv:=qA rv
 have heq:SeqAt.EqAt X.A.in1 s (.ref a) (.ref c) (decide (ns=ms)):=by
  have z:=SeqAt.RcAt.lists (A:=X.A.in1) hla hlc (by simp;omega) hu1 (oU (A:=X.A.in1.in1) (s:=s) ru rv (fl ns) (fl ms))
  rw[List.size_toArray,← ru.length,iF (by rw[List.length_map,List.length_map];exact hlen),vZ] at z
  exact SeqAt.EqAt.of_refs hne z
 obtain⟨cl1,dd1,dt1,sl1⟩:=op
 obtain⟨cl2,dd2,dt2,sl2⟩:=oq
 simp only at gp2 gp3 gq2 gq3
 subst gp2 gp3 gq2 gq3
 refine richCompare_meets_room (op:=.Lt) ⟨_,gp1,rfl⟩ ⟨_,gq1,rfl⟩ PySem.F.slot_tuple_lt PySem.F.entry_tuple_lt (PySem.F.args_tuple_lt_2 _ _) (LtL.pair_lt p q a c L t1 t3 np nq dd1 dd2 sl1 sl2 (decide (ns=ms)) (HT.lexLt ns ms))
  ⟨gp1,gq1,heq,fun _ prog w E Q' hq'=>?_,fun e=>?_,show Value.bool (HT.lexLt ns ms)≠Value.notImplemented∧EP X pins σ Q (.bool (HT.lexLt ns ms)) s from ⟨(fun x=>nomatch x),⟨.bl _,H,I,rfl,k⟩⟩⟩ hu0
 ·exact richCompare_meets_room (op:=.Lt) ⟨_,gu,rfl⟩ ⟨_,gv,rfl⟩ PySem.F.slot_list_lt PySem.F.entry_list_lt (PySem.F.args_list_lt_2 _ _) (LtL.list_lt a c us vs n1 n2 ns ms hiu hiv (by omega))
   ⟨gu,gv,show Value.bool (HT.lexLt ns ms)≠Value.notImplemented∧Q' (.bool (HT.lexLt ns ms)) s from ⟨(fun x=>nomatch x),hq'⟩⟩ hu1
 ·have e':ns=ms:=of_decide_eq_true e
  rw[e'];exact oX ms
section
variable {X:Cx}
theorem uP(hc:X.calm=true):A9 X "str.index" (fun x xs H Q=>∃ z y,x=.str z∧xs=[.str y]∧(Builtin.Str.occurrences z y 0 z.length 1).isEmpty=false∧Q (.int (Txt.find z y)) H):=by
 intro pins s σ H x xs v us Q I rx rs h
 obtain⟨z,y,rfl,rfl,ho,q⟩:=h
 obtain⟨t,rfl⟩:=rx
 obtain⟨u,rfl,ru⟩:=rs.one
 obtain⟨t',rfl⟩:=ru
 exact index_or (I.ok.hd hc) (fun _ e=>by rw[e] at ho;cases ho) fun _ _=>⟨.int _,H,I.tok _,⟨_,rfl⟩,q⟩
theorem kI:iC X (binaryOp .Mult) (fun x y H Q=>∃ z n,x=.str z∧y=.int n∧MulOk z n∧Q (.str (Txt.mul z n)) H):=by
 intro pins s σ H x y v u Q I rx ry h
 obtain⟨z,n,rfl,rfl,hok,q⟩:=h
 obtain⟨t,rfl⟩:=rx
 obtain⟨t',rfl⟩:=ry
 exact SB.mul hok fun t' k=>⟨.str _,H,I.tok _,⟨t',rfl⟩,q⟩
end
end L2
namespace MaR
section
variable {g:Nat→Nat}{n:Nat}
def Lt(g:Nat→Nat)(n i j:Nat):Prop:=∃ l,l<n∧(∀ t,t<l→g (i+t)=g (j+t))∧g (i+l)<g (j+l)
theorem Lt.irrefl(i:Nat):¬ Lt g n i i:=fun ⟨l,_,_,h⟩=>Nat.lt_irrefl _ h
theorem Lt.trans{i j k:Nat}(a:Lt g n i j)(b:Lt g n j k):Lt g n i k:=by
 obtain⟨l1,h1,e1,q1⟩:=a
 obtain⟨l2,h2,e2,q2⟩:=b
 by_cases h:l1<l2
 ·refine⟨l1,h1,fun t ht=>(e1 t ht).trans (e2 t (by omega)),?_⟩
  rw[← e2 l1 h];exact q1
 ·by_cases h':l2<l1
  ·refine⟨l2,h2,fun t ht=>(e1 t (by omega)).trans (e2 t ht),?_⟩
   rw[e1 l2 h'];exact q2
  ·have e:l1=l2:=by omega
   subst e
   exact⟨l1,h1,fun t ht=>(e1 t ht).trans (e2 t ht),Nat.lt_trans q1 q2⟩
theorem nB:∀ m,0<m→∃ k,k<m∧∀ j,j<m→¬ Lt g n j k
 | 0,h=>absurd h (Nat.lt_irrefl _)
 | 1,_=>⟨0,Nat.one_pos,fun j hj=>by
   have:j=0:=(by omega);subst this;exact Lt.irrefl 0⟩
 | m+2,_=>by
  obtain⟨k,hk,hm⟩:=nB (m+1) (Nat.succ_pos _)
  by_cases h:Lt g n (m+1) k
  ·refine⟨m+1,Nat.lt_succ_self _,fun j hj q=>?_⟩
   by_cases e:j=m+1
   ·subst e;exact Lt.irrefl _ q
   ·exact hm j (by omega) (q.trans h)
  ·refine⟨k,by omega,fun j hj q=>?_⟩
   by_cases e:j=m+1
   ·subst e;exact h q
   ·exact hm j (by omega) q
def oY(g:Nat→Nat)(n k:Nat):Prop:=∃ j,j<n∧Lt g n j k
structure Walk(g:Nat→Nat)(n one other like:Nat):Prop where
 ne:one≠other
 out:∀ k,k<max one other→k≠one→k≠other→k<n→oY g n k
 alike:∀ t,t<like→g (one+t)=g (other+t)
theorem walk_start:Walk g n 0 1 0:=⟨by decide,fun k h1 h2 h3=>by have:max 0 1=1:=rfl;omega,fun t ht=>absurd ht (Nat.not_lt_zero _)⟩
theorem walk_like{one other like:Nat}(w:Walk g n one other like)(h:g (one+like)=g (other+like)):Walk g n one other (like+1) :=
 ⟨w.ne,w.out,fun t ht=>by
  by_cases e:t=like
  ·subst e;exact h
  ·exact w.alike t (by omega)⟩
theorem Ci(hg:∀ t,g (t % n)=g t){i j:Nat}(h:Lt g n i j):Lt g n (i % n) j:=by
 have e:∀ t,g (i % n+t)=g (i+t):=fun t=>by
  rw[← hg (i % n+t),← hg (i+t)]
  congr 1
  simp[Nat.add_mod]
 obtain⟨l,h1,h2,h3⟩:=h
 exact⟨l,h1,fun t ht=>by rw[e];exact h2 t ht,by rw[e];exact h3⟩
theorem IU(hg:∀ t,g (t % n)=g t)(hn:0<n){a b like:Nat}(hl:like<n)(h:∀ t,t<like→g (a+t)=g (b+t))(q:g (b+like)<g (a+like)):∀ k,a≤k→k≤a+like→oY g n k:=fun k h1 h2=>by
 refine⟨(b+(k - a)) % n,Nat.mod_lt _ hn,Ci hg ⟨like - (k - a),by omega,fun t ht=>?_,?_⟩⟩
 ·have:=h (k - a+t) (by omega)
  rw[show b+(k - a)+t=b+(k - a+t) by omega,← this]
  congr 1;omega
 ·rw[show b+(k - a)+(like - (k - a))=b+like by omega,show k+(like - (k - a))=a+like by omega]
  exact q
theorem walk_one(hg:∀ t,g (t % n)=g t)(hn:0<n){one other like:Nat}(w:Walk g n one other like)(hl:like<n)(q:g (other+like)<g (one+like)) :
  Walk g n (one+like+1) (if one+like+1=other then other+1 else other) 0:=by
 have L:=IU hg hn hl w.alike q
 have key:∀ k,k<max (one+like+1) other→k≠one+like+1→k≠other→k<n→oY g n k:=fun k h1 h2 h3 h4=>by
  by_cases c:one≤k∧k≤one+like
  ·exact L k c.1 c.2
  ·exact w.out k (by omega) (by omega) h3 h4
 refine⟨by split <;> omega,fun k h1 h2 h3 h4=>?_,fun t ht=>absurd ht (Nat.not_lt_zero _)⟩
 split at h1 <;> rename_i e
 ·rw[if_pos e] at h3
  by_cases c:k=other
  ·exact absurd (by omega) h2
  ·exact key k (by omega) h2 c h4
 ·rw[if_neg e] at h3
  exact key k h1 h2 h3 h4
theorem walk_other(hg:∀ t,g (t % n)=g t)(hn:0<n){one other like:Nat}(w:Walk g n one other like)(hl:like<n)(q:g (one+like)<g (other+like)) :
  Walk g n one (if one=other+like+1 then other+like+1+1 else other+like+1) 0:=by
 have L:=IU hg hn hl (fun t ht=>(w.alike t ht).symm) q
 have key:∀ k,k<max one (other+like+1)→k≠one→k≠other+like+1→k<n→oY g n k:=fun k h1 h2 h3 h4=>by
  by_cases c:other≤k∧k≤other+like
  ·exact L k c.1 c.2
  ·exact w.out k (by omega) h2 (by omega) h4
 refine⟨by split <;> omega,fun k h1 h2 h3 h4=>?_,fun t ht=>absurd ht (Nat.not_lt_zero _)⟩
 split at h1 <;> rename_i e
 ·rw[if_pos e] at h3
  by_cases c:k=other+like+1
  ·exact absurd (by omega) h2
  ·exact key k (by omega) h2 c h4
 ·rw[if_neg e] at h3
  exact key k h1 h2 h3 h4
theorem DS(hg:∀ t,g (t % n)=g t)(hn:0<n){a d:Nat}(h:∀ t,t<n→g (a+t)=g (a+d+t)):∀ t,g (t+d)=g t:=fun t=>by
 -- t is a+s round for some s below n
 obtain⟨s,hs,e⟩:∃ s,s<n∧(a+s) % n=t % n:=by
  refine⟨(t+(n - a % n)) % n,Nat.mod_lt _ hn,?_⟩
  have ha:a % n<n:=Nat.mod_lt _ hn
  rw[Nat.add_mod_mod,← Nat.add_assoc,Nat.add_comm a t,Nat.add_assoc]
  have:a+(n - a % n)=n * (a / n)+n:=by have:=Nat.div_add_mod a n;omega
  rw[this,show t+(n * (a / n)+n)=t+n * (a / n+1) by rw[Nat.mul_add,Nat.mul_one],Nat.add_mul_mod_self_left]
 have h1:=h s hs
 rw[← hg (a+s),e,hg t] at h1
 rw[h1,← hg (t+d),← hg (a+d+s)]
 congr 1
 rw[show a+d+s=a+s+d by omega,Nat.add_mod (a+s),e,← Nat.add_mod]
theorem pD(hp:∀ t,g (t+d)=g t):∀ q t,g (t+d * q)=g t
 | 0,t=>rfl
 | q+1,t=>by rw[Nat.mul_succ,← Nat.add_assoc,hp,pD hp q t]
theorem walk_end(hg:∀ t,g (t % n)=g t)(hn:0<n){one other like:Nat}(w:Walk g n one other like)(hend:¬ (one<n∧other<n∧like<n)):min one other<n∧∀ j,j<n→¬ Lt g n j (min one other):=by
 obtain⟨k,hk,hm⟩:=nB (g:=g) (n:=n) n hn
 have nb:¬ oY g n k:=fun ⟨j,hj,q⟩=>hm j hj q
 by_cases c1:n≤one
 ·have:k=other:=Classical.byContradiction fun e=>nb (w.out k (by omega) (by omega) e hk)
  subst this
  rw[show min one k=k by omega]
  exact⟨hk,hm⟩
 ·by_cases c2:n≤other
  ·have:k=one:=Classical.byContradiction fun e=>nb (w.out k (by omega) e (by omega) hk)
   subst this
   rw[show min k other=k by omega]
   exact⟨hk,hm⟩
  ·have hl:n≤like:=by omega
   have al:∀ t,t<n→g (one+t)=g (other+t):=fun t ht=>w.alike t (by omega)
   -- the difference
   obtain⟨a,d,hd,ha,hmx,hp⟩:∃ a d,0<d∧a=min one other∧a+d=max one other∧∀ t,g (t+d)=g t:=by
    by_cases c:one<other
    ·refine⟨one,other - one,by omega,by omega,by omega,DS hg hn (a:=one) fun t ht=>?_⟩
     rw[show one+(other - one)+t=other+t by omega];exact al t ht
    ·have:=w.ne
     refine⟨other,one - other,by omega,by omega,by omega,DS hg hn (a:=other) fun t ht=>?_⟩
     rw[show other+(one - other)+t=one+t by omega];exact(al t ht).symm
   have same:∀ q x j,(Lt g n j x↔Lt g n j (x+d * q)):=fun q x j=>by
    have e:∀ t,g (x+d * q+t)=g (x+t):=fun t=>by
     rw[show x+d * q+t=x+t+d * q by omega];exact pD hp q _
    constructor
    ·rintro⟨l,h1,h2,h3⟩;exact⟨l,h1,fun t ht=>by rw[e];exact h2 t ht,by rw[e];exact h3⟩
    ·rintro⟨l,h1,h2,h3⟩;exact⟨l,h1,fun t ht=>by rw[← e];exact h2 t ht,by rw[← e];exact h3⟩
   refine⟨by omega,fun j hj q=>?_⟩
   rw[← ha] at q
   by_cases c:k<max one other
   ·have:k=one∨k=other:=Classical.byContradiction fun e=>nb (w.out k c (fun z=>e (.inl z)) (fun z=>e (.inr z)) hk)
    have kc:k=a∨k=a+d:=by omega
    rcases kc with z | z
    ·rw[← z] at q;exact hm j hj q
    ·rw[z] at hm;exact hm j hj (by have:=(same 1 a j).mp q;rwa [Nat.mul_one] at this)
   ·-- k stands behind both: it comes down by d
    have hq:k=a+(k - a) % d+d * ((k - a) / d):=by have:=Nat.div_add_mod (k - a) d;omega
    have hr:(k - a) % d<d:=Nat.mod_lt _ hd
    have hm':∀ j,j<n→¬ Lt g n j (a+(k - a) % d):=fun j hj z=>hm j hj (by rw[hq];exact(same _ _ j).mp z)
    by_cases c0:(k - a) % d=0
    ·rw[c0] at hm';exact hm' j hj q
    ·exact absurd (w.out (a+(k - a) % d) (by omega) (by omega) (by omega) (by omega)) fun ⟨j,hj,z⟩=>hm' j hj z
end
end MaR
namespace Lw
open PySem PySem.Spec PyProof.Rows L2 Ma MaR
def rk(c:Nat):Nat:=if 96<c then 2 * (c - 97) else 2 * (c - 65)+1
def rankTab_rows:List (Str×PyData):=[("a",.int 0),("A",.int 1),("b",.int 2),("B",.int 3),("c",.int 4),("C",.int 5),("d",.int 6),("D",.int 7)]
def zG:List (PyData×PyData):=rankTab_rows.map fun p=>(PyData.str p.1,p.2)
theorem tY{c:Nat}(h:bU c):lookup (.str (S [c])) zG=some (.int (rk c:Nat)):=by
 rcases aV h with rfl | rfl | rfl | rfl | rfl | rfl | rfl | rfl <;> kernel_rfl
theorem FT{a b:Nat}(ha:bU a)(hb:bU b)(h:rk a=rk b):a=b:=by unfold rk at h;unfold bU at *;split at h <;> split at h <;> omega
def gr(x:List Nat)(t:Nat):Nat:=rk (x.getD (t % x.length) 0)
theorem qL(x:List Nat):∀ t,gr x (t % x.length)=gr x t:=fun t=>by unfold gr;rw[Nat.mod_mod]
def LeastAt(x:List Nat)(b:Nat):Prop:=(x=[]∧b=0)∨(b<x.length∧∀ j,j<x.length→¬ Lt (gr x) x.length j b)
def Ends(x:List Nat)(m:Nat):Prop:=(∀ j,j<m→2 * j+1<x.length∧x.getD j 0=con (x.getD (x.length - 1 - j) 0))∧¬ (2 * m+1<x.length∧x.getD m 0=con (x.getD (x.length - 1 - m) 0))
def gT(x:List Nat)(m:Nat):List Nat:=(x.drop m).take (x.length - 2 * m)
def eI(x:List Nat)(b:Nat):List Nat:=x.drop b++x.take b
def RingR(x r:List Nat):Prop:=∃ m b,Ends x m∧LeastAt (gT x m) b∧r=eI (gT x m) b
theorem Ends.le{x:List Nat}{m:Nat}(h:Ends x m):2 * m≤x.length:=by
 cases m with
 | zero=>omega
 | succ m=>have:=(h.1 m (Nat.lt_succ_self _)).1;omega
theorem Ends.inj{x:List Nat}{m m':Nat}(h:Ends x m)(h':Ends x m'):m=m':=by
 by_cases c:m<m'
 ·exact absurd (h'.1 m c) h.2
 ·by_cases c2:m' < m
  ·exact absurd (h.1 m' c2) h'.2
  ·omega
theorem hJ{x:List Nat}{m:Nat}(h:2 * m≤x.length):(gT x m).length=x.length - 2 * m:=by unfold gT;rw[List.length_take,List.length_drop];omega
theorem jP{x:List Nat}{m:Nat}(h:AllL x):AllL (gT x m):=fun c hc=>h c (List.mem_of_mem_drop (List.mem_of_mem_take hc))
theorem LeastAt.le{x:List Nat}{b:Nat}(h:LeastAt x b):b≤x.length:=by
 rcases h with ⟨e,rfl⟩ | ⟨h,_⟩
 ·exact Nat.zero_le _
 ·omega
theorem vS(w:List Nat){i j:Int}(h0:0≤i)(h1:i≤j)(h2:j≤w.length):Txt.slice (S w) (some i) (some j)=S ((w.drop i.toNat).take (j - i).toNat):=by
 have:=slice_closesL (x:=S w) h0 h1 (by rw[aT];exact h2)
 rw[beq_iff_eq.mp this]
def wR:Sp:=fun vs H Q _=>∃ c:Nat,vs=[.str (S [c])]∧bU c∧∀ H',Same H H'→Q (.int (rk c:Nat)) H'
def Dv:Sp:=fun vs H Q _=>∃ x:List Nat,vs=[.str (S x)]∧AllL x∧x.length≤60000∧∀ (m:Nat) (H':Hp),Ends x m→Same H H'→Q (.int (m:Nat)) H'
def zS:Sp:=fun vs H Q _=>∃ x:List Nat,vs=[.str (S x)]∧AllL x∧x.length≤60000∧∀ (b:Nat) (H':Hp),LeastAt x b→Same H H'→Q (.int (b:Nat)) H'
def uK:Sp:=fun vs H Q _=>∃ x:List Nat,vs=[.str (S x)]∧AllL x∧x.length≤60000∧∀ (r:List Nat) (H':Hp),RingR x r→Same H H'→Q (.str (S r)) H'
def nX:Sp:=fun vs H Q _=>∃ x:List Nat,vs=[.str (S x)]∧AllL x∧x.length≤900∧∀ (r:List Nat) (H':Hp),RingR x r→Same H H'→Q (.str (S r)) H'
theorem bZ{x:List Nat}{b:Nat}(h:b≤x.length):(eI x b).length=x.length:=by unfold eI;rw[List.length_append,List.length_drop,List.length_take];omega
theorem fW{x:List Nat}{b t:Nat}(h:b<x.length)(ht:t<x.length):(eI x b)[t]?=some (x.getD ((b+t) % x.length) 0):=by
 unfold eI
 by_cases c:t<x.length - b
 ·rw[List.getElem?_append_left (by rw[List.length_drop];omega),List.getElem?_drop,Nat.mod_eq_of_lt (by omega),List.getD_eq_getElem?_getD,List.getElem?_eq_getElem (by omega)]
  rfl
 ·rw[List.getElem?_append_right (by rw[List.length_drop];omega),List.length_drop,List.getElem?_take_of_lt (by omega)]
  have e:(b+t) % x.length=t - (x.length - b):=by
   rw[show b+t=(t - (x.length - b))+x.length by omega,Nat.add_mod_right,Nat.mod_eq_of_lt (by omega)]
  rw[e,List.getD_eq_getElem?_getD,List.getElem?_eq_getElem (by omega)]
  rfl
theorem nL{x:List Nat}{b c:Nat}(hn:b<x.length)(hc:c<x.length)(h1:¬ Lt (gr x) x.length b c)(h2:¬ Lt (gr x) x.length c b):∀ l,l≤x.length→∀ t,t<l→gr x (b+t)=gr x (c+t)
 | 0,_,t,ht=>absurd ht (Nat.not_lt_zero _)
 | l+1,hl,t,ht=>by
  have ih:=nL hn hc h1 h2 l (by omega)
  by_cases e:t=l
  ·subst e
   refine Classical.byContradiction fun ne=>?_
   by_cases q:gr x (b+t)<gr x (c+t)
   ·exact h1 ⟨t,by omega,ih,q⟩
   ·exact h2 ⟨t,by omega,fun s hs=>(ih s hs).symm,by omega⟩
  ·exact ih t (by omega)
theorem rot_eq{x:List Nat}(hx:AllL x){b c:Nat}(hb:b<x.length)(hc:c<x.length)(h:∀ t,t<x.length→gr x (b+t)=gr x (c+t)):eI x b=eI x c:=by
 have isx:∀ i:Nat,i<x.length→bU (x.getD i 0):=fun i hi=>by
  rw[List.getD_eq_getElem?_getD,List.getElem?_eq_getElem hi];exact hx _ (List.getElem_mem hi)
 refine List.ext_getElem? fun t=>?_
 by_cases ht:t<x.length
 ·rw[fW hb ht,fW hc ht]
  have:=h t ht
  unfold gr at this
  rw[FT (isx _ (Nat.mod_lt _ (by omega))) (isx _ (Nat.mod_lt _ (by omega))) this]
 ·rw[List.getElem?_eq_none (by rw[bZ (by omega)];omega),List.getElem?_eq_none (by rw[bZ (by omega)];omega)]
theorem LeastAt.rot_eq{x:List Nat}(hx:AllL x){b c:Nat}(h:LeastAt x b)(h':LeastAt x c):eI x b=eI x c:=by
 rcases h with ⟨rfl,rfl⟩ | ⟨hb,h⟩
 ·rcases h' with ⟨_,rfl⟩ | ⟨hc,_⟩
  ·rfl
  ·simp at hc
 ·rcases h' with ⟨rfl,rfl⟩ | ⟨hc,h'⟩
  ·simp at hb
  ·exact Lw.rot_eq hx hb hc fun t ht=>nL hb hc (h' b hb) (h c hc) x.length (Nat.le_refl _) t ht
theorem RingR.inj{x r r':List Nat}(hx:AllL x)(h:RingR x r)(h':RingR x r'):r=r':=by
 obtain⟨m,b,h1,h2,rfl⟩:=h
 obtain⟨m',b',h1',h2',rfl⟩:=h'
 have e:=h1.inj h1'
 subst e
 exact LeastAt.rot_eq (jP hx) h2 h2'
def Bx(x:List Nat):List Int:=x.map fun c=>((rk c:Nat):Int)
theorem iH(x:List Nat):(Bx x).length=x.length:=by unfold Bx;rw[List.length_map]
theorem FH{c:Nat}(h:bU c):(Builtin.Str.occurrences (Str.ofString "aAbBcCdD") (S [c]) 0 (Str.ofString "aAbBcCdD").length 1).isEmpty=false∧Txt.find (Str.ofString "aAbBcCdD") (S [c])=((rk c:Nat):Int):=by
 rcases aV h with rfl | rfl | rfl | rfl | rfl | rfl | rfl | rfl <;> exact⟨by decide +kernel,by decide +kernel⟩
def Fu:Sp:=fun vs H Q _=>∃ x:List Nat,vs=[.str (S x)]∧AllL x∧x.length≤900∧∀ (p a:Addr) (H':Hp),H p=none→H a=none→Same H H'→H' p=some (.tup [.int (x.length:Nat),.ref a])→H' a=some (.lst ((Bx x).map V.int))→Q (.ref p) H'
theorem rL:∀ (as bs:List Int),as.length=bs.length→(HT.lexLt as bs=true↔∃ l,l<as.length∧(∀ t,t<l→as[t]?=bs[t]?)∧∃ u v,as[l]?=some u∧bs[l]?=some v∧u<v)
 | [],[],_=>by simp[HT.lexLt]
 | [],_::_,h=>by simp at h
 | _::_,[],h=>by simp at h
 | a::as,b::bs,h=>by
  have ih:=rL as bs (by simpa using h)
  rw[HT.lexLt_cons]
  by_cases e:a=b
  ·rw[if_pos e,ih]
   constructor
   ·rintro⟨l,h1,h2,u,v,h3,h4,h5⟩
    refine⟨l+1,by simpa using h1,fun t ht=>?_,u,v,by simpa using h3,by simpa using h4,h5⟩
    cases t with
    | zero=>simp[e]
    | succ t=>simpa using h2 t (by omega)
   ·rintro⟨l,h1,h2,u,v,h3,h4,h5⟩
    cases l with
    | zero =>
     simp at h3 h4
     omega
    | succ l=>exact⟨l,by simpa using h1,fun t ht=>by simpa using h2 (t+1) (by omega),u,v,by simpa using h3,by simpa using h4,h5⟩
  ·rw[if_neg e,decide_eq_true_iff]
   constructor
   ·intro q
    exact⟨0,by simp,fun t ht=>absurd ht (Nat.not_lt_zero _),a,b,rfl,rfl,q⟩
   ·rintro⟨l,h1,h2,u,v,h3,h4,h5⟩
    cases l with
    | zero=>simp at h3 h4;omega
    | succ l =>
     have:=h2 0 (by omega)
     simp at this
     exact absurd this e
theorem CD{x:List Nat}{i j:Nat}(hi:i<x.length)(hj:j<x.length):HT.lexLt (Bx (eI x i)) (Bx (eI x j))=true↔Lt (gr x) x.length i j:=by
 rw[rL _ _ (by rw[iH,iH,bZ (by omega),bZ (by omega)])]
 have g:∀ b t,b<x.length→t<x.length→(Bx (eI x b))[t]?=some ((gr x (b+t):Nat):Int):=fun b t hb ht=>by
  unfold Bx gr
  rw[List.getElem?_map,fW hb ht];rfl
 constructor
 ·rintro⟨l,h1,h2,u,v,h3,h4,h5⟩
  rw[iH,bZ (by omega)] at h1
  rw[g i l hi h1] at h3
  rw[g j l hj h1] at h4
  cases h3;cases h4
  refine⟨l,h1,fun t ht=>?_,by omega⟩
  have:=h2 t ht
  rw[g i t hi (by omega),g j t hj (by omega)] at this
  have:=Option.some.inj this
  omega
 ·rintro⟨l,h1,h2,h3⟩
  exact⟨l,by rw[iH,bZ (by omega)];exact h1,fun t ht=>by rw[g i t hi (by omega),g j t hj (by omega),h2 t ht],_,_,g i l hi h1,g j l hj h1,by omega⟩
theorem oR{x:List Nat}{t i:Nat}(h:i<x.length - 2 * t):(gT x t)[i]?=some (x.getD (t+i) 0):=by
 unfold gT
 rw[List.getElem?_take_of_lt h,List.getElem?_drop,List.getD_eq_getElem?_getD,List.getElem?_eq_getElem (by omega)]
 rfl
theorem jE(x:List Nat):gT x 0=x:=by unfold gT;simp
theorem CM{x:List Nat}{t:Nat}(h:2 * t+1<x.length):((gT x t).drop 1).take ((x.length - 2 * t) - 2)=gT x (t+1):=by
 unfold gT
 rw[List.drop_take,List.drop_drop,List.take_take]
 congr 1
 omega
theorem uO(x:List Nat):eI x 0=x:=by unfold eI;simp
theorem zN{x:List Nat}{b:Nat}(h:AllL x):AllL (eI x b):=AllL.app.mpr ⟨fun c hc=>h c (List.mem_of_mem_drop hc),fun c hc=>h c (List.mem_of_mem_take hc)⟩
theorem Fj{ys:List Nat}{z:Nat}(h:ys[ys.length - 1]?=some z):tR ys (-1)=some z:=by
 have hne:ys≠[]:=by intro e;subst e;simp at h
 have e:ys=ys.dropLast++[ys.getLast hne]:=(List.dropLast_concat_getLast hne).symm
 have hz:ys.getLast hne=z:=by
  rw[List.getLast_eq_getElem]
  have hl:ys.length - 1<ys.length:=by have:=List.length_pos_iff.mpr hne;omega
  rw[List.getElem?_eq_getElem hl] at h
  exact Option.some.inj h
 rw[e,hz]
 exact gP _ _
def K5(y:List Nat):Prop:=∀ k,k<y.length→y.getD k 0≠con (y.getD ((k+1) % y.length) 0)
theorem qB:∀ (k:List Nat),PlainR k→∀ i a b,k[i]?=some a→k[i+1]?=some b→b≠con a
 | [],_,i,a,b,h,_=>by simp at h
 | [_],_,i,a,b,_,h=>by simp at h
 | c::d::r,h,0,a,b,h1,h2=>by
  simp at h1 h2
  subst h1 h2
  exact h.1
 | c::d::r,h,i+1,a,b,h1,h2=>qB (d::r) h.2 i a b (by simpa using h1) (by simpa using h2)
theorem jV{x:List Nat}(h:bC x){k a b:Nat}(h1:x[k]?=some a)(h2:x[k+1]?=some b):a≠con b:=by
 have l2:=(List.getElem?_eq_some_iff.mp h2).1
 refine qB x.reverse h (x.length - 1 - (k+1)) b a ?_ ?_
 ·rw[List.getElem?_reverse (by omega),show x.length - 1 - (x.length - 1 - (k+1))=k+1 by omega];exact h2
 ·rw[List.getElem?_reverse (by omega),show x.length - 1 - (x.length - 1 - (k+1)+1)=k by omega];exact h1
theorem fD{x:List Nat}{i:Nat}(h:i<x.length):x[i]?=some (x.getD i 0):=by rw[List.getD_eq_getElem?_getD,List.getElem?_eq_getElem h];rfl
theorem cZ{x:List Nat}(hx:AllL x){i:Nat}(h:i<x.length):bU (x.getD i 0):=hx _ (List.mem_of_getElem? (fD h))
theorem lT{x:List Nat}{t i:Nat}(h:i<x.length - 2 * t):(gT x t).getD i 0=x.getD (t+i) 0:=by
 rw[List.getD_eq_getElem?_getD,oR h];rfl
theorem Au{x:List Nat}(hx:AllL x)(hp:bC x){t:Nat}(he:Ends x t):K5 (gT x t):=fun k hk=>by
 have ml:=hJ he.le
 rw[ml] at hk ⊢
 by_cases c:k+1<x.length - 2 * t
 ·rw[Nat.mod_eq_of_lt c,lT hk,lT c]
  exact jV hp (fD (by omega)) (by rw[show t+k+1=t+(k+1) by omega];exact fD (by omega))
 ·have e:k+1=x.length - 2 * t:=by omega
  rw[← e,Nat.mod_self,lT hk,lT (by omega)]
  by_cases c2:k=0
  ·subst c2;exact(hV (cZ hx (by omega))).symm
  ·intro q
   refine he.2 ⟨by omega,?_⟩
   rw[show x.length - 1 - t=t+k by omega,q,Nat.add_zero,aN (cZ hx (by omega))]
theorem lA{x:List Nat}{b t:Nat}(h:b<x.length)(ht:t<x.length):(eI x b).getD t 0=x.getD ((b+t) % x.length) 0:=by
 rw[List.getD_eq_getElem?_getD,fW h ht];rfl
theorem GN{x:List Nat}{a:Nat}(h:a<x.length)(t:Nat):gr (eI x a) t=gr x (a+t):=by
 unfold gr
 rw[bZ (by omega),lA h (Nat.mod_lt _ (by omega)),Nat.add_mod_mod]
theorem vP{x:List Nat}(hx:AllL x)(hc:K5 x){a:Nat}(h:a<x.length):Ends (eI x a) 0:=by
 refine⟨fun j hj=>absurd hj (Nat.not_lt_zero _),fun ⟨h1,h2⟩=>?_⟩
 rw[bZ (by omega)] at h1 h2
 rw[lA h (by omega),lA h (by omega)] at h2
 have q:=hc ((a+(x.length - 1 - 0)) % x.length) (Nat.mod_lt _ (by omega))
 apply q
 have e:((a+(x.length - 1 - 0)) % x.length+1) % x.length=(a+0) % x.length:=by
  rw[Nat.mod_add_mod,show a+(x.length - 1 - 0)+1=a+0+x.length by omega,Nat.add_mod_right]
 rw[e,h2,aN (cZ hx (Nat.mod_lt _ (by omega)))]
theorem GR{x:List Nat}{a i j:Nat}(h:a<x.length):Lt (gr (eI x a)) x.length i j↔Lt (gr x) x.length (a+i) (a+j):=by
 have e:∀ i t,gr (eI x a) (i+t)=gr x (a+i+t):=fun i t=>by rw[GN h,Nat.add_assoc]
 constructor
 ·rintro⟨l,h1,h2,h3⟩;exact⟨l,h1,fun t ht=>by rw[← e,← e];exact h2 t ht,by rw[← e,← e];exact h3⟩
 ·rintro⟨l,h1,h2,h3⟩;exact⟨l,h1,fun t ht=>by rw[e,e];exact h2 t ht,by rw[e,e];exact h3⟩
theorem EF{g:Nat→Nat}{n i j:Nat}(hg:∀ t,g (t % n)=g t)(h:Lt g n i j):Lt g n i (j % n):=by
 have e:∀ t,g (j % n+t)=g (j+t):=fun t=>by rw[← hg (j % n+t),← hg (j+t),Nat.mod_add_mod]
 obtain⟨l,h1,h2,h3⟩:=h
 exact⟨l,h1,fun t ht=>by rw[e];exact h2 t ht,by rw[e];exact h3⟩
theorem Bg{x:List Nat}{a b c:Nat}(ha:a<x.length)(hb:LeastAt x b)(hc:c<x.length)(e:(a+c) % x.length=b):LeastAt (eI x a) c:=by
 rcases hb with ⟨h0,_⟩ | ⟨hb,hm⟩
 ·subst h0;simp at ha
 ·refine .inr ⟨by rw[bZ (by omega)];exact hc,fun j hj q=>?_⟩
  rw[bZ (by omega)] at hj q
  have q1:=EF (qL x) (Ci (qL x) ((GR ha).mp q))
  rw[e] at q1
  exact hm _ (Nat.mod_lt _ (by omega)) q1
theorem uF{x:List Nat}{a c b:Nat}(ha:a<x.length)(hc:c<x.length)(hb:b<x.length)(e:(a+c) % x.length=b):eI (eI x a) c=eI x b:=by
 have l1:(eI x a).length=x.length:=bZ (by omega)
 refine List.ext_getElem? fun t=>?_
 by_cases ht:t<x.length
 ·rw[fW (by omega) (by omega),fW hb ht,l1,lA ha (Nat.mod_lt _ (by omega)),Nat.add_mod_mod,← e,Nat.mod_add_mod,Nat.add_assoc]
 ·rw[List.getElem?_eq_none (by rw[bZ (by omega)];omega),List.getElem?_eq_none (by rw[bZ (by omega)];omega)]
theorem uN:RingR [] []:=⟨0,0,⟨fun j hj=>absurd hj (Nat.not_lt_zero _),fun h=>by simp at h⟩,.inl ⟨rfl,rfl⟩,rfl⟩
theorem uC(x:List Nat):eI x x.length=x:=by unfold eI;simp
theorem pP{x r:List Nat}(hx:AllL x)(hp:bC x)(h:RingR x r){a:Nat}(ha:a≤r.length):RingR (eI r a) r:=by
 obtain⟨m,b,he,hb,rfl⟩:=h
 have hy:=jP (m:=m) hx
 have hc:=Au hx hp he
 generalize gT x m=y at hb hy hc ha
 rcases id hb with ⟨rfl,rfl⟩ | ⟨hbl,hm⟩
 ·have:a=0:=by simpa [eI] using ha
  subst this
  exact uN
 ·have lr:(eI y b).length=y.length:=bZ (by omega)
  have key:∀ a,a<y.length→RingR (eI (eI y b) a) (eI y b):=fun a ha=>by
   rw[uF hbl ha (Nat.mod_lt _ (by omega)) rfl]
   have ha':(b+a) % y.length<y.length:=Nat.mod_lt _ (by omega)
   generalize (b+a) % y.length=a' at ha'
   have e:(a' + (b+y.length - a') % y.length) % y.length=b:=by
    rw[Nat.add_mod_mod,show a' + (b+y.length - a')=b+y.length by omega,Nat.add_mod_right,Nat.mod_eq_of_lt hbl]
   have hcl:(b+y.length - a') % y.length<y.length:=Nat.mod_lt _ (by omega)
   refine⟨0,(b+y.length - a') % y.length,vP hy hc ha',?_,?_⟩
   ·rw[jE];exact Bg ha' hb hcl e
   ·rw[jE,uF ha' hcl hbl e]
  by_cases c:a<y.length
  ·exact key a c
  ·have:a=(eI y b).length:=by omega
   rw[this,uC]
   have:=key 0 (by omega)
   rwa [uO] at this
theorem rT{x r:List Nat}(hx:AllL x)(hp:bC x)(h:RingR x r):RingR r r:=by
 have:=pP hx hp h (a:=0) (Nat.zero_le _)
 rwa [uO] at this
theorem RingR.sub{x r:List Nat}(h:RingR x r):∀ c∈r,c∈x:=by
 obtain⟨m,b,he,hb,rfl⟩:=h
 intro c hc
 unfold eI at hc
 have:c∈gT x m:=by rcases List.mem_append.mp hc with q | q;exact List.mem_of_mem_drop q;exact List.mem_of_mem_take q
 exact List.mem_of_mem_drop (List.mem_of_mem_take this)
theorem RingR.len{x r:List Nat}(h:RingR x r):r.length≤x.length:=by
 obtain⟨m,b,he,hb,rfl⟩:=h
 rw[bZ hb.le,hJ he.le];omega
theorem wC(w:List Nat):∀ (n:Nat) (acc:List Nat),((List.replicate n (S w).cps).foldl (·++·) acc.toArray)=(acc++(List.replicate n w).flatten).toArray
 | 0,acc=>by simp
 | n+1,acc=>by
  rw[List.replicate_succ,List.foldl_cons,List.replicate_succ,List.flatten_cons,← List.append_assoc]
  have:=wC w n (acc++w)
  rw[← this]
  congr 1
  simp
theorem B4(w:List Nat)(n:Nat)(h1:1≤n)(h2:n≤10)(hw:w.length≤100):MulOk (S w) (n:Int):=by
 refine⟨?_,fun _ _=>?_,fun _ _=>?_⟩
 ·have e1:decide ((n:Int) < -(2 ^ 63:Int))=false:=decide_eq_false (by omega)
  have e2:decide ((n:Int) ≥ 2 ^ 63)=false:=decide_eq_false (by omega)
  rw[e1,e2];rfl
 ·rw[aT]
  have:(n=1∨n=2∨n=3∨n=4∨n=5∨n=6∨n=7∨n=8∨n=9∨n=10):=by omega
  rcases this with rfl | rfl | rfl | rfl | rfl | rfl | rfl | rfl | rfl | rfl <;> omega
 ·rw[aT,show ((n:Nat):Int).toNat=n by omega]
  have h9:w.length * n≤1000:=Nat.le_trans (Nat.mul_le_mul hw h2) (by decide)
  unfold Builtin.Str.tooLong
  have h10:(1000:Nat)≤sizeLine:=aI (by decide)
  exact decide_eq_false (by omega)
end Lw
namespace L2
open PySem PySem.Spec PyProof.Rows
section
variable {X:Cx}{e:Expr}{te:TE}{lo hi:Option Expr}{stp:Expr}{tl th tk:TO}{pos p2:Pos}
def Hq(X:Cx)(r:V→Option Int→Option Int→Option Int→Hp→VK→Prop):Prop :=
 ∀ (pins:List (Addr×Obj)) (s:Shared) (σ:St) (H:Hp) (x:V) (v vl vu vk:Value) (lo hi st:Option Int) (sl:Addr) (Q:VK),Inv X pins σ H s→RelV x v→s.heap.IsSliceOf sl vl vu vk→IsPart vl lo→IsPart vu hi→IsPart vk st→r x lo hi st H Q →
  ∃ T id,typeLookup (.type T) "__getitem__"=pure (some (.builtin id))∧s.TypeIs v T∧wpAny (model X.prog X.w) X.A (getItem v (.ref sl)) (EP X pins σ Q) X.xe s
def KU(r:V→Option Int→Option Int→Option Int→Hp→VK→Prop)(te:TE)(tl th tk:TO):TE:=fun σ H Q=>te σ H fun x H1=>tl σ H1 fun l H2=>th σ H2 fun u H3=>tk σ H3 fun k H4=>r x l u k H4 Q
theorem qZ{r:V→Option Int→Option Int→Option Int→Hp→VK→Prop}(hr:Hq X r)(he:PE X e te)(hl:PO X lo tl)(hu:PO X hi th)(hk:PO X (some stp) tk):PE X (.Subscript e (.Slice lo hi (some stp) p2) pos) (KU r te tl th tk):=by
 intro pins s σ H Q I h
 refine Subscript_ (bS (he pins s σ H _ I h) fun v s1 ⟨x,H1,I1,r1,q1⟩=>?_)
 refine wpAny_Slice (bS (hl pins s1 σ H1 _ I1 q1) fun vl s2 ⟨l,H2,I2,pl,q2⟩=>bS (hu pins s2 σ H2 _ I2 q2) fun vu s3 ⟨u,H3,I3,pu,q3⟩=>bS (hk pins s3 σ H3 _ I3 q3) fun vk s4 ⟨k,H4,I4,pk,q4⟩=>?_)
 have I5:Inv X pins σ H4 { s4 with heap:=s4.heap.push { cls:=.type "slice",data:=.fields #[vl,vu,vk] } }:=I4.kept (t':=s4.toks) fun b ob q=>Heap.get?_push_of_some _ q
 obtain⟨T,id,hT,ht,hg⟩:=hr pins { s4 with heap:=s4.heap.push { cls:=.type "slice",data:=.fields #[vl,vu,vk] } } σ H4 x v vl vu vk l u k s4.heap.objs.size Q I5 r1 (Heap.IsSliceOf.new ..) pl pu pk q4
 show wpAny (model X.prog X.w) X.A (subscriptTail e (.Slice lo hi (some stp) p2) v (.ref s4.heap.objs.size)) (EP X pins σ Q) X.xe { s4 with heap:=s4.heap.push { cls:=.type "slice",data:=.fields #[vl,vu,vk] } }
 exact tail_any (ops:=[v,.ref s4.heap.objs.size]) ht hT hg rfl
end
abbrev Cx.one(X:Cx):Cx:={ X with A:=X.A.in1,xe:=fun _ _=>False }
theorem Cx.Ok.one{X:Cx}(o:X.Ok):X.one.Ok :=
 ⟨o.mod,o.kind,o.glob,o.blt,o.above,o.inj,o.has,o.cab,o.hd,o.frames,o.stk,o.exf,o.bs,o.bsz,o.noex,o.exfs,o.funs,o.frf⟩
section
variable {X:Cx}{pins:List (Addr×Obj)}{σ:St}{H:Hp}{s:Shared}
theorem Inv.one(I:Inv X pins σ H s):Inv X.one pins σ H s:=⟨I.ok.one,I.os,I.bare,I.base,I.loc,I.cell,I.free,I.freeC,I.pin,I.hok,I.len⟩
theorem Inv.unone(o:X.Ok)(I:Inv X.one pins σ H s):Inv X pins σ H s:=⟨o,I.os,I.bare,I.base,I.loc,I.cell,I.free,I.freeC,I.pin,I.hok,I.len⟩
end
def Fo(K:PySem.W.Frag)(sp:Sp)(rlt:R2)(ta:TA):TE:=fun σ H Q=>ta σ H fun vs H1=>∃ (l:Addr) (xs:List V) (Pv:Nat→V→V→Hp→Prop),vs=[.ref l]∧SqL K H1 l xs ∧
 (∀ i b kb H,Pv i b kb H→SqL K H l xs)∧(∃ x0,xs[0]?=some x0∧sp [x0] H1 (fun v H2=>Pv 1 x0 v H2) E0) ∧
 (∀ i b kb H,Pv i b kb H→∀ y,xs[i]?=some y→sp [y] H (fun v H2=>rlt v kb H2 fun c H3=>∃ t,c=.bl t∧Pv (i+1) (if t=true then y else b) (if t=true then v else kb) H3) E0) ∧
 ∀ b kb H,Pv xs.length b kb H→Q b H
section
variable {X:Cx}{k:Nat}{f:Addr}{fd:FuncData}{ps:List Str}{sp:Sp}{rlt:R2}
theorem nY:(toString "min"++toString ".loop":String)="min.loop":=by decide
abbrev KH(X:Cx)(pins:List (Addr×Obj))(σ:St)(Q:VK):Result→Shared→Prop:=fun r s'=>match r with | .ok (.ret v)=>EP X pins σ Q v s' | .ok _=>False | .error e=>X.xe e s'
theorem HQ{pins:List (Addr×Obj)}{σ:St}{Q:VK}{l it bs:Addr}{xs:List V}{Pv:Nat→V→V→Hp→Prop}
  (F:FnOk X.prog X.w X.K X.mg X.base xZ k f fd ps sp) (hr:Room (k+1) X.A) (hb:Binds X.K fd ps []) (hlt:iC X.one (compareOp .Lt) rlt) (hc:X.calm=true) (ok:X.Ok) (hne:bs≠it)
  (hsq:∀ i b kb H,Pv i b kb H→SqL X.K H l xs)
  (hst:∀ i b kb H,Pv i b kb H→∀ y,xs[i]?=some y→sp [y] H (fun v H2=>rlt v kb H2 fun c H3=>∃ t,c=.bl t∧Pv (i+1) (if t=true then y else b) (if t=true then v else kb) H3) E0)
  (hend:∀ b kb H,Pv xs.length b kb H→Q b H) :
  ∀ (r i:Nat) (s:Shared) (H:Hp) (b kb:V) (ub uk:Value) (c:Nat),xs.length - i=r→i≤xs.length→Inv X.one pins σ H s→(∀ a∈[it,bs],fV X.one pins H a)→s.heap.IsListIter it l i→s.heap.get? bs=some (seqObj "list" #[ub,uk] c)→RelV b ub→RelV kb uk→Pv i b kb H →
   codeAny (model X.prog X.w) X.A (.builtin "min.loop" ⟨[.ref it,.ref f,.ref bs],[]⟩) (KH X pins σ Q) s:=by
 intro r
 induction r with
 | zero =>
  intro i s H b kb ub uk c hri hi I hf st gb rb rk pv
  have hin:i=xs.length:=by omega
  subst hin
  obtain⟨its,rv,pl,hz⟩:=I.list (hsq _ _ _ _ pv)
  have hlen:=rv.length
  obtain⟨f0,f1,f2,f3,f4,f5⟩:=hf it (by simp)
  obtain⟨g0,g1,g2,g3,g4,g5⟩:=hf bs (by simp)
  refine codeAny_builtin PySem.F.entry_min_loop ?_
  rw[Around.under_plainId PySem.F.plain_min_loop _]
  show wpAny _ X.A.in1 (seqItems? (.ref bs) >>= _) _ _ _
  refine wpAny_bind (wpAny_seqItems gb rfl ?_)
  show wpAny _ X.A.in1 (tryCatch (pyNext (.ref it)) _ >>= _) _ _ _
  refine wpAny_bind (wpAny_tryCatch (wpAny_pyNext_list_end (I.ok.hd hc) st pl.isList (by simp;omega) fun h' eb=>?_))
  have I1:Inv X.one pins σ H { s with heap:=h' }:=I.turned (t':=s.toks) (fun a o ha e=>eb a o ha e) f0 f1 f3 f4 f5
  have gb1:=eb bs _ hne gb
  show wpAny _ X.A.in1 (updateSeq bs (fun _=>#[]) >>= _) _ _ _
  refine wpAny_bind (wpAny_updateSeq gb1 rfl (wpAny_bind (wpAny_letGo (wpAny_pure ?_))))
  have sb:=Heap.SameBut.update h' bs (Obj.mapSeq fun _=>(#[]:Array Value))
  have I2:=I1.turned (t':=s.toks) (h':=h'.update bs (Obj.mapSeq fun _=>(#[]:Array Value))) (fun a o ha e=>(sb.2 a ha).trans e) g0 g1 g3 g4 g5
  exact⟨b,H,I2.unone ok,rb,hend _ _ _ pv⟩
 | succ r ih =>
  intro i s H b kb ub uk c hri hi I hf st gb rb rk pv
  have hlt':i<xs.length:=by omega
  obtain⟨y,hy⟩:∃ y,xs[i]?=some y:=⟨_,List.getElem?_eq_getElem hlt'⟩
  obtain⟨its,rv,pl,hz⟩:=I.list (hsq _ _ _ _ pv)
  obtain⟨u,hu,ru⟩:=rv.get hy
  obtain⟨f0,f1,f2,f3,f4,f5⟩:=hf it (by simp)
  obtain⟨g0,g1,g2,g3,g4,g5⟩:=hf bs (by simp)
  refine codeAny_builtin PySem.F.entry_min_loop ?_
  rw[Around.under_plainId PySem.F.plain_min_loop _]
  show wpAny _ X.A.in1 (seqItems? (.ref bs) >>= _) _ _ _
  refine wpAny_bind (wpAny_seqItems gb rfl ?_)
  show wpAny _ X.A.in1 (tryCatch (pyNext (.ref it)) _ >>= _) _ _ _
  refine wpAny_bind (wpAny_tryCatch (wpAny_pyNext_list_item st pl.isList (x:=u) (by simpa using hu) fun h' st' sb=>?_))
  have I1:Inv X.one pins σ H { s with heap:=h' }:=I.turned (t':=s.toks) (fun a o ha e=>(sb.2 a ha).trans e) f0 f1 f3 f4 f5
  have gb1:h'.get? bs=some (seqObj "list" #[ub,uk] c):=(sb.2 bs hne).trans gb
  obtain⟨oi,goi,goc,god⟩:=id st'
  have hob:∀ a∈[it,bs],∃ o,h'.get? a=some o∧∀ v,o.data≠.cell v:=fun a ha=>by
   rcases List.mem_cons.mp ha with rfl | ha
   ·exact⟨oi,goi,fun v z=>by rw[god] at z;cases z⟩
   ·rw[List.mem_singleton.mp ha];exact⟨_,gb1,fun v z=>by cases z⟩
  have I2:=I1.pinned hf hob
  show wpAny _ X.A.in1 (tryCatch (holding [u] (call (.ref f) [u])) _ >>= _) _ _ _
  refine wpAny_bind (wpAny_tryCatch (wpAny_holding (wpAny_mono (qE (X:=X.one) F hr.in1 hb .nil dP I2 (.cons ru .nil) (hst i b kb H pv y hy)) (fun z s2 he=>?_) fun _ _ hF=>hF.elim)))
  obtain⟨v,H2,I3,rz,q2⟩:=he
  show wpAny _ X.A.in1 (tryCatch (holding [u,z] (richCompare .Lt z uk >>= _)) _ >>= _) _ _ _
  refine wpAny_bind (wpAny_tryCatch (wpAny_holding (wpAny_bind (wpAny_mono (hlt _ s2 σ H2 v kb z uk _ I3 rz rk q2) (fun cv s3 hq=>?_) fun _ _ hF=>hF.elim))))
  obtain⟨cc,H3,I4,rc,t,rfl,pv'⟩:=hq
  obtain rfl:cv=.bool t:=rc
  refine wpAny_bind (wpAny_holding (wpAny_truthy_bool (wpAny_bind (wpAny_letGo (wpAny_pure ?_)))))
  have pin4:∀ a∈[it,bs],∀ o,h'.get? a=some o→s3.heap.get? a=some o∧H3 a=none:=fun a ha o e=>by
   have:=I4.pin (a,o) (List.mem_append_right _ (List.mem_append_right _ (dO ha e)))
   exact⟨this.1,this.2.1⟩
  obtain⟨gi4,ni4⟩:=pin4 it (by simp) oi goi
  obtain⟨gb4,nb4⟩:=pin4 bs (by simp) _ gb1
  have hf4:∀ a∈[it,bs],fV X.one pins H3 a:=fun a ha=>by
   refine⟨?_,(hf a ha).2⟩
   rcases List.mem_cons.mp ha with rfl | ha
   ·exact ni4
   ·rw[List.mem_singleton.mp ha];exact nb4
  have I5:=I4.unpinned
  cases t with
  | true =>
   show wpAny _ X.A.in1 (updateSeq bs (fun _=>#[u,z]) >>= _) _ _ _
   refine wpAny_bind (wpAny_updateSeq gb4 rfl (wpAny_bind (wpAny_letGo ?_)))
   rw[nY]
   have sb2:=Heap.SameBut.update s3.heap bs (Obj.mapSeq fun _=>#[u,z])
   obtain⟨n0,n1,n2,n3,n4,n5⟩:=hf4 bs (by simp)
   have I6:=I5.turned (t':=s3.toks) (h':=s3.heap.update bs (Obj.mapSeq fun _=>#[u,z])) (fun a o ha e=>(sb2.2 a ha).trans e) n0 n1 n3 n4 n5
   exact wpAny_pure ⟨plainId_quiet PySem.F.plain_min_loop _,ih (i+1) _ H3 y v u z _ (by omega) (by omega) I6 hf4 ⟨oi,(sb2.2 it hne.symm).trans gi4,goc,god⟩ (get?_update_seq gb4 fun _=>#[u,z]) ru rz (by simpa using pv')⟩
  | false =>
   refine wpAny_bind (wpAny_letGo ?_)
   rw[nY]
   exact wpAny_pure ⟨plainId_quiet PySem.F.plain_min_loop _,ih (i+1) _ H3 b kb ub uk c (by omega) (by omega) I5 hf4 ⟨oi,gi4,goc,god⟩ gb4 rb rk (by simpa using pv')⟩
theorem Fb{pins:List (Addr×Obj)}{σ:St}{Q:VK}{l:Addr}{xs:List V}{Pv:Nat→V→V→Hp→Prop}{s:Shared}{H:Hp}
  (F:FnOk X.prog X.w X.K X.mg X.base xZ k f fd ps sp) (hr:Room (k+1) X.A) (hb:Binds X.K fd ps []) (hlt:iC X.one (compareOp .Lt) rlt) (hc:X.calm=true) (I:Inv X pins σ H s) (hq:SqL X.K H l xs)
  (hsq:∀ i b kb H,Pv i b kb H→SqL X.K H l xs) {x0:V} (hx0:xs[0]?=some x0) (h0:sp [x0] H (fun v H2=>Pv 1 x0 v H2) E0)
  (hst:∀ i b kb H,Pv i b kb H→∀ y,xs[i]?=some y→sp [y] H (fun v H2=>rlt v kb H2 fun c H3=>∃ t,c=.bl t∧Pv (i+1) (if t=true then y else b) (if t=true then v else kb) H3) E0)
  (hend:∀ b kb H,Pv xs.length b kb H→Q b H) :
  wpAny (model X.prog X.w) X.A (call (.builtin "min") [.ref l] [(Str.ofString "key",.ref f)]) (EP X pins σ Q) X.xe s:=by
 obtain⟨its,rv,pl,hz⟩:=I.list hq
 obtain⟨u,hu,ru⟩:=rv.get hx0
 obtain⟨ol,hol,_⟩:=id pl.isList
 have hll:=Heap.lt_size hol
 refine kmk_tree PySem.F.kind_min PySem.F.plain_min PySem.F.entry_min (kmk_min_key _ _) ?_
 show wpAny _ X.A.in1 (Builtin.Builtins.bindParams "min" ["key","default"] 0 ⟨[],[(Str.ofString "key",.ref f)]⟩ >>= _) _ _ s
 have ebp:Builtin.Builtins.bindParams "min" ["key","default"] 0 ⟨[],[(Str.ofString "key",.ref f)]⟩=pure [some (.ref f),none]:=rfl
 refine wpAny_bind (wpAny_of_eq ebp (wpAny_bind (wpAny_pure (wpAny_bind (wpAny_pyIter_list pl.isList (wpAny_bind (wpAny_newList ?_ (Nat.zero_le _))))))))
 rw[nY]
 obtain⟨h1,e1⟩:∃ h1,h1=s.heap.push { cls:=.type "list_iterator",data:=.fields #[.ref l,.int 0 0] }:=⟨_,rfl⟩
 rw[← e1]
 have z1:h1.objs.size=s.heap.objs.size+1:=by rw[e1];exact size_push' ..
 obtain⟨h2,e2⟩:∃ h2,h2=h1.push (seqObj "list" #[] 0):=⟨_,rfl⟩
 have kp1:∀ b o,s.heap.get? b=some o→h1.get? b=some o:=fun b o e=>by rw[e1];exact Heap.get?_push_of_some _ e
 have kp2:∀ b o,h1.get? b=some o→h2.get? b=some o:=fun b o e=>by rw[e2];exact Heap.get?_push_of_some _ e
 have gi:h1.get? s.heap.objs.size=some { cls:=.type "list_iterator",data:=.fields #[.ref l,.int 0 0] }:=by rw[e1];exact Heap.get?_push_size _ rfl
 have gs:h2.get? h1.objs.size=some (seqObj "list" #[] 0):=by rw[e2];exact Heap.get?_push_size _ rfl
 have I0:Inv X.one pins σ H { s with heap:=h2 }:=I.one.kept (t':=s.toks) fun b o e=>kp2 b o (kp1 b o e)
 have hne:h1.objs.size≠s.heap.objs.size:=by omega
 have hf:∀ a∈[s.heap.objs.size,h1.objs.size],fV X.one pins H a:=fun a ha=>by
  have:s.heap.objs.size≤a:=by
   rcases List.mem_cons.mp ha with rfl | ha
   ·exact Nat.le_refl _
   ·rw[List.mem_singleton.mp ha];omega
  exact I.one.fpOk this (I.hok.fresh this)
 refine wpAny_pure ⟨plainId_quiet PySem.F.plain_min_loop _,?_⟩
 refine codeAny_builtin PySem.F.entry_min_loop ?_
 rw[Around.under_plainId PySem.F.plain_min_loop _]
 show wpAny _ X.A.in1 (seqItems? (.ref h1.objs.size) >>= _) _ _ { s with heap:=h1.push (seqObj "list" #[] 0) }
 rw[← e2]
 refine wpAny_bind (wpAny_seqItems gs rfl ?_)
 show wpAny _ X.A.in1 (tryCatch (pyNext (.ref s.heap.objs.size)) _ >>= _) _ _ _
 obtain⟨its2,rv2,pl2,_⟩:=I0.list hq
 obtain⟨u2,hu2,ru2⟩:=rv2.get hx0
 refine wpAny_bind (wpAny_tryCatch (wpAny_pyNext_list_item (i:=0) ⟨_,kp2 _ _ gi,rfl,rfl⟩ pl2.isList (x:=u2) (by simpa using hu2) fun h' st' sb=>?_))
 obtain⟨f0,f1,f2,f3,f4,f5⟩:=hf s.heap.objs.size (by simp)
 have I1:Inv X.one pins σ H { s with heap:=h' }:=I0.turned (t':=s.toks) (fun a o ha e=>(sb.2 a ha).trans e) f0 f1 f3 f4 f5
 have gb1:h'.get? h1.objs.size=some (seqObj "list" #[] 0):=(sb.2 _ hne).trans gs
 obtain⟨oi,goi,goc,god⟩:=id st'
 have hob:∀ a∈[s.heap.objs.size,h1.objs.size],∃ o,h'.get? a=some o∧∀ v,o.data≠.cell v:=fun a ha=>by
  rcases List.mem_cons.mp ha with rfl | ha
  ·exact⟨oi,goi,fun v z=>by rw[god] at z;cases z⟩
  ·rw[List.mem_singleton.mp ha];exact⟨_,gb1,fun v z=>by cases z⟩
 have I2:=I1.pinned hf hob
 show wpAny _ X.A.in1 (tryCatch (holding [u2] (call (.ref f) [u2])) _ >>= _) _ _ _
 refine wpAny_bind (wpAny_tryCatch (wpAny_holding (wpAny_mono (qE (X:=X.one) F hr.in1 hb .nil dP I2 (.cons ru2 .nil) h0) (fun z s2 he=>?_) fun _ _ hF=>hF.elim)))
 obtain⟨v,H2,I3,rz,pv⟩:=he
 have pin3:∀ a∈[s.heap.objs.size,h1.objs.size],∀ o,h'.get? a=some o→s2.heap.get? a=some o∧H2 a=none:=fun a ha o e=>by
  have:=I3.pin (a,o) (List.mem_append_right _ (List.mem_append_right _ (dO ha e)))
  exact⟨this.1,this.2.1⟩
 obtain⟨gi4,ni4⟩:=pin3 s.heap.objs.size (by simp) oi goi
 obtain⟨gb4,nb4⟩:=pin3 h1.objs.size (by simp) _ gb1
 have hf4:∀ a∈[s.heap.objs.size,h1.objs.size],fV X.one pins H2 a:=fun a ha=>by
  refine⟨?_,(hf a ha).2⟩
  rcases List.mem_cons.mp ha with rfl | ha
  ·exact ni4
  ·rw[List.mem_singleton.mp ha];exact nb4
 show wpAny _ X.A.in1 (updateSeq h1.objs.size (fun _=>#[u2,z]) >>= _) _ _ _
 refine wpAny_bind (wpAny_updateSeq gb4 rfl ?_)
 rw[nY]
 have sb2:=Heap.SameBut.update s2.heap h1.objs.size (Obj.mapSeq fun _=>#[u2,z])
 obtain⟨n0,n1,n2,n3,n4,n5⟩:=hf4 h1.objs.size (by simp)
 have I6:=I3.unpinned.turned (t':=s2.toks) (h':=s2.heap.update h1.objs.size (Obj.mapSeq fun _=>#[u2,z])) (fun a o ha e=>(sb2.2 a ha).trans e) n0 n1 n3 n4 n5
 have hx1:0<xs.length:=(List.getElem?_eq_some_iff.mp hx0).1
 exact wpAny_pure ⟨plainId_quiet PySem.F.plain_min_loop _,HQ F hr hb hlt hc I.ok hne hsq hst hend _ 1 _ H2 x0 v u2 z _ rfl (by omega) I6 hf4 ⟨oi,(sb2.2 _ hne.symm).trans gi4,goc,god⟩ (get?_update_seq gb4 fun _=>#[u2,z]) ru2 rz pv⟩
theorem E5{e:Expr}{ta:TA}{kn:Str}{p kp kpos pos:Pos}(F:FnOk X.prog X.w X.K X.mg X.base xZ k f fd ps sp)(hr:Room (k+1) X.A)(hb:Binds X.K fd ps [])(hlt:iC X.one (compareOp .Lt) rlt)(hc:X.calm=true)
  (hg:Gl X "min") (hm:X.mg "min"=none) (hgk:Gl X kn) (hmk:X.mg kn=some (.ref f)) (ha:PA X [e] ta) (hkd:(kn == ("__debug__":Str))=false:=by decide)
  (hall:(backToKw pos (keywordEach [⟨some (Str.ofString "key"),.Name kn kp,kpos⟩] X.env)).all (·.1.isSome)=true:=by rfl) (hks:(backToKw pos (keywordEach [⟨some (Str.ofString "key"),.Name kn kp,kpos⟩] X.env)).filterMap (·.1)=[Str.ofString "key"]:=by rfl)
  (hs:backTo pos (starEach [e] X.env)=[(false,eval e X.env)]:=by rfl) (hkw:(backToKw pos (keywordEach [⟨some (Str.ofString "key"),.Name kn kp,kpos⟩] X.env)).any (·.1.isNone)=false:=by rfl) :
  PE X (.Call (.Name "min" p) [e] [⟨some (Str.ofString "key"),.Name kn kp,kpos⟩] pos) (Fo X.K sp rlt ta):=by
 intro pins s σ H Q I h
 refine wpAny_Call_Name_kw (gE I hg hm boot_min ?_ (by decide) (by decide))
 refine callWith_kw (bS (ha pos pins s σ H _ I h) fun us s1 ⟨vs,H1,I1,r1,q1⟩=>?_) (by rw[hs];rfl) (by rw[hs];rfl) hall hkw
 obtain⟨l,xs,Pv,rfl,hq,hsq,⟨x0,hx0,h0⟩,hst,hend⟩:=q1
 have hpk:PK X [⟨some (Str.ofString "key"),.Name kn kp,kpos⟩] (Dx (tC (.ref f)) DH):=Fd (jK (v:=.ref f) hgk hmk rfl hkd) FO
 refine bS (hpk pos pins s1 σ H1 (fun zs H2=>zs=[.ref f]∧H2=H1) I1 ⟨rfl,rfl⟩) fun ks s2 ⟨zs,H2,I2,r2,e2,e3⟩=>?_
 subst e2 e3
 obtain⟨u,rfl,ru⟩:=nQ r1
 obtain⟨kf,rfl,rk⟩:=nQ r2
 cases ru
 cases rk
 rw[hks]
 exact Fb F hr hb hlt hc I2 hq hsq hx0 h0 hst hend
end
theorem Ax{X:Cx}{k:Nat}(hr:Room k X.A):iC X.one (compareOp .Lt) CV:=Dh (by
 have:=hr.units
 show X.A.units+1+8<cLine
 omega)
theorem Dq{X:Cx}{K:PySem.W.Frag}{k:Nat}{f:Addr}{fd:FuncData}{ps:List Str}{sp:Sp}{rlt:R2}{e:Expr}{ta:TA}{kn:Str}{p kp kpos pos:Pos}(hK:X.K=K)(F:FnOk X.prog X.w X.K X.mg X.base xZ k f fd ps sp)(hr:Room (k+1) X.A)(hb:Binds X.K fd ps [])(hlt:iC X.one (compareOp .Lt) rlt)(hc:X.calm=true)
  (hg:Gl X "min") (hm:X.mg "min"=none) (hgk:Gl X kn) (hmk:X.mg kn=some (.ref f)) (ha:PA X [e] ta) (hkd:(kn == ("__debug__":Str))=false:=by decide)
  (hall:(backToKw pos (keywordEach [⟨some (Str.ofString "key"),.Name kn kp,kpos⟩] X.env)).all (·.1.isSome)=true:=by rfl) (hks:(backToKw pos (keywordEach [⟨some (Str.ofString "key"),.Name kn kp,kpos⟩] X.env)).filterMap (·.1)=[Str.ofString "key"]:=by rfl)
  (hs:backTo pos (starEach [e] X.env)=[(false,eval e X.env)]:=by rfl) (hkw:(backToKw pos (keywordEach [⟨some (Str.ofString "key"),.Name kn kp,kpos⟩] X.env)).any (·.1.isNone)=false:=by rfl) :
  PE X (.Call (.Name "min" p) [e] [⟨some (Str.ofString "key"),.Name kn kp,kpos⟩] pos) (Fo K sp rlt ta):=by
 subst hK
 exact E5 F hr hb hlt hc hg hm hgk hmk ha hkd hall hks hs hkw
end L2
namespace Lw
open PySem PySem.Spec PyProof.Rows L2 Ma MaR
def WindR(x g:List Nat):Prop:=∃ m b,Ends x m∧LeastAt (gT x m) b∧g=x.take (m+b)
theorem WindR.sub{x g:List Nat}(h:WindR x g):∀ c∈g,c∈x:=by
 obtain⟨m,b,_,_,rfl⟩:=h
 exact fun c hc=>List.mem_of_mem_take hc
theorem Ff{x:List Nat}{m:Nat}(hx:AllL x)(h:Ends x m):x=x.take m++gT x m++back (x.take m):=by
 have h2:=h.le
 have ml:=hJ h2
 refine List.ext_getElem? fun i=>?_
 by_cases hi:i<x.length
 ·by_cases c1:i<m
  ·rw[List.append_assoc,List.getElem?_append_left (by rw[List.length_take];omega),List.getElem?_take_of_lt c1]
  ·by_cases c2:i<x.length - m
   ·rw[List.getElem?_append_left (by rw[List.length_append,ml,List.length_take];omega),List.getElem?_append_right (by rw[List.length_take];omega),List.length_take,Nat.min_eq_left (by omega),oR (by omega),fD hi]
    congr 2
    omega
   ·have hj:x.length - 1 - i<m:=by omega
    have q:=(h.1 (x.length - 1 - i) hj).2
    rw[show x.length - 1 - (x.length - 1 - i)=i by omega] at q
    rw[List.getElem?_append_right (by rw[List.length_append,ml,List.length_take];omega)]
    unfold back
    rw[List.getElem?_reverse (by rw[List.length_append,ml,List.length_take,List.length_map,List.length_take];omega),List.getElem?_map,List.length_append,ml,List.length_map,List.length_take]
    rw[show min m x.length - 1 - (i - (min m x.length+(x.length - 2 * m)))=x.length - 1 - i by omega,List.getElem?_take_of_lt hj,fD (i:=x.length - 1 - i) (by omega),fD hi,q]
    show some _=some (con (con _))
    rw[aN (cZ hx (by omega))]
 ·rw[List.getElem?_eq_none (by omega),List.getElem?_eq_none (by rw[List.length_append,List.length_append,ml,lF,List.length_take];omega)]
theorem uG(u v w:List Nat)(hu:AllL u)(hv:AllL v)(hw:AllL w):lay (u++lay v++w)=lay (u++v++w):=by
 rw[← fU (u++lay v) w (AllL.app.mpr ⟨hu,jM hv⟩),fK u v hu hv,fU (u++v) w (AllL.app.mpr ⟨hu,hv⟩)]
theorem tF{x:List Nat}{m b:Nat}(h2:2 * m≤x.length)(hb:b≤(gT x m).length):x.take (m+b)=x.take m++(gT x m).take b:=by
 rw[hJ h2] at hb
 unfold gT
 rw[List.take_take,Nat.min_eq_left hb,List.take_add]
theorem D9{x g r:List Nat}(hx:AllL x)(hp:bC x)(hg:WindR x g)(hr:RingR x r):lay (g++r++back g)=x:=by
 obtain⟨m,b,he,hb,rfl⟩:=hg
 have hr':RingR x (eI (gT x m) b):=⟨m,b,he,hb,rfl⟩
 obtain rfl:=hr.inj hx hr'
 have hbl:=hb.le
 have e:=Ff hx he
 have hm:=jP (m:=m) hx
 have ht:AllL (x.take m):=fun c hc=>hx c (List.mem_of_mem_take hc)
 have hu:AllL ((gT x m).take b):=fun c hc=>hm c (List.mem_of_mem_take hc)
 rw[tF he.le hbl,fO]
 generalize hy:gT x m=y at *
 generalize x.take m=t at *
 have e1:t++y.take b++eI y b++(back (y.take b)++back t)=(t++y)++(y.take b++back (y.take b))++back t:=by
  have:y.take b++y.drop b=y:=List.take_append_drop b y
  unfold eI
  generalize y.take b=p at *
  generalize y.drop b=q at *
  rw[← this]
  simp only [List.append_assoc]
 rw[e1,← uG _ _ _ (AllL.app.mpr ⟨ht,hm⟩) (AllL.app.mpr ⟨hu,eM hu⟩) (eM ht),jI hu,List.append_nil,← e]
 exact eN hp
theorem EL{x r:List Nat}{m:Nat}(hx:AllL x)(he:Ends x m)(hr:RingR x r):∃ a,a≤r.length∧gT x m=eI r a:=by
 obtain⟨m',b,he',hb,rfl⟩:=hr
 obtain rfl:=he.inj he'
 have hbl:=hb.le
 generalize gT x m=y at *
 have hl:(eI y b).length=y.length:=bZ hbl
 refine⟨y.length - b,by omega,?_⟩
 have h1:(y.drop b).length=y.length - b:=List.length_drop
 have e:eI y b=y.drop b++y.take b:=rfl
 generalize y.length - b=a at *
 rw[e]
 subst h1
 show y=(y.drop b++y.take b).drop (y.drop b).length++(y.drop b++y.take b).take (y.drop b).length
 rw[List.drop_left,List.take_left,List.take_append_drop]
theorem BL(w:List Nat)(h:2≤w.length):Txt.slice (S w) (some 1) (some (-1))=S ((w.drop 1).take (w.length - 2)):=by
 have e:Txt.slice (S w) (some 1) (some (-1))=Txt.slice (S w) (some 1) (some (-1+((S w).length:Int))):=by
  unfold Txt.slice
  rw[StrLaws.sliceIdx_neg_hi (some 1) (j:=-1) (S w).length (by decide) (by rw[aT];omega)]
 rw[e,aT,vS w (by decide) (by omega) (by omega)]
 congr 2
 omega
def lo(c:Nat):Nat:=if 96<c then c else c+32
theorem AK{c:Nat}(h:bU c):Unicode.lowerOf c=[lo c]:=by
 rcases aV h with rfl | rfl | rfl | rfl | rfl | rfl | rfl | rfl <;> decide +kernel
theorem AE{w:List Nat}{i c:Nat}(h:bU c)(e:w[i]?=some c):Unicode.lowerAt w.toArray i=[lo c]:=by
 unfold Unicode.lowerAt
 have e2:w.toArray[i]?=some c:=by simpa using e
 rw[e2]
 have e3:((c == 0x3A3 && Unicode.endsWord w.toArray i))=false:=by
  have:(c == 0x3A3)=false:=by unfold bU at h;simp;omega
  rw[this];rfl
 simp only [e3]
 exact AK h
theorem AL{α:Type}(f:Nat→α)(w:List Nat):(w.map fun c=>[f c]).flatten=w.map f:=by
 induction w with
 | nil=>rfl
 | cons a w ih=>rw[List.map_cons,List.flatten_cons,ih];rfl
theorem jN{w:List Nat}(h:AllL w):Txt.lower (S w)=S (w.map lo):=by
 unfold Txt.lower placed
 show Str.mk _=Str.mk _
 congr 1
 apply Array.toList_inj.mp
 rw[Array.toList_flatten,Array.toList_mapIdx]
 have e:(List.mapIdx (fun i c=>(Unicode.lowerAt (S w).cps i).toArray) (S w).cps.toList)=w.map fun c=>#[lo c]:=by
  refine List.ext_getElem? fun i=>?_
  have e1:(S w).cps.toList=w:=by simp
  have e2:(S w).cps=w.toArray:=rfl
  rw[e1,e2,List.getElem?_mapIdx,List.getElem?_map]
  cases hq:w[i]? with
  | none=>rfl
  | some c =>
   show some _=some _
   rw[AE (h c (List.mem_of_getElem? hq)) hq]
 rw[e,List.map_map]
 show (w.map fun c=>[lo c]).flatten=w.map lo
 exact AL lo w
theorem rM(w:List Nat)(h:AllL w)(hl:w.length≤1000):Builtin.Str.tooLong (Txt.lower (S w)).length=false:=by
 rw[jN h,aT,List.length_map]
 unfold Builtin.Str.tooLong
 have h10:(1000:Nat)≤sizeLine:=aI (by decide)
 exact decide_eq_false (by omega)
theorem Ce{c:Nat}(h:bU c):c∈lets:=by rcases aV h with rfl | rfl | rfl | rfl | rfl | rfl | rfl | rfl <;> decide
theorem xW{y:List Nat}(hc:K5 y){c:Nat}(h:c<y.length):bC (eI y c):=by
 refine fT fun k=>?_
 rintro⟨a,b,h1,h2,e⟩
 have l2:=(List.getElem?_eq_some_iff.mp h2).1
 rw[bZ (by omega)] at l2
 rw[fW h (by omega)] at h1
 rw[fW h (by omega)] at h2
 have q:=hc ((c+k) % y.length) (Nat.mod_lt _ (by omega))
 rw[Nat.mod_add_mod,Nat.add_assoc,Option.some.inj h1,Option.some.inj h2] at q
 exact q e
end Lw
namespace PySem
open Sem (wp)
section
variable {prog:Program}{w:World}{A:Around}{E:Value→Shared→Prop}{s:Shared}
theorem iG{j t:Addr}{k:Nat}{vs:Array Value}{x:Value}{Q:Value→Shared→Prop}(hj:s.heap.IsTupleIter j t k)(ht:s.heap.IsTuple t vs)(hx:vs[k]?=some x)
  (hQ:∀ g,g.IsTupleIter j t (k+1)→Heap.SameBut j s.heap g→Q x { s with heap:=g }):wpAny (model prog w) A (Builtin.SmallTypes.nextOf (.ref j)) Q E s:=by
 obtain⟨oj,goj,cj,dj⟩:=id hj
 obtain⟨ot,got,_,m,dt⟩:=ht
 unfold Builtin.SmallTypes.nextOf
 refine wpAny_bind (wpAny_callSpecial?_slot (name:=Str.ofString "__next__") hj.typeIs F.slot_tuple_iterator_next (wpAny_call_entry F.slot_tuple_iterator_next hj.typeIs F.entry_tuple_iterator_next ?_ (F.args_tuple_iterator_next_1 _)))
 show wpAny _ _ (field (.ref j) 0 >>= _) _ _ s
 refine wpAny_bind (wpAny_field goj dj (x:=.ref t) rfl ?_)
 show wpAny _ _ (if (Value.ref t == Value.none)=true then _ else _) _ _ s
 rw[if_neg (by intro c;cases c)]
 show wpAny _ _ (field (.ref j) 1 >>= _) _ _ s
 refine wpAny_bind (wpAny_field goj dj (x:=.int k 0) rfl ?_)
 show wpAny _ _ (seqItems? (.ref t) >>= _) _ _ s
 refine wpAny_bind (wpAny_seqItems got dt ?_)
 simp only [Int.toNat_natCast,hx]
 refine wpAny_bind (wpAny_setField goj dj (by simp) (wpAny_pure ⟨x,rfl,wpAny_pure (hQ _ ?_ (Heap.SameBut.update ..))⟩))
 refine⟨_,Heap.get?_update_self _ goj (Obj.isFreed_of_fields (Obj.data_mapFields dj _)),(Obj.cls_mapFields ..).trans cj,?_⟩
 rw[Obj.data_mapFields dj]
 simp[rawInt]
theorem mS{j t:Addr}{k:Nat}{vs:Array Value}{Q:Value→Shared→Prop}(hh:A.handled=none)(hj:s.heap.IsTupleIter j t k)(ht:s.heap.IsTuple t vs)(hx:vs[k]?=none)
  (hE:∀ g e,Heap.ExtBut j s.heap g→(∃ o,g.get? e=some o∧o.cls=.type "StopIteration")→E (.ref e) { s with heap:=g }):wpAny (model prog w) A (Builtin.SmallTypes.nextOf (.ref j)) Q E s:=by
 obtain⟨oj,goj,cj,dj⟩:=id hj
 obtain⟨ot,got,_,m,dt⟩:=ht
 unfold Builtin.SmallTypes.nextOf
 refine wpAny_bind (wpAny_callSpecial?_slot (name:=Str.ofString "__next__") hj.typeIs F.slot_tuple_iterator_next (wpAny_call_entry F.slot_tuple_iterator_next hj.typeIs F.entry_tuple_iterator_next ?_ (F.args_tuple_iterator_next_1 _)))
 show wpAny _ _ (field (.ref j) 0 >>= _) _ _ s
 refine wpAny_bind (wpAny_field goj dj (x:=.ref t) rfl ?_)
 show wpAny _ _ (if (Value.ref t == Value.none)=true then _ else _) _ _ s
 rw[if_neg (by intro c;cases c)]
 show wpAny _ _ (field (.ref j) 1 >>= _) _ _ s
 refine wpAny_bind (wpAny_field goj dj (x:=.int k 0) rfl ?_)
 show wpAny _ _ (seqItems? (.ref t) >>= _) _ _ s
 refine wpAny_bind (wpAny_seqItems got dt ?_)
 simp only [Int.toNat_natCast,hx]
 refine wpAny_bind (wpAny_rule (wpAny_bind (wpAny_setField goj dj (by simp) ?_)))
 show wpAny _ _ (newExc (.type "StopIteration") [] >>= _) _ _ _
 refine wpAny_bind ?_
 simp only [newExc,newTuple]
 refine wpAny_bind (wpAny_newObj_type ?_ (by size_fits))
 refine wpAny_bind (m:=firstArgMember _ _) (wpAny_of_eq (a:=Value.none) (by first | rfl | (simp only [firstArgMember];rfl)) ?_)
 refine wpAny_newObj_type ?_ (by size_fits)
 simp only [raiseNew]
 refine wpAny_bind (wpAny_handled ?_)
 first | rw[show A.in1.handled=none from hh] | rw[hh]
 refine wpAny_bind (wpAny_pure (wpAny_throw ?_))
 exact hE _ _ (((Heap.SameBut.update ..).extBut.push _).push _) ⟨_,Heap.get?_push_size _ rfl,rfl⟩
structure ZApart(z a b i j t u:Addr):Prop where
 az:a≠z
 bz:b≠z
 iz:i≠z
 jz:j≠z
 ab:a≠b
 ai:a≠i
 aj:a≠j
 bi:b≠i
 bj:b≠j
 ij:i≠j
 tz:t≠z
 tb:t≠b
 ti:t≠i
 tj:t≠j
 uz:u≠z
 ub:u≠b
 ui:u≠i
 uj:u≠j
structure ZSt(h:Heap)(z a b i j t u:Addr)(k:Nat)(f0:Value):Prop where
 zip:IsZip h z a b f0
 its:IsPair h a (.ref i) (.ref j)
 own:∃ p q,IsPair h b p q
 one:h.IsTupleIter i t k
 two:h.IsTupleIter j u k
theorem ZSt.at{h h':Heap}{z a b i j t u:Addr}{k:Nat}{f0:Value}(S:ZSt h z a b i j t u k f0)(kp:∀ c∈[z,a,b,i,j],∀ o,h.get? c=some o→h'.get? c=some o):ZSt h' z a b i j t u k f0:=by
 obtain⟨p,q,ho⟩:=S.own
 obtain⟨o1,g1,r1⟩:=S.one
 obtain⟨o2,g2,r2⟩:=S.two
 exact⟨kp z (by simp) _ S.zip,kp a (by simp) _ S.its,⟨p,q,kp b (by simp) _ ho⟩,⟨o1,kp i (by simp) _ g1,r1⟩,⟨o2,kp j (by simp) _ g2,r2⟩⟩
theorem Bo{z a b i j t u:Addr}{k:Nat}{xs ys:Array Value}{x y:Value}{Q:Value→Shared→Prop}(D:ZApart z a b i j t u)(S:ZSt s.heap z a b i j t u k .none)
  (ht:s.heap.IsTuple t xs) (hu:s.heap.IsTuple u ys) (hx:xs[k]?=some x) (hy:ys[k]?=some y)
  (hQ:∀ g,ZSt g z a b i j t u (k+1) (rawInt s.heap.objs.size)→IsPair g s.heap.objs.size x y→g.objs.size=s.heap.objs.size+1→(∀ c o,c≠z→c≠b→c≠i→c≠j→s.heap.get? c=some o→g.get? c=some o)→Q (.ref s.heap.objs.size) { s with heap:=g }) :
  wpAny (model prog w) A (Builtin.«zip.__next__» ⟨[.ref z],[]⟩) (fun fin s'=>∃ v,fin=.done (.ret v)∧Q v s') E s:=by
 obtain⟨hz,hI,⟨p,q,hO⟩,h1,h2⟩:=S
 show wpAny _ _ (field (.ref z) 2 >>= _) _ _ _
 refine wpAny_bind (wpAny_field hz rfl (x:=.bool false) rfl ?_)
 show wpAny _ _ (field (.ref z) 3 >>= _) _ _ _
 refine wpAny_bind (wpAny_field hz rfl (x:=.ref a) rfl (wpAny_bind (wpAny_seqItems hI rfl ?_)))
 show wpAny _ _ (Builtin.SmallTypes.ownedTupleIsFree (.ref z) >>= _) _ _ _
 unfold Builtin.SmallTypes.ownedTupleIsFree
 refine wpAny_bind (wpAny_bind (wpAny_field hz rfl (x:=.none) rfl (wpAny_pure ?_)))
 simp only [if_true]
 refine wpAny_bind (wpAny_rule (wpAny_bind (wpAny_field hz rfl (x:=.ref b) rfl (wpAny_bind (wpAny_setField_rec hz (by simp) fun g1 z1 e1=>?_)))))
 replace z1:IsZip g1 z a b .ellipsis:=z1
 refine wpAny_bind ?_
 simp only [List.zipIdx_cons,List.zipIdx_nil,List.forIn_cons,List.forIn_nil]
 refine wpAny_bind (wpAny_bind (wpAny_onRaise ?_))
 show wpAny _ _ (Builtin.SmallTypes.nextOf (.ref i) >>= _) _ _ _
 refine wpAny_bind (iG (h1.extBut e1.extBut D.iz) (ht.extBut e1.extBut D.tz) hx fun g2 i2 e2=>wpAny_pure ?_)
 have o2:IsPair g2 b p q:=e2.extBut _ _ D.bi (e1.extBut _ _ D.bz hO)
 refine wpAny_bind (wpAny_seqItems o2 rfl (wpAny_bind (wpAny_updateSeq_pair o2 fun g3 o3 e3=>wpAny_bind (wpAny_letGo (wpAny_pure ?_)))))
 replace o3:IsPair g3 b x q:=o3
 refine wpAny_bind (wpAny_bind (wpAny_onRaise ?_))
 show wpAny _ _ (Builtin.SmallTypes.nextOf (.ref j) >>= _) _ _ _
 have j3:=((h2.extBut e1.extBut D.jz).extBut e2.extBut D.ij.symm).extBut e3.extBut D.bj.symm
 have u3:=((hu.extBut e1.extBut D.uz).extBut e2.extBut D.ui).extBut e3.extBut D.ub
 refine wpAny_bind (iG j3 u3 hy fun g4 j4 e4=>wpAny_pure ?_)
 have o4:IsPair g4 b x q:=e4.extBut _ _ D.bj o3
 refine wpAny_bind (wpAny_seqItems o4 rfl (wpAny_bind (wpAny_updateSeq_pair o4 fun g5 o5 e5=>wpAny_bind (wpAny_letGo (wpAny_pure (wpAny_pure ?_))))))
 replace o5:IsPair g5 b x y:=o5
 refine wpAny_bind (wpAny_seqItems o5 rfl (wpAny_bind (wpAny_newTuple ?_)))
 have sz:g5.objs.size=s.heap.objs.size:=by rw[e5.1,e4.1,e3.1,e2.1,e1.1]
 have z5:IsZip g5 z a b .ellipsis:=e5.extBut _ _ D.bz.symm (e4.extBut _ _ D.jz.symm (e3.extBut _ _ D.bz.symm (e2.extBut _ _ D.iz.symm z1)))
 have kp:∀ c o,c≠z→c≠b→c≠i→c≠j→s.heap.get? c=some o→g5.get? c=some o:=fun c o c1 c2 c3 c4 e=>e5.extBut _ _ c2 (e4.extBut _ _ c4 (e3.extBut _ _ c2 (e2.extBut _ _ c3 (e1.extBut _ _ c1 e))))
 have i5:g5.IsTupleIter i t (k+1):=((i2.extBut e3.extBut D.bi.symm).extBut e4.extBut D.ij).extBut e5.extBut D.bi.symm
 have j5:g5.IsTupleIter j u (k+1):=j4.extBut e5.extBut D.bj.symm
 have lz:=Heap.lt_size z5
 show wpAny _ _ (Builtin.SmallTypes.ownedTupleHandOut (.ref z) (.ref g5.objs.size) >>= _) _ _ _
 unfold Builtin.SmallTypes.ownedTupleHandOut
 have z6:IsZip (g5.push { cls:=.type "tuple",data:=.seq #[x,y] }) z a b .ellipsis:=Heap.get?_push_of_some _ z5
 refine wpAny_bind (wpAny_bind (wpAny_setField_rec z6 (by simp) fun g7 z7 e7=>?_))
 replace z7:IsZip g7 z a b (rawInt g5.objs.size):=z7
 refine wpAny_setField_rec z7 (by simp) fun g8 z8 e8=>wpAny_pure ⟨_,rfl,?_⟩
 replace z8:IsZip g8 z a b (rawInt g5.objs.size):=z8
 have up:∀ c o,c≠z→g5.get? c=some o→g8.get? c=some o:=fun c o c1 e=>e8.extBut _ _ c1 (e7.extBut _ _ c1 (Heap.get?_push_of_some _ e))
 have T8:IsPair g8 g5.objs.size x y:=e8.extBut _ _ (Nat.ne_of_gt lz) (e7.extBut _ _ (Nat.ne_of_gt lz) (Heap.get?_push_size _ rfl))
 have n8:g8.objs.size=g5.objs.size+1:=by rw[e8.1,e7.1,Heap.size_push]
 show Q (.ref g5.objs.size) _
 rw[sz] at z8 T8 n8 ⊢
 obtain⟨oi,goi,ri⟩:=i5
 obtain⟨oj,goj,rj⟩:=j5
 exact hQ g8 ⟨z8,up _ _ D.az (kp _ _ D.az D.ab D.ai D.aj hI),⟨x,y,up _ _ D.bz o5⟩,⟨oi,up _ _ D.iz goi,ri⟩,⟨oj,up _ _ D.jz goj,rj⟩⟩ T8 n8 fun c o c1 c2 c3 c4 e=>up c o c1 (kp c o c1 c2 c3 c4 e)
theorem B5{z a b i j t u:Addr}{k:Nat}{xs ys:Array Value}{Q:Fin→Shared→Prop}(hh:A.handled=none)(D:ZApart z a b i j t u)(S:ZSt s.heap z a b i j t u k .none)
  (ht:s.heap.IsTuple t xs) (hu:s.heap.IsTuple u ys) (hn:xs[k]?=none∨ys[k]?=none)
  (hE:∀ g e,(∀ c o,c≠z→c≠b→c≠i→c≠j→s.heap.get? c=some o→g.get? c=some o)→(∃ o,g.get? e=some o∧o.cls=.type "StopIteration")→E (.ref e) { s with heap:=g }) :
  wpAny (model prog w) A (Builtin.«zip.__next__» ⟨[.ref z],[]⟩) Q E s:=by
 obtain⟨hz,hI,⟨p,q,hO⟩,h1,h2⟩:=S
 show wpAny _ _ (field (.ref z) 2 >>= _) _ _ _
 refine wpAny_bind (wpAny_field hz rfl (x:=.bool false) rfl ?_)
 show wpAny _ _ (field (.ref z) 3 >>= _) _ _ _
 refine wpAny_bind (wpAny_field hz rfl (x:=.ref a) rfl (wpAny_bind (wpAny_seqItems hI rfl ?_)))
 show wpAny _ _ (Builtin.SmallTypes.ownedTupleIsFree (.ref z) >>= _) _ _ _
 unfold Builtin.SmallTypes.ownedTupleIsFree
 refine wpAny_bind (wpAny_bind (wpAny_field hz rfl (x:=.none) rfl (wpAny_pure ?_)))
 simp only [if_true]
 refine wpAny_bind (wpAny_rule (wpAny_bind (wpAny_field hz rfl (x:=.ref b) rfl (wpAny_bind (wpAny_setField_rec hz (by simp) fun g1 z1 e1=>?_)))))
 replace z1:IsZip g1 z a b .ellipsis:=z1
 refine wpAny_bind ?_
 simp only [List.zipIdx_cons,List.zipIdx_nil,List.forIn_cons,List.forIn_nil]
 refine wpAny_bind (wpAny_bind (wpAny_onRaise ?_))
 show wpAny _ _ (Builtin.SmallTypes.nextOf (.ref i) >>= _) _ _ _
 cases hx:xs[k]? with
 | none =>
  refine wpAny_bind (mS hh (h1.extBut e1.extBut D.iz) (ht.extBut e1.extBut D.tz) hx fun g2 e e2 he=>?_)
  obtain⟨oe,goe,ce⟩:=he
  have z2:IsZip g2 z a b .ellipsis:=e2 _ _ D.iz.symm z1
  have ne:e≠z:=fun c=>by subst c;rw[z2] at goe;cases goe;simp at ce
  exact wpAny_setField_rec z2 (by simp) fun g3 _ e3=>hE g3 e (fun c o c1 _ c3 _ v=>e3.extBut _ _ c1 (e2 _ _ c3 (e1.extBut _ _ c1 v))) ⟨oe,e3.extBut _ _ ne goe,ce⟩
 | some x =>
  have hy:ys[k]?=none:=by
   rcases hn with h | h
   ·rw[hx] at h;cases h
   ·exact h
  refine wpAny_bind (iG (h1.extBut e1.extBut D.iz) (ht.extBut e1.extBut D.tz) hx fun g2 i2 e2=>wpAny_pure ?_)
  have o2:IsPair g2 b p q:=e2.extBut _ _ D.bi (e1.extBut _ _ D.bz hO)
  refine wpAny_bind (wpAny_seqItems o2 rfl (wpAny_bind (wpAny_updateSeq_pair o2 fun g3 o3 e3=>wpAny_bind (wpAny_letGo (wpAny_pure ?_)))))
  refine wpAny_bind (wpAny_bind (wpAny_onRaise ?_))
  show wpAny _ _ (Builtin.SmallTypes.nextOf (.ref j) >>= _) _ _ _
  have j3:=((h2.extBut e1.extBut D.jz).extBut e2.extBut D.ij.symm).extBut e3.extBut D.bj.symm
  have u3:=((hu.extBut e1.extBut D.uz).extBut e2.extBut D.ui).extBut e3.extBut D.ub
  refine wpAny_bind (mS hh j3 u3 hy fun g4 e e4 he=>?_)
  obtain⟨oe,goe,ce⟩:=he
  have z4:IsZip g4 z a b .ellipsis:=e4 _ _ D.jz.symm (e3.extBut _ _ D.bz.symm (e2.extBut _ _ D.iz.symm z1))
  have ne:e≠z:=fun c=>by subst c;rw[z4] at goe;cases goe;simp at ce
  exact wpAny_setField_rec z4 (by simp) fun g5 _ e5=>hE g5 e (fun c o c1 c2 c3 c4 v=>e5.extBut _ _ c1 (e4 _ _ c4 (e3.extBut _ _ c2 (e2.extBut _ _ c3 (e1.extBut _ _ c1 v))))) ⟨oe,e5.extBut _ _ ne goe,ce⟩
theorem xD{z a b i j t u:Addr}{k:Nat}{xs ys:Array Value}{x y:Value}{Q:Option Value→Shared→Prop}(D:ZApart z a b i j t u)(S:ZSt s.heap z a b i j t u k .none)
  (ht:s.heap.IsTuple t xs) (hu:s.heap.IsTuple u ys) (hx:xs[k]?=some x) (hy:ys[k]?=some y)
  (hQ:∀ g,ZSt g z a b i j t u (k+1) (rawInt s.heap.objs.size)→IsPair g s.heap.objs.size x y→g.objs.size=s.heap.objs.size+1→(∀ c o,c≠z→c≠b→c≠i→c≠j→s.heap.get? c=some o→g.get? c=some o)→Q (some (.ref s.heap.objs.size)) { s with heap:=g }) :
  wpAny (model prog w) A (pyNext (.ref z)) Q E s:=by
 have hT:s.TypeIs (.ref z) "zip":=⟨_,S.zip,rfl⟩
 unfold pyNext
 exact wpAny_bind (wpAny_attempt (wpAny_callSpecial?_slot (name:=Str.ofString "__next__") hT F.slot_zip_next (wpAny_call_entry F.slot_zip_next hT F.entry_zip_next (Bo D S ht hu hx hy fun g b1 b2 b3 b4=>wpAny_pure (hQ g b1 b2 b3 b4)) (F.args_zip_next_1 _))))
theorem AO{z a b i j t u:Addr}{k:Nat}{xs ys:Array Value}{Q:Option Value→Shared→Prop}(hh:A.handled=none)(D:ZApart z a b i j t u)(S:ZSt s.heap z a b i j t u k .none)
  (ht:s.heap.IsTuple t xs) (hu:s.heap.IsTuple u ys) (hn:xs[k]?=none∨ys[k]?=none)
  (hQ:∀ g,(∀ c o,c≠z→c≠b→c≠i→c≠j→s.heap.get? c=some o→g.get? c=some o)→Q none { s with heap:=g }):wpAny (model prog w) A (pyNext (.ref z)) Q E s:=by
 have hT:s.TypeIs (.ref z) "zip":=⟨_,S.zip,rfl⟩
 unfold pyNext
 refine wpAny_bind (wpAny_attempt (wpAny_callSpecial?_slot (name:=Str.ofString "__next__") hT F.slot_zip_next (wpAny_call_entry F.slot_zip_next hT F.entry_zip_next (B5 hh D S ht hu hn fun g e kp he=>?_) (F.args_zip_next_1 _))))
 obtain⟨o,go,co⟩:=he
 exact wpAny_bind (wpAny_isInstance (T:="StopIteration") (b:=true) ⟨o,go,co⟩ isSubtype_stop (wpAny_pure (hQ _ kp)))
end
abbrev Kn(h:Heap)(t:Addr):Heap:=h.push { cls:=.type "tuple_iterator",data:=.fields #[.ref t,.int 0 0] }
abbrev Kr(h:Heap)(t u:Addr):Heap:=(Kn h t).push { cls:=.type "tuple_iterator",data:=.fields #[.ref u,.int 0 0] }
abbrev Ku(h:Heap)(t u:Addr):Heap:=(Kr h t u).push { cls:=.type "tuple",data:=.seq #[.ref h.objs.size,.ref (Kn h t).objs.size] }
abbrev Kq(h:Heap)(t u:Addr):Heap:=(Ku h t u).push { cls:=.type "tuple",data:=.seq #[.none,.none] }
abbrev Il(h:Heap)(t u:Addr):Heap:=(Kq h t u).push { cls:=.type "zip",data:=.fields #[.none,.bool false,.bool false,.ref (Kr h t u).objs.size,.ref (Ku h t u).objs.size] }
theorem xX(t u:Addr)(xs ys:Array Value) :
  Meets (Builtin.«zip.__new__» ⟨[.type "zip",.ref t,.ref u],[]⟩) (fun _ R s=>s.heap.IsTuple t xs∧s.heap.IsTuple u ys∧R (.ok (.ret (.ref (Kq s.heap t u).objs.size))) { s with heap:=Il s.heap t u }) :=
 .of_wp fun prog w A R s h=>by
  obtain⟨hp,g,d,tk,os⟩:=s
  obtain⟨ht,hu,h⟩:=h
  have hsub:=sub_zip
  have hL1:Heap.IsTuple (Shared.heap ⟨hp,g,d,tk,os⟩) t xs:=ht
  have hL2:Heap.IsTuple (Shared.heap ⟨hp.push { cls:=.type "tuple_iterator",data:=.fields #[.ref t,.int 0 0] },g,d,tk,os⟩) u ys:=Heap.IsTuple.push hu _
  wp_walk using wpAny_pyIter_tuple hL1,wpAny_pyIter_tuple hL2
  exact⟨_,rfl,h⟩
end PySem
namespace L2
open PySem PySem.Spec PyProof.Rows
section
variable {X:Cx}{pins:List (Addr×Obj)}{σ:St}{H:Hp}{s:Shared}{h':Heap}
theorem Inv.turnedN{t':Nat}{ch:List Addr}{a:Addr}{xs:List V}(I:Inv X pins σ H s)(k:∀ b o,b ∉ ch→s.heap.get? b=some o→h'.get? b=some o)(hf:∀ b∈ch,fV X pins H b)(ha:s.heap.objs.size≤a)
  (new:ObjOk X.prog X.w (upd H a (.tup xs)) h' a (.tup xs)):Inv X pins σ (upd H a (.tup xs)) { s with heap:=h',toks:=t' }:=by
 have hn:H a=none:=I.hok.fresh ha
 have un:∀ {b u},H b=some u→upd H a (.tup xs) b=some u:=fun e=>by rw[aJ (aH e hn)];exact e
 have nch:∀ {b u},H b=some u→b ∉ ch:=fun e hb=>by rw[(hf _ hb).1] at e;cases e
 refine I.step (g':=s.gens) (d':=s.drawn) (ch:=ch) (fun b hb=>?_) (fun b o _ _ hc e _=>k b o hc e) (fun b o _ _ hc e _=>⟨o.slots,k b o hc e⟩) (fun b o _ e n=>?_) (fun b o hc e=>⟨o,k b o hc e⟩) (fun _ _ e=>un e) (fun _ _ _ e=>un e)
  (fun b ps e=>⟨#[],by rw[un e];simp⟩) (fun m hm=>?_) (fun b u e=>?_) I.bare
 ·obtain⟨f0,f1,f2,f3,f4,f5⟩:=hf b hb
  exact⟨f3,f1,f4,f5⟩
 ·rw[aJ (Nat.ne_of_lt (Nat.lt_of_lt_of_le (Heap.lt_size e) ha))]
  exact n
 ·obtain⟨o,es,ep,ho,r⟩:=hm
  exact⟨o,es,ep,k _ o (fun hb=>(hf _ hb).2.1 rfl) ho,r⟩
 ·by_cases hb:b=a
  ·subst hb
   rw[aC] at e
   cases e
   exact new
  ·rw[aJ hb] at e
   refine(I.hok b u e).stay (fun c v hc q=>k c v ?_ q) (fun c q=>un q) fun c ys q=>un q
   rcases hc with z | z
   ·rw[z];exact nch e
   ·exact nch z
theorem Inv.turnedM{t':Nat}{ch:List Addr}(I:Inv X pins σ H s)(k:∀ b o,b ∉ ch→s.heap.get? b=some o→h'.get? b=some o)(hf:∀ b∈ch,fV X pins H b):Inv X pins σ H { s with heap:=h',toks:=t' }:=by
 have nch:∀ {b u},H b=some u→b ∉ ch:=fun e hb=>by rw[(hf _ hb).1] at e;cases e
 refine I.step (g':=s.gens) (d':=s.drawn) (ch:=ch) (fun b hb=>?_) (fun b o _ _ hc e _=>k b o hc e) (fun b o _ _ hc e _=>⟨o.slots,k b o hc e⟩) (fun b o _ e n=>n) (fun b o hc e=>⟨o,k b o hc e⟩) (fun _ _ e=>e) (fun _ _ _ e=>e)
  (fun b ps e=>⟨#[],by rw[e];simp⟩) (fun m hm=>?_) (fun b u e=>?_) I.bare
 ·obtain⟨f0,f1,f2,f3,f4,f5⟩:=hf b hb
  exact⟨f3,f1,f4,f5⟩
 ·obtain⟨o,es,ep,ho,r⟩:=hm
  exact⟨o,es,ep,k _ o (fun hb=>(hf _ hb).2.1 rfl) ho,r⟩
 ·refine(I.hok b u e).stay (fun c v hc q=>k c v ?_ q) (fun c q=>q) fun c ys q=>q
  rcases hc with z | z
  ·rw[z];exact nch e
  ·exact nch z
end
def Ji(K:PySem.W.Frag)(t u:Addr):It :=
 ⟨fun i H=>∃ xs ys x y,SqT K H t xs∧SqT K H u ys∧xs[i]?=some x∧ys[i]?=some y,
  fun i H v H'=>∃ p x y,v=.ref p∧H p=none∧H'=upd H p (.tup [x,y])∧∀ xs ys,SqT K H t xs→SqT K H u ys→xs[i]?=some x∧ys[i]?=some y,
  fun i H=>∃ xs ys,SqT K H t xs∧SqT K H u ys∧(xs.length≤i∨ys.length≤i)⟩
theorem C3{P:Program}{w:World}{K:PySem.W.Frag}{es:List Expr}{x1}{pos:Pos}(z a b i j t u:Addr)(D:ZApart z a b i j t u):Turn P w K (.Tuple es x1 pos) (Ji K t u) [z,a,b,i,j] z (fun k h=>ZSt h z a b i j t u k .none) where
 mem:=by simp
 obj:=fun k h st c hc=>by
  obtain⟨p,q,ho⟩:=st.own
  obtain⟨o1,g1,c1,d1⟩:=st.one
  obtain⟨o2,g2,c2,d2⟩:=st.two
  simp only [List.mem_cons,List.not_mem_nil,or_false] at hc
  rcases hc with rfl | rfl | rfl | rfl | rfl
  ·exact⟨_,st.zip,fun v e=>by cases e⟩
  ·exact⟨_,st.its,fun v e=>by cases e⟩
  ·exact⟨_,ho,fun v e=>by cases e⟩
  ·exact⟨o1,g1,fun v e=>by rw[d1] at e;cases e⟩
  ·exact⟨o2,g2,fun v e=>by rw[d2] at e;cases e⟩
 keep:=fun k h h' st kp=>st.at kp
 item:=by
  intro X hP hw hK hc k pins s σ H E I hf st hg
  subst hP hw hK
  obtain⟨xs,ys,x,y,hq1,hq2,hx,hy⟩:=hg
  obtain⟨v1,r1,p1,_⟩:=I.tuple hq1
  obtain⟨v2,r2,p2,_⟩:=I.tuple hq2
  obtain⟨ux,hux,rux⟩:=r1.get hx
  obtain⟨uy,huy,ruy⟩:=r2.get hy
  refine xD D st (show s.heap.IsTuple t v1.toArray from p1) (show s.heap.IsTuple u v2.toArray from p2) (x:=ux) (y:=uy) (by simpa using hux) (by simpa using huy) fun g S1 hT hn kp=>⟨_,rfl,?_⟩
  refine wpAny_letOwnedTupleGo_zip S1.zip fun g2 z2 e2=>?_
  have kp2:∀ c o,c≠z→c≠b→c≠i→c≠j→s.heap.get? c=some o→g2.get? c=some o:=fun c o c1 c2 c3 c4 e=>(e2.2 c c1).trans (kp c o c1 c2 c3 c4 e)
  have nz:s.heap.objs.size≠z:=Nat.ne_of_gt (Heap.lt_size st.zip)
  have hT2:IsPair g2 s.heap.objs.size ux uy:=(e2.2 _ nz).trans hT
  have hsub:∀ c∈[z,b,i,j],fV X pins H c:=fun c hc=>hf c (by
   simp only [List.mem_cons,List.not_mem_nil,or_false] at hc ⊢
   rcases hc with h | h | h | h <;> simp[h])
  have kpn:∀ c o,c ∉ [z,b,i,j]→s.heap.get? c=some o→g2.get? c=some o:=fun c o hn e=>kp2 c o (fun q=>hn (by simp[q])) (fun q=>hn (by simp[q])) (fun q=>hn (by simp[q])) (fun q=>hn (by simp[q])) e
  have hHn:H s.heap.objs.size=none:=I.hok.fresh (Nat.le_refl _)
  refine⟨.ref s.heap.objs.size,upd H s.heap.objs.size (.tup [x,y]),?_,rfl,⟨_,x,y,rfl,hHn,rfl,fun xs' ys' h1 h2=>by rw[I.tuple_inj h1 hq1,I.tuple_inj h2 hq2];exact⟨hx,hy⟩⟩,?_,fun c hc=>?_⟩
  ·exact I.turnedN (t':=s.toks) (h':=g2) kpn hsub (Nat.le_refl _) ⟨by show 2≤sizeLine;decide,[ux,uy],.cons rux (.cons ruy .nil),⟨_,hT2,rfl,0,rfl⟩,⟨_,hT2,rfl⟩⟩
  ·obtain⟨p,q,ho⟩:=S1.own
   obtain⟨o1,g1,d1⟩:=S1.one
   obtain⟨o2,gg2,d2⟩:=S1.two
   exact⟨z2,(e2.2 _ D.az).trans S1.its,⟨p,q,(e2.2 _ D.bz).trans ho⟩,⟨o1,(e2.2 _ D.iz).trans g1,d1⟩,⟨o2,(e2.2 _ D.jz).trans gg2,d2⟩⟩
  ·have hce:c≠s.heap.objs.size:=by
    obtain⟨p,q,ho⟩:=st.own
    obtain⟨o1,g1,_⟩:=st.one
    obtain⟨o2,g2',_⟩:=st.two
    simp only [List.mem_cons,List.not_mem_nil,or_false] at hc
    rcases hc with rfl | rfl | rfl | rfl | rfl
    ·exact Nat.ne_of_lt (Heap.lt_size st.zip)
    ·exact Nat.ne_of_lt (Heap.lt_size st.its)
    ·exact Nat.ne_of_lt (Heap.lt_size ho)
    ·exact Nat.ne_of_lt (Heap.lt_size g1)
    ·exact Nat.ne_of_lt (Heap.lt_size g2')
   rw[aJ hce]
   exact(hf c hc).1
 done:=by
  intro X hP hw hK hc k pins s σ H E I hf st hg
  subst hP hw hK
  obtain⟨xs,ys,hq1,hq2,hn⟩:=hg
  obtain⟨v1,r1,p1,_⟩:=I.tuple hq1
  obtain⟨v2,r2,p2,_⟩:=I.tuple hq2
  have l1:=r1.length
  have l2:=r2.length
  refine AO (I.ok.hd hc) D st (show s.heap.IsTuple t v1.toArray from p1) (show s.heap.IsTuple u v2.toArray from p2) (by
   rcases hn with h | h
   ·exact .inl (by simp;omega)
   ·exact .inr (by simp;omega)) fun g kp=>⟨rfl,?_⟩
  refine I.turnedM (t':=s.toks) (ch:=[z,b,i,j]) (fun c o hn e=>kp c o (fun q=>hn (by simp[q])) (fun q=>hn (by simp[q])) (fun q=>hn (by simp[q])) (fun q=>hn (by simp[q])) e) fun c hc=>hf c ?_
  simp only [List.mem_cons,List.not_mem_nil,or_false] at hc ⊢
  rcases hc with h | h | h | h <;> simp[h]
 self:=fun A k s Q E st h=>wpAny_pyIter_zip st.zip h
section
variable {X:Cx}
theorem Lz(n t u:Nat)(h1:t<n)(h2:u<n):ZApart (n+4) (n+2) (n+3) n (n+1) t u :=
 ⟨(by omega:(n+2:Nat)≠n+4),(by omega:(n+3:Nat)≠n+4),(by omega:(n:Nat)≠n+4),(by omega:(n+1:Nat)≠n+4),(by omega:(n+2:Nat)≠n+3),(by omega:(n+2:Nat)≠n),(by omega:(n+2:Nat)≠n+1),(by omega:(n+3:Nat)≠n),(by omega:(n+3:Nat)≠n+1),(by omega:(n:Nat)≠n+1),
  (by omega:(t:Nat)≠n+4),(by omega:(t:Nat)≠n+3),(by omega:(t:Nat)≠n),(by omega:(t:Nat)≠n+1),(by omega:(u:Nat)≠n+4),(by omega:(u:Nat)≠n+3),(by omega:(u:Nat)≠n),(by omega:(u:Nat)≠n+1)⟩
def KJ(K:PySem.W.Frag)(ta:TA):TI:=fun σ H R=>ta σ H fun vs H1=>∃ t u,vs=[.ref t,.ref u]∧(∃ xs,SqT K H1 t xs)∧(∃ ys,SqT K H1 u ys)∧R (Ji K t u) H1
theorem Bt{pins:List (Addr×Obj)}{σ:St}{H:Hp}{s:Shared}{t u:Addr}{xs ys:Array Value}{Q:Value→Shared→Prop}{E:Value→Shared→Prop}(ht:s.heap.IsTuple t xs)(hu:s.heap.IsTuple u ys)
  (h:∀ g,ZSt g (s.heap.objs.size+4) (s.heap.objs.size+2) (s.heap.objs.size+3) s.heap.objs.size (s.heap.objs.size+1) t u 0 .none→(∀ c o,s.heap.get? c=some o→g.get? c=some o)→Q (.ref (s.heap.objs.size+4)) { s with heap:=g }) :
  wpAny (model X.prog X.w) X.A (call (.type "zip") [.ref t,.ref u]) Q E s:=by
 refine callType_new F.called_zip (by decide) (F.typeCall_zip_2 _ _) (F.newCall_zip_2 _ _) (fun obj=>F.args_object_init_3 obj _ _) F.entry_zip_new (xX t u xs ys) ⟨ht,hu,?_⟩
 have n1:(Kn s.heap t).objs.size=s.heap.objs.size+1:=Heap.size_push ..
 have n2:(Kr s.heap t u).objs.size=s.heap.objs.size+2:=by rw[Heap.size_push,n1]
 have n3:(Ku s.heap t u).objs.size=s.heap.objs.size+3:=by rw[Heap.size_push,n2]
 have n4:(Kq s.heap t u).objs.size=s.heap.objs.size+4:=by rw[Heap.size_push,n3]
 have g5:(Il s.heap t u).get? (Kq s.heap t u).objs.size=some _:=Heap.get?_push_size _ rfl
 have g4:(Il s.heap t u).get? (Ku s.heap t u).objs.size=some _:=Heap.get?_push_of_some _ (Heap.get?_push_size _ rfl)
 have g3:(Il s.heap t u).get? (Kr s.heap t u).objs.size=some _:=Heap.get?_push_of_some _ (Heap.get?_push_of_some _ (Heap.get?_push_size _ rfl))
 have g2:(Il s.heap t u).get? (Kn s.heap t).objs.size=some _:=Heap.get?_push_of_some _ (Heap.get?_push_of_some _ (Heap.get?_push_of_some _ (Heap.get?_push_size _ rfl)))
 have g1:(Il s.heap t u).get? s.heap.objs.size=some _:=Heap.get?_push_of_some _ (Heap.get?_push_of_some _ (Heap.get?_push_of_some _ (Heap.get?_push_of_some _ (Heap.get?_push_size _ rfl))))
 show _∧_
 rw[n2,n3,n4] at g5
 rw[n1,n2] at g3
 rw[n3] at g4
 rw[n1] at g2
 rw[n4]
 exact⟨⟨_,g5,rfl⟩,h _ ⟨g5,g3,⟨_,_,g4⟩,⟨_,g1,rfl,rfl⟩,⟨_,g2,rfl,rfl⟩⟩ fun c o e=>Heap.get?_push_of_some _ (Heap.get?_push_of_some _ (Heap.get?_push_of_some _ (Heap.get?_push_of_some _ (Heap.get?_push_of_some _ e))))⟩
theorem CK{es:List Expr}{x1}{tpos:Pos}{a b:Expr}{ta:TA}{p pos:Pos}{K:PySem.W.Frag}(hK:X.K=K)(hg:Gl X "zip")(hm:X.mg "zip"=none)(ha:PA X [a,b] ta)(hs:starEach [a,b] X.env=[(false,eval a X.env),(false,eval b X.env)]:=by rfl)(hs2:starEach [b] X.env=[(false,eval b X.env)]:=by rfl) :
  PI X (.Tuple es x1 tpos) (.Call (.Name "zip" p) [a,b] [] pos) (KJ K ta):=by
 subst hK
 intro pins s σ H R I h
 refine Call_ (gE I hg hm boot_zip (PyProof.Rows.callWith_type1 (bS (ha pos pins s σ H _ I h) fun us s1 ⟨vs,H1,I1,r1,q1⟩=>?_) (by rw[hs,hs2]) (by rw[hs2];rfl)))
 obtain⟨t,u,e,⟨xs,hx⟩,⟨ys,hy⟩,q⟩:=q1
 subst e
 obtain⟨v1,v2,rfl,rv1,rv2⟩:=Ao r1
 cases rv1
 cases rv2
 obtain⟨w1,rw1,p1,_⟩:=I1.tuple hx
 obtain⟨w2,rw2,p2,_⟩:=I1.tuple hy
 have lt:t<s1.heap.objs.size:=by obtain⟨o,e,_⟩:=p1;exact Heap.lt_size e
 have lu:u<s1.heap.objs.size:=by obtain⟨o,e,_⟩:=p2;exact Heap.lt_size e
 refine Bt (pins:=pins) (σ:=σ) (H:=H1) (show s1.heap.IsTuple t w1.toArray from p1) (show s1.heap.IsTuple u w2.toArray from p2) fun g st kp=>?_
 have I2:Inv X pins σ H1 { s1 with heap:=g }:=I1.kept (t':=s1.toks) kp
 have D:ZApart (s1.heap.objs.size+4) (s1.heap.objs.size+2) (s1.heap.objs.size+3) s1.heap.objs.size (s1.heap.objs.size+1) t u:=by
  exact Lz _ t u lt lu
 refine wpAny_pyIter_zip st.zip ⟨s1.heap.objs.size+4,[s1.heap.objs.size+4,s1.heap.objs.size+2,s1.heap.objs.size+3,s1.heap.objs.size,s1.heap.objs.size+1],_,_,H1,rfl,I2,C3 _ _ _ _ _ t u D,st,fun c hc=>?_,q⟩
 have hle:s1.heap.objs.size≤c:=by
  simp only [List.mem_cons,List.not_mem_nil,or_false] at hc
  rcases hc with h | h | h | h | h <;> rw[h]
  ·exact Nat.le_add_right _ _
  ·exact Nat.le_add_right _ _
  ·exact Nat.le_add_right _ _
  ·exact Nat.le_refl _
  ·exact Nat.le_add_right _ _
 exact I1.fpOk hle (I1.hok.fresh hle)
end
theorem Am{K:PySem.W.Frag}{t u:Addr}{xs ys:List V}{g:TG}{tb:TS}{D:Ends}{σ:St}{H:Hp}(Pv:Nat→St→Hp→Prop)(h0:Pv 0 σ H)(hl:∀ i σ H,i≤min xs.length ys.length→Pv i σ H→SqT K H t xs∧SqT K H u ys)
  (hs:∀ i x y p σ H,xs[i]?=some x→ys[i]?=some y→H p=none→Pv i σ H→g (.ref p) σ (upd H p (.tup [x,y])) fun σ2 H2=>tb { D with nx:=Pv (i+1),ct:=Pv (i+1),bk:=D.nx } σ2 H2) (hd:∀ σ H,Pv (min xs.length ys.length) σ H→D.nx σ H) :
  ∃ W:Nat→Nat→St→Hp→Prop,(∃ m,W 0 m σ H)∧∀ i m σ H,W i m σ H →
   ((Ji K t u).stop i H∧D.nx σ H)∨((Ji K t u).go i H∧∃ N:St→Hp→Prop,(∀ σ' H',N σ' H'→∃ m',m' < m∧W (i+1) m' σ' H')∧∀ x H',(Ji K t u).yld i H x H'→g x σ H' fun σ2 H2=>tb { D with nx:=N,ct:=N,bk:=D.nx } σ2 H2):=by
 refine⟨fun i m σ H=>m=min xs.length ys.length - i∧i≤min xs.length ys.length∧Pv i σ H,⟨_,rfl,Nat.zero_le _,h0⟩,?_⟩
 rintro i m σ H ⟨rfl,hi,p⟩
 obtain⟨q1,q2⟩:=hl i σ H hi p
 by_cases hlt:i<min xs.length ys.length
 ·have l1:i<xs.length:=by omega
  have l2:i<ys.length:=by omega
  refine .inr ⟨⟨xs,ys,xs[i],ys[i],q1,q2,by simp[l1],by simp[l2]⟩,Pv (i+1),fun σ' H' p'=>⟨min xs.length ys.length - (i+1),by omega,rfl,hlt,p'⟩,fun v H' hv=>?_⟩
  obtain⟨pp,x,y,rfl,hn,rfl,hxy⟩:=hv
  obtain⟨ex,ey⟩:=hxy xs ys q1 q2
  exact hs i x y pp σ H ex ey hn p
 ·have e:i=min xs.length ys.length:=by omega
  subst e
  refine .inl ⟨⟨xs,ys,q1,q2,?_⟩,hd σ H p⟩
  rcases Nat.le_total xs.length ys.length with h | h
  ·exact .inl (by omega)
  ·exact .inr (by omega)
section
variable {κ:Type}[DecidableEq κ]
def cF(kvs:List (κ×V))(k:κ):Option V:=(kvs.find? fun kv=>decide (kv.1=k)).map (·.2)
def dR(kvs:List (κ×V))(k:κ)(v:V):List (κ×V) :=
 if (kvs.any fun kv=>decide (kv.1=k))=true then kvs.map (fun kv=>if kv.1=k then (kv.1,v) else kv) else kvs++[(k,v)]
theorem cX{p:κ×V}{r:List (κ×V)}{k:κ}(e:p.1=k):cF (p::r) k=some p.2:=by simp[cF,List.find?_cons,e]
theorem cU{p:κ×V}{r:List (κ×V)}{k:κ}(e:¬ p.1=k):cF (p::r) k=cF r k:=by simp[cF,List.find?_cons,e]
theorem lK(k:κ):∀ kvs:List (κ×V),(kvs.any fun kv=>decide (kv.1=k))=(cF kvs k).isSome
 | []=>rfl
 | p::r=>by
  rw[List.any_cons]
  by_cases e:p.1=k
  ·simp only [cX e,decide_eq_true e,Bool.true_or,Option.isSome_some]
  ·rw[cU e,decide_eq_false e,Bool.false_or];exact lK k r
theorem vO(k j:κ)(y:V):∀ kvs:List (κ×V),cF (kvs.map fun kv=>if kv.1=k then (kv.1,y) else kv) j=(cF kvs j).map fun x=>if j=k then y else x
 | []=>rfl
 | p::r=>by
  have ih:=vO k j y r
  rw[List.map_cons]
  by_cases h:p.1=k
  ·rw[if_pos h]
   by_cases e:p.1=j
   ·rw[cX (p:=(p.1,y)) e,cX e,Option.map_some,if_pos (e.symm.trans h)]
   ·rw[cU (p:=(p.1,y)) e,cU e,ih]
  ·rw[if_neg h]
   by_cases e:p.1=j
   ·rw[cX (p:=p) e,cX e,Option.map_some,if_neg (fun z=>h (e.trans z))]
   ·rw[cU (p:=p) e,cU e,ih]
theorem sD(k j:κ)(y:V):∀ kvs:List (κ×V),cF kvs k=none→cF (kvs++[(k,y)]) j=if j=k then some y else cF kvs j
 | [],_=>by
  by_cases e:k=j
  ·rw[if_pos e.symm];exact cX (p:=(k,y)) e
  ·rw[if_neg (fun z=>e z.symm)];exact cU (p:=(k,y)) e
 | p::r,hn=>by
  rw[List.cons_append]
  have hk:¬ p.1=k:=fun z=>by rw[cX z] at hn;cases hn
  rw[cU hk] at hn
  have ih:=sD k j y r hn
  by_cases e:p.1=j
  ·rw[cX e,cX e,if_neg (fun z=>hk (e.trans z))]
  ·rw[cU e,cU e,ih]
theorem fF(kvs:List (κ×V))(k j:κ)(y:V):cF (dR kvs k y) j=if j=k then some y else cF kvs j:=by
 unfold dR
 by_cases a:(kvs.any fun kv=>decide (kv.1=k))=true
 ·rw[if_pos a,vO]
  rw[lK] at a
  by_cases e:j=k
  ·obtain⟨x,hx⟩:=Option.isSome_iff_exists.mp a
   rw[if_pos e,e,hx,Option.map_some,if_pos rfl]
  ·rw[if_neg e]
   cases cF kvs j with
   | none=>rfl
   | some x=>rw[Option.map_some,if_neg e]
 ·rw[if_neg a]
  refine sD k j y kvs ?_
  rw[lK] at a
  cases q:cF kvs k with
  | none=>rfl
  | some x=>rw[q] at a;exact(a rfl).elim
theorem dB(kvs:List (κ×V))(k:κ)(v:V):(dR kvs k v).length≤kvs.length+1:=by
 unfold dR
 split
 ·rw[List.length_map];omega
 ·rw[List.length_append,List.length_cons,List.length_nil];omega
theorem RelO.isSome_eq{o:Option V}{u:Option Value}(r:RelO o u):o.isSome=u.isSome:=by
 cases o with
 | none=>cases u with
  | none=>rfl
  | some _=>exact(show False from r).elim
 | some _=>cases u with
  | none=>exact(show False from r).elim
  | some _=>rfl
theorem RelO.getD{o:Option V}{u:Option Value}{d:V}{d':Value}(r:RelO o u)(rd:RelV d d'):RelV (o.getD d) (u.getD d'):=by
 cases o with
 | none=>cases u with
  | none=>exact rd
  | some _=>exact(show False from r).elim
 | some _=>cases u with
  | none=>exact(show False from r).elim
  | some _=>exact r
theorem KV.val{kvs:List (κ×V)}{vs:List (κ×Value)}(r:KV kvs vs)(k:κ):RelO (cF kvs k) (valueAt vs k):=by
 unfold KV at r
 induction r with
 | nil=>exact True.intro
 | @cons p q ps qs h t ih =>
  obtain⟨h1,h2⟩:=h
  by_cases e:p.1=k
  ·have e':q.1=k:=h1.symm.trans e
   have b:valueAt (q::qs) k=some q.2:=by simp[valueAt,List.find?_cons,e']
   rw[cX e,b];exact h2
  ·have e':¬ q.1=k:=fun z=>e (h1.trans z)
   have b:valueAt (q::qs) k=valueAt qs k:=by simp[valueAt,List.find?_cons,e']
   rw[cU e,b];exact ih
theorem KV.any{kvs:List (κ×V)}{vs:List (κ×Value)}(r:KV kvs vs)(k:κ):(kvs.any fun kv=>decide (kv.1=k))=vs.any fun kv=>decide (kv.1=k):=by
 unfold KV at r
 induction r with
 | nil=>rfl
 | cons h t ih=>rw[List.any_cons,List.any_cons,ih,h.1]
theorem KV.repl{kvs:List (κ×V)}{vs:List (κ×Value)}(r:KV kvs vs)(k:κ){y:V}{u:Value}(ry:RelV y u) :
  KV (kvs.map fun kv=>if kv.1=k then (kv.1,y) else kv) (vs.map fun kv=>if kv.1=k then (kv.1,u) else kv):=by
 unfold KV at r ⊢
 induction r with
 | nil=>exact .nil
 | @cons p q ps qs h t ih =>
  rw[List.map_cons,List.map_cons]
  refine .cons ?_ ih
  obtain⟨h1,h2⟩:=h
  by_cases e:p.1=k
  ·rw[if_pos e,if_pos (h1.symm.trans e)];exact⟨h1,ry⟩
  ·rw[if_neg e,if_neg (fun z=>e (h1.trans z))];exact⟨h1,h2⟩
theorem KV.put{kvs:List (κ×V)}{vs:List (κ×Value)}(r:KV kvs vs)(k:κ){y:V}{u:Value}(ry:RelV y u):KV (dR kvs k y) (stored vs k u):=by
 unfold dR stored
 rw[r.any k]
 by_cases e:(vs.any fun kv=>decide (kv.1=k))=true
 ·rw[if_pos e,if_pos e];exact r.repl k ry
 ·rw[if_neg e,if_neg e];exact Paired.snoc r ⟨rfl,ry⟩
theorem KV.length{kvs:List (κ×V)}{vs:List (κ×Value)}(r:KV kvs vs):kvs.length=vs.length:=Paired.length r
end
theorem nF{P:Program}{w:World}{k:bW}{u:Value}(r:RelV (kV k) u):(bN P w).is k u=true:=by
 cases k with
 | inl i=>obtain⟨t,e⟩:=(show ∃ t,u=Value.int i t from r);subst e;exact vN P w i t
 | inr x=>obtain⟨t,e⟩:=(show ∃ t,u=Value.str x t from r);subst e;exact wM P w x t
theorem rJ{P:Program}{w:World}:∀ {ks:List bW} {us:List Value},Vals (ks.map kV) us→ItemsAre (bN P w) ks us
 | [],_,r=>by rw[List.map_nil] at r;cases r;exact .nil
 | k::ks,_,r=>by
  rw[List.map_cons] at r
  cases r with
  | cons h t=>exact .cons (nF h) (rJ t)
abbrev KT(H:Hp):List (List bW×V)→List (List bW×Addr×Value)→Prop:=Paired fun p q=>p.1=q.1∧H q.2.1=some (.tup (p.1.map kV))∧RelV p.2 q.2.2
theorem KT.val{H:Hp}{kvs:List (List bW×V)}{xs:List (List bW×Addr×Value)}(r:KT H kvs xs)(k:List bW):RelO (cF kvs k) ((atKey xs k).map (·.2)):=by
 induction r with
 | nil=>exact True.intro
 | @cons p q ps qs h t ih =>
  obtain⟨h1,_,h2⟩:=h
  by_cases e:p.1=k
  ·have e':q.1=k:=h1.symm.trans e
   have b:atKey (q::qs) k=some q.2:=by simp[atKey,List.find?_cons,e']
   rw[cX e,b];exact h2
  ·have e':¬ q.1=k:=fun z=>e (h1.trans z)
   have b:atKey (q::qs) k=atKey qs k:=by simp[atKey,List.find?_cons,e']
   rw[cU e,b];exact ih
theorem KT.repl{H:Hp}{kvs:List (List bW×V)}{xs:List (List bW×Addr×Value)}(r:KT H kvs xs)(k:List bW){y:V}{u:Value}(ry:RelV y u) :
  KT H (kvs.map fun kv=>if kv.1=k then (kv.1,y) else kv) (xs.map (putAt k u)):=by
 induction r with
 | nil=>exact .nil
 | @cons p q ps qs h t ih =>
  rw[List.map_cons,List.map_cons]
  refine .cons ?_ ih
  obtain⟨h1,h2,h3⟩:=h
  unfold putAt
  by_cases e:p.1=k
  ·rw[if_pos e,if_pos (h1.symm.trans e)];exact⟨h1,h2,ry⟩
  ·rw[if_neg e,if_neg (fun z=>e (h1.trans z))];exact⟨h1,h2,h3⟩
theorem KT.put{H:Hp}{kvs:List (List bW×V)}{xs:List (List bW×Addr×Value)}(r:KT H kvs xs)(k:List bW){b:Addr}{y:V}{u:Value}(hb:H b=some (.tup (k.map kV)))(ry:RelV y u) :
  KT H (dR kvs k y) (storedH xs k b u):=by
 have e:(kvs.any fun kv=>decide (kv.1=k))=(atKey xs k).isSome:=by
  rw[lK,(r.val k).isSome_eq,Option.isSome_map]
 unfold dR storedH
 rw[e]
 by_cases q:(atKey xs k).isSome=true
 ·rw[if_pos q,if_pos q];exact r.repl k ry
 ·rw[if_neg q,if_neg q];exact Paired.snoc r ⟨rfl,hb,ry⟩
theorem KT.keeps{H H':Hp}{kvs:List (List bW×V)}{xs:List (List bW×Addr×Value)}(r:KT H kvs xs)(ht:∀ b ys,H b=some (.tup ys)→H' b=some (.tup ys)):KT H' kvs xs :=
 Paired.mapP r fun _ _ z=>⟨z.1,ht _ _ z.2.1,z.2.2⟩
section
variable {P:Program}{w:World}{H:Hp}{h:Heap}{a:Addr}
theorem FA{u:HO}(ok:HOk P w H h)(e:Rd H a u):ObjOk P w H h a u:=e.ok ok
theorem qG{kvs:List (bW×V)}(ok:HOk P w H h)(e:Rd H a (.dK kvs)):kvs.length≤sizeLine∧(a == sysModules)=false∧∃ vs,KV kvs vs∧h.DictOf (bN P w) a vs :=
 show ObjOk P w H h a (.dK kvs) from FA ok e
theorem Dy{kvs:List (bW×V)}(ok:HOk P w H h)(e:H a=some (.dK kvs)):kvs.length≤sizeLine∧(a == sysModules)=false∧∃ vs,KV kvs vs∧h.DictOf (bN P w) a vs:=qG ok (.inl e)
theorem mV{ks:List bW}(ok:HOk P w H h)(e:H a=some (.tup (ks.map kV))):(tupleKind (bN P w)).is h ks a:=by
 obtain⟨_,its,r,⟨o,h1,h2,n,h3⟩,_⟩:=(show ObjOk P w H h a (.tup (ks.map kV)) from ok a _ e)
 exact⟨o,its.toArray,n,h1,h2,h3,by simpa using rJ r⟩
theorem pV{kvs:List (List bW×V)}(ok:HOk P w H h)(e:Rd H a (.dT kvs)):kvs.length≤sizeLine∧(a == sysModules)=false ∧
  ∃ xs,KT H kvs xs∧h.DictOfH (tupleKind (bN P w)) a xs:=by
 obtain⟨z,y,xs,r,o,es,ep,h1,h2,h3,h4,h5⟩:=(show ObjOk P w H h a (.dT kvs) from FA ok e)
 refine⟨z,y,xs,r,o,es,ep,h1,h2,h3,h4,fun x hx=>?_,h5⟩
 have all:∀ {l:List (List bW×V)} {m:List (List bW×Addr×Value)},KT H l m→∀ x∈m,(tupleKind (bN P w)).is h x.1 x.2.1:=by
  intro l m q
  induction q with
  | nil=>intro x hx;exact nomatch hx
  | @cons p q ps qs hq t ih =>
   intro x hx
   rcases List.mem_cons.mp hx with e | hx
   ·subst e
    exact mV ok (by rw[← hq.1];exact hq.2.1)
   ·exact ih x hx
 exact all r x hx
theorem J_{kvs:List (List bW×V)}(ok:HOk P w H h)(e:H a=some (.dT kvs)):kvs.length≤sizeLine∧(a == sysModules)=false ∧
  ∃ xs,KT H kvs xs∧h.DictOfH (tupleKind (bN P w)) a xs:=pV ok (.inl e)
end
def DGet(H:Hp)(a:Addr)(y:V)(r:Option V):Prop :=
 (∃ kvs k,Rd H a (.dK kvs)∧y=kV k∧r=cF kvs k)∨∃ kvs k b,Rd H a (.dT kvs)∧y=.ref b∧H b=some (.tup (k.map kV))∧r=cF kvs k
def DPut(H:Hp)(a:Addr)(y v:V)(H':Hp):Prop :=
 (∃ kvs k,H a=some (.dK kvs)∧y=kV k∧kvs.length<sizeLine∧H'=upd H a (.dK (dR kvs k v))) ∨
 ∃ kvs k b,H a=some (.dT kvs)∧y=.ref b∧H b=some (.tup (k.map kV))∧kvs.length<sizeLine∧H'=upd H a (.dT (dR kvs k v))
theorem DGet.k{H:Hp}{a:Addr}{kvs:List (bW×V)}{k:bW}(e:H a=some (.dK kvs)):DGet H a (kV k) (cF kvs k):=.inl ⟨kvs,k,.inl e,rfl,rfl⟩
theorem DGet.t{H:Hp}{a b:Addr}{kvs:List (List bW×V)}{k:List bW}(e:H a=some (.dT kvs))(eb:H b=some (.tup (k.map kV))):DGet H a (.ref b) (cF kvs k):=.inr ⟨kvs,k,b,.inl e,rfl,eb,rfl⟩
theorem DPut.k{H:Hp}{a:Addr}{kvs:List (bW×V)}{k:bW}{v:V}(e:H a=some (.dK kvs))(hl:kvs.length<sizeLine):DPut H a (kV k) v (upd H a (.dK (dR kvs k v))):=.inl ⟨kvs,k,e,rfl,hl,rfl⟩
theorem DPut.t{H:Hp}{a b:Addr}{kvs:List (List bW×V)}{k:List bW}{v:V}(e:H a=some (.dT kvs))(eb:H b=some (.tup (k.map kV)))(hl:kvs.length<sizeLine) :
  DPut H a (.ref b) v (upd H a (.dT (dR kvs k v))):=.inr ⟨kvs,k,b,e,rfl,eb,hl,rfl⟩
section
variable {X:Cx}{pins:List (Addr×Obj)}{σ:St}{H:Hp}{s:Shared}{a:Addr}{y v:V}{u r:Value}{o:Option V}{A:Around}{E:Value→Shared→Prop}
theorem Inv.big(I:Inv X pins σ H s):sysModules<s.heap.objs.size:=by
 have h:mainGlobals<s.heap.objs.size:=(I.mod.glob.keeps I.bk).lt
 exact Nat.lt_trans (by decide) h
theorem AF{Q:Value→Shared→Prop}(hu:A.units+1<cLine)(I:Inv X pins σ H s)(g:DGet H a y (some v))(ry:RelV y u)(h:∀ w' s',Inv X pins σ H s'→RelV v w'→Q w' s') :
  wpAny (model X.prog X.w) A (getItem (.ref a) u) Q E s:=by
 rcases g with ⟨kvs,k,e,ey,l⟩ | ⟨kvs,k,b,e,ey,eb,l⟩
 ·subst ey
  obtain⟨z,hd,vs,rel,dd⟩:=qG I.hok e
  obtain⟨w',hw,rw'⟩:=RelO.some_of (v:=v) (o:=valueAt vs k) (by rw[l];exact rel.val k)
  exact wpAny_getItem_of (nF ry) dd.mapOf hw (h w' _ (I.tok _) rw')
 ·subst ey
  cases (show u=Value.ref b from ry)
  obtain⟨z,hd,xs,rel,dd⟩:=pV I.hok e
  obtain⟨w',hw,rw'⟩:=RelO.some_of (v:=v) (o:=(atKey xs k).map (·.2)) (by rw[l];exact rel.val k)
  obtain⟨p,hp,hp2⟩:=Option.map_eq_some_iff.mp hw
  refine wpAny_getItem_heap (tupleKind_room_in1 hu) (mV I.hok eb) dd hp ?_
  rw[hp2]
  exact h w' _ (I.tok _) rw'
theorem D3{Q:Value→Shared→Prop}(hu:A.units+1<cLine)(I:Inv X pins σ H s)(g:DGet H a y o)(ry:RelV y u)(h:∀ s',Inv X pins σ H s'→Q (.bool (!o.isSome)) s') :
  wpAny (model X.prog X.w) A (compareOp .NotIn u (.ref a)) Q E s:=by
 rcases g with ⟨kvs,k,e,ey,l⟩ | ⟨kvs,k,b,e,ey,eb,l⟩
 ·subst ey
  obtain⟨z,hd,vs,rel,dd⟩:=qG I.hok e
  refine wpAny_notIn_of (nF ry) hd dd.mapOf ?_
  rw[← (rel.val k).isSome_eq,← l]
  exact h _ (I.tok _)
 ·subst ey
  cases (show u=Value.ref b from ry)
  obtain⟨z,hd,xs,rel,dd⟩:=pV I.hok e
  refine wpAny_notIn_heap (tupleKind_room_in1 hu) (mV I.hok eb) hd dd ?_
  have q:=(rel.val k).isSome_eq
  rw[Option.isSome_map] at q
  rw[← q,← l]
  exact h _ (I.tok _)
theorem oI{h':Heap}{t':Nat}{ob:HO}(I:Inv X pins σ H s)(mu:Jz (H a))(hs:Heap.SameBut a s.heap h')(he:∃ q,h'.get? a=some q)(new:ObjOk X.prog X.w (upd H a ob) h' a ob) :
  Inv X pins σ (upd H a ob) { s with heap:=h',toks:=t' } :=
 I.write (x:=a) (e:=a) mu (.inl rfl) (fun b q hb z=>(hs.2 b hb).trans z) he new
theorem yD{P:Program}{w:World}{H':Hp}{h':Heap}{kvs:List (bW×V)}{vs:List (bW×Value)}(z:kvs.length≤sizeLine)(hd:(a == sysModules)=false)(rel:KV kvs vs)(dd:h'.DictOf (bN P w) a vs) :
  ObjOk P w H' h' a (.dK kvs):=⟨z,hd,vs,rel,dd⟩
theorem AM{H':Hp}{Q:Unit→Shared→Prop}(hu:A.units+1<cLine)(I:Inv X pins σ H s)(g:DPut H a y v H')(ry:RelV y u)(rv:RelV v r)(h:∀ s',Inv X pins σ H' s'→Q () s') :
  wpAny (model X.prog X.w) A (setItem (.ref a) u r) Q E s:=by
 rcases g with ⟨kvs,k,e,ey,l,eH⟩ | ⟨kvs,k,b,e,ey,eb,l,eH⟩
 ·subst ey eH
  obtain⟨z,hd,vs,rel,dd⟩:=Dy I.hok e
  have hz:vs.length≤sizeLine:=by rw[← rel.length];exact z
  have hl:(dR kvs k v).length≤sizeLine:=by have:=dB kvs k v;omega
  refine wpAny_setItem_pairs (hsz:=hz) (nF ry) dd fun h' dd' hs=>h _ ?_
  have he:∃ q,h'.get? a=some q:=let ⟨q,_,_,hq,_⟩:=dd';⟨q,hq⟩
  exact oI I (by rw[e];exact True.intro) hs he (yD hl hd (rel.put k rv) dd')
 ·subst ey eH
  cases (show u=Value.ref b from ry)
  obtain⟨z,hd,xs,rel,dd⟩:=J_ I.hok e
  have hz:xs.length≤sizeLine:=by rw[← Paired.length rel];exact z
  have hl:(dR kvs k v).length≤sizeLine:=by have:=dB kvs k v;omega
  refine wpAny_setItem_heap (hsz:=hz) (tupleKind_room_in1 hu) (mV I.hok eb) dd fun h' dd' hs=>h _ ?_
  obtain⟨q,es,ep,hq,h2,h3,h4,_,h5⟩:=dd'
  refine oI I (by rw[e];exact True.intro) hs ⟨q,hq⟩ ⟨hl,hd,_,(rel.put k eb rv).keeps fun c ys ec=>?_,q,es,ep,hq,h2,h3,h4,h5⟩
  rw[aJ (nN ec e (fun z=>nomatch z))]
  exact ec
end
section
variable {X:Cx}{pins:List (Addr×Obj)}{σ:St}{H:Hp}{s:Shared}{a:Addr}{kvs:List (bW×V)}{k:bW}{u:Value}{A:Around}{E:Value→Shared→Prop}
end
def IA(i:Expr):Prop:=∀ ov iv,subscripted i false ov iv=operate [ov,iv] (getItem ov iv)
theorem EQ{prog:Program}{w:World}{A:Around}{E:Value→Shared→Prop}{s:Shared}{env:Env}{value slice:Expr}{pos:Pos}{T id:String}{Q:Value→Shared→Prop}
  (hl:typeLookup (.type T) "__getitem__"=pure (some (.builtin id))) (hs:IA slice)
  (h:wpAny (model prog w) A (eval value env) (fun o s₁=>wpAny (model prog w) A (eval slice env) (fun i s₂=>s₂.TypeIs o T∧wpAny (model prog w) A (getItem o i) Q E s₂) E s₁) E s) :
  wpAny (model prog w) A (eval (.Subscript value slice pos) env) Q E s:=by
 refine Subscript_ (wpAny_mono h (fun o s₁ h₁=>wpAny_mono h₁ (fun i s₂ h₂=>?_) fun _ _ x=>x) fun _ _ x=>x)
 obtain⟨hT,h₂⟩:=h₂
 unfold subscriptTail
 refine wpAny_bind ?_
 rw[getitemInPython_of_ne hT.not_modules]
 refine wpAny_bind (wpAny_specialOf hT hl ?_)
 have fin:wpAny (model prog w) A (subscripted slice false o i) (fun r s₃=>wpAny (model prog w) A (letTemporaryGo value o r >>= fun _=>pure r) Q E s₃) E s₂:=by
  rw[hs o i]
  exact wpAny_operating (wpAny_mono h₂ (fun r s₃ h₃=>wpAny_bind (wpAny_letTemporaryGo (wpAny_pure h₃))) fun _ _ x=>x)
 first
  | exact wpAny_pure (wpAny_bind fin)
  | exact wpAny_bind (wpAny_pure (wpAny_bind fin))
  | exact wpAny_bind fin
theorem wO{X:Cx}{pins:List (Addr×Obj)}{σ:St}{H:Hp}{s:Shared}{a:Addr}{y:V}{o:Option V}(I:Inv X pins σ H s)(g:DGet H a y o):s.TypeIs (.ref a) "dict":=by
 rcases g with ⟨kvs,k,e,_,_⟩ | ⟨kvs,k,b,e,_,_,_⟩
 ·obtain⟨_,_,vs,_,dd⟩:=qG I.hok e
  exact dd.typeIs
 ·obtain⟨_,_,xs,_,dd⟩:=pV I.hok e
  exact dd.typeIs
def Je(td ty:TE):TE:=fun σ H Q=>td σ H fun x H1=>ty σ H1 fun y H2=>∃ a v,x=.ref a∧DGet H2 a y (some v)∧Q v H2
def Ac(ty td:TE):TE:=fun σ H Q=>ty σ H fun y H1=>td σ H1 fun x H2=>∃ a o,x=.ref a∧DGet H2 a y o∧Q (.bl (!o.isSome)) H2
def Ki(td ty tv:TE):TS:=fun D σ H=>tv σ H fun v H1=>td σ H1 fun x H2=>ty σ H2 fun y H3=>∃ a H4,x=.ref a∧DPut H3 a y v H4∧D.nx σ H4
section
variable {X:Cx}{o i e value:Expr}{pos pos' tpos:Pos}{td ty tv:TE}
theorem sY(hu:X.A.units+1<cLine)(ho:PE X o td)(hi:PE X i ty)(hs:IA i):PE X (.Subscript o i pos) (Je td ty):=by
 intro pins s σ H Q I h
 refine EQ PySem.F.slot_dict_getitem.lookup hs (bS (ho pins s σ H _ I h) fun u s1 ⟨x,H1,I1,rx,q1⟩=>bS (hi pins s1 σ H1 _ I1 q1) fun iv s2 ⟨y,H2,I2,ry,a,v,ex,g,q2⟩=>?_)
 subst ex
 obtain rfl:u=Value.ref a:=rx
 exact⟨wO I2 g,AF hu I2 g ry fun w' s3 I3 rw'=>⟨v,H2,I3,rw',q2⟩⟩
theorem AJ(hu:X.A.units+1<cLine)(hi:PE X i ty)(ho:PE X o td):PC X .NotIn i o (Ac ty td):=by
 intro pins s σ H Q I h
 refine bS (hi pins s σ H _ I h) fun iv s1 ⟨y,H1,I1,ry,q1⟩=>bS (ho pins s1 σ H1 _ I1 q1) fun u s2 ⟨x,H2,I2,rx,a,ov,ex,g,q2⟩=>?_
 subst ex
 obtain rfl:u=Value.ref a:=rx
 exact D3 hu I2 g ry fun s3 I3=>⟨.bl (!ov.isSome),H2,I3,rfl,q2⟩
theorem oN(hu:X.A.units+1<cLine)(ho:PE X o td)(hi:PE X i ty)(hv:PE X value tv)(hs:swapsWith value (some (.Subscript o i pos')) pos.line X.env=pure false) :
  PS X (.Assign [.Subscript o i pos'] value pos) (Ki td ty tv):=by
 intro pins s σ H D I h
 refine wpAny_Assign_Subscript (bS (hv pins s σ H _ I h) fun r s1 ⟨v,H1,I1,rv,q1⟩=>bS (ho pins s1 σ H1 _ I1 q1) fun u s2 ⟨x,H2,I2,rx,q2⟩=>bS (hi pins s2 σ H2 _ I2 q2) fun iv s3 ⟨y,H3,I3,ry,a,H4,ex,g,q3⟩=>?_) hs
 subst ex
 obtain rfl:u=Value.ref a:=rx
 exact AM hu I3 g ry rv fun s4 I4=>⟨σ,H4,I4,q3⟩
end
theorem wL{P:Program}{w:World}{H:Hp}(h:Heap)(hb:sysModules<h.objs.size):ObjOk P w H (h.push { cls:=.type "dict",data:=.dict #[] }) h.objs.size (.dK []) :=
 ⟨Nat.zero_le _,beq_eq_false_iff_ne.mpr (Ne.symm (Nat.ne_of_lt hb)),[],.nil,Heap.DictOf.new h⟩
theorem DP{P:Program}{w:World}{H:Hp}(h:Heap)(hb:sysModules<h.objs.size):ObjOk P w H (h.push { cls:=.type "dict",data:=.dict #[] }) h.objs.size (.dT []) :=
 ⟨Nat.zero_le _,beq_eq_false_iff_ne.mpr (Ne.symm (Nat.ne_of_lt hb)),[],.nil,_,#[],0,Heap.get?_push_size _ rfl,⟨rfl,rfl,rfl⟩,rfl,rfl,List.nodup_nil⟩
def Gm:TE:=fun _ H Q=>∀ p,H p=none→Q (.ref p) (upd H p (.dK []))
def Gr:TE:=fun _ H Q=>∀ p,H p=none→Q (.ref p) (upd H p (.dT []))
section
variable {X:Cx}{pos:Pos}
theorem vL:PE X (.Dict [] [] pos) Gm:=fun pins s σ H Q I h =>
 wpAny_Dict_empty ⟨.ref s.heap.objs.size,_,I.laid (a:=s.heap.objs.size) (o:=.dK []) (t':=s.toks) (fun _ _ q=>Heap.get?_push_of_some _ q) (Nat.le_refl _) (wL s.heap I.big),rfl,h _ (I.hok.fresh (Nat.le_refl _))⟩
theorem BR:PE X (.Dict [] [] pos) Gr:=fun pins s σ H Q I h =>
 wpAny_Dict_empty ⟨.ref s.heap.objs.size,_,I.laid (a:=s.heap.objs.size) (o:=.dT []) (t':=s.toks) (fun _ _ q=>Heap.get?_push_of_some _ q) (Nat.le_refl _) (DP s.heap I.big),rfl,h _ (I.hok.fresh (Nat.le_refl _))⟩
end
def yK:List (TE×TE)→St→Hp→(List (V×V)→Hp→Prop)→Prop
 | [],_,H,Q=>Q [] H
 | (tk,tv)::r,σ,H,Q=>tk σ H fun x H1=>tv σ H1 fun y H2=>yK r σ H2 fun ps H3=>Q ((x,y)::ps) H3
abbrev VV:List (V×V)→List (Value×Value)→Prop:=Paired fun p q=>RelV p.1 q.1∧RelV p.2 q.2
def Kk(X:Cx)(pos:Pos)(keys:List (Option Expr))(values:List Expr)(trs:List (TE×TE)):Prop :=
 ∀ (pins:List (Addr×Obj)) (s:Shared) (σ:St) (H:Hp) (Q:List (V×V)→Hp→Prop),Inv X pins σ H s→yK trs σ H Q →
  wpAny (model X.prog X.w) X.A (evalPairs (pairTrees keys values X.env pos)) (fun vs s'=>∃ ps H',Inv X pins σ H' s'∧VV ps vs∧Q ps H') X.xe s
theorem D5{X:Cx}{pos:Pos}:Kk X pos [] [] []:=fun pins s σ H Q I h=>pairTrees_nil_walk ⟨[],H,I,.nil,h⟩
theorem BN{X:Cx}{pos:Pos}{k v:Expr}{ks:List (Option Expr)}{vs:List Expr}{tk tv:TE}{trs:List (TE×TE)}(hk:PE X k tk)(hv:PE X v tv)(hr:Kk X pos ks vs trs) :
  Kk X pos (some k::ks) (v::vs) ((tk,tv)::trs):=fun pins s σ H Q I h =>
 pairTrees_cons_walk (bS (hk pins s σ H _ I h) fun u s1 ⟨x,H1,I1,rx,q1⟩=>bS (hv pins s1 σ H1 _ I1 q1) fun w2 s2 ⟨y,H2,I2,ry,q2⟩ =>
  bS (hr pins s2 σ H2 _ I2 q2) fun ws s3 ⟨ps,H3,I3,rel,q3⟩=>⟨(x,y)::ps,H3,I3,.cons ⟨rx,ry⟩ rel,q3⟩)
def qS(kvs more:List (bW×V)):List (bW×V):=more.foldl (fun acc kv=>dR acc kv.1 kv.2) kvs
theorem KV.merge:∀ {more:List (bW×V)} {rs:List (bW×Value)} {kvs:List (bW×V)} {vs:List (bW×Value)},KV more rs→KV kvs vs→KV (qS kvs more) (merged vs rs):=by
 intro more rs kvs vs r
 unfold KV at r
 induction r generalizing kvs vs with
 | nil=>intro q;exact q
 | @cons p q ps qs h t ih =>
  intro r0
  have e:KV (dR kvs p.1 p.2) (stored vs q.1 q.2):=by
   have:=r0.put p.1 h.2
   rw[← h.1];exact this
  exact ih e
theorem jZ:∀ (more kvs:List (bW×V)),(qS kvs more).length≤kvs.length+more.length
 | [],kvs=>by show kvs.length≤kvs.length+0;omega
 | p::r,kvs=>by
  have h1:=jZ r (dR kvs p.1 p.2)
  have h2:=dB kvs p.1 p.2
  show (qS (dR kvs p.1 p.2) r).length≤_
  rw[List.length_cons];omega
theorem pU{P:Program}{w:World}:∀ {kvs:List (bW×V)} {ws:List (Value×Value)},VV (kvs.map fun kv=>(kV kv.1,kv.2)) ws→∃ rs,Carries (bN P w) ws rs∧KV kvs rs
 | [],_,r=>by rw[List.map_nil] at r;cases r;exact⟨[],True.intro,.nil⟩
 | p::kvs,_,r=>by
  rw[List.map_cons] at r
  cases r with
  | @cons a b as bs h t =>
   obtain⟨rs,c,q⟩:=pU (P:=P) (w:=w) t
   obtain⟨b1,b2⟩:=b
   exact⟨(p.1,b2)::rs,⟨nF h.1,rfl,c⟩,.cons ⟨rfl,h.2⟩ q⟩
def JB(trs:List (TE×TE)):TE:=fun σ H Q=>∀ p,H p=none→yK trs σ (upd H p (.dK [])) fun ps H2=>H2 p=some (.dK [])∧∃ kvs:List (bW×V),ps=kvs.map (fun kv=>(kV kv.1,kv.2))∧kvs.length≤15∧Q (.ref p) (upd H2 p (.dK (qS [] kvs)))
theorem EE{X:Cx}{pos:Pos}{keys:List (Option Expr)}{values:List Expr}{trs:List (TE×TE)}(h:Kk X pos keys values trs)(hall:keys.all (·.isSome)=true)(hl:keys.length=values.length)(h0:keys≠[])
  (h15:keys.length≤15):PE X (.Dict keys values pos) (JB trs):=by
 intro pins s σ H Q I q
 have hn:=I.hok.fresh (Nat.le_refl s.heap.objs.size)
 have I1:=I.laid (a:=s.heap.objs.size) (o:=.dK []) (h':=s.heap.push { cls:=.type "dict",data:=.dict #[] }) (t':=s.toks) (fun _ _ q=>Heap.get?_push_of_some _ q) (Nat.le_refl _) (wL s.heap I.big)
 refine wpAny_Dict_walk (knd:=bN X.prog X.w) hall hl h0 h15 (bS (h pins _ σ _ _ I1 (q _ hn)) fun ws s2 ⟨ps,H2,I2,rel,e,kvs,ep,lk,q2⟩=>?_)
 subst ep
 obtain⟨rs,c,rk⟩:=pU (P:=X.prog) (w:=X.w) rel
 obtain⟨z,hd,vs0,r0,dd⟩:=Dy I2.hok e
 cases r0
 refine⟨rs,c,dd,fun h' dd' hs=>⟨.ref s.heap.objs.size,_,?_,rfl,q2⟩⟩
 have hz:(qS [] kvs).length≤sizeLine:=by
  have h1:=jZ kvs []
  rw[List.length_nil] at h1
  rw[sizeLine_eq];omega
 have he:∃ q,h'.get? s.heap.objs.size=some q:=let ⟨q,_,_,hq,_⟩:=dd';⟨q,hq⟩
 exact oI I2 (by rw[e];exact True.intro) hs he (yD hz hd (rk.merge .nil) dd')
structure M1(X:Cx)(o:Expr)(m:Str)(apos:Pos)(e:Expr)(cpos:Pos):Prop where
 base:attributeBase o m X.env (eval o X.env)=eval o X.env
 few:((backTo cpos (starEach [e] X.env)).all (fun x=>!x.1) && (backToKw cpos (keywordEach [] X.env)).all (fun x=>x.1.isSome)
  && decide (([e]:List Expr).length+([]:List Keyword).length+(if ([]:List Keyword).isEmpty then 0 else 1)<30))=true
 line:(apos.endLine == cpos.line)=true
 trees:backTo cpos (starEach [e] X.env)=[(false,eval e X.env)]
structure M2(X:Cx)(o:Expr)(m:Str)(apos:Pos)(e f:Expr)(cpos:Pos):Prop where
 base:attributeBase o m X.env (eval o X.env)=eval o X.env
 few:((backTo cpos (starEach [e,f] X.env)).all (fun x=>!x.1) && (backToKw cpos (keywordEach [] X.env)).all (fun x=>x.1.isSome)
  && decide (([e,f]:List Expr).length+([]:List Keyword).length+(if ([]:List Keyword).isEmpty then 0 else 1)<30))=true
 line:(apos.endLine == cpos.line)=true
 trees:backTo cpos (starEach [e,f] X.env)=[(false,eval e X.env),(false,eval f X.env)]
def Kl(H:Hp)(a:Addr):Prop:=(∃ kvs,Rd H a (.dK kvs))∨∃ kvs,Rd H a (.dT kvs)
theorem xE{X:Cx}{pins:List (Addr×Obj)}{σ:St}{H:Hp}{s:Shared}{a:Addr}(I:Inv X pins σ H s)(d:Kl H a) :
  s.TypeIs (.ref a) "dict"∧(∀ b,Value.ref a=.ref b→∃ ob,s.heap.get? b=some ob∧ob.dict=none)∧(a == sysModules)=false:=by
 rcases d with ⟨kvs,e⟩ | ⟨kvs,e⟩
 ·obtain⟨_,hd,vs,_,dd⟩:=qG I.hok e
  refine⟨dd.typeIs,fun b q=>?_,hd⟩
  cases q
  obtain⟨ob,_,_,h1,h2,_⟩:=dd
  exact⟨ob,h1,h2.2.1⟩
 ·obtain⟨_,hd,xs,_,dd⟩:=pV I.hok e
  refine⟨dd.typeIs,fun b q=>?_,hd⟩
  cases q
  obtain⟨ob,_,_,h1,h2,_⟩:=dd
  exact⟨ob,h1,h2.2.1⟩
section
variable {X:Cx}{pins:List (Addr×Obj)}{σ:St}{H:Hp}{s:Shared}{a:Addr}{y d:V}{u r:Value}{o:Option V}{A:Around}{E:Value→Shared→Prop}
theorem HW{Q:Value→Shared→Prop}(hu:A.units+1<cLine)(I:Inv X pins σ H s)(g:DGet H a y o)(ry:RelV y u)(h:∀ w' s',Inv X pins σ H s'→RelV (o.getD .non) w'→Q w' s') :
  wpAny (model X.prog X.w) A (call (.builtin "dict.get") [.ref a,u]) Q E s:=by
 rcases g with ⟨kvs,k,e,ey,l⟩ | ⟨kvs,k,b,e,ey,eb,l⟩
 ·subst ey
  obtain⟨z,hd,vs,rel,dd⟩:=qG I.hok e
  refine call_meetsIn PySem.F.slot_dict_get dd.typeIs PySem.F.entry_dict_get (PySem.F.args_dict_get_2 _ _) (meets_dict_get (bN X.prog X.w) a (nF ry) hd) ⟨_,dd.mapOf,h _ _ (I.tok _) ?_⟩
  rw[l]
  exact(rel.val k).getD rfl
 ·subst ey
  cases (show u=Value.ref b from ry)
  obtain⟨z,hd,xs,rel,dd⟩:=pV I.hok e
  refine call_meetsIn PySem.F.slot_dict_get dd.typeIs PySem.F.entry_dict_get (PySem.F.args_dict_get_2 _ _) (meetsH_dict_get (tupleKind (bN X.prog X.w)) a b hd) ⟨tupleKind_room_in1 hu,k,xs,mV I.hok eb,dd,h _ _ (I.tok _) ?_⟩
  rw[l]
  exact(rel.val k).getD rfl
theorem Hr{Q:Value→Shared→Prop}(hu:A.units+1<cLine)(I:Inv X pins σ H s)(g:DGet H a y o)(ry:RelV y u)(rd:RelV d r)(h:∀ w' s',Inv X pins σ H s'→RelV (o.getD d) w'→Q w' s') :
  wpAny (model X.prog X.w) A (call (.builtin "dict.get") [.ref a,u,r]) Q E s:=by
 rcases g with ⟨kvs,k,e,ey,l⟩ | ⟨kvs,k,b,e,ey,eb,l⟩
 ·subst ey
  obtain⟨z,hd,vs,rel,dd⟩:=qG I.hok e
  refine call_meetsIn PySem.F.slot_dict_get dd.typeIs PySem.F.entry_dict_get (PySem.F.args_dict_get_3 _ _ _) (meets_dict_get_default (bN X.prog X.w) a (nF ry) hd r) ⟨_,dd.mapOf,h _ _ (I.tok _) ?_⟩
  rw[l]
  exact(rel.val k).getD rd
 ·subst ey
  cases (show u=Value.ref b from ry)
  obtain⟨z,hd,xs,rel,dd⟩:=pV I.hok e
  refine call_meetsIn PySem.F.slot_dict_get dd.typeIs PySem.F.entry_dict_get (PySem.F.args_dict_get_3 _ _ _) (meetsH_dict_get_default (tupleKind (bN X.prog X.w)) a b hd r) ⟨tupleKind_room_in1 hu,k,xs,mV I.hok eb,dd,h _ _ (I.tok _) ?_⟩
  rw[l]
  exact(rel.val k).getD rd
end
def GG(td ty:TE):TE:=fun σ H Q=>td σ H fun x H1=>∃ a,x=.ref a∧Kl H1 a∧ty σ H1 fun y H2=>∃ o,DGet H2 a y o∧Q (o.getD .non) H2
def Gx(td ty tx:TE):TE:=fun σ H Q=>td σ H fun x H1=>∃ a,x=.ref a∧Kl H1 a∧ty σ H1 fun y H2=>tx σ H2 fun z H3=>∃ o,DGet H3 a y o∧Q (o.getD z) H3
section
variable {X:Cx}{o e f:Expr}{apos cpos:Pos}{td ty tx:TE}
theorem Ca(hu:X.A.units+1<cLine)(ho:PE X o td)(he:PE X e ty)(m:M1 X o "get" apos e cpos):PE X (.Call (.Attribute o "get" apos) [e] [] cpos) (GG td ty):=by
 intro pins s σ H Q I h
 refine wpAny_Call_method m.base m.few m.line PySem.F.plainAttrs_dict PySem.F.slot_dict_get PySem.F.type_dict_get (bS (ho pins s σ H _ I h) fun u s1 ⟨x,H1,I1,rx,a,ex,d,q1⟩=>?_)
 subst ex
 obtain rfl:u=Value.ref a:=rx
 obtain⟨t1,t2,_⟩:=xE I1 d
 refine⟨t1,t2,?_⟩
 rw[m.trees]
 refine Calls.callWith_builtin rfl (Calls.evalArgs_plain (Calls.spliced_cons (bS (he pins s1 σ H1 _ I1 q1) fun iv s2 ⟨y,H2,I2,ry,ov,g,q2⟩=>Calls.spliced_nil ?_)))
 exact HW hu I2 g ry fun w' s3 I3 rw'=>⟨_,H2,I3,rw',q2⟩
theorem CW(hu:X.A.units+1<cLine)(ho:PE X o td)(he:PE X e ty)(hf:PE X f tx)(m:M2 X o "get" apos e f cpos):PE X (.Call (.Attribute o "get" apos) [e,f] [] cpos) (Gx td ty tx):=by
 intro pins s σ H Q I h
 refine wpAny_Call_method m.base m.few m.line PySem.F.plainAttrs_dict PySem.F.slot_dict_get PySem.F.type_dict_get (bS (ho pins s σ H _ I h) fun u s1 ⟨x,H1,I1,rx,a,ex,d,q1⟩=>?_)
 subst ex
 obtain rfl:u=Value.ref a:=rx
 obtain⟨t1,t2,_⟩:=xE I1 d
 refine⟨t1,t2,?_⟩
 rw[m.trees]
 refine Calls.callWith_builtin rfl (Calls.evalArgs_plain (Calls.spliced_cons (bS (he pins s1 σ H1 _ I1 q1) fun iv s2 ⟨y,H2,I2,ry,q2⟩ =>
  Calls.spliced_cons (bS (hf pins s2 σ H2 _ I2 q2) fun fv s3 ⟨z,H3,I3,rz,ov,g,q3⟩=>Calls.spliced_nil ?_))))
 exact Hr hu I3 g ry rz fun w' s4 I4 rw'=>⟨_,H3,I4,rw',q3⟩
end
section
variable {X:Cx}{pins:List (Addr×Obj)}{σ:St}{H:Hp}{s:Shared}{a:Addr}{kvs:List (bW×V)}{A:Around}{E:Value→Shared→Prop}
end
section
variable {X:Cx}{pins:List (Addr×Obj)}{σ:St}{H:Hp}{s:Shared}{a:Addr}{y:V}{u:Value}{A:Around}{E:Value→Shared→Prop}
end
def oZ(xs:List V)(f:Nat→Nat)(l:List Nat):List V:=l.filterMap fun m=>xs[f m]?
theorem kS{xs:List V}{us:List Value}(r:Vals xs us)(f:Nat→Nat):∀ l:List Nat,Vals (oZ xs f l) (l.filterMap fun m=>us[f m]?)
 | []=>.nil
 | m::l=>by
  have ih:=kS r f l
  unfold oZ at *
  rw[List.filterMap_cons,List.filterMap_cons]
  cases hx:xs[f m]? with
  | none =>
   have:us[f m]?=none:=by
    have h1:=r.length
    have h2:=List.getElem?_eq_none_iff.mp hx
    exact List.getElem?_eq_none (by omega)
   rw[this]
   exact ih
  | some x =>
   obtain⟨u,hu,ru⟩:=r.get hx
   rw[hu]
   exact .cons ru ih
theorem A8(xs:List V)(f:Nat→Nat)(l:List Nat):(oZ xs f l).length≤l.length:=List.length_filterMap_le _ _
section
variable {prog:Program}{w:World}{A:Around}{E:Value→Shared→Prop}{s:Shared}
theorem wH{sl:Addr}{vu vk:Value}{j n:Nat}{Q:Int×Int×Nat→Shared→Prop}(hs:s.heap.IsSliceOf sl .none vu vk)(pu:IsPart vu (some (j:Int)))(pk:IsPart vk (some 2))(hj:j≤n)
  (h:Q (0,2,(j+1) / 2) s):wpAny (model prog w) A (Builtin.Slice.sliceApplied (.ref sl) (pure (n:Int))) Q E s:=by
 obtain⟨os,hos,hcs,hds⟩:=id hs
 unfold Builtin.Slice.sliceApplied Builtin.Slice.sliceFields
 refine wpAny_bind (wpAny_bind (wpAny_field hos hds (x:=.none) rfl (wpAny_bind (wpAny_field hos hds (x:=vu) rfl (wpAny_bind (wpAny_field hos hds (x:=vk) rfl (wpAny_pure ?_)))))))
 refine wpAny_bind (HT.slicePart_ pk ?_)
 show wpAny _ _ (if ((2:Int) == 0)=true then _ else _) _ _ s
 rw[if_neg (by decide)]
 refine wpAny_bind (HT.slicePart_ .none (wpAny_bind (HT.slicePart_ pu (wpAny_bind (wpAny_pure ?_)))))
 show wpAny _ _ (match Builtin.Slice.sliceAdjust none (some (j:Int)) 2 (n:Int) with | (lo,hi)=>pure (lo,(2:Int),Builtin.Slice.slicePlaces lo hi 2)) _ _ s
 have e1:Builtin.Slice.sliceAdjust none (some (j:Int)) 2 (n:Int)=(0,(j:Int)):=by
  unfold Builtin.Slice.sliceAdjust
  have h1:¬ ((2:Int)<0):=by omega
  have h2:¬ ((j:Int)<0):=by omega
  simp only [if_neg h1,if_neg h2]
  congr 1
  omega
 rw[e1]
 show wpAny _ _ (pure ((0:Int),(2:Int),Builtin.Slice.slicePlaces 0 (j:Int) 2)) _ _ s
 have e2:Builtin.Slice.slicePlaces 0 (j:Int) 2=(j+1) / 2:=by
  unfold Builtin.Slice.slicePlaces
  rw[if_pos (by omega)]
  split <;> omega
 rw[e2]
 exact wpAny_pure h
theorem CI{t sl:Addr}{items:Array Value}{vu vk:Value}{j:Nat}{Q:Value→Shared→Prop}(ht:IsTup s.heap t items)(hs:s.heap.IsSliceOf sl .none vu vk)(pu:IsPart vu (some (j:Int)))(pk:IsPart vk (some 2))(hj:j≤items.size)
  (h:Q (.ref s.heap.objs.size) { s with heap:=s.heap.push { cls:=.type "tuple",data:=.seq ((List.range ((j+1) / 2)).filterMap fun m=>items.toList[2 * m]?).toArray } })
  (hsz:items.size≤sizeLine):wpAny (model prog w) A (getItem (.ref t) (.ref sl)) Q E s:=by
 have htake:sizeOk (.seq ((List.range ((j+1) / 2)).filterMap fun m=>items.toList[2 * m]?).toArray):=by
  show ((List.range ((j+1) / 2)).filterMap fun m=>items.toList[2 * m]?).toArray.size≤sizeLine
  rw[List.size_toArray]
  refine Nat.le_trans (List.length_filterMap_le _ _) ?_
  rw[List.length_range]
  omega
 obtain⟨os,hos,hcs,hds⟩:=id hs
 have hTs:s.TypeIs (.ref sl) "slice":=⟨os,hos,hcs⟩
 unfold getItem
 try with_reducible refine wpAny_holding ?_
 first | refine wpAny_bind (wpAny_pure ?_) | skip
 refine wpAny_bind (wpAny_sequenceKey ht.typeIs (by decide) ?_)
 refine wpAny_bind (wpAny_callSpecial?_slot (name:=Str.ofString "__getitem__") ht.typeIs PyProof.Rows.slot_tuple_getitem
  (wpAny_call_entry PyProof.Rows.slot_tuple_getitem ht.typeIs entry_tuple_getitem ?_ (args_tuple_getitem _ _)))
 show wpAny _ _ (Builtin.Tuple.tupleItemsOf (.ref t) >>= _) _ _ s
 refine wpAny_bind (tupleItemsOf_ ht ?_)
 refine wpAny_bind (wpAny_typeOf hTs ?_)
 rw[if_pos (by decide)]
 refine wpAny_bind (wH hs pu pk hj ?_)
 show wpAny _ _ (if ((0:Int) == 0 && (2:Int) == 1 && ((j+1) / 2) == items.size)=true then _ else _) _ _ s
 rw[if_neg (by simp)]
 have e:(fun (m:Nat)=>items[((0:Int)+(m:Int) * 2).toNat]?)=fun m=>items.toList[2 * m]?:=by
  funext m
  have:((0:Int)+(m:Int) * 2).toNat=2 * m:=by omega
  rw[this]
  simp
 rw[e]
 first
  | exact wpAny_bind (m:=Builtin.Tuple.tupleExact _) (wpAny_newObj_type (wpAny_pure ⟨_,rfl,wpAny_pure h⟩) htake)
  | exact wpAny_bind (m:=Builtin.Tuple.tupleExact _) (wpAny_newObj_type (wpAny_bind (wpAny_pure (wpAny_pure ⟨_,rfl,wpAny_pure h⟩))) htake)
  | exact wpAny_bind (wpAny_bind (m:=Builtin.Tuple.tupleExact _) (wpAny_newObj_type (wpAny_pure (wpAny_pure ⟨_,rfl,wpAny_pure h⟩)) htake))
  | exact wpAny_bind (wpAny_bind (m:=Builtin.Tuple.tupleExact _) (wpAny_newObj_type (wpAny_pure ⟨_,rfl,wpAny_pure h⟩) htake))
end
def KM(K:PySem.W.Frag):V→Option Int→Option Int→Option Int→Hp→VK→Prop:=fun x lo hi st H Q=>∃ (a:Addr) (xs:List V) (j:Nat),x=.ref a∧SqT K H a xs∧lo=none∧hi=some (j:Int)∧st=some 2∧j≤xs.length∧∀ p,H p=none→Q (.ref p) (upd H p (.tup (oZ xs (2 * ·) (List.range ((j+1) / 2)))))
theorem B9{X:Cx}{K:PySem.W.Frag}(hK:X.K=K):Hq X (KM K):=by
 subst hK
 intro pins s σ H x v vl vu vk lo hi st sl Q I rx hs pl pu pk h
 obtain⟨a,xs,j,rfl,hx,rfl,rfl,rfl,hj,q⟩:=h
 cases rx
 cases pl
 obtain⟨its,r,ht,hz⟩:=I.tuple hx
 have hlen:=r.length
 refine⟨"tuple",_,PyProof.Rows.slot_tuple_getitem.lookup,ht.typeIs,?_⟩
 refine CI ht hs pu pk (by rw[List.size_toArray];omega) ?_ (by rw[List.size_toArray];omega)
 have rv:=kS r (2 * ·) (List.range ((j+1) / 2))
 have pl:=A8 xs (2 * ·) (List.range ((j+1) / 2))
 rw[List.length_range] at pl
 refine⟨.ref s.heap.objs.size,_,I.laid (t':=s.toks) (o:=.tup (oZ xs (2 * ·) (List.range ((j+1) / 2)))) (fun b ob q=>Heap.get?_push_of_some _ q) (Nat.le_refl _) ?_,rfl,q _ (I.hok.fresh (Nat.le_refl _))⟩
 refine⟨by omega,_,rv,?_⟩
 exact⟨IsTup.new _ _,NoD.new _ _⟩
end L2
namespace Lw
open PySem PySem.Spec PyProof.Rows L2 Ma MaR
def bV(rs:List (List Nat)):List V:=rs.map fun x=>V.str (S x)
theorem bI(rs:List (List Nat)):(bV rs).length=rs.length:=by unfold bV;rw[List.length_map]
theorem dZ{rs:List (List Nat)}{i:Nat}{v:V}(h:(bV rs)[i]?=some v):∃ x,rs[i]?=some x∧v=.str (S x):=by
 unfold bV at h
 rw[List.getElem?_map] at h
 cases hq:rs[i]? with
 | none=>rw[hq] at h;cases h
 | some x=>rw[hq] at h;exact⟨x,rfl,(Option.some.inj h).symm⟩
theorem HP{rs:List (List Nat)}{i:Nat}{x:List Nat}(h:rs[i]?=some x):(bV rs)[i]?=some (.str (S x)):=by unfold bV;rw[List.getElem?_map,h];rfl
structure RT(rs:List (List Nat))(n M:Nat):Prop where
 len:rs.length=n
 all:∀ x∈rs,AllL x
 le:∀ x∈rs,x.length≤M
def tell(rs:List (List Nat))(c:Nat):List Nat:=if bK c=true then rs.getD (c - 97) [] else back (rs.getD (c - 65) [])
def told(rs:List (List Nat))(w:List Nat):List Nat:=w.flatMap (tell rs)
def retl(rs:List (List Nat))(w:List Nat):List Nat:=lay (told rs w)
theorem kW{rs:List (List Nat)}{P:List Nat→Prop}(h0:P [])(h:∀ x∈rs,P x)(i:Nat):P (rs.getD i []):=by
 rw[List.getD_eq_getElem?_getD]
 cases hq:rs[i]? with
 | none=>exact h0
 | some x=>exact h x (List.mem_of_getElem? hq)
section
variable {rs:List (List Nat)}{n M:Nat}
theorem RT.getA(r:RT rs n M)(i:Nat):AllL (rs.getD i []):=kW AllL.nil r.all i
theorem RT.getL(r:RT rs n M)(i:Nat):(rs.getD i []).length≤M:=kW (P:=fun x=>x.length≤M) (Nat.zero_le _) r.le i
theorem lN(r:RT rs n M)(c:Nat):AllL (tell rs c):=by
 unfold tell
 split
 ·exact r.getA _
 ·exact eM (r.getA _)
theorem wA(r:RT rs n M)(c:Nat):(tell rs c).length≤M:=by
 unfold tell
 split
 ·exact r.getL _
 ·rw[lF];exact r.getL _
theorem uJ(r:RT rs n M){c:Nat}(h:bU c):tell rs (con c)=back (tell rs c):=by
 have hc:(bK c=true∧bK (con c)=false∧con c - 65=c - 97)∨(bK c=false∧bK (con c)=true∧con c - 97=c - 65):=by
  rcases aV h with rfl | rfl | rfl | rfl | rfl | rfl | rfl | rfl <;> decide
 unfold tell
 rcases hc with ⟨h1,h2,h3⟩ | ⟨h1,h2,h3⟩
 ·rw[if_pos h1,if_neg (by rw[h2];decide),h3]
 ·rw[if_pos h2,if_neg (c:=bK c=true) (by rw[h1];decide),h3,mX (r.getA _)]
theorem gU(u v:List Nat):told rs (u++v)=told rs u++told rs v:=by unfold told;rw[List.flatMap_append]
theorem dF(c:Nat)(w:List Nat):told rs (c::w)=tell rs c++told rs w:=by unfold told;rw[List.flatMap_cons]
theorem vD:told rs []=[]:=rfl
theorem dQ(r:RT rs n M)(w:List Nat):AllL (told rs w):=by
 induction w with
 | nil=>exact AllL.nil
 | cons c w ih=>rw[dF];exact AllL.app.mpr ⟨lN r c,ih⟩
theorem lS(r:RT rs n M)(w:List Nat):(told rs w).length≤w.length * M:=by
 induction w with
 | nil=>simp[told]
 | cons c w ih =>
  rw[dF,List.length_append,List.length_cons,Nat.succ_mul]
  have:=wA r c
  omega
theorem dY(r:RT rs n M)(w:List Nat):AllL (retl rs w):=jM (dQ r w)
theorem kU(r:RT rs n M)(w:List Nat):(retl rs w).length≤w.length * M:=Nat.le_trans (tG _) (lS r w)
theorem Bh(r:RT rs n M){w:List Nat}(h:AllL w):told rs (back w)=back (told rs w):=by
 induction w with
 | nil=>rfl
 | cons c w ih =>
  obtain⟨hc,hw⟩:=AllL.cons.mp h
  have e:back (c::w)=back w++[con c]:=by unfold back;simp
  rw[e,gU,ih hw,dF c w,fO,dF,vD,List.append_nil,uJ r hc]
theorem Cf(r:RT rs n M):∀ (k:Nat) (w:List Nat),w.length=k→AllL w→lay (told rs (lay w))=lay (told rs w):=by
 intro k
 induction k using Nat.strongRecOn with
 | ind k ih =>
  intro w hk hw
  by_cases hp:∀ j,¬ Ir w j
  ·rw[eN (fT hp)]
  ·obtain⟨j,hj⟩:∃ j,Ir w j:=Classical.byContradiction fun c=>hp fun j hj=>c ⟨j,hj⟩
   obtain⟨a,b,e,hab,hl⟩:=sE hj
   have e1:=ET hw hj
   generalize hu:w.take j=u at *
   generalize hv:w.drop (j+2)=v at *
   have hw':AllL (u++a::b::v):=by rw[← e];exact hw
   obtain⟨ha1,ha2⟩:=AllL.app.mp hw'
   obtain⟨_,ha3⟩:=AllL.cons.mp ha2
   obtain⟨hb,ha4⟩:=AllL.cons.mp ha3
   have huv:AllL (u++v):=AllL.app.mpr ⟨ha1,ha4⟩
   have hlen:(u++v).length<k:=by
    rw[← hk,e,List.length_append,List.length_append,List.length_cons,List.length_cons];omega
   have q:=ih _ hlen (u++v) rfl huv
   rw[← e1,q,e,gU,gU,dF,dF,hab,uJ r hb]
   have e9:told rs u++(back (tell rs b)++(tell rs b++told rs v))=told rs u++(back (tell rs b)++tell rs b)++told rs v:=by simp[List.append_assoc]
   rw[e9,← uG _ _ _ (dQ r u) (AllL.app.mpr ⟨eM (lN r b),lN r b⟩) (dQ r v),uL (lN r b),List.append_nil]
theorem uU(r:RT rs n M){w:List Nat}(hw:AllL w):retl rs (lay w)=retl rs w:=Cf r _ w rfl hw
theorem rR(r:RT rs n M){w:List Nat}(hw:AllL w):retl rs (back w)=back (retl rs w):=by unfold retl;rw[Bh r hw,Cm (dQ r w)]
theorem vV(r:RT rs n M){u v:List Nat}:retl rs (u++v)=lay (retl rs u++retl rs v):=by
 unfold retl
 rw[fU _ _ (dQ r u),fK _ _ (dQ r u) (dQ r v),gU]
end
def cP(n:Nat):List Nat:=[97,98,99,100].take n
def cK(n:Nat):List (List Nat):=(cP n).map fun c=>[c]
theorem Bk{n:Nat}(h1:1≤n)(h4:n≤4):n=1∨n=2∨n=3∨n=4:=by omega
theorem gC{n:Nat}(h1:1≤n)(h4:n≤4):RT (cK n) n 1:=by
 refine⟨?_,?_,?_⟩
 ·rcases Bk h1 h4 with rfl | rfl | rfl | rfl <;> rfl
 ·intro x hx
  obtain⟨c,hc,rfl⟩:=List.mem_map.mp hx
  intro d hd
  rw[List.mem_singleton.mp hd]
  have:c∈[97,98,99,100]:=List.mem_of_mem_take hc
  simp only [List.mem_cons,List.not_mem_nil,or_false] at this
  unfold bU
  omega
 ·intro x hx
  obtain⟨c,_,rfl⟩:=List.mem_map.mp hx
  exact Nat.le_refl _
theorem AY{n:Nat}(h1:1≤n)(h4:n≤4){c:Nat}(h:c∈aQ n):tell (cK n) c=[c]:=by
 have hL:=aV (aK h)
 rcases Bk h1 h4 with rfl | rfl | rfl | rfl <;> rcases hL with rfl | rfl | rfl | rfl | rfl | rfl | rfl | rfl <;> revert h <;> decide
theorem Bb{n:Nat}(h1:1≤n)(h4:n≤4){w:List Nat}(h:OfN n w):told (cK n) w=w:=by
 induction w with
 | nil=>rfl
 | cons c w ih=>rw[dF,AY h1 h4 (h c List.mem_cons_self),ih fun d hd=>h d (List.mem_cons_of_mem _ hd)];rfl
theorem rO{n:Nat}(h1:1≤n)(h4:n≤4){w:List Nat}(h:OfN n w)(hp:bC w):retl (cK n) w=w:=by unfold retl;rw[Bb h1 h4 h,eN hp]
def dX(f s:List (List Nat)):List (List Nat):=f.map (retl s)
theorem sA(f s:List (List Nat))(i:Nat):(dX f s).getD i []=retl s (f.getD i []):=by
 unfold dX
 rw[List.getD_eq_getElem?_getD,List.getD_eq_getElem?_getD,List.getElem?_map]
 cases f[i]? <;> rfl
theorem Bl{f s:List (List Nat)}{n m M L:Nat}(hf:RT f n M)(hs:RT s m L)(c:Nat):tell (dX f s) c=lay (told s (tell f c)):=by
 unfold tell
 split
 ·rw[sA];rfl
 ·rw[sA,← rR hs (hf.getA _)];rfl
theorem wI{g:Nat→List Nat}:∀ (w:List Nat),(∀ c,AllL (g c))→lay (w.flatMap fun c=>lay (g c))=lay (w.flatMap g)
 | [],_=>rfl
 | c::w,h=>by
  have ih:=wI w h
  have ha:∀ w:List Nat,AllL (w.flatMap g):=fun w d hd=>by
   obtain⟨c,_,hc⟩:=List.mem_flatMap.mp hd
   exact h c d hc
  have hb:∀ w:List Nat,AllL (w.flatMap fun c=>lay (g c)):=fun w d hd=>by
   obtain⟨c,_,hc⟩:=List.mem_flatMap.mp hd
   exact jM (h c) d hc
  rw[List.flatMap_cons,List.flatMap_cons,fU _ _ (h c),← fK _ _ (h c) (hb w),ih,fK _ _ (h c) (ha w)]
theorem Bv(f s:List (List Nat))(w:List Nat):(w.flatMap fun c=>told s (tell f c))=told s (told f w):=by
 induction w with
 | nil=>rfl
 | cons c w ih=>rw[List.flatMap_cons,dF,gU,ih]
theorem rD{f s:List (List Nat)}{n m M L:Nat}(hf:RT f n M)(hs:RT s m L)(w:List Nat):retl (dX f s) w=retl s (retl f w):=by
 rw[show retl f w=lay (told f w) from rfl,uU hs (dQ hf w)]
 unfold retl
 rw[← Bv,← wI w fun c=>dQ hs _]
 congr 1
 unfold told
 congr 1
 funext c
 exact Bl hf hs c
theorem yW{f s:List (List Nat)}{n m M L:Nat}(hf:RT f n M)(hs:RT s m L):RT (dX f s) n (M * L):=by
 refine⟨by unfold dX;rw[List.length_map];exact hf.len,fun x hx=>?_,fun x hx=>?_⟩
 ·obtain⟨y,_,rfl⟩:=List.mem_map.mp hx
  exact dY hs y
 ·obtain⟨y,hy,rfl⟩:=List.mem_map.mp hx
  exact Nat.le_trans (kU hs y) (Nat.mul_le_mul_right _ (hf.le y hy))
theorem _root_.L2.SqT.same{K:PySem.W.Frag}{H H':Hp}{a:Addr}{xs:List V}(s:Same H H')(h:SqT K H a xs):SqT K H' a xs:=by
 rcases h with (h | ⟨o,h⟩) | h
 ·exact .inl (.inl (s _ _ h))
 ·exact .inl (.inr ⟨o,s _ _ h⟩)
 ·exact .inr h
theorem SqT.new{K:PySem.W.Frag}{H:Hp}{a p:Addr}{xs:List V}{o:HO}(h:SqT K H a xs)(hp:H p=none):SqT K (upd H p o) a xs:=h.same (Same.new hp)
def gB:Sp:=fun vs H Q _=>∃ n:Nat,vs=[.int (n:Nat)]∧1≤n∧n≤4∧∀ (p:Addr) (H':Hp),H p=none→Same H H'→H' p=some (.tup (bV (cK n)))→Q (.ref p) H'
def Li(kvs:List (bW×V))(rs:List (List Nat)):Prop:=∀ c,c∈aQ rs.length→cF kvs (.inr (S [c]))=some (.str (S (tell rs c)))
def Fp(K:PySem.W.Frag):Sp:=fun vs H Q _=>∃ (a:Addr) (rs:List (List Nat)) (n M:Nat),vs=[.ref a]∧SqT K H a (bV rs)∧RT rs n M∧1≤n∧n≤4∧M≤1000∧∀ (p:Addr) (kvs:List (bW×V)) (H':Hp),H p=none→Same H H'→H' p=some (.dK kvs)→Li kvs rs→Q (.ref p) H'
def iZ(K:PySem.W.Frag):Sp:=fun vs H Q _=>∃ (a:Addr) (rs:List (List Nat)) (n M:Nat) (w:List Nat),vs=[.ref a,.str (S w)]∧SqT K H a (bV rs)∧RT rs n M∧1≤n∧n≤4∧M≤1000∧OfN n w∧w.length≤60000∧w.length * M≤60000∧∀ H',Same H H'→Q (.str (S (retl rs w))) H'
def CY(K:PySem.W.Frag):Sp:=fun vs H Q _=>∃ (a b:Addr) (f s:List (List Nat)) (n M L:Nat),vs=[.ref a,.ref b]∧SqT K H a (bV f)∧SqT K H b (bV s)∧RT f n M∧RT s n L∧(∀ x∈f,OfN n x)∧1≤n∧n≤4∧M≤1000∧L≤1000∧M * L≤9000∧∀ (p:Addr) (H':Hp),H p=none→Same H H'→H' p=some (.tup (bV (dX f s)))→Q (.ref p) H'
def letV:List V:=aX lets
theorem vC:letV.length=8:=rfl
theorem En{xs:List V}{i:Array Value}(h:Vals xs i.toList)(hl:xs.length≤1000):i.size≤sizeLine:=by
 have h2:xs.length=i.toList.length:=h.length
 have h3:i.toList.length=i.size:=Array.length_toList
 exact aI (by omega)
theorem AW{n:Nat}(h1:1≤n)(h4:n≤4):oZ letV (2 * ·) (List.range ((2 * n+1) / 2))=bV (cK n):=by
 rcases Bk h1 h4 with rfl | rfl | rfl | rfl <;> rfl
def EK(kvs:List (bW×V))(rs:List (List Nat))(i:Nat):Prop:=∀ j,j<i→cF kvs (.inr (S [97+j]))=some (.str (S (tell rs (97+j))))∧cF kvs (.inr (S [65+j]))=some (.str (S (tell rs (65+j))))
theorem Hv(a b:Nat):((Sum.inr (S [a]):bW)=Sum.inr (S [b]))↔a=b:=by
 constructor
 ·intro h
  have:=uT (Sum.inr.inj h)
  simpa using this
 ·rintro rfl;rfl
theorem Ef{rs:List (List Nat)}{kvs:List (bW×V)}{i:Nat}{r:List Nat}(hi:rs[i]?=some r)(hi4:i<4)(h:EK kvs rs i) :
  EK (dR (dR kvs (.inr (S [97+i])) (.str (S r))) (.inr (S [con (97+i)])) (.str (S (back r)))) rs (i+1):=by
 have ec:con (97+i)=65+i:=by unfold con;rw[if_pos (by omega)];omega
 have e1:tell rs (97+i)=r:=by
  unfold tell
  rw[if_pos (by unfold bK;exact decide_eq_true (by omega)),show 97+i - 97=i by omega,List.getD_eq_getElem?_getD,hi];rfl
 have e2:tell rs (65+i)=back r:=by
  unfold tell
  rw[if_neg (by unfold bK;simp;omega),show 65+i - 65=i by omega,List.getD_eq_getElem?_getD,hi];rfl
 intro j hj
 rw[fF,fF,fF,fF,ec]
 simp only [Hv]
 by_cases c:j=i
 ·subst c
  rw[if_neg (by omega),if_pos rfl,if_pos rfl,e1,e2]
  exact⟨rfl,rfl⟩
 ·rw[if_neg (by omega),if_neg (by omega),if_neg (by omega),if_neg (by omega)]
  exact h j (by omega)
theorem Ec{rs:List (List Nat)}{kvs:List (bW×V)}{n:Nat}(hl:rs.length=n)(h1:1≤n)(h4:n≤4)(h:EK kvs rs n):Li kvs rs:=by
 intro c hc
 rw[hl] at hc
 have hd:(c - 97<n∧97≤c)∨(c - 65<n∧c<97∧65≤c):=by
  have hL:=aV (aK hc)
  rcases Bk h1 h4 with rfl | rfl | rfl | rfl <;> rcases hL with rfl | rfl | rfl | rfl | rfl | rfl | rfl | rfl <;> revert hc <;> decide
 rcases hd with ⟨h2,h3⟩ | ⟨h2,h3,h5⟩
 ·have:=(h (c - 97) h2).1
  rw[show 97+(c - 97)=c by omega] at this
  exact this
 ·have:=(h (c - 65) h2).2
  rw[show 65+(c - 65)=c by omega] at this
  exact this
theorem lD{n i:Nat}(h4:n≤4){v:V}(h:(bV (cK n))[i]?=some v):v=.str (S [97+i])∧i<n:=by
 have hi:i<n:=by
  have:=(List.getElem?_eq_some_iff.mp h).1
  rw[bI] at this
  unfold cK cP at this
  rw[List.length_map,List.length_take] at this
  omega
 obtain⟨x,hx,rfl⟩:=dZ h
 unfold cK cP at hx
 rw[List.getElem?_map,List.getElem?_take_of_lt hi] at hx
 have:i=0∨i=1∨i=2∨i=3:=by omega
 rcases this with rfl | rfl | rfl | rfl <;> (cases hx;exact⟨rfl,hi⟩)
theorem CO:(Str.ofString "abcd":Str)=S [97,98,99,100]:=by decide +kernel
theorem yR{c:Nat}(h:bU c):(Builtin.Str.occurrences (Str.ofString "abcd") (S [lo c]) 0 (Str.ofString "abcd").length 1).isEmpty=false∧Txt.find (Str.ofString "abcd") (S [lo c])=((lo c - 97:Nat):Int):=by
 rcases aV h with rfl | rfl | rfl | rfl | rfl | rfl | rfl | rfl <;> exact⟨by decide +kernel,by decide +kernel⟩
theorem Jc{n c:Nat}(h:c∈aQ n){l:Nat}(hl:l=n)(h1:1≤n)(h4:n≤4):lo c - 97<l:=by
 subst hl
 have hL:=aV (aK h)
 rcases Bk h1 h4 with rfl | rfl | rfl | rfl <;> rcases hL with rfl | rfl | rfl | rfl | rfl | rfl | rfl | rfl <;> revert h <;> decide
theorem BS{rs:List (List Nat)}{n:Nat}(h1:1≤n)(h4:n≤4)(h:∀ x∈rs,OfN n x)(c:Nat):OfN n (tell rs c):=by
 unfold tell
 split
 ·exact kW (P:=OfN n) OfN.nil h _
 ·exact(kW (P:=OfN n) OfN.nil h _).back (by omega) (by omega)
theorem qT{rs:List (List Nat)}{n:Nat}(h1:1≤n)(h4:n≤4)(h:∀ x∈rs,OfN n x)(w:List Nat):OfN n (retl rs w):=by
 refine OfN.lay ?_
 intro d hd
 obtain⟨c,_,hc⟩:=List.mem_flatMap.mp hd
 exact BS h1 h4 h c d hc
theorem Dn{f s:List (List Nat)}{n:Nat}(h1:1≤n)(h4:n≤4)(h:∀ x∈s,OfN n x):∀ x∈dX f s,OfN n x:=by
 intro x hx
 obtain⟨y,_,rfl⟩:=List.mem_map.mp hx
 exact qT h1 h4 h y
theorem tI{n:Nat}(h1:1≤n)(h4:n≤4):∀ x∈cK n,OfN n x:=by
 intro x hx c hc
 obtain⟨d,hd,rfl⟩:=List.mem_map.mp hx
 rw[List.mem_singleton.mp hc]
 rcases Bk h1 h4 with rfl | rfl | rfl | rfl <;> (unfold cP at hd;simp at hd;revert hd;first | (rintro rfl;decide) | (rintro(rfl | rfl) <;> decide) | (rintro(rfl | rfl | rfl) <;> decide) | (rintro(rfl | rfl | rfl | rfl) <;> decide))
theorem jG{fl sc p:Addr}{H H':Hp}{xs:List V}(f:IsFl H fl sc)(k:Kp fl H H')(h:H p=some (.tup xs)):H' p=some (.tup xs):=by
 obtain⟨ns,i,x,b,c,h1,_⟩:=f
 exact k _ _ h fun e=>by rw[e,h1] at h;cases h
end Lw
namespace PySem
section
variable {prog:Program}{w:World}{A:Around}{R:Result→Shared→Prop}{s:Shared}
theorem vM{elt target iter:Expr}{ifs:List Expr}{scope:Scope}{pos:Pos}{it acc:Value}{env:Env}(I:Nat→Shared→Prop)
  (turn:∀ n s,I n s→wpAny (model prog w) A (pyNext it) (fun r s₁=>match r with
   | none=>R (.ok .next) s₁
   | some v=>wpAny (model prog w) A (letOwnedTupleGo target it v) (fun _ s₂=>wpAny (model prog w) A (assign target env v) (fun _ s₂ =>
     wpAny (model prog w) A (forIn ifs true fun c r=>if r=true then do let ok ← isTrue c env (eval c env);pure (ForInStep.yield ok) else pure (ForInStep.yield r)) (fun ok s₃ =>
      if ok=true then wpAny (model prog w) A (eval elt env) (fun x s₄=>wpAny (model prog w) A (call (.builtin "list.append") [acc,x]) (fun _ s₅=>∃ m,m<n∧I m s₅) (fun _ _=>False) s₄) (fun _ _=>False) s₃
      else ∃ m,m<n∧I m s₃) (fun _ _=>False) s₂) (fun _ _=>False) s₂) (fun _ _=>False) s₁) (fun _ _=>False) s)
  (n:Nat) (h:I n s):codeAny (model prog w) A (.compLoop (.ListComp elt [⟨target,iter,ifs,0⟩] scope pos) 0 it acc env) R s:=by
 refine codeAny_loop rfl I (fun n s hI=>?_) n h
 show wpAny _ A ((compTurn (.ListComp elt [⟨target,iter,ifs,0⟩] scope pos) 0 it acc env).onRaise (fun x=>do noteFrame x env;theTreesLotGoes x)) _ _ s
 refine wpAny_noted ?_
 rw[compTurn_list]
 refine wpAny_bind (wpAny_standAt (wpAny_bind (wpAny_mono (turn n s hI) (fun r s₁ h₁=>?_) fun _ _ f=>f.elim)))
 cases r with
 | none=>exact wpAny_pure h₁
 | some v =>
  refine wpAny_bind (wpAny_mono h₁ (fun _ s₁ h₁=>?_) fun _ _ f=>f.elim)
  refine wpAny_bind (wpAny_mono h₁ (fun _ s₂ h₂=>wpAny_bind (wpAny_mono h₂ (fun ok s₃ h₃=>?_) fun _ _ f=>f.elim)) fun _ _ f=>f.elim)
  cases ok with
  | false=>exact wpAny_pure ⟨rfl,h₃⟩
  | true=>exact wpAny_bind (wpAny_bind (wpAny_mono h₃ (fun x s₄ h₄=>wpAny_bind (wpAny_mono h₄ (fun _ s₅ h₅=>wpAny_pure (wpAny_pure ⟨rfl,h₅⟩)) fun _ _ f=>f.elim)) fun _ _ f=>f.elim))
end
end PySem
namespace L2
open PySem PySem.Spec PyProof.Rows
def pA(X:Cx)(x y:Str)(ix:List Nat):List Str:=x::y::ix.map fun i=>X.N.getD i ""
def bR(X:Cx)(scope:Scope)(x y:Str)(ix:List Nat)(ex:List Addr)(s:Shared)(H:Hp):Cx:={ bX X scope x ix ex s H with N:=pA X x y ix }
section
variable {X:Cx}{scope:Scope}{x y:Str}{ix:List Nat}
theorem EM{σ:St}{H H':Hp}{s s':Shared}{fp:List Addr}(J:Inv (bX X scope x ix fp s H) [] (qR σ ix) H' s'):Inv (bR X scope x y ix fp s H) [] (none::none::lP σ ix) H' s':=by
 refine⟨⟨J.ok.mod,J.ok.kind,J.ok.glob,J.ok.blt,J.ok.above,J.ok.inj,J.ok.has,J.ok.cab,J.ok.hd,J.ok.frames,J.ok.stk,J.ok.exf,J.ok.bs,J.ok.bsz,J.ok.noex,J.ok.exfs,J.ok.funs,J.ok.frf⟩,J.os,J.bare,J.base,?_,J.cell,J.free,J.freeC,J.pin,J.hok,?_⟩
 ·obtain⟨m,hn,hl⟩:=J.loc
  refine⟨m,hn,fun i z v h1 h2 h3=>?_⟩
  cases i with
  | zero=>simp at h2
  | succ i =>
   cases i with
   | zero=>simp at h2
   | succ i=>exact hl (i+1) z v (by simpa [bX,nP,bR,pA] using h1) (by simpa [qR,lP] using h2) h3
 ·simp[bR,pA,lP]
theorem A6{pins:List (Addr×Obj)}{σ σ':St}{H H':Hp}{s s':Shared}{fp:List Addr}{h'':Heap}(I:Inv X pins σ H s)(hf:∀ b∈fp,fV X pins H b)(J:Inv (bR X scope x y ix fp s H) [] σ' H' s')
  (sb:Heap.SameBut s.heap.objs.size s'.heap h''):Inv X pins σ H' { s' with heap:=h'' }:=by
 have neC:∀ b o,s.heap.get? b=some o→b≠s.heap.objs.size:=fun b o e=>Nat.ne_of_lt (Heap.lt_size e)
 have B:Un (Bf X.stack) fp H H' s.heap s'.heap:=J.base
 have hC:H' s.heap.objs.size=none:=J.free
 refine I.call' (ch:=fp) J.os ?_ ?_ J.bare fun b hb=>⟨(hf b hb).2.2.2.1,(hf b hb).2.1,(hf b hb).2.2.2.2.1,(hf b hb).2.2.2.2.2⟩
 ·refine⟨fun b o e n hb hx=>(sb.2 b (neC b o e)).trans (B.keep b o e n hb hx),fun b o e n hb hx=>?_,B.free,fun b o e hx=>?_,B.tups,B.frzs,B.tbls⟩
  ·obtain⟨sl,q⟩:=B.slot b o e n hb hx
   exact⟨sl,(sb.2 b (neC b o e)).trans q⟩
  ·obtain⟨o',q⟩:=B.there b o e hx
   exact⟨o',(sb.2 b (neC b o e)).trans q⟩
 ·intro b ob e
  refine(J.hok b ob e).stay (fun c w' hc q=>(sb.2 c ?_).trans q) (fun _ q=>q) fun _ _ q=>q
  rintro rfl
  rcases hc with hc | hc
  ·rw[← hc,hC] at e;cases e
  ·rw[hC] at hc;cases hc
end
def uE(K:PySem.W.Frag)(J:It)(D:Addr)(Q:VK)(ti:TT)(te:TE)(c:St)(H0:Hp):Prop :=
 ∃ W:Nat→Nat→Hp→Prop,(∃ m,W 0 m H0)∧∀ i m H,W i m H →
  (J.stop i H∧Q (.ref D) H)∨(J.go i H∧∃ N:Hp→Prop,(∀ H',N H'→∃ m',m' < m∧W (i+1) m' H')∧∀ v H',J.yld i H v H'→∃ p a b,v=.ref p∧SqT K H' p [a,b] ∧
   ti (some a::some b::c) H' fun t H2=>if t=true then te (some a::some b::c) H2 fun y H3=>∃ ys,H3 D=some (.lst ys)∧ys.length<sizeLine∧N (upd H3 D (.lst (ys++[y]))) else N H2)
def CG(K:PySem.W.Frag)(wi:TI)(ix:List Nat)(ti:TT)(te:TE):TE:=fun σ H Q=>wi σ H fun J H1=>∀ D,H1 D=none→uE K J D Q ti te (lP σ ix) (upd H1 D (.lst []))
section
variable {X:Cx}{scope:Scope}{x y:Str}{px py tp pos:Pos}{k1:Nat}{ix:List Nat}{elt iter:Expr}{ifs:List Expr}{wi:TI}{ti:TT}{te:TE}
theorem uQ{pins:List (Addr×Obj)}{σ:St}{H:Hp}{s:Shared}{fp:List Addr}{it D:Addr}{tn:Nat→Heap→Prop}{J:It}{Q:VK}{E:Value→Shared→Prop}{RR:Result→Shared→Prop}(S:CompSc X scope x ix)(hy:scope.names.lookup y=some .local)(hc:X.calm=true)
  (he:∀ s H,PE (bR X scope x y ix fp s H) elt te) (hi:∀ s H,qX (bR X scope x y ix fp s H) ifs ti)
  (I:Inv X pins σ H s) (T:Turn X.prog X.w X.K (.Tuple [.Name x px,.Name y py] k1 tp) J fp it tn) (st:tn 0 s.heap) (hf:∀ b∈fp,fV X pins H b) (go:uE X.K J D Q ti te (lP σ ix) H)
  (nd:(pA X x y ix).Nodup)
  (hR:∀ σ' H' s',Inv (bR X scope x y ix fp s H) [] σ' H' s'→Q (.ref D) H'→RR (.ok .next) s') :
  wpAny (model X.prog X.w) X.A (newFunctionEnv scope X.env.globals (AU scope.names X.env.cells) [] X.env.qual none .none (some X.env)) (fun cenv s₄=>cenv.locals=s.heap.objs.size ∧
   codeAny (model X.prog X.w) X.A (.compStart (.ListComp elt [⟨.Tuple [.Name x px,.Name y py] k1 tp,iter,ifs,0⟩] scope pos) 0 (.ref it) (.ref D) { cenv with scope:=relabel scope X.env }) RR s₄) E s:=by
 refine wpAny_newFunctionEnv S.nocell (by intro y hy;simp at hy) (fun h' ns sb=>⟨rfl,?_⟩) S.kind
 have hlt:∀ b∈fp,b<s.heap.objs.size:=fun b hb=>by
  obtain⟨o,e,_⟩:=T.obj 0 _ st b hb
  exact Heap.lt_size e
 have I0:Inv (bR X scope x y ix fp s H) [] (none::none::lP σ ix) H { s with heap:=h',toks:=s.toks+([]:List (Str×Value)).length }:=EM (vY S I hf hlt ns sb)
 have st0:tn 0 h':=T.keep 0 _ _ st fun b hb o e=>(sb.2 b (Nat.ne_of_lt (Heap.lt_size e))).trans (Heap.get?_push_of_some _ e)
 obtain⟨W,⟨m0,w0⟩,turn⟩:=go
 have stat:∀ {H':Hp},(∀ b∈fp,H' b=none)→∀ b∈fp,fV (bR X scope x y ix fp s H) [] H' b:=fun hn b hb=>by
  refine⟨hn b hb,Nat.ne_of_lt (hlt b hb),fun z=>?_,.inl hb,fun y c e=>(I0.ok.exf b hb).2 y c e,fun p hp=>absurd (show p∈([]:List (Addr×Obj)) from hp) (by simp)⟩
  exact I0.ok.exfs b hb z
 have loop:codeAny (model X.prog X.w) X.A (.compLoop (.ListComp elt [⟨.Tuple [.Name x px,.Name y py] k1 tp,iter,ifs,0⟩] scope pos) 0 (.ref it) (.ref D) (bR X scope x y ix fp s H).env) RR { s with heap:=h',toks:=s.toks+([]:List (Str×Value)).length }:=by
  refine vM (fun n s'=>∃ i o o' H',Inv (bR X scope x y ix fp s H) [] (o::o'::lP σ ix) H' s'∧tn i s'.heap∧(∀ b∈fp,H' b=none)∧W i n H') ?_ m0 ⟨0,none,none,H,I0,st0,fun b hb=>(hf b hb).1,w0⟩
  rintro n s3 ⟨i,o3,o3',H3,I3,st3,fr3,w3⟩
  rcases turn i n H3 w3 with ⟨stop,qn⟩ | ⟨gone,N,hN,step⟩
  ·refine bS (T.done (bR X scope x y ix fp s H) rfl rfl rfl hc i [] s3 _ H3 _ I3 (stat fr3) st3 stop) fun r s4 ⟨hr,I4⟩=>?_
   subst hr
   exact hR _ H3 s4 I4 qn
  ·refine bS (T.item (bR X scope x y ix fp s H) rfl rfl rfl hc i [] s3 _ H3 (fun _ _=>False) I3 (stat fr3) st3 gone) fun r s4 ⟨u,hr,h4⟩=>?_
   subst hr
   refine bS h4 fun _ s5 ⟨v5,H5,I5,r5,y5,st5,fr5⟩=>?_
   obtain⟨p,a,b,rfl,hq,hstep⟩:=step v5 H5 y5
   cases r5
   have I5':=I5.pinned (stat fr5) (T.obj _ _ st5)
   obtain⟨its,rv,ht,hz⟩:=I5'.tuple hq
   obtain⟨ua,ub,rfl,ra,rb⟩:=Ao rv
   refine assign_Tuple_tuple (I5'.ok.hd hc) ht (by rfl) (by rfl) fun h6 hx6=>?_
   have I6:=I5'.kept (h':=h6) (t':=s5.toks) fun b o e=>hx6 b o (Nat.ne_of_lt (Heap.lt_size e)) e
   show wpAny _ _ (assignInOrder [assign (.Name x px) (bR X scope x y ix fp s H).env,assign (.Name y py) (bR X scope x y ix fp s H).env] [ua,ub]) _ _ _
   have hx0:(bR X scope x y ix fp s H).N[0]?=some x:=rfl
   have hy0:(bR X scope x y ix fp s H).N[1]?=some y:=rfl
   refine assignInOrder_cons (wpAny_assign_Name (gL I6 nd hx0 (.inl (lookup_relabel_local S.x)) ra (fun s7 I7=>?_) (.inr (lookup_relabel_local S.x))))
   refine assignInOrder_cons (wpAny_assign_Name (gL I7 nd hy0 (.inl (lookup_relabel_local hy)) rb (fun s8 I8=>assignInOrder_nil ?_) (.inr (lookup_relabel_local hy))))
   refine bS (hi s H _ s8 _ H5 _ I8 hstep) fun ok s9 ⟨H9,I9,q9⟩=>?_
   have again:∀ {o7 o8:Option V} {H7:Hp} {s7:Shared},Inv (bR X scope x y ix fp s H) ([]++mP fp s5.heap) (o7::o8::lP σ ix) H7 s7→N H7→∃ m,m<n∧∃ i o o' H',Inv (bR X scope x y ix fp s H) [] (o::o'::lP σ ix) H' s7∧tn i s7.heap∧(∀ b∈fp,H' b=none)∧W i m H':=fun {o7 o8 H7 s7} I7 n7=>by
    obtain⟨m',hm,w7⟩:=hN H7 n7
    refine⟨m',hm,i+1,o7,o8,H7,I7.unpinned,T.keep _ _ _ st5 fun b hb o e=>(I7.pin (b,o) (List.mem_append_right _ (List.mem_append_right _ (dO hb e)))).1,fun b hb=>?_,w7⟩
    obtain⟨o,e,d⟩:=T.obj _ _ st5 b hb
    exact(I7.pin (b,o) (List.mem_append_right _ (List.mem_append_right _ (dO hb e)))).2.1
   cases ok with
   | false =>
    rw[if_neg (by simp)] at q9
    exact again I9 q9
   | true =>
    rw[if_pos rfl] at q9
    refine bS (he s H _ s9 _ H9 _ I9 q9) fun v s10 ⟨y10,H10,I10,r10,ys,hD,hz,n10⟩=>?_
    exact cW _ s10 _ H10 (.ref D) [y10] (.ref D) [v] _ I10 rfl (.cons r10 .nil) ⟨D,ys,y10,rfl,rfl,hD,hz,n10⟩ |> fun z=>wpAny_mono z (fun _ s11 ⟨_,H11,I11,_,q11⟩=>again I11 q11) fun _ _ f=>f.elim
 exact codeAny_compStart_list loop (T.self _ 0 _ _ _ st0 loop)
theorem CA(S:CompSc X scope x ix)(hy:scope.names.lookup y=some .local)(nd:(pA X x y ix).Nodup)(hc:X.calm=true)(hi:PI X (.Tuple [.Name x px,.Name y py] k1 tp) iter wi)(hif:∀ fp s H,qX (bR X scope x y ix fp s H) ifs ti)(he:∀ fp s H,PE (bR X scope x y ix fp s H) elt te)
  (hs:∀ z,foldedSetIterable iter X.env z=pure z:=by intro _;rfl):PE X (.ListComp elt [⟨.Tuple [.Name x px,.Name y py] k1 tp,iter,ifs,0⟩] scope pos) (CG X.K wi ix ti te):=by
 intro pins s σ H Q I h
 rw[eval_ListComp]
 refine wpAny_comprehension_free (use:=none) rfl hs (gH (S.cells I.ok)) S.kind S.loc (bS (hi pins s σ H _ I h) fun v s1 h1=>bS h1 fun itv s2 h2=>?_)
 obtain⟨it,fp,tn,J,H2,rfl,I2,T,st2,f2,q⟩:=h2
 refine wpAny_newObj_type ?_
 have fr:=I2.fresh
 have I3:Inv X pins σ (upd H2 s2.heap.objs.size (.lst [])) { s2 with heap:=s2.heap.push { cls:=.type "list",data:=.seq ([]:List Value).toArray } }:=I2.lnew (t':=s2.toks) .nil (Nat.zero_le _)
 have hD:∀ b∈fp,b≠s2.heap.objs.size:=fun b hb=>by
  obtain⟨o,e,_⟩:=T.obj 0 _ st2 b hb
  exact Nat.ne_of_lt (Heap.lt_size e)
 have f3:=Inv.fp_upd (o:=.lst []) f2 hD
 have st3:tn 0 (s2.heap.push { cls:=.type "list",data:=.seq ([]:List Value).toArray }):=T.keep 0 _ _ st2 fun b hb o e=>Heap.get?_push_of_some _ e
 refine bS (uQ (px:=px) (py:=py) (tp:=tp) (k1:=k1) (pos:=pos) (iter:=iter) (E:=X.xe) (RR:=compPost (model X.prog X.w) X.A X.xe none (EP X pins σ Q) (.ref s2.heap.objs.size) (s2.heap.push { cls:=.type "list",data:=.seq ([]:List Value).toArray }).objs.size) S hy hc (he fp) (hif fp) I3 T st3 f3 (q _ fr) nd ?_) fun cenv s4 ⟨e,z⟩=>?_
 ·intro σ' H' s' J' q'
  obtain⟨m,hn,_⟩:=J'.loc
  exact⟨m,hn,fun h'' sb=>⟨_,H',A6 I3 f3 J' sb,(show RelV (.ref s2.heap.objs.size) _ from rfl),q'⟩⟩
 ·rw[← show cenv.locals=(s2.heap.push { cls:=.type "list",data:=.seq ([]:List Value).toArray }).objs.size from e] at z;exact z
end
def uZ(sc0 scope:Scope)(N:List Str)(x y:Str)(ix:List Nat):Bool:=lH sc0 scope N x ix && decide (scope.names.lookup y=some .local) && decide ((x::y::ix.map fun i=>N.getD i "").Nodup)
theorem Bu{X:Cx}{K:PySem.W.Frag}{sc0 scope:Scope}{N:List Str}{x y:Str}{px py tp pos:Pos}{k1:Nat}{ix:List Nat}{elt iter:Expr}{ifs:List Expr}{wi:TI}{ti:TT}{te:TE}(h:uZ sc0 scope N x y ix=true)(hK:X.K=K)(e1:X.env.scope=sc0)(e2:X.N=N)(hc:X.calm=true)
  (hi:PI X (.Tuple [.Name x px,.Name y py] k1 tp) iter wi) (hif:∀ fp s H,qX (bR X scope x y ix fp s H) ifs ti) (he:∀ fp s H,PE (bR X scope x y ix fp s H) elt te)
  (hs:∀ z,foldedSetIterable iter X.env z=pure z:=by intro _;rfl):PE X (.ListComp elt [⟨.Tuple [.Name x px,.Name y py] k1 tp,iter,ifs,0⟩] scope pos) (CG K wi ix ti te):=by
 subst hK
 unfold uZ at h
 rw[Bool.and_eq_true,Bool.and_eq_true,decide_eq_true_iff,decide_eq_true_iff] at h
 refine CA (gI h.1.1 e1 e2).1 h.1.2 ?_ hc hi hif he hs
 subst e2
 exact h.2
end L2
namespace L2
open PySem PySem.Spec PyProof.Rows PySem.Calls
section
variable {X:Cx}
end
end L2
namespace PySem
open Sem (wp)
section
variable {prog:Program}{w:World}{A:Around}{E:Value→Shared→Prop}{s:Shared}
end
end PySem
namespace L2
open PySem PySem.Spec PyProof.Rows
section
variable {X:Cx}
end
def HM(x:Str):It :=
 ⟨fun i _=>i<x.cps.size,fun i H v H'=>∃ p c,v=.ref p∧H p=none∧H'=upd H p (.tup [.int (i:Nat),.str ⟨#[c]⟩])∧x.cps[i]?=some c,fun i _=>i=x.cps.size⟩
theorem rW{prog:Program}{w:World}{A:Around}(hh:A.handled=none)(it:Addr)(x:Str)(t:Tok)(T:String)(hT:T="str_ascii_iterator"∨T="str_iterator") :
  Draws prog w A it [it] x.cps.size (fun i v=>∃ c u,x.cps[i]?=some c∧v=.str ⟨#[c]⟩ u) (fun i h=>h.IsStrIter it T x t i):=by
 rcases hT with rfl | rfl
 ·exact Draws.strAscii hh it x t
 ·exact Draws.strWide hh it x t
theorem Be{P:Program}{w:World}{K:PySem.W.Frag}{es:List Expr}{x1}{pos:Pos}(x:Str)(t:Tok)(T:String)(e it:Addr)(hne:e≠it)(hT:T="str_ascii_iterator"∨T="str_iterator") :
  Turn P w K (.Tuple es x1 pos) (HM x) [e,it] e (fun i h=>(∃ old,IsEnum h e it ((i:Nat):Int) old)∧h.IsStrIter it T x t i) where
 mem:=by simp
 obj:=fun i h st b hb=>by
  obtain⟨⟨old,he⟩,o,g,c,d⟩:=st
  simp only [List.mem_cons,List.not_mem_nil,or_false] at hb
  rcases hb with rfl | rfl
  ·exact⟨_,he,fun v z=>by cases z⟩
  ·exact⟨o,g,fun v z=>by rw[d] at z;cases z⟩
 keep:=fun i h h' st k=>by
  obtain⟨⟨old,he⟩,o,g,r⟩:=st
  exact⟨⟨old,k e (by simp) _ he⟩,o,k it (by simp) o g,r⟩
 item:=by
  intro X hP hw hK hc i pins s σ H E I hf st hg
  subst hP hw hK
  obtain⟨⟨old,he⟩,hs⟩:=st
  have hei:e ∉ [it]:=by simpa using hne
  have DD:=rW (prog:=X.prog) (w:=X.w) (A:=X.A.in1) (I.ok.hd hc) it x t T hT
  refine wpAny_pyNext_enum_itemD DD he hs hg hne hei fun v h1 tk hv ho hs1 hT1 hz1 kp=>⟨_,rfl,?_⟩
  obtain⟨c,u,hc',rfl⟩:=hv
  refine wpAny_letOwnedTupleGo_enum ho fun h2 he2 e2=>?_
  have ne:s.heap.objs.size≠e:=Nat.ne_of_gt (Heap.lt_size he)
  have hT2:h2.get? s.heap.objs.size=some { cls:=.type "tuple",data:=.seq #[.int i tk,.str ⟨#[c]⟩ u] }:=(e2.2 _ ne).trans hT1
  have hHn:H s.heap.objs.size=none:=I.hok.fresh (Nat.le_refl _)
  have kpn:∀ b o,b ∉ [e,it]→s.heap.get? b=some o→h2.get? b=some o:=fun b o hn q=>(e2.2 b fun z=>hn (by simp[z])).trans (kp b o (fun z=>hn (by simp[z])) (fun z=>hn (by simp[z])) q)
  refine⟨.ref s.heap.objs.size,upd H s.heap.objs.size (.tup [.int (i:Nat),.str ⟨#[c]⟩]),?_,rfl,⟨_,c,rfl,hHn,rfl,hc'⟩,⟨⟨_,by simpa using he2⟩,?_⟩,fun b hb=>?_⟩
  ·exact I.turnedN (t':=tk+1) (h':=h2) kpn hf (Nat.le_refl _) ⟨by show 2≤sizeLine;decide,[.int i tk,.str ⟨#[c]⟩ u],.cons ⟨_,rfl⟩ (.cons ⟨_,rfl⟩ .nil),⟨_,hT2,rfl,0,rfl⟩,⟨_,hT2,rfl⟩⟩
  ·obtain⟨o,g,r⟩:=hs1
   exact⟨o,(e2.2 it hne.symm).trans g,r⟩
  ·have hce:b≠s.heap.objs.size:=by
    obtain⟨o1,g1,_⟩:=hs
    simp only [List.mem_cons,List.not_mem_nil,or_false] at hb
    rcases hb with rfl | rfl
    ·exact Nat.ne_of_lt (Heap.lt_size he)
    ·exact Nat.ne_of_lt (Heap.lt_size g1)
   rw[aJ hce]
   exact(hf b hb).1
 done:=by
  intro X hP hw hK hc i pins s σ H E I hf st hg
  subst hP hw hK
  obtain⟨⟨old,he⟩,hs⟩:=st
  have hi:i=x.cps.size:=hg
  subst hi
  have DD:=rW (prog:=X.prog) (w:=X.w) (A:=X.A.in1) (I.ok.hd hc) it x t T hT
  refine wpAny_pyNext_enum_endD DD he hs fun h1 e1=>⟨rfl,?_⟩
  exact I.turnedM (t':=s.toks) (ch:=[e,it]) (fun b o hn q=>e1 b o (fun z=>hn (by simp[z])) q) hf
 self:=fun A i s Q E st h=>by
  obtain⟨⟨old,he⟩,_⟩:=st
  exact wpAny_pyIter_enum he h
section
variable {X:Cx}
def Ix(ta:TA):TI:=fun σ H R=>ta σ H fun vs H1=>∃ z,vs=[.str z]∧R (HM z) H1
theorem zR{es:List Expr}{x1}{tpos:Pos}{a:Expr}{ta:TA}{p pos:Pos}(hg:Gl X "enumerate")(hm:X.mg "enumerate"=none)(ha:PA X [a] ta)(hs:starEach [a] X.env=[(false,eval a X.env)]:=by rfl) :
  PI X (.Tuple es x1 tpos) (.Call (.Name "enumerate" p) [a] [] pos) (Ix ta):=by
 intro pins s σ H R I h
 refine Call_ (gE I hg hm boot_enumerate (PyProof.Rows.callWith_type1 (bS (ha pos pins s σ H _ I h) fun us s1 ⟨vs,H1,I1,r1,q1⟩=>?_) hs rfl))
 obtain⟨z,e,q⟩:=q1
 subst e
 obtain⟨u,rfl,ru⟩:=r1.one
 obtain⟨t,rfl⟩:=ru
 refine call_enumerate_str fun h' he hit hz kp=>?_
 have I2:Inv X pins σ H1 { s1 with heap:=h' }:=I1.kept (t':=s1.toks) kp
 have hne:s1.heap.objs.size+1≠s1.heap.objs.size:=by omega
 refine wpAny_pyIter_enum he ⟨s1.heap.objs.size+1,[s1.heap.objs.size+1,s1.heap.objs.size],_,_,H1,rfl,I2,Be z t (strIterType z) _ _ hne (by unfold strIterType;split <;> simp),⟨⟨_,he⟩,hit⟩,fun b hb=>?_,q⟩
 have hle:s1.heap.objs.size≤b:=by
  simp only [List.mem_cons,List.not_mem_nil,or_false] at hb
  rcases hb with h | h <;> rw[h]
  ·exact Nat.le_add_right _ _
  ·exact Nat.le_refl _
 exact I1.fpOk hle (I1.hok.fresh hle)
end
theorem uM{w:List Nat}{g:TG}{tb:TS}{D:Ends}{σ:St}{H:Hp}(Pv:Nat→St→Hp→Prop)(h0:Pv 0 σ H)
  (hs:∀ i c p σ H,w[i]?=some c→H p=none→Pv i σ H→g (.ref p) σ (upd H p (.tup [.int (i:Nat),.str (S [c])])) fun σ2 H2=>tb { D with nx:=Pv (i+1),ct:=Pv (i+1),bk:=D.nx } σ2 H2) (hd:∀ σ H,Pv w.length σ H→D.nx σ H) :
  ∃ W:Nat→Nat→St→Hp→Prop,(∃ m,W 0 m σ H)∧∀ i m σ H,W i m σ H →
   ((HM (S w)).stop i H∧D.nx σ H)∨((HM (S w)).go i H∧∃ N:St→Hp→Prop,(∀ σ' H',N σ' H'→∃ m',m' < m∧W (i+1) m' σ' H')∧∀ x H',(HM (S w)).yld i H x H'→g x σ H' fun σ2 H2=>tb { D with nx:=N,ct:=N,bk:=D.nx } σ2 H2):=by
 refine⟨fun i m σ H=>m=w.length - i∧i≤w.length∧Pv i σ H,⟨w.length,by simp,Nat.zero_le _,h0⟩,?_⟩
 rintro i m σ H ⟨rfl,hi,p⟩
 by_cases hlt:i<w.length
 ·refine .inr ⟨by simpa [HM] using hlt,Pv (i+1),fun σ' H' p'=>⟨w.length - (i+1),by omega,rfl,hlt,p'⟩,fun x H' y=>?_⟩
  obtain⟨pp,c,rfl,hn,rfl,hc⟩:=y
  exact hs i c pp σ H (by simpa using hc) hn p
 ·have e:i=w.length:=by omega
  subst e
  exact .inl ⟨by simp[HM],hd σ H p⟩
section
variable {prog:Program}{w:World}{A:Around}{E:Value→Shared→Prop}{s:Shared}
theorem wY{t sl:Addr}{items:Array Value}{vl vu:Value}{lo hi:Option Int}{Q:Value→Shared→Prop}(ht:IsTup s.heap t items)(hs:s.heap.IsSliceOf sl vl vu .none)(pl:IsPart vl lo)(pu:IsPart vu hi)
  (h1:HT.sIx items.size 0 lo=0) (h2:HT.sIx items.size items.size hi=items.size)
  (h:Q (.ref t) s):wpAny (model prog w) A (getItem (.ref t) (.ref sl)) Q E s:=by
 obtain⟨os,hos,hcs,hds⟩:=id hs
 have hTs:s.TypeIs (.ref sl) "slice":=⟨os,hos,hcs⟩
 unfold getItem
 try with_reducible refine wpAny_holding ?_
 first | refine wpAny_bind (wpAny_pure ?_) | skip
 refine wpAny_bind (wpAny_sequenceKey ht.typeIs (by decide) ?_)
 refine wpAny_bind (wpAny_callSpecial?_slot (name:=Str.ofString "__getitem__") ht.typeIs PyProof.Rows.slot_tuple_getitem
  (wpAny_call_entry PyProof.Rows.slot_tuple_getitem ht.typeIs entry_tuple_getitem ?_ (args_tuple_getitem _ _)))
 show wpAny _ _ (Builtin.Tuple.tupleItemsOf (.ref t) >>= _) _ _ s
 refine wpAny_bind (tupleItemsOf_ ht ?_)
 refine wpAny_bind (wpAny_typeOf hTs ?_)
 rw[if_pos (by decide)]
 refine wpAny_bind (HT.sliceApplied_gen hs pl pu ?_)
 rw[h1,h2]
 show wpAny _ _ (if (((0:Nat):Int) == 0 && (1:Int) == 1 && (items.size - 0) == items.size)=true then _ else _) _ _ s
 rw[if_pos (by simp)]
 refine wpAny_bind ?_
 unfold Builtin.Tuple.tupleIsExact
 refine wpAny_bind (wpAny_typeOf ht.typeIs (wpAny_pure ?_))
 rw[if_pos (by decide)]
 exact wpAny_bind (wpAny_rule (wpAny_pure ⟨_,rfl,wpAny_pure h⟩))
end
def Kx(K:PySem.W.Frag):V→Option Int→Option Int→Hp→VK→Prop:=fun x lo hi H Q=>∃ (a:Addr) (xs:List V) (j:Nat),x=.ref a∧SqT K H a xs∧lo=none∧hi=some (j:Int)∧j≤xs.length ∧
 (j<xs.length→∀ p,H p=none→Q (.ref p) (upd H p (.tup (xs.take j))))∧(j=xs.length→Q (.ref a) H)
theorem Ej{X:Cx}{K:PySem.W.Frag}(hK:X.K=K):Gn X (Kx K):=by
 subst hK
 intro pins s σ H x v vl vu lo hi sl Q I rx hs pl pu h
 obtain⟨a,xs,j,rfl,hx,rfl,rfl,hj,q1,q2⟩:=h
 have e0:HT.sIx xs.length 0 none=0:=rfl
 have e1:HT.sIx xs.length xs.length (some (j:Int))=j:=by
  unfold HT.sIx
  simp only
  rw[if_neg (by omega)]
  simp
  omega
 rcases Nat.lt_or_ge j xs.length with hlt | hge
 ·refine DX pins s σ H _ v vl vu _ _ sl Q I rx hs pl pu ⟨a,xs,rfl,hx,fun z=>?_,?_⟩
  ·rw[e1] at z;omega
  ·have e:iL xs none (some (j:Int))=xs.take j:=by
    unfold iL
    rw[e1,e0]
    simp
   rw[e]
   exact q1 hlt
 ·have ej:j=xs.length:=by omega
  cases rx
  obtain⟨its,r,ht,hz⟩:=I.tuple hx
  have hlen:its.toArray.size=xs.length:=by rw[List.size_toArray];exact r.length.symm
  refine⟨"tuple",_,PyProof.Rows.slot_tuple_getitem.lookup,ht.typeIs,?_⟩
  exact wY ht hs pl pu (by rw[hlen];exact e0) (by rw[hlen,e1];exact ej) ⟨.ref a,H,I,rfl,q2 ej⟩
end L2
namespace L2
open PySem PySem.W PyProof.Rows
section
variable {lt:Nat→Nat→Bool}{n:Nat}
end
end L2
namespace L2
open PySem PySem.W PySem.Spec PyProof.Rows
section
variable {X:Cx}{pins:List (Addr×Obj)}{σ:St}{H:Hp}{s:Shared}{h':Heap}
end
section
variable {X:Cx}{k:Nat}{f:Addr}{fd:FuncData}{ps:List Str}{sp:Sp}
end
end L2
namespace PySem
open Sem (wp)
section
variable {prog:Program}{w:World}{A:Around}{E:Value→Shared→Prop}{s:Shared}{P1 P2:Nat→Value→Prop}{St1 St2:Nat→Heap→Prop}{n1 n2:Nat}
end
end PySem
namespace L2
open PySem PySem.Spec PyProof.Rows
section
variable {X:Cx}
end
end L2
namespace Lw
open PySem PySem.Spec PyProof.Rows L2 Ma MaR
theorem nW(d:Nat)(sd:List Nat):nT (.str (S [d])) (aX sd)=decide (d∈sd):=by
 unfold nT aX
 rw[Bool.eq_iff_iff,List.any_eq_true,decide_eq_true_iff]
 constructor
 ·rintro⟨v,hv,he⟩
  obtain⟨e,hm,rfl⟩:=List.mem_map.mp hv
  have h2:decide (S [e]=S [d])=true:=he
  have:=uT (of_decide_eq_true h2)
  have h3:e=d:=by simpa using this
  rw[← h3];exact hm
 ·intro h
  refine⟨_,List.mem_map.mpr ⟨d,h,rfl⟩,?_⟩
  show decide (S [d]=S [d])=true
  exact decide_eq_true rfl
theorem wN{x:List Nat}{d e:Nat}{j:Nat}(h:j<x.length):(d::x++[e]).getD (j+1) 0=x.getD j 0:=by
 rw[List.getD_eq_getElem?_getD,List.getD_eq_getElem?_getD]
 show ((d::(x++[e]))[j+1]?).getD 0=_
 rw[List.getElem?_cons_succ,List.getElem?_append_left h]
theorem rF{x:List Nat}{d e:Nat}:(d::x++[e]).getD (x.length+1) 0=e:=by
 rw[List.getD_eq_getElem?_getD]
 show ((d::(x++[e]))[x.length+1]?).getD 0=_
 rw[List.getElem?_cons_succ,List.getElem?_append_right (Nat.le_refl _)]
 simp
theorem lR(x:List Nat)(d e:Nat):(d::x++[e]).length=x.length+2:=by simp
theorem wrap_pair{x:List Nat}{d:Nat}{j:Nat}:(2 * (j+1)+1<(d::x++[con d]).length∧(d::x++[con d]).getD (j+1) 0=con ((d::x++[con d]).getD ((d::x++[con d]).length - 1 - (j+1)) 0))↔(2 * j+1<x.length∧x.getD j 0=con (x.getD (x.length - 1 - j) 0)):=by
 rw[lR]
 by_cases c:2 * j+1<x.length
 ·rw[wN (by omega),show x.length+2 - 1 - (j+1)=(x.length - 1 - j)+1 by omega,wN (by omega)]
  constructor
  ·rintro⟨_,h⟩;exact⟨c,h⟩
  ·rintro⟨_,h⟩;exact⟨by omega,h⟩
 ·constructor
  ·rintro⟨h,_⟩;omega
  ·rintro⟨h,_⟩;omega
theorem rE{x:List Nat}{d m:Nat}(hd:bU d):Ends (d::x++[con d]) (m+1)↔Ends x m:=by
 unfold Ends
 constructor
 ·rintro⟨h1,h2⟩
  exact⟨fun j hj=>wrap_pair.mp (h1 (j+1) (by omega)),fun h=>h2 (wrap_pair.mpr h)⟩
 ·rintro⟨h1,h2⟩
  refine⟨fun j hj=>?_,fun h=>h2 (wrap_pair.mp h)⟩
  cases j with
  | zero =>
   rw[lR,show x.length+2 - 1 - 0=x.length+1 by omega,rF,aN hd]
   exact⟨by omega,rfl⟩
  | succ j=>exact wrap_pair.mpr (h1 j (by omega))
theorem BC{x:List Nat}{d:Nat}(hd:bU d):¬ Ends (d::x++[con d]) 0:=fun h=>h.2 (by
 rw[lR,show x.length+2 - 1 - 0=x.length+1 by omega,rF,aN hd]
 exact⟨by omega,rfl⟩)
theorem wF{x:List Nat}{d e m:Nat}:gT (d::x++[e]) (m+1)=(x.drop m).take (x.length - 2 * m)∨x.length<2 * m:=by
 by_cases c:x.length<2 * m
 ·exact .inr c
 ·left
  unfold gT
  rw[lR]
  show List.take (x.length+2 - 2 * (m+1)) (List.drop (m+1) (d::(x++[e])))=_
  rw[List.drop_succ_cons,List.drop_append_of_le_length (by omega),List.take_append_of_le_length (by rw[List.length_drop];omega)]
  congr 1
  omega
theorem sR{x r:List Nat}{d:Nat}(hd:bU d):RingR (d::x++[con d]) r↔RingR x r:=by
 constructor
 ·rintro⟨m,b,h1,h2,h3⟩
  cases m with
  | zero=>exact absurd h1 (BC hd)
  | succ m =>
   have he:=(rE hd).mp h1
   have hm:gT (d::x++[con d]) (m+1)=gT x m:=by
    rcases wF (x:=x) (d:=d) (e:=con d) (m:=m) with h | h
    ·exact h
    ·have:=he.le;omega
   rw[hm] at h2 h3
   exact⟨m,b,he,h2,h3⟩
 ·rintro⟨m,b,h1,h2,h3⟩
  have hm:gT (d::x++[con d]) (m+1)=gT x m:=by
   rcases wF (x:=x) (d:=d) (e:=con d) (m:=m) with h | h
   ·exact h
   ·have:=h1.le;omega
  refine⟨m+1,b,(rE hd).mpr h1,?_,?_⟩
  ·rw[hm];exact h2
  ·rw[hm];exact h3
theorem eE{x:List Nat}{c:Nat}(hp:bC x)(h:∀ d t,x=d::t→c≠con d):bC (c::x):=by
 refine fT fun k=>?_
 rintro⟨a,b,h1,h2,e⟩
 cases k with
 | zero =>
  cases x with
  | nil=>simp at h2
  | cons d t =>
   simp at h1 h2
   subst h1 h2
   exact h d t rfl e
 | succ k=>exact jV hp (by simpa using h1) (by simpa using h2) e
theorem sI{x r:List Nat}(hx:AllL x)(hp:bC x)(he:Ends x 0)(hr:RingR x r){a:Nat}(ha:a≤x.length):RingR (eI x a) r:=by
 obtain⟨b,hb,e⟩:=EL hx he hr
 rw[jE] at e
 have hl:x.length=r.length:=by rw[e,bZ hb]
 by_cases h0:r.length=0
 ·have e1:r=[]:=List.length_eq_zero_iff.mp h0
  have e2:x=[]:=List.length_eq_zero_iff.mp (by omega)
  have:a=0:=by rw[e2] at ha;simpa using ha
  rw[e1,e2,this]
  exact uN
 ·by_cases hae:a<r.length
  ·by_cases hbe:b<r.length
   ·rw[e,uF hbe hae (Nat.mod_lt _ (by omega)) rfl]
    exact pP hx hp hr (Nat.le_of_lt (Nat.mod_lt _ (by omega)))
   ·have:b=r.length:=by omega
    rw[e,this,uC]
    exact pP hx hp hr (by omega)
  ·have:a=x.length:=by omega
   rw[this,uC]
   exact hr
theorem C2{x r:List Nat}{c:Nat}(hx:AllL x)(hp:bC x)(hc:bU c)(hr:RingR x r):RingR (lay (c::x++[con c])) r:=by
 have hcc:=cN hc
 cases x with
 | nil =>
  have e:lay (c::[]++[con c])=[]:=jI (w:=[c]) (fun d hd=>by rw[List.mem_singleton.mp hd];exact hc)
  rw[e];exact hr
 | cons d t =>
  obtain⟨hd,ht⟩:=AllL.cons.mp hx
  have pt:bC t:=pH hp 1
  by_cases hdc:d=con c
  ·-- the letter falls away at the begin
   have e1:lay (c::(d::t)++[con c])=lay (t++[con c]):=fZ [] (t++[con c]) AllL.nil hd (by rw[hdc,aN hc])
   rw[e1]
   by_cases hlast:∃ t',t=t'++[c]
   ·obtain⟨t',rfl⟩:=hlast
    have ht':=(AllL.app.mp ht).1
    have e2:lay (t'++[c]++[con c])=lay (t'++[]):=by
     rw[List.append_assoc]
     exact fZ t' [] ht' hcc (by rw[aN hc])
    rw[e2,List.append_nil,eN (by have:=qO pt t'.length;rwa [List.take_left] at this)]
    have hr':RingR (con c::t'++[con (con c)]) r:=by rw[aN hc,← hdc];exact hr
    exact(sR hcc).mp hr'
   ·have hok:lY t (con c)=true:=by
     unfold lY
     cases hq:t.getLast? with
     | none=>rfl
     | some z =>
      simp only [Bool.not_eq_true',decide_eq_false_iff_not]
      intro hz
      have hz':con c=con z:=by simpa using hz
      obtain⟨t',ht'⟩:=List.getLast?_eq_some_iff.mp hq
      have hzL:bU z:=ht z (by rw[ht'];simp)
      exact hlast ⟨t',by rw[ht',oE hc hzL hz']⟩
    rw[eN (mF ht hcc pt hok)]
    have e3:t++[con c]=eI (d::t) 1:=by unfold eI;rw[hdc];rfl
    rw[e3]
    refine sI hx hp ⟨fun j hj=>absurd hj (Nat.not_lt_zero _),?_⟩ hr (by simp)
    rintro⟨h1,h2⟩
    have hne:t≠[]:=by rintro rfl;simp at h1
    apply hlast
    refine⟨t.dropLast,?_⟩
    have hl:(d::t).getD ((d::t).length - 1 - 0) 0=t.getLast hne:=by
     rw[List.getD_eq_getElem?_getD,List.getLast_eq_getElem]
     have h3:(d::t).length - 1 - 0=(t.length - 1)+1:=by
      have:=List.length_pos_iff.mpr hne
      simp;omega
     rw[h3,List.getElem?_cons_succ,List.getElem?_eq_getElem (by have:=List.length_pos_iff.mpr hne;omega)]
     rfl
    rw[hl] at h2
    have h4:con c=con (t.getLast hne):=by rw[← hdc];exact h2
    have h5:=oE hc (ht _ (List.getLast_mem hne)) h4
    conv=>lhs;rw[← List.dropLast_concat_getLast hne,← h5]
  ·have pz:bC (c::d::t):=eE hp fun d' t' e=>by
    cases e
    intro h
    exact hdc (by rw[h,aN hd])
   by_cases hlast:∃ t',d::t=t'++[c]
   ·obtain⟨t',ht'⟩:=hlast
    have ha':AllL t':=(AllL.app.mp (by rw[← ht'];exact hx)).1
    have e2:lay (c::(d::t)++[con c])=lay (c::t'++[]):=by
     have:c::(d::t)++[con c]=(c::t')++c::con c::[]:=by rw[ht'];simp
     rw[this]
     exact fZ (c::t') [] (AllL.cons.mpr ⟨hc,ha'⟩) hcc (by rw[aN hc])
    have pz':bC (c::t'):=by
     have:c::t'=(c::d::t).take (t'.length+1):=by rw[ht'];simp
     rw[this];exact qO pz _
    rw[e2,List.append_nil,eN pz']
    have e3:c::t'=eI (d::t) t'.length:=by unfold eI;rw[ht',List.drop_left,List.take_left];rfl
    rw[e3]
    refine sI hx hp ⟨fun j hj=>absurd hj (Nat.not_lt_zero _),?_⟩ hr (by rw[ht'];simp)
    rintro⟨h1,h2⟩
    have hl:(d::t).getD ((d::t).length - 1 - 0) 0=c:=by
     rw[ht',List.length_append,List.getD_eq_getElem?_getD,List.getElem?_append_right (by simp)]
     simp
    rw[hl] at h2
    exact hdc h2
   ·have hok:lY (c::d::t) (con c)=true:=by
     unfold lY
     have hq:(c::d::t).getLast?=(d::t).getLast?:=by rw[List.getLast?_cons_cons]
     rw[hq]
     cases hq2:(d::t).getLast? with
     | none=>rfl
     | some z =>
      simp only [Bool.not_eq_true',decide_eq_false_iff_not]
      intro hz
      have hz':con c=con z:=by simpa using hz
      obtain⟨t',ht'⟩:=List.getLast?_eq_some_iff.mp hq2
      have hzL:bU z:=hx z (by rw[ht'];simp)
      exact hlast ⟨t',by rw[ht',oE hc hzL hz']⟩
    have pw:=mF (AllL.cons.mpr ⟨hc,hx⟩) hcc pz hok
    rw[eN pw]
    exact(sR hc).mpr hr
theorem mJ{x r:List Nat}(hx:AllL x)(hp:bC x)(hr:RingR x r):∀ g:List Nat,AllL g→RingR (lay (g++x++back g)) r
 | [],_=>by
  have e:([]:List Nat)++x++back []=x:=by unfold back;simp
  rw[e,eN hp];exact hr
 | c::g,h=>by
  obtain⟨hc,hg⟩:=AllL.cons.mp h
  have ih:=mJ hx hp hr g hg
  have hm:AllL (g++x++back g):=AllL.app.mpr ⟨AllL.app.mpr ⟨hg,hx⟩,eM hg⟩
  have e:c::g++x++back (c::g)=[c]++(g++x++back g)++[con c]:=by
   have:back (c::g)=back g++[con c]:=by unfold back;simp
   rw[this];simp[List.append_assoc]
  have h1:AllL [c]:=fun d hd=>by rw[List.mem_singleton.mp hd];exact hc
  have h2:AllL [con c]:=fun d hd=>by rw[List.mem_singleton.mp hd];exact cN hc
  rw[e,← uG _ _ _ h1 hm h2]
  exact C2 (jM hm) (eJ _) hc ih
theorem fY{c:Nat}(h:bU c):AllL [c]:=fun d hd=>by rw[List.mem_singleton.mp hd];exact h
theorem iA{n c:Nat}(h:c∈cP n):bU c:=by
 have:c∈[97,98,99,100]:=List.mem_of_mem_take h
 simp only [List.mem_cons,List.not_mem_nil,or_false] at this
 unfold bU
 omega
theorem Cy{g w:List Nat}(hg:AllL g)(hw:AllL w):AllL (g++w++back g):=AllL.app.mpr ⟨AllL.app.mpr ⟨hg,hw⟩,eM hg⟩
theorem fG{n:Nat}(h4:n≤4):(cP n).length=n:=by unfold cP;rw[List.length_take];simp;omega
theorem lM{n c:Nat}(h1:1≤n)(h4:n≤4)(h:c∈aQ n):(bK c=true∧(cP n)[c - 97]?=some c)∨(bK c=false∧(cP n)[c - 65]?=some (con c)):=by
 have hL:=aV (aK h)
 rcases Bk h1 h4 with rfl | rfl | rfl | rfl <;> rcases hL with rfl | rfl | rfl | rfl | rfl | rfl | rfl | rfl <;> revert h <;> decide
theorem kG{f g:Nat→List Nat}:∀ {w:List Nat},(∀ c∈w,f c=g c)→w.flatMap f=w.flatMap g
 | [],_=>rfl
 | c::w,h=>by rw[List.flatMap_cons,List.flatMap_cons,h c List.mem_cons_self,kG fun d hd=>h d (List.mem_cons_of_mem _ hd)]
theorem fS{n c:Nat}(h1:1≤n)(h4:n≤4)(h:c∈cP n):c∈aQ n:=tI h1 h4 [c] (List.mem_map.mpr ⟨c,h,rfl⟩) c (List.mem_singleton.mpr rfl)
theorem A3{rs:List (List Nat)}{n M:Nat}(r:RT rs n M){g x:List Nat}(hg:AllL g)(hx:AllL x):retl rs (lay (g++x++back g))=lay (retl rs g++retl rs x++back (retl rs g)):=by
 rw[uU r (Cy hg hx),vV r,vV r,rR r hg,fU _ _ (AllL.app.mpr ⟨dY r g,dY r x⟩)]
theorem AT{x r:List Nat}(h:RingR x r):∃ g,WindR x g:=by
 obtain⟨m,b,h1,h2,_⟩:=h
 exact⟨_,m,b,h1,h2,rfl⟩
theorem nO{rs:List (List Nat)}{n M:Nat}(r:RT rs n M){x y z:List Nat}(hx:AllL x)(hp:bC x)(hy:RingR x y)(hz:RingR (retl rs y) z):RingR (retl rs x) z:=by
 obtain⟨g,hg⟩:=AT hy
 have ga:AllL g:=fun c hc=>hx c (hg.sub c hc)
 have ya:AllL y:=fun c hc=>hx c (hy.sub c hc)
 have e:=D9 hx hp hg hy
 rw[← e,A3 r ga ya]
 exact mJ (dY r y) (eJ _) hz _ (dY r g)
def gY(K:PySem.W.Frag):Sp:=fun vs H Q _=>∃ (a:Addr) (rs:List (List Nat)) (n M:Nat) (w:List Nat),vs=[.ref a,.str (S w)]∧SqT K H a (bV rs)∧RT rs n M∧1≤n∧n≤4∧M≤1000∧OfN n w∧w.length≤60000∧w.length * M≤60000∧∀ (r:List Nat) (H':Hp),RingR (retl rs w) r→Same H H'→Q (.str (S r)) H'
theorem iW{n i:Nat}(hv:(bV (cK n))[i]?=some (.str (S [97+i]))):(cP n)[i]?=some (97+i):=by
 obtain⟨x,hx,ex⟩:=dZ hv
 have ex':=uT (V.str.inj ex)
 unfold cK at hx
 rw[List.getElem?_map] at hx
 cases hq:(cP n)[i]? with
 | none=>rw[hq] at hx;cases hx
 | some c=>rw[hq] at hx;cases hx;simpa using ex'.symm
theorem RT.mono{rs:List (List Nat)}{n M L:Nat}(h:RT rs n M)(hl:M≤L):RT rs n L:=⟨h.len,h.all,fun x hx=>Nat.le_trans (h.le x hx) hl⟩
def iU(c:Nat)(sd:List Nat)(d:Nat):List Nat:=if d=lo c then [d] else (if con d∈sd then [con c] else [])++[d]++(if d∈sd then [c] else [])
def gD(n c:Nat)(sd:List Nat):List (List Nat):=(cP n).map (iU c sd)
theorem mW(d:Nat)(sd:List Nat):nT (.str (S [d])) (aX sd)=decide (d∈sd):=by
 unfold nT aX
 rw[Bool.eq_iff_iff,List.any_eq_true,decide_eq_true_iff]
 constructor
 ·rintro⟨v,hv,he⟩
  obtain⟨e,hm,rfl⟩:=List.mem_map.mp hv
  have h2:decide (S [e]=S [d])=true:=he
  have:=uT (of_decide_eq_true h2)
  have h3:e=d:=by simpa using this
  rw[← h3];exact hm
 ·intro h
  refine⟨_,List.mem_map.mpr ⟨d,h,rfl⟩,?_⟩
  show decide (S [d]=S [d])=true
  exact decide_eq_true rfl
theorem gR(sd:List Nat):(aX sd).all eO=true:=by
 rw[List.all_eq_true]
 intro v hv
 obtain⟨x,_,rfl⟩:=List.mem_map.mp hv
 rfl
structure GoodC(n c:Nat)(sd:List Nat):Prop where
 let':c∈aQ n
 side:∀ d∈sd,d∈aQ n
 le:sd.length≤8
def C8(H:Hp)(p:Addr)(c:Nat)(sd:List Nat):Prop:=∃ q,H p=some (.tup [.str (S [c]),.ref q])∧H q=some (.tup (aX sd))
theorem Ev(c:Nat)(sd:List Nat)(d:Nat):(iU c sd d).length≤3:=by
 unfold iU
 split
 ·simp
 ·rw[List.length_append,List.length_append]
  split <;> split <;> simp
theorem EN{c d:Nat}{sd:List Nat}(hc:bU c)(hd:bU d):AllL (iU c sd d):=by
 unfold iU
 split
 ·exact fY hd
 ·refine AllL.app.mpr ⟨AllL.app.mpr ⟨?_,fY hd⟩,?_⟩
  ·split
   ·exact fY (cN hc)
   ·exact AllL.nil
  ·split
   ·exact fY hc
   ·exact AllL.nil
theorem Ex{n c d:Nat}{sd:List Nat}(h1:1≤n)(h4:n≤4)(hc:c∈aQ n)(hd:d∈aQ n):OfN n (iU c sd d):=by
 have one:∀ {e:Nat},e∈aQ n→OfN n [e]:=fun he z hz=>by rw[List.mem_singleton.mp hz];exact he
 unfold iU
 split
 ·exact one hd
 ·refine OfN.app (OfN.app ?_ (one hd)) ?_
  ·split
   ·exact one (eV (by omega) (by omega) hc)
   ·exact OfN.nil
  ·split
   ·exact one hc
   ·exact OfN.nil
theorem oJ{n c:Nat}{sd:List Nat}(h4:n≤4)(hc:bU c):RT (gD n c sd) n 3:=by
 refine⟨by unfold gD;rw[List.length_map,fG h4],fun x hx=>?_,fun x hx=>?_⟩
 ·obtain⟨d,hd,rfl⟩:=List.mem_map.mp hx
  exact EN hc (iA hd)
 ·obtain⟨d,hd,rfl⟩:=List.mem_map.mp hx
  exact Ev c sd d
theorem lV{n c:Nat}{sd:List Nat}(h1:1≤n)(h4:n≤4)(hc:c∈aQ n):∀ x∈gD n c sd,OfN n x:=fun x hx=>by
 obtain⟨d,hd,rfl⟩:=List.mem_map.mp hx
 exact Ex h1 h4 hc (fS h1 h4 hd)
theorem C7{c d:Nat}(hc:bU c)(hd:bU d)(hl:bK d=true):decide (d∈[c,con c])=decide (d=lo c):=by
 rcases aV hc with rfl | rfl | rfl | rfl | rfl | rfl | rfl | rfl <;> rcases aV hd with rfl | rfl | rfl | rfl | rfl | rfl | rfl | rfl <;> revert hl <;> decide
theorem fX{n d:Nat}(h:d∈cP n):bK d=true:=by
 have:d∈[97,98,99,100]:=List.mem_of_mem_take h
 simp only [List.mem_cons,List.not_mem_nil,or_false] at this
 unfold bK
 exact decide_eq_true (by omega)
theorem HA{c d:Nat}:decide (V.str (S [d])=V.str (S [lo c]))=decide (d=lo c):=by
 rw[eK]
 by_cases h:d=lo c
 ·rw[h,decide_eq_true rfl,decide_eq_true rfl]
 ·rw[decide_eq_false h,decide_eq_false (by simpa using h)]
theorem FI(w:List Nat)(b:Bool):Txt.mul (S w) (if b=true then 1 else 0)=S (if b=true then w else []):=by
 cases b with
 | true =>
  show Txt.mul (S w) 1=S w
  unfold Txt.mul
  rw[if_neg (by decide),if_pos (by rfl)]
 | false =>
  show Txt.mul (S w) 0=S []
  unfold Txt.mul
  rw[if_pos (by decide)]
  rfl
theorem zC(c:Nat)(b:Bool):MulOk (S [c]) (if b=true then 1 else 0):=by
 cases b with
 | true=>exact B4 [c] 1 (by decide) (by decide) (by simp)
 | false =>
  refine⟨by decide,fun h=>?_,fun h=>?_⟩
  ·exact absurd h (by decide)
  ·exact absurd h (by decide)
def Iq(K:PySem.W.Frag):Sp:=fun vs H Q _=>∃ (d c:Nat) (q:Addr) (sd:List Nat),vs=[.str (S [d]),.str (S [c]),.ref q]∧H q=some (.tup (aX sd))∧bU d∧bK d=true∧bU c∧∀ H',Same H H'→Q (.str (S (iU c sd d))) H'
def iX:Sp:=fun vs H Q _=>∃ (n:Nat) (p:Addr) (c:Nat) (sd:List Nat),vs=[.int (n:Nat),.ref p]∧1≤n∧n≤4∧C8 H p c sd∧bU c∧(∀ d∈sd,bU d)∧∀ (t:Addr) (H':Hp),H t=none→Same H H'→H' t=some (.tup (bV (gD n c sd)))→Q (.ref t) H'
end Lw
namespace L2
open PySem PySem.Spec PyProof.Rows
theorem Paired.at{α β:Type}{F:α→β→Prop}:∀ {l₁:List α} {l₂:List β},Paired F l₁ l₂→∀ {i:Nat} {a:α},l₁[i]?=some a→∃ b,l₂[i]?=some b∧F a b
 | _,_,.nil,i,a,h=>by simp at h
 | _,_,.cons r t,0,a,h=>⟨_,rfl,by cases Option.some.inj h;exact r⟩
 | _,_,.cons r t,i+1,a,h=>by
  obtain⟨b,h1,h2⟩:=Paired.at t (i:=i) (by simpa using h)
  exact⟨b,by simpa using h1,h2⟩
section
variable {X:Cx}
end
section
variable {prog:Program}{w:World}{A:Around}{E:Value→Shared→Prop}{s:Shared}
theorem Ba{it d:Addr}{i n ep:Nat}{o:Obj}{es:Array DictEntry}{e:DictEntry}{Q:Fin→Shared→Prop}(hit:s.heap.IsKeyIter it d i es.size ep)(hd:s.heap.get? d=some o)(dt:o.data=.dict es ep)(he:es[i]?=some e)
  (hQ:∀ g,g.IsKeyIter it d (i+1) es.size ep→Heap.SameBut it s.heap g→Q (.done (.ret e.key)) { s with heap:=g }) :
  wpAny (model prog w) A (Builtin.«dict_keyiterator.__next__» ⟨[.ref it],[]⟩) Q E s:=by
 obtain⟨oi,go,co,do'⟩:=id hit
 have hT:s.TypeIs (.ref it) "dict_keyiterator":=⟨_,go,co⟩
 show wpAny _ _ (Builtin.Dict_items.slot0 "__next__" ⟨[.ref it],[]⟩ >>= _) _ _ _
 rw[show Builtin.Dict_items.slot0 "__next__" ⟨[.ref it],[]⟩=pure (.ref it) from rfl]
 refine wpAny_bind (wpAny_pure (wpAny_bind ?_))
 show wpAny _ _ (_ >>= _) _ _ _
 refine wpAny_bind ?_
 refine wpAny_bind (wpAny_typeNameOfWhole_keyiter hT (wpAny_pure ?_))
 rw[show (if Builtin.Dict_items.ownsTuple "dict_keyiterator"=true then 2 else 0)=0 from rfl]
 refine wpAny_bind (wpAny_fieldsOf go do' ?_)
 show wpAny _ _ (if (Value.ref d == Value.none)=true then _ else _) _ _ _
 rw[if_neg (by intro c;cases c)]
 refine wpAny_bind (wpAny_pure (wpAny_bind (wpAny_dictEntries hd dt ?_)))
 dsimp only
 rw[if_neg (by simp)]
 refine wpAny_bind (wpAny_pure (wpAny_bind (wpAny_dictEpoch hd dt ?_)))
 rw[if_neg (by simp)]
 refine wpAny_pure ?_
 dsimp only
 rw[if_neg (by omega),Int.toNat_natCast,he]
 dsimp only
 refine wpAny_bind (wpAny_bind (wpAny_typeNameOfWhole_keyiter hT (wpAny_pure ?_)))
 rw[show (if Builtin.Dict_items.ownsTuple "dict_keyiterator"=true then 2 else 0)=0 from rfl]
 refine wpAny_bind (wpAny_isOneOf_keyiter hT ?_)
 refine wpAny_bind (wpAny_setField go do' (by simp) ?_)
 have gu:(s.heap.update it (Obj.mapFields fun x=>x.setIfInBounds (0+1) (rawInt ((i:Int)+1)))).IsKeyIter it d (i+1) es.size ep:=by
  refine⟨_,Heap.get?_update_self _ go (Obj.isFreed_of_fields (Obj.data_mapFields do' _)),(Obj.cls_mapFields ..).trans co,?_⟩
  rw[Obj.data_mapFields do' _]
  rfl
 have sb:Heap.SameBut it s.heap (s.heap.update it (Obj.mapFields fun x=>x.setIfInBounds (0+1) (rawInt ((i:Int)+1)))):=Heap.SameBut.update ..
 have hT2:Shared.TypeIs { s with heap:=s.heap.update it (Obj.mapFields fun x=>x.setIfInBounds (0+1) (rawInt ((i:Int)+1))) } (.ref it) "dict_keyiterator":=by
  obtain⟨o2,g2,c2,_⟩:=gu
  exact⟨_,g2,c2⟩
 refine wpAny_bind (wpAny_holding (wpAny_bind (wpAny_isOneOf_keyiter hT2 ?_)))
 refine wpAny_pure (wpAny_pure ?_)
 exact hQ _ gu sb
theorem C0{it d:Addr}{i n ep:Nat}{o:Obj}{es:Array DictEntry}{Q:Fin→Shared→Prop}(hh:A.handled=none)(hit:s.heap.IsKeyIter it d i es.size ep)(hd:s.heap.get? d=some o)(dt:o.data=.dict es ep)(he:es[i]?=none)
  (hE:∀ g e,Heap.ExtBut it s.heap g→(∃ o,g.get? e=some o∧o.cls=.type "StopIteration")→E (.ref e) { s with heap:=g }) :
  wpAny (model prog w) A (Builtin.«dict_keyiterator.__next__» ⟨[.ref it],[]⟩) Q E s:=by
 obtain⟨oi,go,co,do'⟩:=id hit
 have hT:s.TypeIs (.ref it) "dict_keyiterator":=⟨_,go,co⟩
 show wpAny _ _ (Builtin.Dict_items.slot0 "__next__" ⟨[.ref it],[]⟩ >>= _) _ _ _
 rw[show Builtin.Dict_items.slot0 "__next__" ⟨[.ref it],[]⟩=pure (.ref it) from rfl]
 refine wpAny_bind (wpAny_pure (wpAny_bind ?_))
 show wpAny _ _ (_ >>= _) _ _ _
 refine wpAny_bind ?_
 refine wpAny_bind (wpAny_typeNameOfWhole_keyiter hT (wpAny_pure ?_))
 rw[show (if Builtin.Dict_items.ownsTuple "dict_keyiterator"=true then 2 else 0)=0 from rfl]
 refine wpAny_bind (wpAny_fieldsOf go do' ?_)
 show wpAny _ _ (if (Value.ref d == Value.none)=true then _ else _) _ _ _
 rw[if_neg (by intro c;cases c)]
 refine wpAny_bind (wpAny_pure (wpAny_bind (wpAny_dictEntries hd dt ?_)))
 dsimp only
 rw[if_neg (by simp)]
 refine wpAny_bind (wpAny_pure (wpAny_bind (wpAny_dictEpoch hd dt ?_)))
 rw[if_neg (by simp)]
 refine wpAny_pure ?_
 dsimp only
 rw[if_neg (by omega),Int.toNat_natCast,he]
 dsimp only
 refine wpAny_bind (wpAny_bind (wpAny_typeNameOfWhole_keyiter hT (wpAny_pure ?_)))
 rw[show (if Builtin.Dict_items.ownsTuple "dict_keyiterator"=true then 2 else 0)=0 from rfl]
 refine wpAny_bind (wpAny_setField go do' (by simp) ?_)
 refine wpAny_bind ?_
 simp only [newExc,newTuple]
 refine wpAny_bind (wpAny_newObj_type ?_ (by size_fits))
 refine wpAny_bind (m:=firstArgMember _ _) (wpAny_of_eq (a:=Value.none) (by first | rfl | (simp only [firstArgMember];rfl)) ?_)
 refine wpAny_newObj_type ?_ (by size_fits)
 simp only [raiseNew]
 refine wpAny_bind (wpAny_handled ?_)
 first | rw[show A.in1.handled=none from hh] | rw[hh]
 refine wpAny_bind (wpAny_pure (wpAny_throw ?_))
 exact hE _ _ (((Heap.SameBut.update ..).extBut.push _).push _) ⟨_,Heap.get?_push_size _ rfl,rfl⟩
theorem xV{it d:Addr}{i n ep:Nat}{o:Obj}{es:Array DictEntry}{e:DictEntry}{Q:Option Value→Shared→Prop}(hit:s.heap.IsKeyIter it d i es.size ep)(hd:s.heap.get? d=some o)(dt:o.data=.dict es ep)(he:es[i]?=some e)
  (hQ:∀ g,g.IsKeyIter it d (i+1) es.size ep→Heap.SameBut it s.heap g→Q (some e.key) { s with heap:=g }):wpAny (model prog w) A (pyNext (.ref it)) Q E s:=by
 have hT:s.TypeIs (.ref it) "dict_keyiterator":=let ⟨_,go,co,_⟩:=hit;⟨_,go,co⟩
 unfold pyNext
 exact wpAny_bind (wpAny_attempt (wpAny_callSpecial?_slot (name:=Str.ofString "__next__") hT F.slot_dict_keyiterator_next (wpAny_call_entry F.slot_dict_keyiterator_next hT F.entry_dict_keyiterator_next (Ba (n:=0) hit hd dt he fun g b1 b2=>⟨_,rfl,wpAny_pure (hQ g b1 b2)⟩) (F.args_dict_keyiterator_next_1 _))))
theorem A2{it d:Addr}{i n ep:Nat}{o:Obj}{es:Array DictEntry}{Q:Option Value→Shared→Prop}(hh:A.handled=none)(hit:s.heap.IsKeyIter it d i es.size ep)(hd:s.heap.get? d=some o)(dt:o.data=.dict es ep)(he:es[i]?=none)
  (hQ:∀ g,Heap.ExtBut it s.heap g→Q none { s with heap:=g }):wpAny (model prog w) A (pyNext (.ref it)) Q E s:=by
 have hT:s.TypeIs (.ref it) "dict_keyiterator":=let ⟨_,go,co,_⟩:=hit;⟨_,go,co⟩
 unfold pyNext
 refine wpAny_bind (wpAny_attempt (wpAny_callSpecial?_slot (name:=Str.ofString "__next__") hT F.slot_dict_keyiterator_next (wpAny_call_entry F.slot_dict_keyiterator_next hT F.entry_dict_keyiterator_next (C0 (n:=0) hh hit hd dt he fun g e kp hx=>?_) (F.args_dict_keyiterator_next_1 _))))
 obtain⟨o,go,co⟩:=hx
 exact wpAny_bind (wpAny_isInstance (T:="StopIteration") (b:=true) ⟨o,go,co⟩ isSubtype_stop (wpAny_pure (hQ _ kp)))
end
section
variable {X:Cx}{pins:List (Addr×Obj)}{σ:St}{H:Hp}{s:Shared}
theorem Inv.swap{d:Addr}{u u':HO}(I:Inv X pins σ H s)(e:H d=some u)(nt:∀ xs,u≠.tup xs)(nf:(∀ o v,u≠.frz o v)∨∀ o v,X.H₀ d≠some (.frz o v))(nb:∀ ps,u≠.tbl ps)(no:∀ x,u≠.own x)
  (new:ObjOk X.prog X.w (upd H d u') s.heap d u'):Inv X pins σ (upd H d u') s:=by
 have ne:∀ {b:Addr},H b=none→b≠d:=fun h z=>by rw[z,e] at h;cases h
 have tp:∀ b xs,H b=some (.tup xs)→upd H d u' b=some (.tup xs):=fun b xs h=>by
  rw[aJ (fun z=>by rw[z,e] at h;exact nt xs (Option.some.inj h))];exact h
 refine⟨I.ok,I.os,I.bare,⟨I.base.keep,I.base.slot,fun b o h n hx=>?_,I.base.there,fun b xs h=>tp b xs (I.base.tups b xs h),fun b o v h=>?_,fun b ps h=>?_⟩,I.loc,I.cell,?_,fun x c h=>?_,fun p hp=>?_,fun b v h=>?_,I.len⟩
 ·have:=I.base.free b o h n hx
  rw[aJ (ne this)];exact this
 ·have h1:=I.base.frzs b o v h
  rw[aJ]
  ·exact h1
  ·intro z
   subst z
   rcases nf with nf | nf
   ·rw[e] at h1;exact nf o v (Option.some.inj h1)
   ·exact nf o v h
 ·obtain⟨more,h1⟩:=I.base.tbls b ps h
  refine⟨more,?_⟩
  rw[aJ]
  ·exact h1
  ·intro z
   subst z
   rw[e] at h1
   exact nb _ (Option.some.inj h1)
 ·rw[aJ (ne I.free)];exact I.free
 ·rw[aJ (ne (I.freeC x c h))];exact I.freeC x c h
 ·obtain⟨h1,h2,h3⟩:=I.pin p hp
  exact⟨h1,by rw[aJ (ne h2)];exact h2,h3⟩
 ·by_cases hb:b=d
  ·subst hb
   rw[aC] at h
   cases h
   exact new
  ·rw[aJ hb] at h
   refine(I.hok b v h).stay (fun _ _ _ q=>q) (fun c q=>?_) tp
   rw[aJ (fun z=>by rw[z,e] at q;exact no b (Option.some.inj q))];exact q
theorem Inv.freeze{d:Addr}{kvs:List (List bW×V)}(I:Inv X pins σ H s)(e:H d=some (.dT kvs)):∃ o,s.heap.get? d=some o∧Inv X pins σ (upd H d (.frz o (.dT kvs))) s:=by
 obtain⟨z,y,xs,r,o,es,ep,h1,h2⟩:=(show ObjOk X.prog X.w H s.heap d (.dT kvs) from I.hok d _ e)
 refine⟨o,h1,I.swap e (fun _ z=>by cases z) (.inl fun _ _ z=>by cases z) (fun _ z=>by cases z) (fun _ z=>by cases z) ⟨h1,z,y,xs,Paired.mapP r fun p q t=>⟨t.1,?_,t.2.2⟩,o,es,ep,h1,h2⟩⟩
 rw[aJ (fun w=>by rw[w] at t;rw[e] at t;cases t.2.1)]
 exact t.2.1
theorem Inv.thaw{d:Addr}{o:Obj}{kvs:List (List bW×V)}(I:Inv X pins σ H s)(e:H d=some (.frz o (.dT kvs)))(h0:∀ o v,X.H₀ d≠some (.frz o v)):Inv X pins σ (upd H d (.dT kvs)) s:=by
 obtain⟨_,z,y,xs,r,o',es,ep,h1,h2⟩:=(show ObjOk X.prog X.w H s.heap d (.frz o (.dT kvs)) from I.hok d _ e)
 refine I.swap e (fun _ z=>by cases z) (.inr h0) (fun _ z=>by cases z) (fun _ z=>by cases z) ⟨z,y,xs,Paired.mapP r fun p q t=>⟨t.1,?_,t.2.2⟩,o',es,ep,h1,h2⟩
 rw[aJ (fun w=>by rw[w] at t;rw[e] at t;cases t.2.1)]
 exact t.2.1
def Kc(H0 H H':Hp):Prop:=H'=H∨∃ d o kvs,H d=some (.frz o (.dT kvs))∧(∀ o v,H0 d≠some (.frz o v))∧H'=upd H d (.dT kvs)
def JY(H0:Hp)(t:TE):TE:=fun σ H Q=>t σ H fun v H'=>∃ H'',Kc H0 H' H''∧Q v H''
theorem Ez{e:Expr}{t:TE}{H0:Hp}(h0:X.H₀=H0)(h:PE X e t):PE X e (JY H0 t):=by
 subst h0
 intro pins s σ H Q I q
 refine bS (h pins s σ H _ I q) fun u s1 ⟨v,H1,I1,rv,H2,th,q2⟩=>?_
 rcases th with rfl | ⟨d,o,kvs,e1,n0,rfl⟩
 ·exact⟨v,_,I1,rv,q2⟩
 ·exact⟨v,_,I1.thaw e1 n0,rv,q2⟩
end
theorem yG{X:Cx}{pins:List (Addr×Obj)}{σ:St}{H:Hp}{s:Shared}{d:Addr}{o:Obj}{kvs:List (List bW×V)}(I:Inv X pins σ H s)(e:H d=some (.frz o (.dT kvs))) :
  s.heap.get? d=some o∧(d == sysModules)=false∧∃ (xs:List (List bW×Addr×Value)) (es:Array DictEntry) (ep:Nat),KT H kvs xs∧o.ExactDict∧o.data=.dict es ep∧es.toList=xs.map (entryOfKey (tupleKind (bN X.prog X.w))):=by
 obtain⟨h0,z,y,xs,r,o',es,ep,h1,h2,h3,h4,h5⟩:=(show ObjOk X.prog X.w H s.heap d (.frz o (.dT kvs)) from I.hok d _ e)
 rw[h0] at h1
 cases h1
 exact⟨h0,y,xs,es,ep,r,h2,h3,h4⟩
theorem BQ{prog:Program}{w:World}{A:Around}{E:Value→Shared→Prop}{s:Shared}{d:Addr}{o:Obj}{es:Array DictEntry}{ep:Nat}{Q:Value→Shared→Prop}(hn:(d == sysModules)=false)(hd:s.heap.get? d=some o)(ho:o.ExactDict)(dt:o.data=.dict es ep)
  (h:Q (.ref s.heap.objs.size) { s with heap:=s.heap.push { cls:=.type "dict_keyiterator",data:=.fields #[.ref d,.int 0 0,.int es.size 0,.int ep 0] } }):wpAny (model prog w) A (pyIter (.ref d)) Q E s:=by
 have hT:s.TypeIs (.ref d) "dict":=⟨_,hd,ho.1⟩
 refine wpAny_pyIter_slot hT F.slot_dict_iter (wpAny_call_entry F.slot_dict_iter hT F.entry_dict_iter ?_ (F.args_dict_iter_1 _))
 unfold Builtin.«dict.__iter__» Builtin.Dict.dictSlotNone Builtin.Dict.notOrdered
 rw[if_pos (by decide)]
 refine wpAny_bind (wpAny_bind (wpAny_bind (wpAny_typeOf hT ?_)))
 rw[if_neg (by decide)]
 refine wpAny_pure ?_
 rw[show slotArgs "__iter__" 0 ⟨[.ref d],[]⟩=pure (.ref d,[]) from rfl]
 refine wpAny_bind (wpAny_pure (wpAny_pure (wpAny_bind (wpAny_pure (wpAny_bind ?_)))))
 unfold Builtin.Dict.showsAll
 rw[hn]
 refine wpAny_pure (wpAny_bind (wpAny_dictEntries hd dt (wpAny_bind (wpAny_dictEpoch hd dt (wpAny_bind ?_)))))
 unfold newFields
 refine wpAny_newObj_type (wpAny_pure ⟨_,rfl,"dict_keyiterator",_,⟨_,Heap.get?_push_size _ rfl,rfl⟩,F.slot_dict_keyiterator_next.lookup,?_⟩) (by size_fits)
 exact h
section
variable {X:Cx}
end
theorem nA(ns:List Int):∀ n,preSum (fun i=>(ns[i]?).getD 0) n=(ns.take n).sum
 | 0=>by simp[preSum]
 | n+1=>by
  show preSum (fun i=>(ns[i]?).getD 0) n+(ns[n]?).getD 0=_
  rw[nA ns n]
  by_cases h:n<ns.length
  ·rw[List.take_add_one,List.getElem?_eq_getElem h,List.sum_append]
   simp
  ·rw[List.getElem?_eq_none (by omega),List.take_of_length_le (by omega),List.take_of_length_le (by omega)]
   simp
theorem zI:∀ {ns:List Int} {us:List Value},Vals (ns.map V.int) us→us.length=ns.length∧∀ (i:Nat) (v:Value),us[i]?=some v→∃ t,v=Value.int ((ns[i]?).getD 0) t
 | [],us,r=>by
  cases r
  exact⟨rfl,fun i v h=>by simp at h⟩
 | n::ns,us,r=>by
  rw[List.map_cons] at r
  cases r with
  | cons r1 r2 =>
   obtain⟨t,rfl⟩:=r1
   obtain⟨h1,h2⟩:=zI r2
   refine⟨by rw[List.length_cons,List.length_cons,h1],fun i v h=>?_⟩
   cases i with
   | zero=>exact⟨t,by simpa using h.symm⟩
   | succ i=>simpa using h2 i v (by simpa using h)
section
variable {X:Cx}{K:PySem.W.Frag}
theorem jS(hK:X.K=K)(hc:X.calm=true):eS X (.builtin "sum") (fun xs H Q=>∃ (a:Addr) (ns:List Int),xs=[.ref a]∧SqL K H a (ns.map V.int)∧Q (.int ns.sum) H):=by
 subst hK
 intro pins s σ H xs us Q I r h
 obtain⟨a,ns,rfl,hq,q⟩:=h
 obtain⟨u,rfl,ru⟩:=r.one
 cases ru
 obtain⟨its,rv,pl,_⟩:=I.list hq
 have hl:=pl.isList
 obtain⟨hn,hi⟩:=zI rv
 have hlt:a<s.heap.objs.size:=by obtain⟨_,e,_⟩:=hl;exact Heap.lt_size e
 refine call_sum_walkG (wpAny_pyIter_list hl ?_)
 refine⟨s.heap.objs.size,[s.heap.objs.size,a],[s.heap.objs.size],its.toArray.size,_,_,fun i=>(ns[i]?).getD 0,rfl,Walks.list (A:=X.A.in1) (I.ok.hd hc) _ a (Nat.ne_of_lt hlt) its.toArray,
  ⟨⟨_,Heap.get?_push_size _ rfl,rfl,rfl⟩,hl.push _⟩,?_,fun i v hP=>hi i v (by simpa using hP),fun h' tk t' hk=>?_⟩
 ·intro b hb
  simp only [List.mem_cons,List.not_mem_nil,or_false] at hb
  rcases hb with rfl | rfl
  ·exact Heap.lt_size (Heap.get?_push_size _ rfl)
  ·exact Nat.lt_of_lt_of_le hlt (by show _≤(s.heap.push _).objs.size;rw[Heap.size_push];exact Nat.le_succ _)
 ·rw[nA,List.size_toArray,hn,List.take_length]
  exact⟨.int _,H,I.kept (t':=tk) (LSm.kept_iter hk),⟨_,rfl⟩,q⟩
def xH(z y:Str):Int:=((Builtin.Str.occurrences z y 0 z.length (z.length+1)).length:Nat)
theorem rP:A9 X "str.count" (fun x xs H Q=>∃ z y,x=.str z∧xs=[.str y]∧Q (.int (xH z y)) H):=by
 intro pins s σ H x xs v us Q I rx rs h
 obtain⟨z,y,rfl,rfl,q⟩:=h
 obtain⟨t,rfl⟩:=rx
 obtain⟨u,rfl,ru⟩:=rs.one
 obtain⟨t',rfl⟩:=ru
 exact call_gives F.slot_str_count (typeIs_str _ _ _) F.entry_str_count (F.args_str_count_2 _ _) (gives_str_count z y t t') ⟨.int _,H,I.tok _,⟨_,rfl⟩,q⟩
end
section
variable {X:Cx}{pins:List (Addr×Obj)}{σ:St}{H:Hp}{s:Shared}{a b:Addr}{v:V}{A:Around}{E:Value→Shared→Prop}
end
section
variable {X:Cx}{o e:Expr}{apos cpos:Pos}{td ty:TE}
end
section
variable {prog:Program}{w:World}{A:Around}{E:Value→Shared→Prop}{s:Shared}
end
theorem sT{α:Type}(xs:List α):((List.range xs.length).filterMap fun m=>xs[xs.length - 1 - m]?)=xs.reverse:=by
 have e:∀ n,n≤xs.length→((List.range n).filterMap fun m=>xs[xs.length - 1 - m]?)=xs.reverse.take n:=by
  intro n
  induction n with
  | zero=>intro _;rfl
  | succ n ih =>
   intro hn
   rw[List.range_succ,List.filterMap_append,ih (by omega),List.take_add_one,List.getElem?_reverse (by omega)]
   rw[List.filterMap_cons,List.getElem?_eq_getElem (by omega)]
   rfl
 rw[e _ (Nat.le_refl _),List.take_of_length_le (by simp)]
end L2
namespace Lw
open PySem PySem.Spec PyProof.Rows L2 Ma MaR
abbrev KP:=List bW
def Ae(kvs:List (KP×V))(k:KP):Int:=match cF kvs k with
 | some (.int i)=>i
 | _=>0
def AQ(kvs:List (KP×V))(k:KP):List (KP×V):=dR kvs k (.int (Ae kvs k+1))
def ctK(ks:List KP)(k:KP):Nat:=ks.countP fun x=>decide (x=k)
theorem vK(ks:List KP)(k' k:KP):ctK (ks++[k']) k=ctK ks k+if k'=k then 1 else 0:=by
 unfold ctK
 rw[List.countP_append,List.countP_cons,List.countP_nil]
 simp
theorem ctK_pos{ks:List KP}{k:KP}:0<ctK ks k↔k∈ks:=by
 unfold ctK
 rw[List.countP_pos_iff]
 constructor
 ·rintro⟨a,h,e⟩
  rw[← of_decide_eq_true e];exact h
 ·exact fun h=>⟨k,h,decide_eq_true rfl⟩
def Dk(ks:List KP):List (KP×V):=ks.foldl AQ []
theorem kZ(ks:List KP)(k:KP):Dk (ks++[k])=AQ (Dk ks) k:=by unfold Dk;rw[List.foldl_append];rfl
theorem lI{P:List KP→Prop}(h0:P [])(h1:∀ ks k,P ks→P (ks++[k])):∀ ks,P ks:=fun ks=>by
 have:∀ r:List KP,P r.reverse:=fun r=>by
  induction r with
  | nil=>exact h0
  | cons k r ih=>rw[List.reverse_cons];exact h1 _ _ ih
 have:=this ks.reverse
 rwa [List.reverse_reverse] at this
theorem wT(k:KP):∀ ks,cF (Dk ks) k=if ctK ks k=0 then none else some (.int ((ctK ks k:Nat):Int)):=by
 refine lI ?_ fun ks k' ih=>?_
 ·rfl
 ·rw[kZ]
  unfold AQ
  rw[fF]
  by_cases e:k=k'
  ·subst e
   rw[if_pos rfl,vK,if_pos rfl,if_neg (by omega)]
   congr 2
   unfold Ae
   rw[ih]
   by_cases c:ctK ks k=0
   ·rw[if_pos c,c];rfl
   ·rw[if_neg c];dsimp only;omega
  ·rw[if_neg e,ih,vK,if_neg (fun z:k'=k=>e z.symm),Nat.add_zero]
theorem GS(ks:List KP)(k:KP):Ae (Dk ks) k=((ctK ks k:Nat):Int):=by
 unfold Ae
 rw[wT]
 by_cases c:ctK ks k=0
 ·rw[if_pos c,c];rfl
 ·rw[if_neg c]
theorem D1(ks:List KP)(k:KP):(cF (Dk ks) k).getD (.int 0)=.int (Ae (Dk ks) k):=by
 rw[GS,wT]
 by_cases c:ctK ks k=0
 ·rw[if_pos c,c];rfl
 ·rw[if_neg c];rfl
theorem DK:∀ ks:List KP,(Dk ks).length≤ks.length:=by
 refine lI (Nat.le_refl _) fun ks k ih=>?_
 rw[kZ,List.length_append,List.length_singleton]
 unfold AQ
 have:=dB (Dk ks) k (.int (Ae (Dk ks) k+1))
 omega
theorem B2{kvs:List (KP×V)}{k:KP}{v:V}:(kvs.map fun kv=>if kv.1=k then (kv.1,v) else kv).map (·.1)=kvs.map (·.1):=by
 rw[List.map_map]
 refine List.map_congr_left fun kv _=>?_
 show (if kv.1=k then (kv.1,v) else kv).1=kv.1
 split <;> rfl
theorem Fs:∀ ks:List KP,((Dk ks).map (·.1)).Nodup:=by
 refine lI (by simp[Dk]) fun ks k ih=>?_
 rw[kZ]
 unfold AQ dR
 by_cases h:((Dk ks).any fun kv=>decide (kv.1=k))=true
 ·rw[if_pos h,B2]
  exact ih
 ·rw[if_neg h,List.map_append,List.nodup_append]
  refine⟨ih,by simp,fun a ha b hb=>?_⟩
  have hb':b=k:=by simpa using hb
  subst hb'
  intro e
  subst e
  apply h
  rw[List.any_eq_true]
  obtain⟨kv,hkv,e⟩:=List.mem_map.mp ha
  exact⟨kv,hkv,decide_eq_true e⟩
theorem zY:∀ {kvs:List (KP×V)} {kv:KP×V},(kvs.map (·.1)).Nodup→kv∈kvs→cF kvs kv.1=some kv.2
 | [],_,_,h=>nomatch h
 | p::r,kv,hn,h=>by
  rw[List.map_cons,List.nodup_cons] at hn
  rcases List.mem_cons.mp h with rfl | h
  ·exact cX rfl
  ·have ne:¬ p.1=kv.1:=fun e=>hn.1 (by rw[e];exact List.mem_map.mpr ⟨kv,h,rfl⟩)
   rw[cU ne]
   exact zY hn.2 h
theorem Eb{kvs:List (KP×V)}{k:KP}{v:V}(h:cF kvs k=some v):k∈kvs.map (·.1):=by
 unfold cF at h
 obtain⟨kv,hkv,_⟩:=Option.map_eq_some_iff.mp h
 exact List.mem_map.mpr ⟨kv,List.mem_of_find?_eq_some hkv,by have:=List.find?_some hkv;exact of_decide_eq_true this⟩
theorem DR{ks:List KP}{kv:KP×V}(h:kv∈Dk ks):kv.2=.int ((ctK ks kv.1:Nat):Int)∧kv.1∈ks:=by
 have h1:=zY (Fs ks) h
 rw[wT] at h1
 by_cases c:ctK ks kv.1=0
 ·rw[if_pos c] at h1;cases h1
 ·rw[if_neg c] at h1
  exact⟨(Option.some.inj h1).symm,ctK_pos.mp (by omega)⟩
def lk(c:Nat):bW:=.inr (S [c])
def jY(c d:Nat):KP:=if rk c<rk d then [lk c,lk d] else [lk d,lk c]
def jD(x:List Nat)(i:Nat):Nat:=if i=0 then x.getD (x.length - 1) 0 else x.getD (i - 1) 0
def eT(x:List Nat):List KP:=(List.range x.length).map fun i=>jY (jD x i) (con (x.getD i 0))
def bO(rs:List (List Nat)):List KP:=(rs.map eT).flatten
theorem gS(x:List Nat):(eT x).length=x.length:=by unfold eT;simp
theorem xT{x:List Nat}{i:Nat}(h:i<x.length):(eT x).take (i+1)=(eT x).take i++[jY (jD x i) (con (x.getD i 0))]:=by
 have e:(eT x)[i]?=some (jY (jD x i) (con (x.getD i 0))):=by
  unfold eT
  rw[List.getElem?_map,List.getElem?_range h]
  rfl
 rw[List.take_add_one,e]
 rfl
theorem pO(rs:List (List Nat))(x:List Nat):bO (rs++[x])=bO rs++eT x:=by unfold bO;simp
theorem mI:∀ rs:List (List Nat),(bO rs).length=(rs.map List.length).sum
 | []=>rfl
 | x::rs=>by
  have:=mI rs
  unfold bO at *
  rw[List.map_cons,List.flatten_cons,List.length_append,List.map_cons,List.sum_cons,gS,this]
theorem vH(ls:List Nat)(i:Nat):(ls.take i).sum≤ls.sum:=by
 have:=congrArg List.sum (List.take_append_drop i ls)
 rw[List.sum_append] at this
 omega
theorem Eh{x:List Nat}{i:Nat}(h:i<x.length):tR (S x).cps.toList ((i:Int) - 1)=some (jD x i):=by
 unfold jD
 rw[Bj]
 by_cases e:i=0
 ·subst e
  rw[if_pos rfl]
  obtain⟨u,z,rfl⟩:∃ u z,x=u++[z]:=⟨x.dropLast,x.getLast (by intro c;subst c;simp at h),(List.dropLast_concat_getLast _).symm⟩
  have:=gP u z
  simpa using this
 ·rw[if_neg e]
  refine gG (by omega) ?_
  rw[show ((i:Int) - 1).toNat=i - 1 by omega,List.getD_eq_getElem?_getD,List.getElem?_eq_getElem (by omega)]
  rfl
theorem BE{x:List Nat}{i:Nat}(hx:AllL x)(h:i<x.length):bU (jD x i):=by
 unfold jD
 split
 ·exact cZ hx (by omega)
 ·exact cZ hx (by omega)
def RgN(n:Nat)(x:List Nat):Prop:=∃ y,OfN n y∧bC y∧RingR y x
theorem RgN.ofn{n:Nat}{x:List Nat}(h:RgN n x):OfN n x:=by
 obtain⟨y,h1,_,h3⟩:=h
 exact fun c hc=>h1 c (h3.sub c hc)
def Cz(rs:List (List Nat))(c:Nat):Int:=(rs.map fun x=>xH (S x) (S [c])+xH (S x) (S [con c])).sum
def totL(rs:List (List Nat)):Nat:=(rs.map List.length).sum
theorem pG:∀ rs:List (List Nat),(rs.map fun x=>((x.length:Nat):Int)).sum=((totL rs:Nat):Int)
 | []=>rfl
 | x::rs=>by
  have:=pG rs
  unfold totL at *
  rw[List.map_cons,List.sum_cons,this,List.map_cons,List.sum_cons]
  omega
def CN:Sp:=fun vs H Q _=>∃ c d:Nat,vs=[.str (S [c]),.str (S [d])]∧bU c∧bU d∧∀ (p:Addr) (H':Hp),H p=none→Same H H'→H' p=some (.tup ((jY c d).map kV))→Q (.ref p) H'
def Ct(K:PySem.W.Frag):Sp:=fun vs H Q _=>∃ (a:Addr) (rs:List (List Nat)),vs=[.ref a]∧SqT K H a (bV rs)∧(∀ x∈rs,AllL x)∧totL rs≤900∧∀ (p:Addr) (H':Hp),H p=none→Same H H'→H' p=some (.dT (Dk (bO rs)))→Q (.ref p) H'
def As(K:PySem.W.Frag):Sp:=fun vs H Q _=>∃ (a:Addr) (rs:List (List Nat)) (c:Nat),vs=[.ref a,.str (S [c])]∧SqT K H a (bV rs)∧rs.length≤900∧bU c∧∀ H',Same H H'→Q (.int (Cz rs c)) H'
def gO(K:PySem.W.Frag):Sp:=fun vs H Q _=>∃ (a:Addr) (rs:List (List Nat)),vs=[.ref a]∧SqT K H a (bV rs)∧rs.length≤900∧(∀ x∈rs,x.length≤9000)∧∀ H',Same H H'→Q (.int ((totL rs:Nat):Int)) H'
def FE:Sp:=fun vs H Q _=>∃ (fl sc:Addr) (n many most:Nat),vs=[.ref fl,.int (n:Nat),.int (many:Nat),.int (most:Nat)]∧IsFl H fl sc∧1≤n∧n≤4∧many≤8∧most≤60 ∧
 ∀ (p:Addr) (rs:List (List Nat)) (H':Hp),H p=none→rs.length≤max many 1→(∀ x∈rs,RgN n x)→totL rs≤most→IsFl H' fl sc→Kp fl H H'→H' p=some (.tup (bV rs))→Q (.ref p) H'
theorem Ed(x:List Nat)(rs:List (List Nat)):iL (bV (x::rs)) (some 1) none=bV rs:=by
 show iL (V.str (S x)::bV rs) (some 1) none=bV rs
 unfold iL HT.sIx
 simp
theorem DQ(x:List Nat)(rs:List (List Nat)):¬ (HT.sIx (bV (x::rs)).length 0 (some 1)=0∧HT.sIx (bV (x::rs)).length (bV (x::rs)).length none=(bV (x::rs)).length):=by
 rw[bI,List.length_cons]
 intro h
 have:=h.1
 unfold HT.sIx at this
 simp at this
structure Row(n many:Nat)(rs:List (List Nat)):Prop where
 few:rs.length≤max many 1
 rg:∀ x∈rs,RgN n x
 le:∀ x∈rs,x.length≤60
theorem oP:∀ {rs:List (List Nat)} {x:List Nat},x∈rs→x.length≤totL rs
 | y::rs,x,h=>by
  unfold totL
  rw[List.map_cons,List.sum_cons]
  rcases List.mem_cons.mp h with rfl | h
  ·omega
  ·have:=oP h
   unfold totL at this
   omega
end Lw
namespace L2
open PySem PySem.Spec PyProof.Rows
theorem mT:entryFor table "dict_itemiterator.__iter__"=some Builtin.«dict_keyiterator.__iter__»:=by
 refine entryFor_alias (id':="dict_keyiterator.__iter__") ?_ ?_ ?_ ?_
 ·kernel_rfl
 ·decide +kernel
 ·have e:String.map (fun c=>if (c.isAlphanum || c == '_' || c == '.')=true then c else '_') "dict_itemiterator.__iter__"="dict_itemiterator.__iter__":=by decide +kernel
  rw[e]
  show _="dict_keyiterator.__iter__"
  kernel_rfl
 ·kernel_rfl
section
variable {prog:Program}{w:World}{A:Around}{E:Value→Shared→Prop}{s:Shared}
theorem D6:(if Builtin.Dict_items.ownsTuple "dict_itemiterator"=true then 2 else 0)=2:=by decide
theorem xP{it d:Addr}{i ep:Nat}{ok ov:Value}{o:Obj}{es:Array DictEntry}{e:DictEntry}{Q:Fin→Shared→Prop}(hit:IsItemIter s.heap it d i es.size ep ok ov)(hd:s.heap.get? d=some o)(dt:o.data=.dict es ep)(hne:d≠it)(he:es[i]?=some e)
  (hQ:∀ g,IsItemIterOut g it d (i+1) es.size ep e.key e.val s.heap.objs.size→g.get? s.heap.objs.size=some { cls:=.type "tuple",data:=.seq #[e.key,e.val] }→g.objs.size=s.heap.objs.size+1→(∀ c ob,c≠it→s.heap.get? c=some ob→g.get? c=some ob)→Q (.done (.ret (.ref s.heap.objs.size))) { s with heap:=g }) :
  wpAny (model prog w) A (Builtin.«dict_itemiterator.__next__» ⟨[.ref it],[]⟩) Q E s:=by
 have hT:s.TypeIs (.ref it) "dict_itemiterator":=⟨_,hit,rfl⟩
 show wpAny _ _ (Builtin.Dict_items.slot0 "__next__" ⟨[.ref it],[]⟩ >>= _) _ _ _
 rw[show Builtin.Dict_items.slot0 "__next__" ⟨[.ref it],[]⟩=pure (.ref it) from rfl]
 refine wpAny_bind (wpAny_pure (wpAny_bind ?_))
 show wpAny _ _ (_ >>= _) _ _ _
 refine wpAny_bind ?_
 refine wpAny_bind (wpAny_typeNameOfWhole_itemiter hT (wpAny_pure ?_))
 rw[D6]
 refine wpAny_bind (wpAny_fieldsOf hit rfl ?_)
 show wpAny _ _ (if (Value.ref d == Value.none)=true then _ else _) _ _ _
 rw[if_neg (by intro c;cases c)]
 refine wpAny_bind (wpAny_pure (wpAny_bind (wpAny_dictEntries hd dt ?_)))
 dsimp only
 rw[if_neg (by simp)]
 refine wpAny_bind (wpAny_pure (wpAny_bind (wpAny_dictEpoch hd dt ?_)))
 rw[if_neg (by simp)]
 refine wpAny_pure ?_
 dsimp only
 rw[if_neg (by omega),Int.toNat_natCast,he]
 dsimp only
 refine wpAny_bind (wpAny_bind (wpAny_typeNameOfWhole_itemiter hT (wpAny_pure ?_)))
 rw[D6]
 refine wpAny_bind (wpAny_isOneOf_itemiter hT ?_)
 refine wpAny_bind (wpAny_setField_rec hit (by simp) fun g1 z1 e1=>?_)
 have z1':IsItemIter g1 it d (i+1) es.size ep ok ov:=z1
 have hT1:Shared.TypeIs { s with heap:=g1 } (.ref it) "dict_itemiterator":=⟨_,z1',rfl⟩
 refine wpAny_bind (wpAny_holding ?_)
 show wpAny _ _ (_ >>= _) _ _ _
 refine wpAny_bind (wpAny_isOneOf_itemiter hT1 ?_)
 refine wpAny_bind (wpAny_isOneOf_itemiter hT1 ?_)
 show wpAny _ _ (Builtin.Dict_items.pairFromOwner (.ref it) 6 e.key e.val) _ _ _
 unfold Builtin.Dict_items.pairFromOwner newTuple
 refine wpAny_bind (wpAny_newObj_type ?_ (by size_fits))
 have sz1:g1.objs.size=s.heap.objs.size:=e1.1
 have z2:IsItemIter (g1.push { cls:=.type "tuple",data:=.seq #[e.key,e.val] }) it d (i+1) es.size ep ok ov:=Heap.get?_push_of_some _ z1'
 unfold Builtin.Dict_items.ownedTupleIsFree
 refine wpAny_bind (wpAny_bind (wpAny_field z2 rfl (x:=.none) rfl (wpAny_pure ?_)))
 rw[if_pos rfl]
 refine wpAny_bind (wpAny_field z2 rfl (x:=ok) rfl (wpAny_bind (wpAny_field z2 rfl (x:=ov) rfl ?_)))
 refine wpAny_bind (wpAny_setField_rec z2 (by simp) fun g3 z3 e3=>?_)
 refine wpAny_bind (wpAny_setField_rec z3 (by simp) fun g4 z4 e4=>?_)
 refine wpAny_bind (wpAny_setField_rec z4 (by simp) fun g5 z5 e5=>?_)
 refine wpAny_bind (wpAny_setField_rec z5 (by simp) fun g6 z6 e6=>?_)
 refine wpAny_bind (wpAny_letGo (wpAny_pure (wpAny_pure ?_)))
 have lz:=Heap.lt_size hit
 have up:∀ c ob,c≠it→(g1.push { cls:=.type "tuple",data:=.seq #[e.key,e.val] }).get? c=some ob→g6.get? c=some ob:=fun c ob hc h=>e6.extBut _ _ hc (e5.extBut _ _ hc (e4.extBut _ _ hc (e3.extBut _ _ hc h)))
 have T6:g6.get? g1.objs.size=some { cls:=.type "tuple",data:=.seq #[e.key,e.val] }:=up _ _ (by rw[sz1];exact Nat.ne_of_gt lz) (Heap.get?_push_size _ rfl)
 have n6:g6.objs.size=g1.objs.size+1:=by rw[e6.1,e5.1,e4.1,e3.1,Heap.size_push]
 rw[sz1] at T6 n6 z6 ⊢
 exact hQ g6 z6 T6 n6 fun c ob hc h=>up c ob hc (Heap.get?_push_of_some _ (e1.extBut _ _ hc h))
theorem Bi{it d:Addr}{i ep:Nat}{ok ov:Value}{o:Obj}{es:Array DictEntry}{Q:Fin→Shared→Prop}(hh:A.handled=none)(hit:IsItemIter s.heap it d i es.size ep ok ov)(hd:s.heap.get? d=some o)(dt:o.data=.dict es ep)(he:es[i]?=none)
  (hE:∀ g e,Heap.ExtBut it s.heap g→(∃ o,g.get? e=some o∧o.cls=.type "StopIteration")→E (.ref e) { s with heap:=g }) :
  wpAny (model prog w) A (Builtin.«dict_itemiterator.__next__» ⟨[.ref it],[]⟩) Q E s:=by
 have hT:s.TypeIs (.ref it) "dict_itemiterator":=⟨_,hit,rfl⟩
 show wpAny _ _ (Builtin.Dict_items.slot0 "__next__" ⟨[.ref it],[]⟩ >>= _) _ _ _
 rw[show Builtin.Dict_items.slot0 "__next__" ⟨[.ref it],[]⟩=pure (.ref it) from rfl]
 refine wpAny_bind (wpAny_pure (wpAny_bind ?_))
 show wpAny _ _ (_ >>= _) _ _ _
 refine wpAny_bind ?_
 refine wpAny_bind (wpAny_typeNameOfWhole_itemiter hT (wpAny_pure ?_))
 rw[D6]
 refine wpAny_bind (wpAny_fieldsOf hit rfl ?_)
 show wpAny _ _ (if (Value.ref d == Value.none)=true then _ else _) _ _ _
 rw[if_neg (by intro c;cases c)]
 refine wpAny_bind (wpAny_pure (wpAny_bind (wpAny_dictEntries hd dt ?_)))
 dsimp only
 rw[if_neg (by simp)]
 refine wpAny_bind (wpAny_pure (wpAny_bind (wpAny_dictEpoch hd dt ?_)))
 rw[if_neg (by simp)]
 refine wpAny_pure ?_
 dsimp only
 rw[if_neg (by omega),Int.toNat_natCast,he]
 dsimp only
 refine wpAny_bind (wpAny_bind (wpAny_typeNameOfWhole_itemiter hT (wpAny_pure ?_)))
 rw[D6]
 refine wpAny_bind (wpAny_setField_rec hit (by simp) fun g1 z1 e1=>?_)
 refine wpAny_bind ?_
 simp only [newExc,newTuple]
 refine wpAny_bind (wpAny_newObj_type ?_ (by size_fits))
 refine wpAny_bind (m:=firstArgMember _ _) (wpAny_of_eq (a:=Value.none) (by first | rfl | (simp only [firstArgMember];rfl)) ?_)
 refine wpAny_newObj_type ?_ (by size_fits)
 simp only [raiseNew]
 refine wpAny_bind (wpAny_handled ?_)
 first | rw[show A.in1.handled=none from hh] | rw[hh]
 refine wpAny_bind (wpAny_pure (wpAny_throw ?_))
 exact hE _ _ ((e1.extBut.push _).push _) ⟨_,Heap.get?_push_size _ rfl,rfl⟩
theorem xO{it d:Addr}{i ep:Nat}{ok ov:Value}{o:Obj}{es:Array DictEntry}{e:DictEntry}{Q:Option Value→Shared→Prop}(hit:IsItemIter s.heap it d i es.size ep ok ov)(hd:s.heap.get? d=some o)(dt:o.data=.dict es ep)(hne:d≠it)(he:es[i]?=some e)
  (hQ:∀ g,IsItemIterOut g it d (i+1) es.size ep e.key e.val s.heap.objs.size→g.get? s.heap.objs.size=some { cls:=.type "tuple",data:=.seq #[e.key,e.val] }→g.objs.size=s.heap.objs.size+1→(∀ c ob,c≠it→s.heap.get? c=some ob→g.get? c=some ob)→Q (some (.ref s.heap.objs.size)) { s with heap:=g }) :
  wpAny (model prog w) A (pyNext (.ref it)) Q E s:=by
 have hT:s.TypeIs (.ref it) "dict_itemiterator":=⟨_,hit,rfl⟩
 unfold pyNext
 exact wpAny_bind (wpAny_attempt (wpAny_callSpecial?_slot (name:=Str.ofString "__next__") hT F.slot_dict_itemiterator_next (wpAny_call_entry F.slot_dict_itemiterator_next hT F.entry_dict_itemiterator_next (xP hit hd dt hne he fun g b1 b2 b3 b4=>⟨_,rfl,wpAny_pure (hQ g b1 b2 b3 b4)⟩) (F.args_dict_itemiterator_next_1 _))))
theorem Br{it d:Addr}{i ep:Nat}{ok ov:Value}{o:Obj}{es:Array DictEntry}{Q:Option Value→Shared→Prop}(hh:A.handled=none)(hit:IsItemIter s.heap it d i es.size ep ok ov)(hd:s.heap.get? d=some o)(dt:o.data=.dict es ep)(he:es[i]?=none)
  (hQ:∀ g,Heap.ExtBut it s.heap g→Q none { s with heap:=g }):wpAny (model prog w) A (pyNext (.ref it)) Q E s:=by
 have hT:s.TypeIs (.ref it) "dict_itemiterator":=⟨_,hit,rfl⟩
 unfold pyNext
 refine wpAny_bind (wpAny_attempt (wpAny_callSpecial?_slot (name:=Str.ofString "__next__") hT F.slot_dict_itemiterator_next (wpAny_call_entry F.slot_dict_itemiterator_next hT F.entry_dict_itemiterator_next (Bi hh hit hd dt he fun g e kp hx=>?_) (F.args_dict_itemiterator_next_1 _))))
 obtain⟨o,go,co⟩:=hx
 exact wpAny_bind (wpAny_isInstance (T:="StopIteration") (b:=true) ⟨o,go,co⟩ isSubtype_stop (wpAny_pure (hQ _ kp)))
theorem yC{d:Addr}{o:Obj}{Q:Value→Shared→Prop}(hn:(d == sysModules)=false)(hd:s.heap.get? d=some o)(ho:o.ExactDict)
  (h:Q (.ref s.heap.objs.size) { s with heap:=s.heap.push { cls:=.type "dict_items",data:=.fields #[.ref d] } }):wpAny (model prog w) A (call (.builtin "dict.items") [.ref d]) Q E s:=by
 have hT:s.TypeIs (.ref d) "dict":=⟨_,hd,ho.1⟩
 refine wpAny_call_entry F.slot_dict_items hT F.entry_dict_items ?_ (F.args_dict_items_1 _)
 unfold Builtin.«dict.items» Builtin.Dict.noArgs Builtin.Dict.notOrdered
 rw[if_pos (by decide)]
 refine wpAny_bind (wpAny_bind (wpAny_bind (wpAny_typeOf hT ?_)))
 rw[if_neg (by decide)]
 refine wpAny_pure (wpAny_bind ?_)
 rw[show Builtin.Dict.nameIsSure "items" ⟨[.ref d],[]⟩ (!(⟨[.ref d],[]⟩:Args).kw.isEmpty || (⟨[.ref d],[]⟩:Args).pos.length != 1)=pure () from rfl]
 refine wpAny_pure (wpAny_bind ?_)
 rw[show selfOnly (toString "dict."++toString "items") ⟨[.ref d],[]⟩=pure (.ref d) from rfl]
 refine wpAny_pure (wpAny_pure (wpAny_bind ?_))
 unfold Builtin.Dict.showsAll
 rw[hn]
 refine wpAny_pure (wpAny_bind ?_)
 unfold newFields
 exact wpAny_newObj_type (wpAny_pure ⟨_,rfl,h⟩) (by size_fits)
theorem yH{v d:Addr}{o:Obj}{es:Array DictEntry}{ep:Nat}{Q:Value→Shared→Prop}(hv:s.heap.get? v=some { cls:=.type "dict_items",data:=.fields #[.ref d] })(hd:s.heap.get? d=some o)(dt:o.data=.dict es ep)
  (h:Q (.ref s.heap.objs.size) { s with heap:=s.heap.push { cls:=.type "dict_itemiterator",data:=.fields #[.none,.bool false,.ref d,.int 0 0,.int es.size 0,.int ep 0,.none,.none] } }):wpAny (model prog w) A (pyIter (.ref v)) Q E s:=by
 have hT:s.TypeIs (.ref v) "dict_items":=⟨_,hv,rfl⟩
 refine wpAny_pyIter_slot hT F.slot_dict_items_iter (wpAny_call_entry F.slot_dict_items_iter hT F.entry_dict_items_iter ?_ (F.args_dict_items_iter_1 _))
 unfold Builtin.«dict_items.__iter__» Builtin.Dict_items.dictOf Builtin.Dict_items.newIterator
 rw[show Builtin.Dict_items.slot0 "__iter__" ⟨[.ref v],[]⟩=pure (.ref v) from rfl]
 refine wpAny_bind (wpAny_pure (wpAny_bind (wpAny_bind (wpAny_field hv rfl (x:=.ref d) rfl (wpAny_pure ?_)))))
 refine wpAny_bind (wpAny_bind (wpAny_dictEntries hd dt (wpAny_bind (wpAny_dictEpoch hd dt ?_))))
 unfold newFields
 refine wpAny_newObj_type (wpAny_pure ⟨_,rfl,"dict_itemiterator",_,⟨_,Heap.get?_push_size _ rfl,rfl⟩,F.slot_dict_itemiterator_next.lookup,?_⟩) (by show 8≤sizeLine+2;decide)
 exact h
end
def Ij(d:Addr)(o:Obj)(kvs:List (List bW×V)):It :=
 ⟨fun i H=>H d=some (.frz o (.dT kvs))∧i<kvs.length,fun i H x H'=>∃ p k v q,kvs[i]?=some (k,v)∧x=.ref p∧H p=none∧H q=some (.tup (k.map kV))∧H'=upd H p (.tup [.ref q,v]),fun i H=>H d=some (.frz o (.dT kvs))∧kvs.length≤i⟩
theorem yB{P:Program}{w:World}{K:PySem.W.Frag}{els:List Expr}{x1}{pos:Pos}(d it:Addr)(o:Obj)(es:Array DictEntry)(ep:Nat)(kvs:List (List bW×V))(od:o.data=.dict es ep)(hl:es.size=kvs.length)(hne:d≠it) :
  Turn P w K (.Tuple els x1 pos) (Ij d o kvs) [it] it (fun i h=>∃ ok ov,IsItemIter h it d i es.size ep ok ov) where
 mem:=by simp
 obj:=fun i h st b hb=>by
  have e:b=it:=by simpa using hb
  subst e
  obtain⟨ok,ov,g⟩:=st
  exact⟨_,g,fun v z=>by cases z⟩
 keep:=fun i h h' st k=>by
  obtain⟨ok,ov,g⟩:=st
  exact⟨ok,ov,k it (by simp) _ g⟩
 item:=by
  intro X hP hw hK hc i pins s σ H E I hf st hg
  subst hP hw hK
  obtain⟨ok,ov,st⟩:=st
  obtain⟨hd,hi⟩:=hg
  obtain⟨g0,_,xs,es',ep',r,_,od',he⟩:=yG I hd
  rw[od] at od'
  cases od'
  obtain⟨kv,hkv⟩:∃ kv,kvs[i]?=some kv:=⟨_,List.getElem?_eq_getElem hi⟩
  obtain⟨⟨k,ad,vl⟩,hx,hk1,hk2,hk3⟩:=Paired.at r hkv
  have hes:es[i]?=some (entryOfKey (tupleKind (bN X.prog X.w)) (k,ad,vl)):=by
   rw[← Array.getElem?_toList,he,List.getElem?_map,hx]
   rfl
  refine xO st g0 od hne hes fun g1 st1 T1 n1 kp1=>⟨_,rfl,?_⟩
  refine wpAny_letOwnedTupleGo_items st1 fun h2 st2 e2=>?_
  have lz:=Heap.lt_size st
  have ne:s.heap.objs.size≠it:=Nat.ne_of_gt lz
  have T2:h2.get? s.heap.objs.size=some { cls:=.type "tuple",data:=.seq #[.ref ad,vl] }:=(e2.2 _ ne).trans T1
  have hHn:H s.heap.objs.size=none:=I.hok.fresh (Nat.le_refl _)
  have kpn:∀ b o,b ∉ [it]→s.heap.get? b=some o→h2.get? b=some o:=fun b o hn q=>(e2.2 b fun z=>hn (by simp[z])).trans (kp1 b o (fun z=>hn (by simp[z])) q)
  refine⟨.ref s.heap.objs.size,upd H s.heap.objs.size (.tup [.ref ad,kv.2]),?_,rfl,⟨_,kv.1,kv.2,ad,hkv,rfl,hHn,hk2,rfl⟩,⟨_,_,st2⟩,fun b hb=>?_⟩
  ·exact I.turnedN (t':=s.toks) (h':=h2) kpn hf (Nat.le_refl _) ⟨by show 2≤sizeLine;decide,[.ref ad,vl],.cons rfl (.cons hk3 .nil),⟨_,T2,rfl,0,rfl⟩,⟨_,T2,rfl⟩⟩
  ·have e:b=it:=by simpa using hb
   subst e
   rw[aJ ne.symm]
   exact(hf b hb).1
 done:=by
  intro X hP hw hK hc i pins s σ H E I hf st hg
  subst hP hw hK
  obtain⟨ok,ov,st⟩:=st
  obtain⟨hd,hi⟩:=hg
  obtain⟨g0,_,xs,es',ep',r,_,od',he⟩:=yG I hd
  rw[od] at od'
  cases od'
  obtain⟨f0,f1,f2,f3,f4,f5⟩:=hf it (by simp)
  exact Br (I.ok.hd hc) st g0 od (by rw[Array.getElem?_eq_none_iff];omega) fun h' eb=>⟨rfl,I.turned (t':=s.toks) (fun b o hb e=>eb b o hb e) f0 f1 f3 f4 f5⟩
 self:=fun A i s Q E st h=>by
  obtain⟨ok,ov,st⟩:=st
  have hT:s.TypeIs (.ref it) "dict_itemiterator":=⟨_,st,rfl⟩
  refine wpAny_pyIter_slot hT F.slot_dict_itemiterator_iter (wpAny_call_entry F.slot_dict_itemiterator_iter hT mT ?_ (F.args_dict_itemiterator_iter_1 _))
  show wpAny _ _ (slotArgs "__iter__" 0 ⟨[.ref it],[]⟩ >>= _) _ _ _
  rw[show slotArgs "__iter__" 0 ⟨[.ref it],[]⟩=pure (.ref it,[]) from rfl]
  exact wpAny_bind (wpAny_pure (wpAny_pure ⟨_,rfl,"dict_itemiterator",_,hT,F.slot_dict_itemiterator_next.lookup,h⟩))
section
variable {X:Cx}
def HU(td:TE):TI:=fun σ H R=>td σ H fun x H1=>∃ d kvs,x=.ref d∧((H1 d=some (.dT kvs)∧∀ o,R (Ij d o kvs) (upd H1 d (.frz o (.dT kvs))))∨∃ o,H1 d=some (.frz o (.dT kvs))∧R (Ij d o kvs) H1)
theorem C4{els:List Expr}{x1}{tpos:Pos}{o:Expr}{apos cpos:Pos}{td:TE}(ho:PE X o td)(hb:attributeBase o "items" X.env (eval o X.env)=eval o X.env:=by rfl)(hline:(apos.endLine == cpos.line)=true:=by rfl) :
  PI X (.Tuple els x1 tpos) (.Call (.Attribute o "items" apos) [] [] cpos) (HU td):=by
 intro pins s σ H R I h
 refine wpAny_Call_method0_late hb hline (bS (ho pins s σ H _ I h) fun u s1 ⟨x,H1,I1,rx,d,kvs,ex,hq⟩=>?_)
 subst ex
 cases (show u=Value.ref d from rx)
 obtain⟨ob,H2,e2,I2,q2⟩:∃ o H2,H2 d=some (.frz o (.dT kvs))∧Inv X pins σ H2 s1∧R (Ij d o kvs) H2:=by
  rcases hq with ⟨e1,q⟩ | ⟨o,e1,q⟩
  ·obtain⟨o,_,I2⟩:=I1.freeze e1
   exact⟨o,_,aC,I2,q o⟩
  ·exact⟨o,H1,e1,I1,q⟩
 obtain⟨g0,hn,xs,es,ep,r,xo,od,he⟩:=yG I2 e2
 have hl:es.size=kvs.length:=by rw[← Array.length_toList,he,List.length_map,← Paired.length r]
 refine⟨"dict","dict.items",PySem.F.plainAttrs_dict,PySem.F.slot_dict_items,PySem.F.type_dict_items,⟨_,g0,xo.1⟩,fun b q=>?_,?_⟩
 ·cases q
  exact⟨ob,g0,xo.2.1⟩
 refine Calls.callWith_builtin rfl (PySem.evalArgs_none ?_)
 refine yC hn g0 xo ?_
 have n1:(s1.heap.push { cls:=.type "dict_items",data:=.fields #[.ref d] }).objs.size=s1.heap.objs.size+1:=Heap.size_push ..
 have lz:=Heap.lt_size g0
 refine yH (Heap.get?_push_size _ rfl) (Heap.get?_push_of_some _ g0) od ?_
 refine⟨_,[_],_,Ij d ob kvs,H2,rfl,I2.kept (t':=s1.toks) (fun b u e=>Heap.get?_push_of_some _ (Heap.get?_push_of_some _ e)),yB d _ ob es ep kvs od hl (by show d≠(s1.heap.push _).objs.size;rw[n1];exact Nat.ne_of_lt (Nat.lt_succ_of_lt lz)),⟨_,_,Heap.get?_push_size _ rfl⟩,fun b hb=>?_,q2⟩
 have e:b=s1.heap.objs.size+1:=by rw[← n1];simpa using hb
 subst e
 exact I2.fpOk (Nat.le_succ _) (I2.hok.fresh (Nat.le_succ _))
end
end L2
namespace Lw
open PySem PySem.Spec PyProof.Rows L2 Ma MaR
theorem sJ{x:List Nat}{c i:Nat}(h:i<x.length):Builtin.Str.subAt (S x) (S [c]) i=decide (x[i]?=some c):=by
 unfold Builtin.Str.subAt
 have e:((S x).cps.extract i (i+(S [c]).length))=#[x[i]]:=by
  apply Array.ext'
  rw[aT]
  show ((x.toArray).extract i (i+1)).toList=[x[i]]
  simp only [Array.toList_extract,List.extract_eq_drop_take]
  rw[show i+1 - i=1 by omega,List.drop_eq_getElem_cons h]
  rfl
 rw[e,List.getElem?_eq_getElem h]
 show (#[x[i]] == #[c])=_
 by_cases q:x[i]=c
 ·rw[q];simp
 ·rw[decide_eq_false (by simpa using q)]
  simpa using q
theorem uD{x:List Nat}{c:Nat}:∀ (k i:Nat) (arr:Array Nat) (free:Nat),i+k=x.length+1→free≤i→arr.size≤i →
  (Id.run (forIn (List.range' i k) (arr,free) (StrLaws.occBody (S x) (S [c]) (S x).length ((S x).length+1)))).1.size=arr.size+(x.drop i).countP (fun d=>decide (d=c))
 | 0,i,arr,free,h1,h2,h3=>by
  rw[List.drop_eq_nil_of_le (by omega)]
  rfl
 | k+1,i,arr,free,h1,h2,h3=>by
  rw[List.range'_succ,List.forIn_cons]
  by_cases hi:i<x.length
  ·have hd:x.drop i=x[i]::x.drop (i+1):=List.drop_eq_getElem_cons hi
   by_cases q:x[i]=c
   ·have e:StrLaws.occBody (S x) (S [c]) (S x).length ((S x).length+1) i (arr,free)=pure (ForInStep.yield (arr.push i,i+1)):=by
     unfold StrLaws.occBody
     rw[if_pos]
     ·rfl
     ·refine⟨⟨⟨by rw[aT];show arr.size<_;omega,h2⟩,by rw[aT,aT];show i+1≤_;omega⟩,by rw[sJ hi,List.getElem?_eq_getElem hi,q];simp⟩
    rw[e]
    show (Id.run (forIn (List.range' (i+1) k) (arr.push i,i+1) _)).1.size=_
    rw[uD k (i+1) (arr.push i) (i+1) (by omega) (Nat.le_refl _) (by rw[Array.size_push];omega),Array.size_push,hd,List.countP_cons,if_pos (by simpa using q)]
    omega
   ·have e:StrLaws.occBody (S x) (S [c]) (S x).length ((S x).length+1) i (arr,free)=pure (ForInStep.yield (arr,free)):=by
     unfold StrLaws.occBody
     rw[if_neg]
     intro z
     have:=z.2
     rw[sJ hi,List.getElem?_eq_getElem hi] at this
     exact q (by simpa using this)
    rw[e]
    show (Id.run (forIn (List.range' (i+1) k) (arr,free) _)).1.size=_
    rw[uD k (i+1) arr free (by omega) (by omega) (by omega),hd,List.countP_cons,if_neg (by simpa using q)]
    omega
  ·have e:StrLaws.occBody (S x) (S [c]) (S x).length ((S x).length+1) i (arr,free)=pure (ForInStep.yield (arr,free)):=by
    unfold StrLaws.occBody
    rw[if_neg]
    intro z
    have:=z.1.2
    rw[aT,aT] at this
    have:i+1≤x.length:=this
    omega
   rw[e]
   show (Id.run (forIn (List.range' (i+1) k) (arr,free) _)).1.size=_
   rw[uD k (i+1) arr free (by omega) (by omega) (by omega),List.drop_eq_nil_of_le (by omega:x.length≤i),List.drop_eq_nil_of_le (by omega)]
def ctN(x:List Nat)(c:Nat):Nat:=x.countP fun d=>decide (d=c)
theorem vB(x:List Nat)(c:Nat):xH (S x) (S [c])=((ctN x c:Nat):Int):=by
 unfold xH
 rw[StrLaws.occ_eq,Array.length_toList]
 have:=uD (x:=x) (c:=c) (x.length+1) 0 #[] 0 (by omega) (Nat.le_refl _) (Nat.le_refl _)
 rw[aT] at *
 rw[Nat.sub_zero,this]
 simp[ctN]
section
variable (c:Nat)(sd:List Nat)
def sG(e:Nat):List Nat:=if e∈sd then [c] else []
def D8(e:Nat):List Nat:=if con e∈sd then [con c] else []
def fI(e:Nat):List Nat:=if e=c∨e=con c then [] else [e]
def wV(e:Nat):List Nat:=D8 c sd e++fI c e++sG c sd e
def jn(p e:Nat):List Nat:=if p∈sd then (if con e∈sd then [] else [c]) else (if con e∈sd then [con c] else [])
def Zf:Nat→List Nat→List Nat
 | _,[]=>[]
 | p,e::r=>jn c sd p e++fI c e++Zf e r
end
def dN:Nat→List Nat→Nat
 | p,[]=>p
 | _,e::r=>dN e r
section
variable {c:Nat}{sd:List Nat}
theorem tW(hc:bU c)(e:Nat):AllL (sG c sd e):=by
 unfold sG
 split
 ·exact fun d hd=>by rw[List.mem_singleton.mp hd];exact hc
 ·exact AllL.nil
theorem E3(hc:bU c)(e:Nat):AllL (D8 c sd e):=by
 unfold D8
 split
 ·exact fun d hd=>by rw[List.mem_singleton.mp hd];exact cN hc
 ·exact AllL.nil
theorem nZ{e:Nat}(he:bU e):AllL (fI c e):=by
 unfold fI
 split
 ·exact AllL.nil
 ·exact fun d hd=>by rw[List.mem_singleton.mp hd];exact he
theorem Db(hc:bU c)(p e:Nat):AllL (jn c sd p e):=by
 unfold jn
 split <;> split
 ·exact AllL.nil
 ·exact fun d hd=>by rw[List.mem_singleton.mp hd];exact hc
 ·exact fun d hd=>by rw[List.mem_singleton.mp hd];exact cN hc
 ·exact AllL.nil
theorem pT(hc:bU c):∀ (x:List Nat) (p:Nat),AllL x→AllL (Zf c sd p x)
 | [],_,_=>AllL.nil
 | e::r,p,h=>AllL.app.mpr ⟨AllL.app.mpr ⟨Db hc p e,nZ (AllL.cons.mp h).1⟩,pT hc r e (AllL.cons.mp h).2⟩
theorem tE(hc:bU c):∀ x:List Nat,AllL x→AllL (x.flatMap (wV c sd))
 | [],_=>AllL.nil
 | e::r,h=>by
  rw[List.flatMap_cons]
  exact AllL.app.mpr ⟨AllL.app.mpr ⟨AllL.app.mpr ⟨E3 hc e,nZ (AllL.cons.mp h).1⟩,tW hc e⟩,tE hc r (AllL.cons.mp h).2⟩
theorem Ic(hc:bU c){u v:List Nat}(hu:AllL u)(hv:AllL v)(p e:Nat):lay (u++(sG c sd p++D8 c sd e)++v)=lay (u++jn c sd p e++v):=by
 unfold sG D8 jn
 by_cases h1:p∈sd
 ·by_cases h2:con e∈sd
  ·rw[if_pos h1,if_pos h2,if_pos h1,if_pos h2]
   rw[List.append_nil]
   show lay (u++[c,con c]++v)=_
   rw[List.append_assoc]
   exact fZ u v hu (cN hc) (aN hc).symm
  ·rw[if_pos h1,if_neg h2,if_pos h1,if_neg h2,List.append_nil]
 ·by_cases h2:con e∈sd
  ·rw[if_neg h1,if_pos h2,if_neg h1,List.nil_append]
  ·rw[if_neg h1,if_neg h2,if_neg h1,List.nil_append]
theorem zW(hc:bU c):∀ (x:List Nat) (p:Nat) (u:List Nat),AllL u→AllL x→lay (u++sG c sd p++x.flatMap (wV c sd))=lay (u++Zf c sd p x++sG c sd (dN p x))
 | [],p,u,_,_=>by
  show lay (u++sG c sd p++[])=lay (u++[]++sG c sd p)
  rw[List.append_nil,List.append_nil]
 | e::r,p,u,hu,hx=>by
  obtain⟨he,hr⟩:=AllL.cons.mp hx
  rw[List.flatMap_cons]
  show lay (u++sG c sd p++(D8 c sd e++fI c e++sG c sd e++r.flatMap (wV c sd)))=lay (u++(jn c sd p e++fI c e++Zf c sd e r)++sG c sd (dN e r))
  have h1:=Ic hc (sd:=sd) hu (v:=fI c e++sG c sd e++r.flatMap (wV c sd)) (AllL.app.mpr ⟨AllL.app.mpr ⟨nZ he,tW hc e⟩,tE hc r hr⟩) p e
  have h2:=zW hc r e (u++jn c sd p e++fI c e) (AllL.app.mpr ⟨AllL.app.mpr ⟨hu,Db hc p e⟩,nZ he⟩) hr
  simp only [List.append_assoc] at h1 h2 ⊢
  rw[h1,h2]
def Ch:Nat→List Nat→Prop
 | _,[]=>True
 | p,e::r=>e≠con p∧Ch e r
def Lj(c:Nat)(sd:List Nat)(p L:Nat):Prop:=(p≠c∧p≠con c∧L=p)∨(p=c∧(L=c∨(L≠c∧L≠con c∧¬ L∈sd)))∨(p=con c∧(L=con c∨(L≠c∧L≠con c∧L∈sd)))
theorem pK(hc:bU c)(h1:c∈sd)(h2:¬ con c∈sd):∀ (x:List Nat) (p:Nat),bU p→AllL x→Ch p x→bC (Zf c sd p x)∧∀ L,bU L→Lj c sd p L→∀ f t,Zf c sd p x=f::t→f≠con L
 | [],p,_,_,_=>⟨trivial,fun L _ _ f t h=>by cases h⟩
 | e::r,p,hp,hx,hch=>by
  obtain⟨he,hr⟩:=AllL.cons.mp hx
  obtain⟨n1,hch'⟩:=hch
  obtain⟨ih1,ih2⟩:=pK hc h1 h2 r e he hr hch'
  have cc:=aN hc
  have cn:=hV hc
  show bC (jn c sd p e++fI c e++Zf c sd e r)∧∀ L,bU L→Lj c sd p L→∀ f t,jn c sd p e++fI c e++Zf c sd e r=f::t→f≠con L
  by_cases e1:e=c
  ·subst e1
   have ho:fI e e=[]:=by unfold fI;rw[if_pos (.inl rfl)]
   rw[ho,List.append_nil]
   by_cases hps:p∈sd
   ·have hj:jn e sd p e=[e]:=by unfold jn;rw[if_pos hps,if_neg h2]
    rw[hj]
    refine⟨eE ih1 fun d t ht z=>?_,fun L hL ad f t ht=>?_⟩
    ·have ht:Zf e sd e r=d::t:=ht
     exact ih2 e he (.inr (.inl ⟨rfl,.inl rfl⟩)) d t ht (by rw[z,aN (by have:=pT (sd:=sd) hc r e hr;rw[ht] at this;exact(AllL.cons.mp this).1)])
    ·have ef:f=e:=by cases ht;rfl
     subst ef
     intro z
     have z2:con f=L:=by rw[z,aN hL]
     rcases ad with ⟨a1,a2,a3⟩ | ⟨a1,a2 | ⟨a2,a3,a4⟩⟩ | ⟨a1,_⟩
     ·exact a2 (by rw[← a3,z2])
     ·rw[a2] at z;exact cn z.symm
     ·exact a3 z2.symm
     ·exact n1 (by rw[a1,cc])
   ·have hj:jn e sd p e=[]:=by unfold jn;rw[if_neg hps,if_neg h2]
    rw[hj]
    refine⟨ih1,fun L hL ad f t ht=>ih2 L hL (.inr (.inl ⟨rfl,.inr ?_⟩)) f t ht⟩
    rcases ad with ⟨a1,a2,a3⟩ | ⟨a1,_⟩ | ⟨a1,_⟩
    ·rw[a3];exact⟨a1,a2,hps⟩
    ·exact absurd (by rw[a1];exact h1) hps
    ·exact absurd (by rw[a1,cc]) n1
  ·by_cases e2:e=con c
   ·subst e2
    have ho:fI c (con c)=[]:=by unfold fI;rw[if_pos (.inr rfl)]
    rw[ho,List.append_nil]
    have hce:con (con c)∈sd:=by rw[cc];exact h1
    by_cases hps:p∈sd
    ·have hj:jn c sd p (con c)=[]:=by unfold jn;rw[if_pos hps,if_pos hce]
     rw[hj]
     refine⟨ih1,fun L hL ad f t ht=>ih2 L hL (.inr (.inr ⟨rfl,.inr ?_⟩)) f t ht⟩
     rcases ad with ⟨a1,a2,a3⟩ | ⟨a1,_⟩ | ⟨a1,_⟩
     ·rw[a3];exact⟨a1,a2,hps⟩
     ·exact absurd (by rw[a1]) n1
     ·exact absurd (by rw[← a1];exact hps) h2
    ·have hj:jn c sd p (con c)=[con c]:=by unfold jn;rw[if_neg hps,if_pos hce]
     rw[hj]
     refine⟨eE ih1 fun d t ht z=>?_,fun L hL ad f t ht=>?_⟩
     ·have ht:Zf c sd (con c) r=d::t:=ht
      exact ih2 (con c) he (.inr (.inr ⟨rfl,.inl rfl⟩)) d t ht (by rw[z,aN (by have:=pT (sd:=sd) hc r (con c) hr;rw[ht] at this;exact(AllL.cons.mp this).1)])
     ·have ef:f=con c:=by cases ht;rfl
      subst ef
      intro z
      have z2:c=L:=by rw[← cc,z,aN hL]
      rcases ad with ⟨a1,a2,a3⟩ | ⟨a1,_⟩ | ⟨a1,a2 | ⟨a2,a3,a4⟩⟩
      ·exact a1 (by rw[← a3,← z2])
      ·exact hps (by rw[a1];exact h1)
      ·rw[a2] at z2;exact cn z2.symm
      ·exact a2 z2.symm
   ·have ho:fI c e=[e]:=by unfold fI;rw[if_neg (by intro z;rcases z with z | z;exact e1 z;exact e2 z)]
    rw[ho]
    have pe:bC (e::Zf c sd e r):=eE ih1 fun d t ht z=>ih2 e he (.inl ⟨e1,e2,rfl⟩) d t ht (by rw[z,aN (by have:=pT (sd:=sd) hc r e hr;rw[ht] at this;exact(AllL.cons.mp this).1)])
    have hcase:(p∈sd∧¬ con e∈sd∧jn c sd p e=[c])∨(¬ p∈sd∧con e∈sd∧jn c sd p e=[con c])∨((p∈sd↔con e∈sd)∧jn c sd p e=[]):=by
     unfold jn
     by_cases q1:p∈sd <;> by_cases q2:con e∈sd <;> simp[q1,q2]
    rcases hcase with ⟨q1,q2,hj⟩ | ⟨q1,q2,hj⟩ | ⟨q,hj⟩
    ·rw[hj]
     refine⟨eE pe fun d t ht z=>?_,fun L hL ad f t ht=>?_⟩
     ·have ed:d=e:=by cases ht;rfl
      subst ed
      exact e2 (by rw[z,aN he])
     ·have ef:f=c:=by cases ht;rfl
      subst ef
      intro z
      have z2:con f=L:=by rw[z,aN hL]
      rcases ad with ⟨a1,a2,a3⟩ | ⟨a1,a2 | ⟨a2,a3,a4⟩⟩ | ⟨a1,_⟩
      ·exact a2 (by rw[← a3,z2])
      ·rw[a2] at z;exact cn z.symm
      ·exact a3 z2.symm
      ·exact h2 (by rw[← a1];exact q1)
    ·rw[hj]
     refine⟨eE pe fun d t ht z=>?_,fun L hL ad f t ht=>?_⟩
     ·have ed:d=e:=by cases ht;rfl
      subst ed
      exact e1 (by rw[← aN he,← z,cc])
     ·have ef:f=con c:=by cases ht;rfl
      subst ef
      intro z
      have z2:c=L:=by rw[← cc,z,aN hL]
      rcases ad with ⟨a1,a2,a3⟩ | ⟨a1,_⟩ | ⟨a1,a2 | ⟨a2,a3,a4⟩⟩
      ·exact a1 (by rw[← a3,← z2])
      ·exact q1 (by rw[a1];exact h1)
      ·rw[a2] at z2;exact cn z2.symm
      ·exact a2 z2.symm
    ·rw[hj]
     refine⟨pe,fun L hL ad f t ht=>?_⟩
     have ef:f=e:=by cases ht;rfl
     subst ef
     intro z
     have z2:con f=L:=by rw[z,aN hL]
     rcases ad with ⟨a1,a2,a3⟩ | ⟨a1,a2 | ⟨a2,a3,a4⟩⟩ | ⟨a1,a2 | ⟨a2,a3,a4⟩⟩
     ·exact n1 (by rw[← a3];exact z)
     ·exact e2 (by rw[z,a2])
     ·exact a4 (by rw[← z2];exact q.mp (by rw[a1];exact h1))
     ·exact e1 (by rw[z,a2,cc])
     ·exact h2 (by rw[← a1];exact q.mpr (by rw[z2];exact a4))
def GT(sd:List Nat)(p q:Nat):Bool:=decide (p∈sd) != decide (q∈sd)
theorem G6(p e:Nat):(jn c sd p e).length=if GT sd p (con e) then 1 else 0:=by
 unfold jn GT
 by_cases q1:p∈sd <;> by_cases q2:con e∈sd <;> simp[q1,q2]
theorem D0(e:Nat):(fI c e).length+((if e=c then 1 else 0)+(if e=con c∧e≠c then 1 else 0))=1:=by
 unfold fI
 by_cases q1:e=c
 ·simp[q1]
 ·by_cases q2:e=con c
  ·rw[if_pos (.inr q2),if_neg q1,if_pos ⟨q2,q1⟩];rfl
  ·rw[if_neg (by intro z;rcases z with z | z;exact q1 z;exact q2 z),if_neg q1,if_neg (fun z=>q2 z.1)];rfl
def Ie(sd:List Nat):Nat→List Nat→Nat
 | _,[]=>0
 | p,e::r=>(if GT sd p (con e) then 1 else 0)+Ie sd e r
theorem B8(hc:bU c):∀ (x:List Nat) (p:Nat),(Zf c sd p x).length+(ctN x c+ctN x (con c))=x.length+Ie sd p x
 | [],p=>rfl
 | e::r,p=>by
  have ih:=B8 hc r e
  have h1:=G6 (c:=c) (sd:=sd) p e
  have h2:=D0 (c:=c) e
  have cn:=hV hc
  show (jn c sd p e++fI c e++Zf c sd e r).length+_=_
  rw[List.length_append,List.length_append,List.length_cons]
  unfold ctN at *
  rw[List.countP_cons,List.countP_cons]
  show _=r.length+1+((if GT sd p (con e) then 1 else 0)+Ie sd e r)
  have h3:(if e=con c∧e≠c then 1 else 0)=(if decide (e=con c)=true then 1 else 0):=by
   by_cases q:e=con c
   ·rw[if_pos ⟨q,by rw[q];exact cn⟩,if_pos (by simpa using q)]
   ·rw[if_neg (fun z=>q z.1),if_neg (by simpa using q)]
  have h4:(if e=c then 1 else 0)=(if decide (e=c)=true then 1 else 0):=by
   by_cases q:e=c
   ·rw[if_pos q,if_pos (by simpa using q)]
   ·rw[if_neg q,if_neg (by simpa using q)]
  rw[h3,h4] at h2
  omega
theorem FG{x:List Nat}:∀ (y:List Nat) (p:Nat),bU p→AllL y→(∀ k a b,(p::y)[k]?=some a→(p::y)[k+1]?=some b→a≠con b)→Ch p y
 | [],_,_,_,_=>trivial
 | e::r,p,hp,hy,h=>by
  obtain⟨he,hr⟩:=AllL.cons.mp hy
  refine⟨fun z=>h 0 p e rfl rfl (by rw[z,aN hp]),FG (x:=x) r e he hr fun k a b h1 h2=>h (k+1) a b (by simpa using h1) (by simpa using h2)⟩
theorem xJ:∀ {u:List Nat} {p:Nat} {v:List Nat},Ch p u→Ch (dN p u) v→Ch p (u++v)
 | [],_,_,_,h=>h
 | e::r,_,v,h1,h2=>⟨h1.1,xJ (u:=r) h1.2 h2⟩
theorem DB:∀ (u:List Nat) (p:Nat) (v:List Nat),Zf c sd p (u++v)=Zf c sd p u++Zf c sd (dN p u) v
 | [],_,_=>rfl
 | e::r,p,v=>by
  show jn c sd p e++fI c e++Zf c sd e (r++v)=jn c sd p e++fI c e++Zf c sd e r++Zf c sd (dN e r) v
  rw[DB r e v]
  simp only [List.append_assoc]
theorem eU:∀ (x:List Nat) (p:Nat),x≠[]→dN p x=x.getD (x.length - 1) 0
 | [e],_,_=>rfl
 | e::f::r,p,_=>by
  have:=eU (f::r) e (by simp)
  show dN e (f::r)=_
  rw[this]
  simp
theorem fP{n:Nat}{x:List Nat}(h:RgN n x):AllL x∧bC x∧(x≠[]→Ends x 0):=by
 obtain⟨y,hy,hp,m,b,he,hb,rfl⟩:=h
 have ha:=hy.all
 have hm:=jP (m:=m) ha
 have hcy:=Au ha hp he
 rcases hb with ⟨e0,rfl⟩ | ⟨hb,_⟩
 ·rw[e0]
  exact⟨AllL.nil,trivial,fun z=>absurd rfl z⟩
 ·refine⟨?_,xW hcy hb,fun _=>vP hm hcy hb⟩
  intro d hd
  unfold eI at hd
  rcases List.mem_append.mp hd with z | z
  ·exact hm d (List.mem_of_mem_drop z)
  ·exact hm d (List.mem_of_mem_take z)
theorem Ah{n:Nat}{x:List Nat}(h:RgN n x)(hne:x≠[]):Ch (dN 0 x) x:=by
 obtain⟨ha,hp,he⟩:=fP h
 have hpos:=List.length_pos_iff.mpr hne
 have el:=eU x 0 hne
 refine FG (x:=x) x _ (by rw[el];exact cZ ha (by omega)) ha fun k a b h1 h2=>?_
 cases k with
 | succ k=>exact jV hp (by simpa using h1) (by simpa using h2)
 | zero =>
  have e1:a=dN 0 x:=by simpa using h1.symm
  have e2:b=x.getD 0 0:=by
   have:x[0]?=some b:=by simpa using h2
   rw[List.getD_eq_getElem?_getD,this];rfl
  rw[e1,e2,el]
  by_cases hl:1<x.length
  ·intro z
   refine(he hne).2 ⟨by omega,?_⟩
   rw[Nat.sub_zero,z,aN (cZ ha hpos)]
  ·have:x.length - 1=0:=by omega
   rw[this]
   exact(hV (cZ ha hpos)).symm
theorem DT{n:Nat}{f:List (List Nat)}{x r:List Nat}(hc:bU c)(h1:c∈sd)(h2:¬ con c∈sd)(hx:RgN n x)(ht:told f x=x.flatMap (wV c sd))(hr:RingR (retl f x) r) :
  r.length+(ctN x c+ctN x (con c))=x.length+Ie sd (dN 0 x) x:=by
 by_cases hne:x=[]
 ·subst hne
  have:=hr.len
  have e:retl f []=[]:=rfl
  rw[e] at this
  have:r.length=0:=by simpa using this
  rw[this];rfl
 ·obtain⟨ha,hp,he⟩:=fP hx
  have hch:=Ah hx hne
  have hpos:=List.length_pos_iff.mpr hne
  have el:=eU x 0 hne
  obtain⟨p,ep⟩:∃ p,p=dN 0 x:=⟨_,rfl⟩
  have hpL:bU p:=by rw[ep,el];exact cZ ha (by omega)
  have lp:dN p x=p:=by rw[ep,eU x _ hne,el]
  rw[← ep] at hch ⊢
  have hw:=tE (sd:=sd) hc x ha
  have hg:=tW (sd:=sd) hc p
  have hZa:=pT (sd:=sd) hc x p ha
  obtain⟨hZ,_⟩:=pK hc h1 h2 x p hpL ha hch
  obtain⟨hZZ,_⟩:=pK hc h1 h2 (x++x) p hpL (AllL.app.mpr ⟨ha,ha⟩) (xJ hch (by rw[lp];exact hch))
  rw[DB,lp] at hZZ
  have hl:=B8 (sd:=sd) hc x p
  have e1:retl f x=lay (x.flatMap (wV c sd)):=by unfold retl;rw[ht]
  have hra:AllL (retl f x):=by rw[e1];exact jM hw
  have hrp:bC (retl f x):=by unfold retl;exact eJ _
  have hq:=mJ hra hrp hr (sG c sd p) hg
  have e2:lay (sG c sd p++retl f x++back (sG c sd p))=Zf c sd p x:=by
   rw[e1,← fU _ _ (AllL.app.mpr ⟨hg,jM hw⟩),fK _ _ hg hw]
   have:=zW (sd:=sd) hc x p [] AllL.nil ha
   rw[List.nil_append,List.nil_append,lp] at this
   rw[this,fU _ _ (AllL.app.mpr ⟨hZa,hg⟩)]
   unfold sG
   split
   ·show lay (Zf c sd p x++[c]++[con c])=_
    rw[List.append_assoc]
    have:=fZ (Zf c sd p x) [] hZa (cN hc) (aN hc).symm
    rw[List.append_nil] at this
    rw[show [c]++[con c]=[c,con c] from rfl,this,eN hZ]
   ·show lay (Zf c sd p x++[]++[])=_
    rw[List.append_nil,List.append_nil,eN hZ]
  rw[e2] at hq
  have he0:Ends (Zf c sd p x) 0:=by
   refine⟨fun j hj=>absurd hj (Nat.not_lt_zero _),fun ⟨q1,q2⟩=>?_⟩
   generalize Zf c sd p x=Z at *
   have l1:(Z++Z)[Z.length - 1]?=some (Z.getD (Z.length - 1) 0):=by
    rw[List.getElem?_append_left (by omega)];exact fD (by omega)
   have l2:(Z++Z)[Z.length - 1+1]?=some (Z.getD 0 0):=by
    rw[List.getElem?_append_right (by omega),show Z.length - 1+1 - Z.length=0 by omega];exact fD (by omega)
   refine jV hZZ l1 l2 ?_
   rw[q2,Nat.sub_zero,aN (cZ hZa (by omega))]
  obtain⟨m,b,hm,hb,rfl⟩:=hq
  have em:=hm.inj he0
  subst em
  rw[jE] at hb ⊢
  rw[bZ (by rcases hb with ⟨_,rfl⟩ | ⟨hb,_⟩;exact Nat.zero_le _;omega)]
  exact hl
theorem tO{c e:Nat}(hc:bU c)(he:bU e)(hl:bK e=true):e=lo c↔e=c∨e=con c:=by
 rcases aV hc with rfl | rfl | rfl | rfl | rfl | rfl | rfl | rfl <;> rcases aV he with rfl | rfl | rfl | rfl | rfl | rfl | rfl | rfl <;> revert hl <;> decide
theorem pQ{e:Nat}(hcL:bU c)(h1:c∈sd)(h2:¬ con c∈sd)(h:e=c∨e=con c):wV c sd e=[e]:=by
 have cc:=aN hcL
 unfold wV D8 fI sG
 rw[if_pos h]
 rcases h with rfl | rfl
 ·rw[if_neg h2,if_pos h1];rfl
 ·rw[cc,if_pos h1,if_neg h2];rfl
theorem zH{d:Nat}(hcL:bU c)(hd:bU d)(hl:bK d=true)(h1:c∈sd)(h2:¬ con c∈sd):iU c sd d=wV c sd d:=by
 by_cases q:d=lo c
 ·rw[pQ hcL h1 h2 ((tO hcL hd hl).mp q)]
  unfold iU
  rw[if_pos q]
 ·have q':¬ (d=c∨d=con c):=fun z=>q ((tO hcL hd hl).mpr z)
  unfold iU wV D8 fI sG
  rw[if_neg q,if_neg q']
theorem Cv{e:Nat}(hcL:bU c)(he:bU e)(h1:c∈sd)(h2:¬ con c∈sd):back (wV c sd (con e))=wV c sd e:=by
 have cc:=aN hcL
 have ce:=aN he
 by_cases q:e=c∨e=con c
 ·have q2:con e=c∨con e=con c:=by
   rcases q with rfl | rfl
   ·exact .inr rfl
   ·exact .inl cc
  rw[pQ hcL h1 h2 q,pQ hcL h1 h2 q2]
  show [con (con e)]=[e]
  rw[ce]
 ·have q2:¬ (con e=c∨con e=con c):=by
   intro z
   rcases z with z | z
   ·exact q (.inr (by rw[← ce,z]))
   ·exact q (.inl (oE he hcL z))
  unfold wV D8 fI sG back
  rw[if_neg q,if_neg q2,ce]
  by_cases a1:e∈sd <;> by_cases a2:con e∈sd <;> simp[a1,a2,cc,ce]
theorem Ek{n:Nat}(n1:1≤n)(n4:n≤4)(hc:c∈aQ n)(h1:c∈sd)(h2:¬ con c∈sd){e:Nat}(he:e∈aQ n):tell (gD n c sd) e=wV c sd e:=by
 have hcL:=aK hc
 have heL:=aK he
 rcases lM n1 n4 he with ⟨hl,hg⟩ | ⟨hl,hg⟩
 ·unfold tell
  rw[if_pos hl]
  unfold gD
  rw[List.getD_eq_getElem?_getD,List.getElem?_map,hg]
  exact zH hcL heL hl h1 h2
 ·unfold tell
  rw[if_neg (by rw[hl];decide)]
  unfold gD
  rw[List.getD_eq_getElem?_getD,List.getElem?_map,hg]
  show back (iU c sd (con e))=_
  have hlc:bK (con e)=true:=by
   revert hl
   rcases aV heL with rfl | rfl | rfl | rfl | rfl | rfl | rfl | rfl <;> decide
  rw[zH hcL (cN heL) hlc h1 h2]
  exact Cv hcL heL h1 h2
theorem C9{n:Nat}(n1:1≤n)(n4:n≤4)(hc:c∈aQ n)(h1:c∈sd)(h2:¬ con c∈sd){x:List Nat}(hx:OfN n x):told (gD n c sd) x=x.flatMap (wV c sd):=by
 unfold told
 exact kG fun e he=>Ek n1 n4 hc h1 h2 (hx e he)
end
def mB(sd:List Nat)(k:KP):Bool:=match k with
 | [a,b]=>nT (kV a) (aX sd) != nT (kV b) (aX sd)
 | _=>false
theorem G7(sd:List Nat)(p q:Nat):mB sd (jY p q)=GT sd p q:=by
 unfold jY
 split
 ·show (nT (.str (S [p])) (aX sd) != nT (.str (S [q])) (aX sd))=_
  rw[nW,nW];rfl
 ·show (nT (.str (S [q])) (aX sd) != nT (.str (S [p])) (aX sd))=_
  rw[nW,nW]
  unfold GT
  cases decide (p∈sd) <;> cases decide (q∈sd) <;> rfl
def nH:Nat→List Nat→List KP
 | _,[]=>[]
 | p,e::r=>jY p (con e)::nH e r
theorem sL:∀ (x:List Nat) (p i:Nat),i<x.length→(nH p x)[i]?=some (jY (if i=0 then p else x.getD (i - 1) 0) (con (x.getD i 0)))
 | e::r,p,0,_=>rfl
 | e::r,p,i+1,h=>by
  show (nH e r)[i]?=_
  rw[sL r e i (by simpa using h)]
  by_cases q:i=0
  ·subst q;rfl
  ·rw[if_neg q,if_neg (by omega)]
   obtain⟨j,rfl⟩:∃ j,i=j+1:=⟨i - 1,by omega⟩
   rfl
theorem sK:∀ (x:List Nat) (p:Nat),(nH p x).length=x.length
 | [],_=>rfl
 | e::r,p=>by show (nH e r).length+1=_;rw[sK r e];rfl
theorem Fl(x:List Nat):eT x=nH (dN 0 x) x:=by
 refine List.ext_getElem? fun i=>?_
 by_cases h:i<x.length
 ·rw[sL x _ i h]
  unfold eT
  rw[List.getElem?_map,List.getElem?_range h]
  have hne:x≠[]:=fun z=>by rw[z] at h;simp at h
  show some (jY (jD x i) (con (x.getD i 0)))=_
  unfold jD
  rw[eU x 0 hne]
 ·rw[List.getElem?_eq_none (by rw[gS];omega),List.getElem?_eq_none (by rw[sK];omega)]
theorem Fw(sd:List Nat):∀ (x:List Nat) (p:Nat),Ie sd p x=(nH p x).countP (mB sd)
 | [],_=>rfl
 | e::r,p=>by
  show (if GT sd p (con e) then 1 else 0)+Ie sd e r=(jY p (con e)::nH e r).countP (mB sd)
  rw[List.countP_cons,G7,Fw sd r e]
  omega
theorem JS(sd x:List Nat):Ie sd (dN 0 x) x=(eT x).countP (mB sd):=by rw[Fl,Fw]
def Fi:V→Int
 | .int i=>i
 | _=>0
def nR(sd:List Nat)(kvs:List (KP×V)):Int:=((kvs.filter fun kv=>mB sd kv.1).map fun kv=>Fi kv.2).sum
theorem sQ(sd:List Nat)(p:KP×V)(r:List (KP×V)):nR sd (p::r)=(if mB sd p.1 then Fi p.2 else 0)+nR sd r:=by
 unfold nR
 by_cases h:mB sd p.1=true
 ·rw[List.filter_cons_of_pos (p:=fun kv:KP×V=>mB sd kv.1) h,if_pos h];rfl
 ·rw[List.filter_cons_of_neg (p:=fun kv:KP×V=>mB sd kv.1) h,if_neg h];omega
theorem Cp(p:KP×V)(r:List (KP×V))(k:KP)(h:¬ p.1=k):Ae (p::r) k=Ae r k:=by unfold Ae;rw[cU h]
theorem sM(sd:List Nat){k:KP}{i:Int}:∀ {kvs:List (KP×V)},(kvs.map (·.1)).Nodup→(∀ kv∈kvs,∃ j,kv.2=.int j)→k∈kvs.map (·.1) →
  nR sd (kvs.map fun kv=>if kv.1=k then (kv.1,.int i) else kv)=nR sd kvs+(if mB sd k then i - Ae kvs k else 0)
 | [],_,_,h=>nomatch h
 | p::r,hn,hi,hk=>by
  rw[List.map_cons,List.nodup_cons] at hn
  rw[List.map_cons,sQ,sQ]
  by_cases e:p.1=k
  ·subst e
   have same:(r.map fun kv=>if kv.1=p.1 then (kv.1,V.int i) else kv)=r:=by
    refine(List.map_congr_left fun kv hkv=>?_).trans (List.map_id r)
    rw[if_neg]
    ·rfl
    ·intro z
     exact hn.1 (by rw[← z];exact List.mem_map.mpr ⟨kv,hkv,rfl⟩)
   rw[same,if_pos rfl]
   obtain⟨j,hj⟩:=hi p List.mem_cons_self
   have en:Ae (p::r) p.1=j:=by unfold Ae;rw[cX rfl,hj]
   rw[en,hj]
   show (if mB sd p.1 then i else 0)+_=(if mB sd p.1 then j else 0)+_+_
   split <;> omega
  ·have hk':k∈r.map (·.1):=by
    rw[List.map_cons] at hk
    rcases List.mem_cons.mp hk with z | z
    ·exact absurd z.symm e
    ·exact z
   rw[if_neg e,sM sd hn.2 (fun kv h=>hi kv (List.mem_cons_of_mem _ h)) hk',Cp p r k e]
   omega
theorem Bc(sd:List Nat)(kvs:List (KP×V))(p:KP×V):nR sd (kvs++[p])=nR sd kvs+(if mB sd p.1 then Fi p.2 else 0):=by
 unfold nR
 rw[List.filter_append,List.map_append,List.sum_append]
 by_cases h:mB sd p.1=true
 ·rw[List.filter_cons_of_pos (p:=fun kv:KP×V=>mB sd kv.1) h,if_pos h];simp
 ·rw[List.filter_cons_of_neg (p:=fun kv:KP×V=>mB sd kv.1) h,if_neg h];simp
theorem Eg(sd:List Nat):∀ ks:List KP,nR sd (Dk ks)=((ks.countP (mB sd):Nat):Int):=by
 refine lI rfl fun ks k ih=>?_
 rw[kZ,List.countP_append]
 have hcs:(([k]:List KP).countP (mB sd):Nat)=if mB sd k then 1 else 0:=by
  rw[List.countP_cons,List.countP_nil];omega
 rw[hcs]
 unfold AQ dR
 by_cases h:((Dk ks).any fun kv=>decide (kv.1=k))=true
 ·rw[if_pos h]
  have hk:k∈(Dk ks).map (·.1):=by
   obtain⟨kv,hkv,e⟩:=List.any_eq_true.mp h
   exact List.mem_map.mpr ⟨kv,hkv,of_decide_eq_true e⟩
  rw[sM sd (Fs ks) (fun kv hkv=>⟨_,(DR hkv).1⟩) hk,ih]
  split <;> omega
 ·rw[if_neg h,Bc,ih]
  have hz:Ae (Dk ks) k=0:=by
   unfold Ae
   cases hv:cF (Dk ks) k with
   | none=>rfl
   | some v =>
    exfalso
    apply h
    obtain⟨kv,hkv,e⟩:=List.mem_map.mp (Eb hv)
    exact List.any_eq_true.mpr ⟨kv,hkv,decide_eq_true e⟩
  rw[hz]
  show _+(if mB sd k then (0:Int)+1 else 0)=_
  split <;> omega
end Lw
namespace L2
open PySem PySem.Spec PyProof.Rows
theorem vQ{K:PySem.W.Frag}{d:Addr}{o:Obj}{kvs:List (List bW×V)}{D:Addr}{Q:VK}{ti:TT}{te:TE}{c:St}{H0:Hp}(Pv:Nat→Hp→Prop)(h0:Pv 0 H0)(hl:∀ i H,i≤kvs.length→Pv i H→H d=some (.frz o (.dT kvs)))
  (hs:∀ i k v p q H,kvs[i]?=some (k,v)→H p=none→H q=some (.tup (k.map kV))→Pv i H→ti (some (.ref q)::some v::c) (upd H p (.tup [.ref q,v])) fun b H1=>if b=true then te (some (.ref q)::some v::c) H1 fun y H2=>∃ ys,H2 D=some (.lst ys)∧ys.length<sizeLine∧Pv (i+1) (upd H2 D (.lst (ys++[y]))) else Pv (i+1) H1)
  (hd:∀ H,Pv kvs.length H→Q (.ref D) H):uE K (Ij d o kvs) D Q ti te c H0:=by
 refine⟨fun i m H'=>m=kvs.length - i∧i≤kvs.length∧Pv i H',⟨kvs.length,by simp,Nat.zero_le _,h0⟩,?_⟩
 rintro i m H' ⟨rfl,hi,p⟩
 have q:=hl i H' hi p
 by_cases hlt:i<kvs.length
 ·refine .inr ⟨⟨q,hlt⟩,Pv (i+1),fun H'' p=>⟨kvs.length - (i+1),by omega,rfl,hlt,p⟩,fun v H2 y=>?_⟩
  obtain⟨pp,k,v',qq,hk,rfl,hn,hq,rfl⟩:=y
  exact⟨pp,.ref qq,v',rfl,SqT.of aC,hs i k v' pp qq H' hk hn hq p⟩
 ·have e:i=kvs.length:=by omega
  subst e
  exact .inl ⟨⟨q,Nat.le_refl _⟩,hd H' p⟩
end L2
namespace Lw
open PySem PySem.Spec PyProof.Rows L2 Ma MaR
structure GoodS(n c:Nat)(sd:List Nat):Prop where
 base:GoodC n c sd
 inn:c∈sd
 out:¬ con c∈sd
def RowR(f rs qs:List (List Nat)):Prop:=qs.length=rs.length∧∀ (i:Nat) (x q:List Nat),rs[i]?=some x→qs[i]?=some q→RingR (retl f x) q
theorem RowR.inj{f rs qs qs':List (List Nat)}{n M:Nat}(hf:RT f n M)(h:RowR f rs qs)(h':RowR f rs qs'):qs=qs':=by
 refine List.ext_getElem? fun i=>?_
 by_cases hi:i<rs.length
 ·have h1:i<qs.length:=by rw[h.1];exact hi
  have h2:i<qs'.length:=by rw[h'.1];exact hi
  rw[List.getElem?_eq_getElem h1,List.getElem?_eq_getElem h2]
  congr 1
  exact RingR.inj (dY hf _) (h.2 i _ _ (List.getElem?_eq_getElem hi) (List.getElem?_eq_getElem h1)) (h'.2 i _ _ (List.getElem?_eq_getElem hi) (List.getElem?_eq_getElem h2))
 ·rw[List.getElem?_eq_none (by rw[h.1];omega),List.getElem?_eq_none (by rw[h'.1];omega)]
def qJ(K:PySem.W.Frag):Sp:=fun vs H Q _=>∃ (a b:Addr) (f rs:List (List Nat)) (n:Nat),vs=[.ref a,.ref b]∧SqT K H a (bV f)∧SqT K H b (bV rs)∧RT f n 3∧(∀ x∈f,OfN n x)∧1≤n∧n≤4∧rs.length≤100∧(∀ x∈rs,OfN n x∧x.length≤100) ∧
 ∀ (p:Addr) (qs:List (List Nat)) (H':Hp),H p=none→Same H H'→RowR f rs qs→(∀ y∈qs,RgN n y∧y.length≤300)→H' p=some (.tup (bV qs))→Q (.ref p) H'
theorem Ar{n c:Nat}{sd:List Nat}(n1:1≤n)(n4:n≤4)(g:GoodS n c sd):∀ {rs qs:List (List Nat)},(∀ x∈rs,RgN n x)→RowR (gD n c sd) rs qs →
  totL qs+((rs.map fun x=>ctN x c+ctN x (con c)).sum)=totL rs+(bO rs).countP (mB sd)
 | [],qs,_,h=>by
  have:qs=[]:=List.length_eq_zero_iff.mp h.1
  rw[this];rfl
 | x::rs,[],_,h=>by exact absurd h.1 (by simp)
 | x::rs,q::qs,hx,h=>by
  have ih:=Ar n1 n4 g (rs:=rs) (qs:=qs) (fun y hy=>hx y (List.mem_cons_of_mem _ hy)) ⟨by have:=h.1;simpa using this,fun i y z h1 h2=>h.2 (i+1) y z (by simpa using h1) (by simpa using h2)⟩
  have hr:=h.2 0 x q rfl rfl
  have hx0:=hx x List.mem_cons_self
  have key:=DT (aK g.base.let') g.inn g.out hx0 (C9 n1 n4 g.base.let' g.inn g.out hx0.ofn) hr
  rw[JS] at key
  unfold totL bO at *
  rw[List.map_cons,List.sum_cons,List.map_cons,List.sum_cons,List.map_cons,List.sum_cons,List.map_cons,List.flatten_cons,List.countP_append]
  omega
theorem Ap:∀ (rs:List (List Nat)) (c:Nat),Cz rs c=(((rs.map fun x=>ctN x c+ctN x (con c)).sum:Nat):Int)
 | [],_=>rfl
 | x::rs,c=>by
  have:=Ap rs c
  unfold Cz at *
  rw[List.map_cons,List.sum_cons,this,vB,vB,List.map_cons,List.sum_cons]
  omega
theorem AB{n c:Nat}{sd:List Nat}(n1:1≤n)(n4:n≤4)(g:GoodS n c sd){rs qs:List (List Nat)}(hx:∀ x∈rs,RgN n x)(h:RowR (gD n c sd) rs qs) :
  ((totL rs:Nat):Int) - Cz rs c+nR sd (Dk (bO rs))=((totL qs:Nat):Int):=by
 have:=Ar n1 n4 g hx h
 rw[Ap,Eg]
 omega
theorem BG{rs:List (List Nat)}{k:KP}(h:k∈bO rs):∃ p q,k=jY p q:=by
 unfold bO eT at h
 obtain⟨l,hl,hk⟩:=List.mem_flatten.mp h
 obtain⟨x,_,rfl⟩:=List.mem_map.mp hl
 obtain⟨i,_,rfl⟩:=List.mem_map.mp hk
 exact⟨_,_,rfl⟩
theorem EH(p q:Nat):∃ u v:Nat,jY p q=[lk u,lk v]:=by
 unfold jY
 split
 ·exact⟨p,q,rfl⟩
 ·exact⟨q,p,rfl⟩
def yZ:Sp:=fun vs H Q _=>∃ (t q:Addr) (rs:List (List Nat)) (sd:List Nat),vs=[.ref t,.ref q]∧H t=some (.dT (Dk (bO rs)))∧H q=some (.tup (aX sd))∧totL rs≤900∧∀ H',Same H H'→Q (.int (nR sd (Dk (bO rs)))) H'
def wD(K:PySem.W.Frag):Sp:=fun vs H Q _=>∃ (n:Nat) (a p:Addr) (rs:List (List Nat)) (c:Nat) (sd:List Nat),vs=[.int (n:Nat),.ref a,.ref p]∧SqT K H a (bV rs)∧rs.length≤900∧(∀ x∈rs,AllL x)∧totL rs≤900∧C8 H p c sd∧bU c∧∀ H',Same H H'→Q (.int (((totL rs:Nat):Int) - Cz rs c+nR sd (Dk (bO rs)))) H'
def vA:Sp:=fun vs H Q _=>∃ (fl sc:Addr) (n most:Nat),vs=[.ref fl,.int (n:Nat),.int (most:Nat)]∧IsFl H fl sc∧1≤n∧n≤4∧6≤most∧most≤60 ∧
 ∀ (p:Addr) (rs:List (List Nat)) (H':Hp),H p=none→rs.length≤4→(∀ x∈rs,RgN n x)→totL rs≤most→IsFl H' fl sc→Kp fl H H'→H' p=some (.tup (bV rs))→Q (.ref p) H'
theorem vX:∀ (y:List Nat) (p:Nat),bU p→AllL y→Ch p y→bC (p::y)
 | [],_,_,_,_=>trivial
 | e::r,p,hp,hy,h=>by
  obtain⟨he,hr⟩:=AllL.cons.mp hy
  refine eE (vX r e he hr h.2) fun d t ht z=>?_
  have ed:d=e:=by cases ht;rfl
  subst ed
  exact h.1 (by rw[z,aN he])
def kQ(x:List Nat)(k:Nat):List Nat:=(List.replicate k x).flatten
theorem B_{x:List Nat}{p:Nat}(h:Ch p x)(hl:dN p x=p):∀ k,Ch p (kQ x k)∧dN p (kQ x k)=p
 | 0=>⟨trivial,rfl⟩
 | k+1=>by
  obtain⟨h1,h2⟩:=B_ h hl k
  have e:kQ x (k+1)=x++kQ x k:=rfl
  rw[e]
  refine⟨xJ h (by rw[hl];exact h1),?_⟩
  have app:∀ (u:List Nat) (q:Nat) (v:List Nat),dN q (u++v)=dN (dN q u) v:=by
   intro u
   induction u with
   | nil=>intro q v;rfl
   | cons a u ih=>intro q v;exact ih a v
  rw[app,hl,h2]
theorem tL{x:List Nat}{k d:Nat}(h:d∈kQ x k):d∈x:=by
 obtain⟨l,hl,hd⟩:=List.mem_flatten.mp h
 rw[(List.mem_replicate.mp hl).2] at hd
 exact hd
theorem oQ(x:List Nat):∀ k,(kQ x k).length=k * x.length
 | 0=>by simp[kQ]
 | k+1=>by
  show (x++kQ x k).length=_
  rw[List.length_append,oQ x k,Nat.succ_mul]
  omega
theorem AA{n:Nat}{x:List Nat}(h:RgN n x)(k:Nat):bC (kQ x k):=by
 by_cases hne:x=[]
 ·subst hne
  have:kQ [] k=[]:=by
   refine List.length_eq_zero_iff.mp ?_
   rw[oQ];simp
  rw[this];trivial
 ·obtain⟨ha,_,_⟩:=fP h
  have hch:=Ah h hne
  have hpos:=List.length_pos_iff.mpr hne
  have el:=eU x 0 hne
  have hpL:bU (dN 0 x):=by rw[el];exact cZ ha (by omega)
  have ll:dN (dN 0 x) x=dN 0 x:=by rw[eU x _ hne,el]
  have:=vX _ _ hpL (fun d hd=>ha d (tL hd)) (B_ hch ll k).1
  exact pH this 1
theorem lX{α:Type}(p:α→Bool)(l:List α)(i:Nat)(x:α)(h:l[i]?=some x):(l.take (i+1)).filter p=(l.take i).filter p++(if p x then [x] else []):=by
 rw[List.take_add_one,h,List.filter_append]
 congr 1
 show [x].filter p=_
 by_cases q:p x=true
 ·rw[List.filter_cons_of_pos q,if_pos q];rfl
 ·rw[List.filter_cons_of_neg q,if_neg q];rfl
theorem Fh(w:List Nat)(n:Nat)(hn:1≤n):Txt.mul (S w) (n:Int)=S (kQ w n):=by
 unfold Txt.mul
 rw[if_neg (by omega)]
 by_cases c:(((n:Int) == 1 || (S w).length == 0)=true)
 ·rw[if_pos c]
  have:kQ w n=w:=by
   rw[Bool.or_eq_true] at c
   rcases c with c | c
   ·have:n=1:=by have:=beq_iff_eq.mp c;omega
    subst this
    show w++[]=w
    rw[List.append_nil]
   ·have h0:w.length=0:=by have:=beq_iff_eq.mp c;rwa [aT] at this
    have e0:=List.length_eq_zero_iff.mp h0
    subst e0
    refine List.length_eq_zero_iff.mp ?_
    rw[oQ];simp
  rw[this]
 ·rw[if_neg c]
  have:=wC w n []
  rw[show ((n:Nat):Int).toNat=n by omega]
  show Str.mk _=Str.mk _
  congr 1
theorem sV{n:Nat}(h1:1≤n)(h4:n≤4):letV.take (2 * n)=aX (aQ n):=by
 rcases Bk h1 h4 with rfl | rfl | rfl | rfl <;> rfl
def B6(K:PySem.W.Frag):Sp:=fun vs H Q _=>∃ n:Nat,vs=[.int (n:Nat)]∧1≤n∧n≤4∧∀ (p:Addr) (H':Hp),Same H H'→SqT K H' p (aX (aQ n))→Q (.ref p) H'
end Lw
namespace L2
open PySem PySem.Spec PyProof.Rows
theorem De{x:V}(h:eO x=true):wP x x=true:=by
 cases x <;> first | (simp[wP];done) | exact absurd (show false=true from h) Bool.false_ne_true
section
variable {X:Cx}
open Classical in
end
section
variable {prog:Program}{w:World}{A:Around}{E:Value→Shared→Prop}{K:PySem.W.Frag}{C f:Addr}{h:Heap}{g:Array GenState}{d:Drawn}{t:Nat}{os:OsState}
end
section
variable {prog:Program}{w:World}{A:Around}{E:Value→Shared→Prop}{K:PySem.W.Frag}{C f a:Addr}{s:Shared}{vs:Array Value}{sl:Array (Option Value)}{name:Str}{v:Value}
end
section
variable {X:Cx}{pins:List (Addr×Obj)}{σ:St}{H:Hp}{s:Shared}{C f a:Addr}
end
section
variable {X:Cx}{k:Nat}{f C:Addr}{fd:FuncData}{ps:List Str}{sp:Sp}{x m:Str}{p pos pos' apos:Pos}{e o value:Expr}{es:List Expr}{ta tv:TE}{t:TA}
end
section
variable {prog:Program}{w:World}{A:Around}{E:Value→Shared→Prop}{K:PySem.W.Frag}{C f a:Addr}{ox:Obj}{od:Option Obj}{s:Shared}{name:Str}{v:Value}{tk:Tok}
end
section
variable {X:Cx}{pins:List (Addr×Obj)}{σ:St}{H:Hp}{s:Shared}{a C f dx:Addr}{D:Option Addr}
end
section
variable {M:Model}{A:Around}{E:Value→Shared→Prop}{s:Shared}{base:Heap}{env:Env}{outer:List Env}{L a:Addr}{oe:Obj}{vs:Array Value}
end
section
variable {X:Cx}{pins:List (Addr×Obj)}{σ:St}{H:Hp}{s:Shared}{C f a:Addr}{D:Option Addr}{h':Heap}
end
section
variable {X:Cx}{pins:List (Addr×Obj)}{σ:St}{H:Hp}{s:Shared}
end
section
variable {X:Cx}{CX:A5}{k:Nat}{f C:Addr}{fd:FuncData}{ps:List Str}{sp:Sp}{dvs:List V}{ds:List Value}{EX:St→XK}{x m:Str}{p pos apos:Pos}{e o:Expr}{es:List Expr}{ta:TE}{t:TA}
end
section
variable {X:Cx}
end
section
variable {X:Cx}{K:PySem.W.Frag}
end
end L2
namespace Lw
open PySem PySem.Spec PyProof.Rows L2
end Lw
namespace L2
open PySem PySem.Spec PyProof.Rows
theorem BU{prog:Program}{w:World}{A:Around}{E:Value→Shared→Prop}{s:Shared}{t b:Addr}{ws:List Value}{Q:Value→Shared→Prop}(ht:IsTup s.heap t (([]:List Value).toArray))(hb:IsTup s.heap b ws.toArray)
  (h1:Q (.ref b) s):wpAny (model prog w) A (binaryOp .Add (.ref t) (.ref b)) Q E s:=by
 obtain⟨⟨cls,dd,data,sl⟩,ho,hc,n,hd⟩:=id ht
 obtain⟨⟨cls2,dd2,data2,sl2⟩,ho2,hc2,n2,hd2⟩:=id hb
 simp only at hc hd hc2 hd2
 subst hc hd hc2 hd2
 exact concat_meets ⟨_,ho,rfl⟩ ⟨_,ho2,rfl⟩ noFill_tuple_add seq_tuple_add PySem.F.slot_tuple_add PySem.F.entry_tuple_add (PySem.F.args_tuple_add_2 _ _)
   (tuple_addW0 t b _ ws.toArray n n2 dd dd2 sl sl2 (by simp)) ⟨ho,ho2,h1⟩
end L2
namespace Lw
open PySem PySem.Spec PyProof.Rows L2 Ma MaR
end Lw
namespace L2
open PySem PySem.Spec PyProof.Rows
end L2
namespace Lw
open PySem PySem.Spec PyProof.Rows L2
end Lw
namespace L2
open PySem PySem.Spec PyProof.Rows
end L2
namespace Lw
open PySem PySem.Spec PyProof.Rows L2 Ma MaR
theorem oS(K:PySem.W.Frag)(H:Hp){v:V}(h:eO v=true):∃ t,BTy K H v t∧gN t "list"=false∧gN t "tuple"=false:=by
 cases v with
 | non=>exact⟨_,.non,by decide,by decide⟩
 | bl b=>exact⟨_,.bl b,by decide,by decide⟩
 | int i=>exact⟨_,.int i,by decide,by decide⟩
 | str x=>exact⟨_,.str x,by decide,by decide⟩
 | _=>exact absurd (show false=true from h) Bool.false_ne_true
end Lw
namespace L2
open PySem PySem.Spec PyProof.Rows
section
variable {X:Cx}{es:List Expr}{te:TE}{t:TA}
end
end L2
namespace Lw
open PySem PySem.Spec PyProof.Rows L2 Ma MaR
end Lw
namespace L2
open PySem PySem.Spec PyProof.Rows
section
variable {X:Cx}{es:List Expr}{te:TE}{t:TA}
end
section
variable {X:Cx}{scope:Scope}{x:Str}{ix:List Nat}{qual:Str}{fa:Addr}{cdv:Value}
end
section
variable {X:Cx}{f:Addr}{sp:Sp}{rlt:R2}
end
section
variable {X:Cx}{scope:Scope}{x:Str}{ix:List Nat}{params:Arguments}{body:Expr}{pos:Pos}{c P:Addr}{pins:List (Addr×Obj)}{σ:St}{H:Hp}{s:Shared}{Q:Value→Shared→Prop}{E:Value→Shared→Prop}
end
end L2
namespace LtL
open PySem PyProof.Rows HT
open PySem.SeqAt
open PySem.AutoSeq1 (wpAny_loadPart')
open PySem.MeetsSeq PySem.MeetsSeq2 PySem.MeetsSeq3
end LtL
namespace L2
open PySem PySem.Spec PyProof.Rows
section
variable {X:Cx}{scope:Scope}{x:Str}{ix:List Nat}{params:Arguments}{body e:Expr}{lpos p kpos pos:Pos}{c P:Addr}{ta:TA}{te:TE}{rlt:R2}{k:Nat}
end
section
variable {ts:List Tb}{H H1 H2 H':Hp}{t:Tb}{c':Addr}{K:PySem.W.Frag}
end
section
variable {P:Program}{w:World}{K:PySem.W.Frag}{mg:Str→Option Value}{base:Heap}
end
def Jf:R2:=fun x y H Q=>∃ a b xs ys,x=.ref a∧y=.ref b∧H a=some (.tup xs)∧H b=some (.tup ys)∧ys≠[]∧xs.length+ys.length≤sizeLine ∧
 ∀ p H',Same H H'→H' p=some (.tup (xs++ys))→Q (.ref p) H'
theorem El{X:Cx}:iC X (binaryOp .Add) Jf:=by
 intro pins s σ H x y v u Q I rx ry h
 obtain⟨a,b,xs,ys,rfl,rfl,ha,hb,hy,hz,q⟩:=h
 by_cases hx:xs=[]
 ·subst hx
  cases rx
  cases ry
  obtain⟨its,r1,p1,_⟩:=I.tuple (SqT.of ha)
  obtain⟨its2,r2,p2,_⟩:=I.tuple (SqT.of hb)
  obtain rfl:its=[]:=r1.nil_iff.mpr rfl
  exact BU p1 p2 ⟨.ref b,H,I,rfl,q b H (Same.refl _) hb⟩
 ·exact Ag pins s σ H _ _ v u Q I rx ry ⟨a,b,xs,ys,rfl,rfl,SqT.of ha,SqT.of hb,hx,hz,fun e=>absurd e hy,fun _ p hp=>q p _ (Same.new hp) aC⟩
end L2
namespace Lw
open PySem PySem.Spec PyProof.Rows L2 Ma MaR
end Lw
namespace L2
open PySem PySem.Spec PyProof.Rows
theorem qK{X:Cx}{x:Str}{z:Str}{pos:Pos}(hg:Gl X x)(hm:∃ t,X.mg x=some (.str z t))(hd:(x == ("__debug__":Str))=false:=by decide):PE X (.Name x pos) (tC (.str z)):=by
 obtain⟨t,hm⟩:=hm
 exact jK hg hm ⟨t,rfl⟩ hd
end L2
namespace Lw
open PySem PySem.Spec PyProof.Rows L2 Ma MaR
def StepOk(n:Nat)(H:Hp)(v:V)(st:List (List Nat)):Prop:=∃ p,v=.ref p∧((∃ c sd q,H p=some (.tup [.str (Str.ofString "change"),.str (S [c]),.ref q])∧H q=some (.tup (aX sd))∧GoodC n c sd∧st=gD n c sd)∨(∃ q,H p=some (.tup [.str (Str.ofString "exchange"),.ref q])∧H q=some (.tup (bV st))∧RT st n 1∧∀ x∈st,OfN n x))
def Tups(H H':Hp):Prop:=∀ b xs,H b=some (.tup xs)→H' b=some (.tup xs)
theorem Tups.same{H H':Hp}(s:Same H H'):Tups H H':=fun b xs h=>s b _ h
theorem Tups.kp{H H':Hp}{fl sc:Addr}(f:IsFl H fl sc)(k:Kp fl H H'):Tups H H':=fun b xs h=>jG f k h
theorem Tups.trans{H H1 H2:Hp}(a:Tups H H1)(b:Tups H1 H2):Tups H H2:=fun c xs h=>b c xs (a c xs h)
theorem Tups.set{H:Hp}{l:Addr}{xs ys:List V}(h:H l=some (.lst xs)):Tups H (upd H l (.lst ys)):=fun b zs e=>by rw[aJ (nN e h (by intro z;cases z))];exact e
theorem StepOk.tups{n:Nat}{H H':Hp}{v:V}{st:List (List Nat)}(h:StepOk n H v st)(t:Tups H H'):StepOk n H' v st:=by
 obtain⟨p,rfl,h⟩:=h
 rcases h with ⟨c,sd,q,h1,h2,h3,h4⟩ | ⟨q,h1,h2,h3,h4⟩
 ·exact⟨p,rfl,.inl ⟨c,sd,q,t _ _ h1,t _ _ h2,h3,h4⟩⟩
 ·exact⟨p,rfl,.inr ⟨q,t _ _ h1,t _ _ h2,h3,h4⟩⟩
theorem StepOk.rt{n:Nat}{H:Hp}{v:V}{st:List (List Nat)}(h:StepOk n H v st)(h1:1≤n)(h4:n≤4):RT st n 3∧∀ x∈st,OfN n x:=by
 obtain⟨p,rfl,h⟩:=h
 rcases h with ⟨c,sd,q,_,_,g,rfl⟩ | ⟨q,_,_,g,g2⟩
 ·exact⟨oJ h4 (aK g.let'),lV h1 h4 g.let'⟩
 ·exact⟨g.mono (by decide),g2⟩
def Steps(n:Nat)(H:Hp):List V→List (List (List Nat))→Prop
 | [],[]=>True
 | v::vs,st::sts=>StepOk n H v st∧Steps n H vs sts
 | _,_=>False
theorem Steps.tups{n:Nat}{H H':Hp}(t:Tups H H'):∀ {vs:List V} {sts:List (List (List Nat))},Steps n H vs sts→Steps n H' vs sts
 | [],[],_=>trivial
 | _::_,_::_,⟨h1,h2⟩=>⟨h1.tups t,Steps.tups t h2⟩
 | [],_::_,h=>h.elim
 | _::_,[],h=>h.elim
theorem Steps.len{n:Nat}{H:Hp}:∀ {vs:List V} {sts:List (List (List Nat))},Steps n H vs sts→vs.length=sts.length
 | [],[],_=>rfl
 | _::_,_::_,⟨_,h2⟩=>by rw[List.length_cons,List.length_cons,Steps.len h2]
 | [],_::_,h=>h.elim
 | _::_,[],h=>h.elim
theorem Steps.get{n:Nat}{H:Hp}:∀ {vs:List V} {sts:List (List (List Nat))},Steps n H vs sts→∀ {i:Nat} {v:V},vs[i]?=some v→∃ st,sts[i]?=some st∧StepOk n H v st
 | [],_,_,i,v,hv=>by simp at hv
 | w::vs,st::sts,⟨h1,h2⟩,0,v,hv=>by
  have:w=v:=by simpa using hv
  subst this
  exact⟨st,rfl,h1⟩
 | w::vs,st::sts,⟨h1,h2⟩,i+1,v,hv=>by
  obtain⟨s,hs,ok⟩:=Steps.get h2 (i:=i) (v:=v) (by simpa using hv)
  exact⟨s,by simpa using hs,ok⟩
 | _::_,[],h,_,_,_=>h.elim
def IsRoad(n:Nat)(H:Hp)(p:Addr)(sts:List (List (List Nat))):Prop:=∃ vs,H p=some (.tup vs)∧Steps n H vs sts
theorem IsRoad.tups{n:Nat}{H H':Hp}{p:Addr}{sts:List (List (List Nat))}(h:IsRoad n H p sts)(t:Tups H H'):IsRoad n H' p sts:=by
 obtain⟨vs,h1,h2⟩:=h
 exact⟨vs,t _ _ h1,h2.tups t⟩
def gJ(n:Nat)(sts:List (List (List Nat))):List (List Nat):=sts.foldl dX (cK n)
theorem wZ{n i:Nat}{sts:List (List (List Nat))}{st:List (List Nat)}(h:sts[i]?=some st):gJ n (sts.take (i+1))=dX (gJ n (sts.take i)) st:=by
 unfold gJ
 rw[List.take_add_one,h,List.foldl_append]
 rfl
theorem qQ{n:Nat}(h1:1≤n)(h4:n≤4):∀ (sts:List (List (List Nat))) (f:List (List Nat)) (M:Nat),RT f n M→(∀ x∈f,OfN n x)→(∀ st∈sts,RT st n 3∧∀ x∈st,OfN n x)→RT (sts.foldl dX f) n (M * 3 ^ sts.length)∧∀ x∈sts.foldl dX f,OfN n x
 | [],f,M,hf,ho,_=>⟨by simpa using hf,ho⟩
 | st::sts,f,M,hf,ho,h=>by
  obtain⟨g1,g2⟩:=h st List.mem_cons_self
  have:=qQ h1 h4 sts (dX f st) (M * 3) (yW hf g1) (Dn h1 h4 g2) fun s hs=>h s (List.mem_cons_of_mem _ hs)
  rw[List.foldl_cons,List.length_cons,Nat.pow_succ,Nat.mul_comm (3 ^ sts.length),← Nat.mul_assoc]
  exact this
theorem Steps.good{n:Nat}{H:Hp}(h1:1≤n)(h4:n≤4):∀ {vs:List V} {sts:List (List (List Nat))},Steps n H vs sts→∀ st∈sts,RT st n 3∧∀ x∈st,OfN n x
 | [],[],_,st,hst=>nomatch hst
 | _::_,_::_,⟨h,h2⟩,st,hst=>by
  rcases List.mem_cons.mp hst with rfl | hst
  ·exact h.rt h1 h4
  ·exact Steps.good h1 h4 h2 st hst
 | [],_::_,h,_,_=>h.elim
 | _::_,[],h,_,_=>h.elim
theorem Kv{i:Nat}(h:i≤6):3 ^ i≤729:=Nat.le_trans (Nat.pow_le_pow_right (by decide) h) (by decide)
theorem FB{i:Nat}(h:i≤5):3 ^ i≤243:=Nat.le_trans (Nat.pow_le_pow_right (by decide) h) (by decide)
theorem A7{n:Nat}(h1:1≤n)(h4:n≤4){sts:List (List (List Nat))}(h:∀ st∈sts,RT st n 3∧∀ x∈st,OfN n x)(i:Nat)(hi:i≤sts.length):RT (gJ n (sts.take i)) n (3 ^ i)∧∀ x∈gJ n (sts.take i),OfN n x:=by
 have:=qQ h1 h4 (sts.take i) (cK n) 1 (gC h1 h4) (tI h1 h4) fun st hs=>h st (List.mem_of_mem_take hs)
 rw[List.length_take,Nat.min_eq_left hi,Nat.one_mul] at this
 exact this
def pF:Sp:=fun vs H Q _=>∃ (n:Nat) (v:V) (st:List (List Nat)),vs=[.int (n:Nat),v]∧1≤n∧n≤4∧StepOk n H v st∧∀ (t:Addr) (H':Hp),Same H H'→H' t=some (.tup (bV st))→Q (.ref t) H'
def Af:Sp:=fun vs H Q _=>∃ (n:Nat) (t p:Addr) (sts:List (List (List Nat))),vs=[.int (n:Nat),.ref t,.ref p]∧1≤n∧n≤4∧H t=some (.tup (bV (gJ n [])))∧IsRoad n H p sts∧sts.length≤6∧∀ (t:Addr) (H':Hp),Same H H'→H' t=some (.tup (bV (gJ n sts)))→Q (.ref t) H'
def oV:Sp:=fun vs H Q _=>∃ (n:Nat) (p:Addr) (sts:List (List (List Nat))),vs=[.int (n:Nat),.ref p]∧1≤n∧n≤4∧IsRoad n H p sts∧sts.length≤6∧∀ (t:Addr) (H':Hp),Same H H'→H' t=some (.tup (bV (gJ n sts)))→Q (.ref t) H'
theorem pM:∀ (w:List Nat) (i:Nat),(aX w).eraseIdx i=aX (w.eraseIdx i)
 | [],_=>rfl
 | _::_,0=>rfl
 | c::w,i+1=>by
  show V.str (S [c])::(aX w).eraseIdx i=V.str (S [c])::aX (w.eraseIdx i)
  rw[pM w i]
end Lw
namespace PySem
open Sem (wp)
section
variable {prog:Program}{w:World}{A:Around}{E:Value→Shared→Prop}{s:Shared}
end
end PySem
namespace L2
open PySem PySem.Spec PyProof.Rows
section
variable {X:Cx}
end
end L2
namespace Lw
open PySem PySem.Spec PyProof.Rows L2 Ma MaR
structure Exch(n:Nat)(cs:List Nat):Prop where
 len:cs.length=n
 mem:∀ c∈cs,c∈aQ n
 perm:(cs.map lo).Perm (cP n)
def cR(cs:List Nat):List (List Nat):=cs.map fun c=>[c]
def Ak:Sp:=fun vs H Q _=>∃ (fl sc:Addr) (n:Nat),vs=[.ref fl,.int (n:Nat)]∧IsFl H fl sc∧1≤n∧n≤4∧∀ (p:Addr) (cs:List Nat) (H':Hp),H p=none→Exch n cs→RT (cR cs) n 1→(∀ x∈cR cs,OfN n x)→H' p=some (.tup (bV (cR cs)))→IsFl H' fl sc→Kp fl H H'→Q (.ref p) H'
theorem DO{d:Nat}(hd:bU d)(h:bK d=true):lo d=d:=((tO hd hd h).mpr (.inl rfl)).symm
theorem G8{d:Nat}(hd:bU d)(h:bK d=true):lo (con d)=d:=((tO (cN hd) hd h).mpr (.inr (aN hd).symm)).symm
theorem wQ{ls:List Nat}{i d:Nat}(h:ls[i]?=some d):(d::ls.eraseIdx i).Perm ls:=by
 induction ls generalizing i with
 | nil=>simp at h
 | cons a ls ih =>
  cases i with
  | zero=>simp at h;subst h;exact List.Perm.refl _
  | succ i =>
   have:=ih (i:=i) (by simpa using h)
   show (d::a::ls.eraseIdx i).Perm (a::ls)
   exact(List.Perm.swap a d _).trans (this.cons a)
end Lw
namespace L2
open PySem PySem.Spec PyProof.Rows
end L2
namespace Lw
open PySem PySem.Spec PyProof.Rows L2 Ma MaR
def nU(c:Nat):Nat:=if bK c=true then c - 97 else c - 65
def gX(cs:List Nat)(c:Nat):Nat:=if bK c=true then cs.getD (nU c) 0 else con (cs.getD (nU c) 0)
theorem GL{n c:Nat}(h1:1≤n)(h4:n≤4)(h:c∈aQ n):nU c<n:=by
 have hL:=aV (aK h)
 rcases Bk h1 h4 with rfl | rfl | rfl | rfl <;> rcases hL with rfl | rfl | rfl | rfl | rfl | rfl | rfl | rfl <;> revert h <;> decide
theorem Fa{c d:Nat}(hc:bU c)(hd:bU d)(h:nU c=nU d):c=d∨c=con d:=by
 rcases aV hc with rfl | rfl | rfl | rfl | rfl | rfl | rfl | rfl <;> rcases aV hd with rfl | rfl | rfl | rfl | rfl | rfl | rfl | rfl <;> revert h <;> decide
theorem eZ{d:Nat}(hd:bU d):lo (con d)=lo d:=by
 rcases aV hd with rfl | rfl | rfl | rfl | rfl | rfl | rfl | rfl <;> decide
theorem mC{n:Nat}(h1:1≤n)(h4:n≤4):(cP n).Nodup:=by
 rcases Bk h1 h4 with rfl | rfl | rfl | rfl <;> decide
section
variable {n:Nat}{cs:List Nat}(h1:1≤n)(h4:n≤4)(e:Exch n cs)
include h1 h4 e
theorem Exch.at{c:Nat}(h:c∈aQ n):∃ d,cs[nU c]?=some d∧d∈aQ n∧gX cs c=if bK c=true then d else con d:=by
 have hi:=GL h1 h4 h
 have hl:nU c<cs.length:=by rw[e.len];exact hi
 refine⟨cs[nU c],List.getElem?_eq_getElem hl,e.mem _ (List.getElem_mem hl),?_⟩
 unfold gX
 rw[List.getD_eq_getElem?_getD,List.getElem?_eq_getElem hl]
 rfl
theorem Exch.tell{c:Nat}(h:c∈aQ n):tell (cR cs) c=[gX cs c]:=by
 obtain⟨d,hd,_,hg⟩:=e.at h1 h4 h
 have e0:(cR cs).getD (nU c) []=[d]:=by
  unfold cR
  rw[List.getD_eq_getElem?_getD,List.getElem?_map,hd]
  rfl
 unfold Lw.tell
 rw[hg]
 by_cases q:bK c=true
 ·rw[if_pos q,if_pos q]
  unfold nU at e0
  rw[if_pos q] at e0
  exact e0
 ·rw[if_neg q,if_neg q]
  unfold nU at e0
  rw[if_neg q] at e0
  rw[e0]
  rfl
theorem Exch.gmem{c:Nat}(h:c∈aQ n):gX cs c∈aQ n:=by
 obtain⟨d,_,hm,hg⟩:=e.at h1 h4 h
 rw[hg]
 split
 ·exact hm
 ·exact eV (by omega) (by omega) hm
theorem Exch.gcon{c:Nat}(h:c∈aQ n):gX cs (con c)=con (gX cs c):=by
 have hc:=aK h
 have q:(bK c=true∧bK (con c)=false∧nU (con c)=nU c)∨(bK c=false∧bK (con c)=true∧nU (con c)=nU c):=by
  rcases aV hc with rfl | rfl | rfl | rfl | rfl | rfl | rfl | rfl <;> decide
 obtain⟨d,hd,hm,hg⟩:=e.at h1 h4 h
 have e1:cs.getD (nU c) 0=d:=by rw[List.getD_eq_getElem?_getD,hd];rfl
 unfold gX
 rcases q with ⟨a,b,c'⟩ | ⟨a,b,c'⟩
 ·rw[c',e1,if_neg (by rw[b];decide),if_pos a]
 ·rw[c',e1,if_pos b,if_neg (by rw[a];decide),aN (aK hm)]
theorem Exch.ginj{c d:Nat}(hc:c∈aQ n)(hd:d∈aQ n)(h:gX cs c=gX cs d):c=d:=by
 obtain⟨x,hx,xm,gx⟩:=e.at h1 h4 hc
 obtain⟨y,hy,ym,gy⟩:=e.at h1 h4 hd
 have lx:lo (gX cs c)=lo x:=by rw[gx];split <;> first | rfl | exact eZ (aK xm)
 have ly:lo (gX cs d)=lo y:=by rw[gy];split <;> first | rfl | exact eZ (aK ym)
 have nd:(cs.map lo).Nodup:=(e.perm.nodup_iff).mpr (mC h1 h4)
 have ei:nU c=nU d:=by
  have q1:(cs.map lo)[nU c]?=some (lo x):=by rw[List.getElem?_map,hx];rfl
  have q2:(cs.map lo)[nU d]?=some (lo x):=by rw[List.getElem?_map,hy,← lx,h,ly];rfl
  have l1:nU c<(cs.map lo).length:=(List.getElem?_eq_some_iff.mp q1).1
  exact(List.getElem?_inj l1 nd).mp (q1.trans q2.symm)
 rcases Fa (aK hc) (aK hd) ei with z | z
 ·exact z
 ·exfalso
  rw[z,e.gcon h1 h4 hd] at h
  exact hV (aK (e.gmem h1 h4 hd)) h
theorem Exch.told{x:List Nat}(hx:OfN n x):told (cR cs) x=x.map (gX cs):=by
 induction x with
 | nil=>rfl
 | cons c x ih=>rw[dF,e.tell h1 h4 (hx c List.mem_cons_self),ih fun d hd=>hx d (List.mem_cons_of_mem _ hd)];rfl
theorem Exch.plain{x:List Nat}(hx:OfN n x)(hp:bC x):bC (x.map (gX cs)):=by
 unfold bC at *
 rw[← List.map_reverse]
 have:∀ y:List Nat,(∀ c∈y,c∈aQ n)→PlainR y→PlainR (y.map (gX cs)):=by
  intro y
  induction y with
  | nil=>intro _ _;trivial
  | cons a y ih =>
   intro hm hq
   cases y with
   | nil=>trivial
   | cons b y =>
    refine⟨fun z=>hq.1 ?_,ih (fun c hc=>hm c (List.mem_cons_of_mem _ hc)) hq.2⟩
    have ham:=hm a (by simp)
    rw[← e.gcon h1 h4 ham] at z
    exact e.ginj h1 h4 (hm b (by simp)) (eV (by omega) (by omega) ham) z
 exact this _ (fun c hc=>hx c (List.mem_reverse.mp hc)) hp
theorem Exch.retl{x:List Nat}(hx:OfN n x)(hp:bC x):retl (cR cs) x=x.map (gX cs):=by
 unfold Lw.retl
 rw[e.told h1 h4 hx,eN (e.plain h1 h4 hx hp)]
end
section
variable {n:Nat}{cs:List Nat}(h1:1≤n)(h4:n≤4)(e:Exch n cs)
include h1 h4 e
end
section
variable {n:Nat}{cs:List Nat}(h1:1≤n)(h4:n≤4)(e:Exch n cs)
include h1 h4
include e
end
def qD(c:Nat)(sd:List Nat):List Nat:=sd.map fun d=>if d=c then con c else d
structure GoodB(n c:Nat)(sd:List Nat):Prop where
 let':c∈aQ n
 side:∀ d∈sd,d∈aQ n
 ord:sd.Pairwise fun a b=>rk a<rk b
 has:c∈sd
 hasn:¬ con c∈sd
theorem iJ{c d:Nat}{sd:List Nat}(h:c∈sd):d∈qD c sd↔d=con c∨(d∈sd∧d≠c):=by
 unfold qD
 rw[List.mem_map]
 constructor
 ·rintro⟨a,ha,e⟩
  by_cases q:a=c
  ·rw[if_pos q] at e;exact .inl e.symm
  ·rw[if_neg q] at e;subst e;exact .inr ⟨ha,q⟩
 ·rintro(rfl | ⟨a,b⟩)
  ·exact⟨c,h,if_pos rfl⟩
  ·exact⟨d,a,if_neg b⟩
theorem ED{c:Nat}{sd:List Nat}(hc:bU c)(hn:¬ con c∈sd):qD (con c) (qD c sd)=sd:=by
 unfold qD
 rw[List.map_map]
 refine(List.map_congr_left fun d hd=>?_).trans (List.map_id sd)
 show (if (if d=c then con c else d)=con c then con (con c) else (if d=c then con c else d))=d
 by_cases q:d=c
 ·rw[if_pos q,if_pos rfl,aN hc,q]
 ·have q2:¬ d=con c:=fun z=>hn (z ▸ hd)
  rw[if_neg q,if_neg q2]
theorem zL{c d:Nat}(hc:bU c)(hd:bU d)(h1:d≠c)(h2:d≠con c):(rk d<rk c↔rk d<rk (con c))∧(rk c<rk d↔rk (con c)<rk d):=by
 rcases aV hc with rfl | rfl | rfl | rfl | rfl | rfl | rfl | rfl <;> rcases aV hd with rfl | rfl | rfl | rfl | rfl | rfl | rfl | rfl <;> revert h1 h2 <;> decide
theorem GoodB.back{n c:Nat}{sd:List Nat}(h1:1≤n)(h4:n≤4)(g:GoodB n c sd):GoodB n (con c) (qD c sd):=by
 have hc:=aK g.let'
 have hcn:con c∈aQ n:=eV (by omega) (by omega) g.let'
 refine⟨hcn,fun d hd=>?_,?_,(iJ g.has).mpr (.inl rfl),fun z=>?_⟩
 ·rcases(iJ g.has).mp hd with rfl | ⟨h,_⟩
  ·exact hcn
  ·exact g.side d h
 ·unfold qD
  rw[List.pairwise_map]
  refine List.Pairwise.imp_of_mem (fun {a b} ha hb hab=>?_) g.ord
  have na:a≠con c:=fun z=>g.hasn (z ▸ ha)
  have nb:b≠con c:=fun z=>g.hasn (z ▸ hb)
  by_cases qa:a=c
  ·by_cases qb:b=c
   ·subst qa;subst qb;exact absurd hab (Nat.lt_irrefl _)
   ·subst qa
    rw[if_pos rfl,if_neg qb]
    exact(zL hc (aK (g.side b hb)) qb nb).2.mp hab
  ·by_cases qb:b=c
   ·subst qb
    rw[if_neg qa,if_pos rfl]
    exact(zL hc (aK (g.side a ha)) qa na).1.mp hab
   ·rw[if_neg qa,if_neg qb];exact hab
 ·rw[aN hc] at z
  rcases(iJ g.has).mp z with z | ⟨_,z⟩
  ·exact hV hc z.symm
  ·exact z rfl
theorem lW{n c:Nat}{sd:List Nat}(h1:1≤n)(h4:n≤4){d:Nat}(hd:d∈aQ n):tell (gD n c sd) d=if bK d=true then iU c sd d else back (iU c sd (con d)):=by
 unfold tell gD
 rcases lM h1 h4 hd with ⟨a,b⟩ | ⟨a,b⟩
 ·rw[if_pos a,if_pos a,List.getD_eq_getElem?_getD,List.getElem?_map,b];rfl
 ·rw[if_neg (by rw[a];decide),if_neg (by rw[a];decide),List.getD_eq_getElem?_getD,List.getElem?_map,b];rfl
def xK(c d:Nat)(p q:Bool):List Nat:=if d=lo c then [d] else (if p=true then [con c] else [])++[d]++(if q=true then [c] else [])
theorem FF(c:Nat)(sd:List Nat)(d:Nat):iU c sd d=xK c d (decide (con d∈sd)) (decide (d∈sd)):=by
 unfold iU xK
 simp only [decide_eq_true_eq]
theorem tS:∀ c∈lets,∀ d∈[97,98,99,100],∀ p q:Bool,lay ((xK c d p q).flatMap fun e=>if e=c∨e=con c then [e] else if bK e=true then xK (con c) e p q else back (xK (con c) (con e) p q))=[d]:=by decide +kernel
theorem HV{c d e:Nat}{p q:Bool}(h:e∈xK c d p q):e=d∨e=c∨e=con c:=by
 unfold xK at h
 split at h
 ·exact .inl (List.mem_singleton.mp h)
 ·rcases List.mem_append.mp h with h | h
  ·rcases List.mem_append.mp h with h | h
   ·split at h
    ·exact .inr (.inr (List.mem_singleton.mp h))
    ·cases h
   ·exact .inl (List.mem_singleton.mp h)
  ·split at h
   ·exact .inr (.inl (List.mem_singleton.mp h))
   ·cases h
theorem jJ{c:Nat}(hc:bU c):(lo c=c∧bK c=true)∨(lo c=con c∧bK c=false):=by
 rcases aV hc with rfl | rfl | rfl | rfl | rfl | rfl | rfl | rfl <;> decide
theorem mU(c:Nat)(sd:List Nat):iU c sd (lo c)=[lo c]:=by unfold iU;rw[if_pos rfl]
theorem sU{n c:Nat}{sd:List Nat}(h1:1≤n)(h4:n≤4)(g:GoodB n c sd):dX (gD n c sd) (gD n (con c) (qD c sd))=cK n:=by
 have hc:=aK g.let'
 unfold dX gD cK
 rw[List.map_map]
 refine List.map_congr_left fun d hd=>?_
 show retl (gD n (con c) (qD c sd)) (iU c sd d)=[d]
 have hdl:d∈aQ n:=fS h1 h4 hd
 have hdL:=aK hdl
 have hlow:bK d=true:=fX hd
 by_cases q:d=lo c
 ·-- the change's own letter
  subst q
  rw[mU]
  unfold retl told
  rw[List.flatMap_cons,List.flatMap_nil,List.append_nil,lW h1 h4 hdl,if_pos hlow,← eZ hc,mU,eZ hc]
  rcases aV hc with rfl | rfl | rfl | rfl | rfl | rfl | rfl | rfl <;> decide
 ·have n1:d≠c:=by
   intro z;subst z
   rcases jJ hc with ⟨a,_⟩ | ⟨_,b⟩
   ·exact q a.symm
   ·rw[b] at hlow;cases hlow
  have n2:d≠con c:=by
   intro z;subst z
   exact q (by rw[← eZ hc,DO (cN hc) hlow])
  have n3:con d≠c:=fun z=>n2 (by rw[← z,aN hdL])
  have n4:con d≠con c:=fun z=>n1 (by rw[← aN hdL,z,aN hc])
  have e1:decide (d∈qD c sd)=decide (d∈sd):=decide_eq_decide.mpr ⟨fun z=>((iJ g.has).mp z).elim (fun z=>absurd z n2) (·.1),fun z=>(iJ g.has).mpr (.inr ⟨z,n1⟩)⟩
  have e2:decide (con d∈qD c sd)=decide (con d∈sd):=decide_eq_decide.mpr ⟨fun z=>((iJ g.has).mp z).elim (fun z=>absurd z n4) (·.1),fun z=>(iJ g.has).mpr (.inr ⟨z,n3⟩)⟩
  have key:=tS c (Ce hc) d (by unfold cP at hd;exact List.mem_of_mem_take hd) (decide (con d∈sd)) (decide (d∈sd))
  unfold retl told
  rw[FF,← key]
  congr 1
  refine kG fun e he=>?_
  rcases HV he with rfl | z | z
  ·rw[if_neg (fun z=>z.elim n1 n2),if_pos hlow,lW h1 h4 hdl,if_pos hlow,FF,e1,e2]
  ·subst z
   rw[if_pos (.inl rfl),lW h1 h4 g.let']
   rcases jJ hc with ⟨a,b⟩ | ⟨a,b⟩
   ·rw[if_pos b]
    have:=mU (con e) (qD e sd)
    rw[eZ hc,a] at this
    exact this
   ·rw[if_neg (by rw[b];decide)]
    have:=mU (con e) (qD e sd)
    rw[eZ hc,a] at this
    rw[this]
    show [con (con e)]=[e]
    rw[aN hc]
  ·subst z
   rw[if_pos (.inr rfl),lW h1 h4 (eV (by omega) (by omega) g.let')]
   rcases jJ hc with ⟨a,b⟩ | ⟨a,b⟩
   ·have b':bK (con c)=false:=by rcases aV hc with rfl | rfl | rfl | rfl | rfl | rfl | rfl | rfl <;> revert b <;> decide
    rw[if_neg (by rw[b'];decide),aN hc]
    have:=mU (con c) (qD c sd)
    rw[eZ hc,a] at this
    rw[this]
    rfl
   ·have b':bK (con c)=true:=by rcases aV hc with rfl | rfl | rfl | rfl | rfl | rfl | rfl | rfl <;> revert b <;> decide
    rw[if_pos b']
    have:=mU (con c) (qD c sd)
    rw[eZ hc,a] at this
    exact this
def uY(cs:List Nat)(d:Nat):Nat:=if d∈cs then 97+cs.idxOf d else 65+cs.idxOf (con d)
def xB(n:Nat)(cs:List Nat):List Nat:=(cP n).map (uY cs)
theorem lE{n i:Nat}(h1:1≤n)(h4:n≤4)(h:i<n):97+i∈aQ n∧65+i∈aQ n∧bK (97+i)=true∧bK (65+i)=false∧nU (97+i)=i∧nU (65+i)=i∧97+i∈cP n∧lo (97+i)=97+i∧lo (65+i)=97+i:=by
 rcases Bk h1 h4 with rfl | rfl | rfl | rfl <;> (have:i=0∨i=1∨i=2∨i=3:=by omega) <;> rcases this with rfl | rfl | rfl | rfl <;> first | omega | decide
theorem yI{n d:Nat}(h1:1≤n)(h4:n≤4)(h:d∈cP n):(cP n)[nU d]?=some d:=by
 have hd:=fS h1 h4 h
 have hl:=fX h
 rcases lM h1 h4 hd with ⟨a,b⟩ | ⟨a,b⟩
 ·unfold nU;rw[if_pos a];exact b
 ·rw[a] at hl;cases hl
theorem vR:∀ {l m:List Nat},l.Nodup→l ⊆ m→m.length≤l.length→l.Perm m
 | [],m,_,_,h=>by
  have:m=[]:=List.length_eq_zero_iff.mp (Nat.le_zero.mp h)
  rw[this]
 | a::l,m,nd,sub,h=>by
  obtain⟨hn,nd'⟩:=List.nodup_cons.mp nd
  have ha:a∈m:=sub List.mem_cons_self
  have hp:=List.perm_cons_erase ha
  refine((vR nd' (fun x hx=>?_) ?_).cons a).trans hp.symm
  ·have q:x≠a:=fun z=>hn (z ▸ hx)
   exact(List.mem_erase_of_ne q).mpr (sub (List.mem_cons_of_mem _ hx))
  ·rw[List.length_erase_of_mem ha]
   rw[List.length_cons] at h
   omega
section
variable {n:Nat}{cs:List Nat}(h1:1≤n)(h4:n≤4)(e:Exch n cs)
include h1 h4 e
theorem Exch.has{d:Nat}(h:d∈cP n):d∈cs∨con d∈cs:=by
 obtain⟨c,hc,z⟩:=List.mem_map.mp (e.perm.mem_iff.mpr h)
 have hcL:=aK (e.mem c hc)
 rcases jJ hcL with ⟨a,_⟩ | ⟨a,_⟩
 ·exact .inl (by rw[← z,a];exact hc)
 ·exact .inr (by rw[← z,a,aN hcL];exact hc)
theorem Exch.bk{d:Nat}(h:d∈cP n):uY cs d∈aQ n∧gX cs (uY cs d)=d:=by
 have hd:=aK (fS h1 h4 h)
 unfold uY
 by_cases q:d∈cs
 ·rw[if_pos q]
  have hi:cs.idxOf d<cs.length:=List.idxOf_lt_length_of_mem q
  obtain⟨a1,a2,a3,a4,a5,a6,a7,a8⟩:=lE h1 h4 (i:=cs.idxOf d) (by rw[← e.len];exact hi)
  refine⟨a1,?_⟩
  unfold gX
  rw[if_pos a3,a5,List.getD_eq_getElem?_getD,List.getElem?_eq_getElem hi]
  exact List.getElem_idxOf hi
 ·rw[if_neg q]
  have q2:con d∈cs:=(e.has h1 h4 h).resolve_left q
  have hi:cs.idxOf (con d)<cs.length:=List.idxOf_lt_length_of_mem q2
  obtain⟨a1,a2,a3,a4,a5,a6,a7,a8⟩:=lE h1 h4 (i:=cs.idxOf (con d)) (by rw[← e.len];exact hi)
  refine⟨a2,?_⟩
  unfold gX
  rw[if_neg (by rw[a4];decide),a6,List.getD_eq_getElem?_getD,List.getElem?_eq_getElem hi]
  show con (cs[cs.idxOf (con d)])=d
  rw[List.getElem_idxOf hi,aN hd]
theorem Exch.xB_len:(xB n cs).length=n:=by unfold xB;rw[List.length_map,fG h4]
theorem Exch.xB_at{d:Nat}(h:d∈cP n):gX (xB n cs) d=uY cs d:=by
 unfold gX xB
 rw[if_pos (fX h),List.getD_eq_getElem?_getD,List.getElem?_map,yI h1 h4 h]
 rfl
theorem Exch.back:Exch n (xB n cs):=by
 have hm:∀ c∈xB n cs,c∈aQ n:=fun c hc=>by
  obtain⟨d,hd,rfl⟩:=List.mem_map.mp hc
  exact(e.bk h1 h4 hd).1
 refine⟨e.xB_len h1 h4,hm,?_⟩
 -- the lower letters of the way back are each but once
 have nd:((xB n cs).map lo).Nodup:=by
  unfold xB
  rw[List.map_map]
  refine List.Pairwise.map _ (fun a b (hab:a∈cP n∧b∈cP n∧a≠b)=>?_) (List.Pairwise.imp_of_mem (fun {a b} ha hb hab=>⟨ha,hb,hab⟩) (mC h1 h4))
  obtain⟨ha,hb,hab⟩:=hab
  intro z
  obtain⟨ma,ga⟩:=e.bk h1 h4 ha
  obtain⟨mb,gb⟩:=e.bk h1 h4 hb
  have:uY cs a=uY cs b∨uY cs a=con (uY cs b):=by
   have hz:lo (uY cs a)=lo (uY cs b):=z
   have La:=aK ma
   have Lb:=aK mb
   rcases jJ La with ⟨x,_⟩ | ⟨x,_⟩ <;> rcases jJ Lb with ⟨y,_⟩ | ⟨y,_⟩ <;> rw[x,y] at hz
   ·exact .inl hz
   ·exact .inr hz
   ·exact .inr (by rw[← hz,aN La])
   ·exact .inl (by rw[← aN La,hz,aN Lb])
  rcases this with w | w
  ·exact hab (by rw[← ga,← gb,w])
  ·have h0:a=con b:=by rw[← ga,w,e.gcon h1 h4 mb,gb]
   have la:=fX ha
   have lb:=fX hb
   have Lb:=aK (fS h1 h4 hb)
   rw[h0] at la
   revert la lb
   rcases aV Lb with rfl | rfl | rfl | rfl | rfl | rfl | rfl | rfl <;> decide
 have sub:((xB n cs).map lo) ⊆ cP n:=fun x hx=>by
  obtain⟨c,hc,rfl⟩:=List.mem_map.mp hx
  have:=hm c hc
  have hL:=aK this
  revert this
  rcases Bk h1 h4 with rfl | rfl | rfl | rfl <;> rcases aV hL with rfl | rfl | rfl | rfl | rfl | rfl | rfl | rfl <;> decide
 exact vR nd sub (by rw[List.length_map,e.xB_len h1 h4,fG h4];exact Nat.le_refl _)
theorem Exch.gg{c:Nat}(h:c∈aQ n):gX cs (gX (xB n cs) c)=c:=by
 have b:=e.back h1 h4
 have hL:=aK h
 rcases lM h1 h4 h with ⟨a,q⟩ | ⟨a,q⟩
 ·have hd:c∈cP n:=List.mem_of_getElem? q
  rw[e.xB_at h1 h4 hd,(e.bk h1 h4 hd).2]
 ·have hd:con c∈cP n:=List.mem_of_getElem? q
  have hk:=e.bk h1 h4 hd
  have e1:gX (xB n cs) c=con (uY cs (con c)):=by
   rw[← e.xB_at h1 h4 hd,b.gcon h1 h4 h,aN (aK (b.gmem h1 h4 h))]
  rw[e1,e.gcon h1 h4 hk.1,hk.2,aN hL]
theorem Exch.gg'{c:Nat}(h:c∈aQ n):gX (xB n cs) (gX cs c)=c:=by
 have b:=e.back h1 h4
 have hm:=e.gmem h1 h4 h
 exact e.ginj h1 h4 (b.gmem h1 h4 hm) h (e.gg h1 h4 hm)
end
theorem Exch.ext{n:Nat}{cs ds:List Nat}(h1:1≤n)(h4:n≤4)(e:Exch n cs)(f:Exch n ds)(h:∀ c∈cP n,gX cs c=gX ds c):cs=ds:=by
 refine List.ext_getElem (by rw[e.len,f.len]) fun i hi hj=>?_
 obtain⟨a1,a2,a3,a4,a5,a6,a7,a8⟩:=lE h1 h4 (i:=i) (by rw[← e.len];exact hi)
 have:=h _ a7
 unfold gX at this
 rw[if_pos a3,if_pos a3,a5,List.getD_eq_getElem?_getD,List.getD_eq_getElem?_getD,List.getElem?_eq_getElem hi,List.getElem?_eq_getElem hj] at this
 exact this
theorem Exch.xx{n:Nat}{cs:List Nat}(h1:1≤n)(h4:n≤4)(e:Exch n cs):xB n (xB n cs)=cs:=by
 have b:=e.back h1 h4
 refine(b.back h1 h4).ext h1 h4 e fun c hc=>?_
 have hcl:=fS h1 h4 hc
 have hm:=e.gmem h1 h4 hcl
 refine b.ginj h1 h4 ((b.back h1 h4).gmem h1 h4 hcl) hm ?_
 rw[b.gg h1 h4 hcl,e.gg' h1 h4 hcl]
theorem Exch.thenB{n:Nat}{cs:List Nat}(h1:1≤n)(h4:n≤4)(e:Exch n cs):dX (cR cs) (cR (xB n cs))=cK n:=by
 have b:=e.back h1 h4
 unfold dX cR cK
 rw[List.map_map]
 refine List.ext_getElem (by rw[List.length_map,List.length_map,e.len,fG h4]) fun i hi hj=>?_
 rw[List.length_map] at hi
 obtain⟨a1,a2,a3,a4,a5,a6,a7,a8⟩:=lE h1 h4 (i:=i) (by rw[← e.len];exact hi)
 rw[List.getElem_map,List.getElem_map]
 show Lw.retl (cR (xB n cs)) [cs[i]]=[(cP n)[i]'(by rw[List.length_map] at hj;exact hj)]
 have hm:=e.mem _ (List.getElem_mem hi)
 rw[b.retl h1 h4 (fun c hc=>by rw[List.mem_singleton.mp hc];exact hm) (by unfold bC;exact trivial)]
 have g1:gX cs (97+i)=cs[i]:=by
  unfold gX
  rw[if_pos a3,a5,List.getD_eq_getElem?_getD,List.getElem?_eq_getElem hi]
  rfl
 have g2:=e.gg' h1 h4 a1
 rw[g1] at g2
 have g3:=yI h1 h4 a7
 rw[a5] at g3
 show [gX (xB n cs) cs[i]]=_
 rw[g2,(List.getElem?_eq_some_iff.mp g3).2]
structure IvS(n:Nat)(st bk:List (List Nat)):Prop where
 rt:RT st n 3∧∀ x∈st,OfN n x
 bt:RT bk n 3∧∀ x∈bk,OfN n x
 there:dX st bk=cK n
 back:dX bk st=cK n
theorem EJ{n c:Nat}{sd:List Nat}(h1:1≤n)(h4:n≤4)(g:GoodB n c sd):IvS n (gD n c sd) (gD n (con c) (qD c sd)):=by
 have hc:=aK g.let'
 have b:=g.back h1 h4
 refine⟨⟨oJ h4 hc,lV h1 h4 g.let'⟩,⟨oJ h4 (cN hc),lV h1 h4 b.let'⟩,sU h1 h4 g,?_⟩
 have:=sU h1 h4 b
 rw[aN hc,ED hc g.hasn] at this
 exact this
theorem jQ{n:Nat}{cs:List Nat}(e:Exch n cs):RT (cR cs) n 1∧∀ x∈cR cs,OfN n x:=by
 have ho:∀ x∈cR cs,OfN n x:=fun x hx=>by
  obtain⟨c,hc,rfl⟩:=List.mem_map.mp hx
  exact fun d hd=>by rw[List.mem_singleton.mp hd];exact e.mem c hc
 refine⟨⟨by unfold cR;rw[List.length_map,e.len],fun x hx=>(ho x hx).all,fun x hx=>?_⟩,ho⟩
 obtain⟨c,hc,rfl⟩:=List.mem_map.mp hx
 exact Nat.le_refl _
theorem CL{n:Nat}{cs:List Nat}(h1:1≤n)(h4:n≤4)(e:Exch n cs):IvS n (cR cs) (cR (xB n cs)):=by
 have b:=e.back h1 h4
 refine⟨⟨(jQ e).1.mono (by decide),(jQ e).2⟩,⟨(jQ b).1.mono (by decide),(jQ b).2⟩,e.thenB h1 h4,?_⟩
 have:=b.thenB h1 h4
 rw[e.xx h1 h4] at this
 exact this
def Invs(n:Nat):List (List (List Nat))→List (List (List Nat))→Prop
 | [],[]=>True
 | st::sts,bk::bks=>IvS n st bk∧Invs n sts bks
 | _,_=>False
theorem Invs.good{n:Nat}:∀ {sts bks:List (List (List Nat))},Invs n sts bks→(∀ st∈sts,RT st n 3∧∀ x∈st,OfN n x)∧∀ st∈bks,RT st n 3∧∀ x∈st,OfN n x
 | [],[],_=>⟨fun _ h=>(nomatch h),fun _ h=>(nomatch h)⟩
 | st::sts,bk::bks,⟨h,hs⟩=>by
  obtain⟨a,b⟩:=Invs.good hs
  exact⟨fun s z=>(List.mem_cons.mp z).elim (fun e=>e ▸ h.rt) (a s),fun s z=>(List.mem_cons.mp z).elim (fun e=>e ▸ h.bt) (b s)⟩
 | [],_::_,h=>h.elim
 | _::_,[],h=>h.elim
theorem DL{n:Nat}(h1:1≤n)(h4:n≤4){sts:List (List (List Nat))}(h:∀ st∈sts,RT st n 3∧∀ x∈st,OfN n x):RT (gJ n sts) n (1 * 3 ^ sts.length)∧∀ x∈gJ n sts,OfN n x:=qQ h1 h4 sts (cK n) 1 (gC h1 h4) (tI h1 h4) h
end Lw
namespace PySem
open Sem (wp)
section
variable {prog:Program}{w:World}{K:Type}[DecidableEq K]{knd:KeyKind prog w K}{A:Around}{E:Value→Shared→Prop}{s:Shared}
theorem A1{d:Addr}{kvs:List (K×Value)}{k:K}{key dflt:Value}{Q:Value→Shared→Prop}(hkey:knd.is k key=true)(hm:s.heap.DictOf knd d kvs)(hsz:kvs.length≤sizeLine)
  (h1:∀ v,valueAt kvs k=some v→Q v { s with toks:=s.toks+1 })
  (h2:valueAt kvs k=none→∀ h',h'.DictOf knd d (stored kvs k dflt)→Heap.SameBut d s.heap h'→Q dflt { s with heap:=h',toks:=s.toks+1 }) :
  wpAny (model prog w) A (dictSetDefault d key dflt) Q E s:=by
 have hz:s.heap.DictLe d sizeLine:=by
  obtain⟨o,es,ep,ho,hc,hd,hk,hp,hn⟩:=hm
  intro o' es' ep' ho' hd'
  rw[ho] at ho'
  cases ho'
  rw[hd] at hd'
  cases hd'
  have e1:=hp.length
  have e2:es.toList.length=es.size:=by simp
  omega
 cases hv:valueAt kvs k with
 | some v=>exact wpAny_dictSetDefault_of (hz:=hz) hkey hm.mapOf (fun v' e'=>h1 v' e') fun hn=>by rw[hv] at hn;cases hn
 | none =>
  obtain⟨o,es,ep,ho,hc,hd,hk,hp,hn⟩:=id hm
  have hidx:(es.findIdx? fun e=>knd.is k e.key)=kvs.findIdx? fun kv=>decide (kv.1=k):=by
   rw[← hp.findIdx k];obtain⟨l⟩:=es;simp
  have hnot:k ∉ kvs.map (·.1):=by
   intro hk'
   obtain⟨kv,hkv,he⟩:=List.mem_map.mp hk'
   obtain⟨i,hi⟩:=List.getElem?_of_mem hkv
   have:valueAt kvs k=some kv.2:=valueAt_of_get hn (i:=i) (k:=k) (v:=kv.2) (by rw[hi,← he])
   rw[hv] at this
   cases this
  have hany:¬ (kvs.any fun kv=>decide (kv.1=k))=true:=by
   intro z
   obtain⟨kv,hkv,he⟩:=List.any_eq_true.mp z
   exact hnot (List.mem_map.mpr ⟨kv,hkv,of_decide_eq_true he⟩)
  have hi:(es.findIdx? fun e=>knd.is k e.key)=none:=by
   rw[hidx,List.findIdx?_eq_none_iff]
   intro kv hkv
   exact decide_eq_false fun z=>hnot (List.mem_map.mpr ⟨kv,hkv,z⟩)
  unfold dictSetDefault
  try with_reducible refine wpAny_holding ?_
  refine wpAny_bind (knd.pyHash hkey ?_)
  refine wpAny_bind (wpAny_dictFind_of (s:={ s with toks:=s.toks+1 }) hkey ho hd hk ?_)
  rw[hi]
  refine wpAny_bind (wpAny_rule (wpAny_bind (wpAny_updateDictKeys (hz:=hz _ _ _ ho hd) (s:={ s with toks:=s.toks+1 }) ho hd (wpAny_pure (h2 hv _ ⟨_,_,ep+1,Heap.get?_update_self _ ho (Obj.isFreed_of_dict (Obj.data_mapDictKeys hd _)),
   hc.mapDictKeys _,Obj.data_mapDictKeys hd _,hk.push hkey _,?_,?_⟩ (Heap.SameBut.update ..))))))
  ·rw[stored,if_neg hany]
   have:=hp.append hkey (knd.hash k) dflt
   obtain⟨l⟩:=es
   simpa using this
  ·rw[stored,if_neg hany,List.map_append]
   refine List.nodup_append.mpr ⟨hn,by simp,fun a ha b hb=>?_⟩
   have hb':b=k:=by simpa using hb
   subst hb'
   intro e
   exact hnot (e ▸ ha)
theorem meets_sdf{k:K}{key:Value}(d:Addr)(hkey:knd.is k key=true)(hd:(d == sysModules)=false)(dflt:Value) :
  MeetsIn prog w (Builtin.«dict.setdefault» ⟨[.ref d,key,dflt],[]⟩) (fun _ R s=>∃ kvs,s.heap.DictOf knd d kvs∧kvs.length≤sizeLine ∧
   (∀ v,valueAt kvs k=some v→R (.ok (.ret v)) { s with toks:=s.toks+1 }) ∧
   (valueAt kvs k=none→∀ h',h'.DictOf knd d (stored kvs k dflt)→Heap.SameBut d s.heap h'→R (.ok (.ret dflt)) { s with heap:=h',toks:=s.toks+1 })) :=
 .of_wp fun A R s ⟨kvs,hm,hz,h1,h2⟩=>by
  unfold Builtin.«dict.setdefault»
  refine wpAny_bind ?_
  unfold Builtin.Dict.keyAndDefault
  refine wpAny_bind (wpAny_notOrdered_dict hm.typeIs ?_)
  show wpAny _ _ (pure (d,key,some dflt)) _ _ s
  refine wpAny_pure ?_
  show wpAny _ _ (if (d == sysModules)=true then _ else (dictSetDefault d key dflt >>= _)) _ _ s
  rw[if_neg (by rw[hd];exact Bool.false_ne_true)]
  exact wpAny_bind (A1 hkey hm hz (fun v hv=>wpAny_pure ⟨v,rfl,h1 v hv⟩) fun hn h' hm' hs'=>wpAny_pure ⟨dflt,rfl,h2 hn h' hm' hs'⟩)
end
end PySem
namespace L2
open PySem PySem.Spec PyProof.Rows
section
variable {X:Cx}{pins:List (Addr×Obj)}{σ:St}{H:Hp}{s:Shared}{a:Addr}{kvs:List (bW×V)}{k:bW}{z:V}{u r:Value}{A:Around}{E:Value→Shared→Prop}
theorem Gg{Q:Value→Shared→Prop}(I:Inv X pins σ H s)(e:H a=some (.dK kvs))(hl:kvs.length<sizeLine)(ry:RelV (kV k) u)(rz:RelV z r)
  (h1:∀ v w' s',cF kvs k=some v→Inv X pins σ H s'→RelV v w'→Q w' s') (h2:cF kvs k=none→∀ s',Inv X pins σ (upd H a (.dK (dR kvs k z))) s'→Q r s') :
  wpAny (model X.prog X.w) A (call (.builtin "dict.setdefault") [.ref a,u,r]) Q E s:=by
 obtain⟨zl,hd,vs,rel,dd⟩:=Dy I.hok e
 refine call_meetsIn PySem.F.slot_dict_setdefault dd.typeIs PySem.F.entry_dict_setdefault (PySem.F.args_dict_setdefault_3 _ _ _) (PySem.meets_sdf (knd:=bN X.prog X.w) a (nF ry) hd r)
  ⟨vs,dd,by rw[← rel.length];exact zl,fun v hv=>?_,fun hn h' dd' hs=>?_⟩
 ·have rv:=rel.val k
  rw[hv] at rv
  cases l:cF kvs k with
  | none=>rw[l] at rv;exact absurd rv (fun z=>z)
  | some v0 =>
   rw[l] at rv
   exact h1 v0 v _ l (I.tok _) rv
 ·have l:cF kvs k=none:=by
   have rv:=rel.val k
   rw[hn] at rv
   cases l:cF kvs k with
   | none=>rfl
   | some v0=>rw[l] at rv;exact absurd rv (fun z=>z)
  have he:∃ q,h'.get? a=some q:=let ⟨q,_,_,hq,_⟩:=dd';⟨q,hq⟩
  refine h2 l _ (oI I (by rw[e];exact True.intro) hs he (yD ?_ hd (rel.put k rz) dd'))
  have:=dB kvs k z
  omega
end
def Gc(td ty tx:TE):TE:=fun σ H Q=>td σ H fun x H1=>∃ a,x=.ref a∧Kl H1 a∧ty σ H1 fun y H2=>tx σ H2 fun z H3=>∃ kvs k,H3 a=some (.dK kvs)∧kvs.length<sizeLine∧y=kV k ∧
 (∀ v,cF kvs k=some v→Q v H3)∧(cF kvs k=none→Q z (upd H3 a (.dK (dR kvs k z))))
section
variable {X:Cx}{o e f:Expr}{apos cpos:Pos}{td ty tx:TE}
theorem Cb(ho:PE X o td)(he:PE X e ty)(hf:PE X f tx)(m:M2 X o "setdefault" apos e f cpos):PE X (.Call (.Attribute o "setdefault" apos) [e,f] [] cpos) (Gc td ty tx):=by
 intro pins s σ H Q I h
 refine wpAny_Call_method m.base m.few m.line PySem.F.plainAttrs_dict PySem.F.slot_dict_setdefault PySem.F.type_dict_setdefault (bS (ho pins s σ H _ I h) fun u s1 ⟨x,H1,I1,rx,a,ex,d,q1⟩=>?_)
 subst ex
 obtain rfl:u=Value.ref a:=rx
 obtain⟨t1,t2,_⟩:=xE I1 d
 refine⟨t1,t2,?_⟩
 rw[m.trees]
 refine Calls.callWith_builtin rfl (Calls.evalArgs_plain (Calls.spliced_cons (bS (he pins s1 σ H1 _ I1 q1) fun iv s2 ⟨y,H2,I2,ry,q2⟩ =>
  Calls.spliced_cons (bS (hf pins s2 σ H2 _ I2 q2) fun fv s3 ⟨z,H3,I3,rz,kvs,k,ea,hl,ey,q3,q4⟩=>Calls.spliced_nil ?_))))
 subst ey
 exact Gg I3 ea hl ry rz (fun v w' s4 l I4 rw'=>⟨v,H3,I4,rw',q3 v l⟩) fun l s4 I4=>⟨z,_,I4,rz,q4 l⟩
end
def kA(s:Stmt)(j:Nat):Stmt:=match s with
 | .ClassDef _ _ _ b _ _ _ _ _ _ _=>b.getD j (.Pass ⟨0,0,0,0⟩)
 | _=>.Pass ⟨0,0,0,0⟩
section
variable {X:Cx}{K:PySem.W.Frag}{o e value:Expr}{f:Str}{pos pos':Pos}{ta tv:TE}
theorem dD(hK:X.K=K)(he:PE X e ta)(hb:attributeBase e f X.env (eval e X.env)=eval e X.env):PE X (.Attribute e f pos) (Jx K ta f):=by subst hK;exact F0 he hb
theorem oA(hK:X.K=K)(ha:PE X o ta)(hv:PE X value tv)(hs:swapsWith value (some (.Attribute o f pos')) pos.line X.env=pure false):PS X (.Assign [.Attribute o f pos'] value pos) (IS K ta tv f):=by subst hK;exact Hj ha hv hs
end
end L2
namespace Lw
open PySem PySem.Spec PyProof.Rows L2
def lZ(P:Program)(w:World)(K:PySem.W.Frag)(mg:Str→Option Value)(base:Heap)(C:Addr)(m:Str)(ps:List Str)(n:Nat)(sp:Sp):Prop :=
 ∃ f fd,FnOk P w K mg base xZ n f fd ps sp∧Meth K C m f∧Binds K fd ps []
structure DfM(K:PySem.W.Frag)(C:Addr)(m q:Str)(st:Stmt)(ps:List Str)(f:Addr)(fd:FuncData):Prop where
 F:Fun K m q st f fd
 b:Binds K fd ps []
 m:Meth K C m f
theorem DfM.cl{P:Program}{w:World}{K:PySem.W.Frag}{mg:Str→Option Value}{base:Heap}{C:Addr}{m q:Str}{st:Stmt}{ps:List Str}{f:Addr}{fd:FuncData}{n:Nat}{sp:Sp}(D:DfM K C m q st ps f fd)(h:FnOk P w K mg base xZ n f fd ps sp):lZ P w K mg base C m ps n sp :=
 ⟨f,fd,h,D.m,D.b⟩
structure Own(K:PySem.W.Frag)(C:Addr):Prop where
 cl:Cls K C
 makes:PySem.W.makesIn K C=true
 kp:PySem.W.keepIn K (.ref C)=true
theorem Own.make{K:PySem.W.Frag}{C f:Addr}(o:Own K C)(m:Meth K C "__init__" f):Mk K C f:=⟨o.makes,m.at_,m.fn,o.kp⟩
theorem KW{K:PySem.W.Frag}{C:Addr}{x q:Str}{st:Stmt}{ps:List Str}{f:Addr}{oc:Value}{od an:Option Addr}{osl:Array (Option Value)}{kV doc pm cdv ct:Value}(hf:PySem.W.findIn K (.ref C) x=some (some (.ref f)))(hi:PySem.W.isFn K (.ref f)=true)
  (l:K.lookup f=some ⟨oc,od,.func (PySem.W.fnOf x q (eA st) (dS st) (aF st) .none kV doc pm an cdv ct),osl⟩)
  (c:PySem.W.codeIn K cdv q=true) (k:PySem.W.keepIn K (.ref f)=true) (h:∀ (kV doc pm:Value) (an:Option Addr) (cdv ct:Value) (us:List Value),us.length=ps.length→bindArgs (PySem.W.fnOf x q (eA st) (dS st) (aF st) .none kV doc pm an cdv ct) ⟨us,[]⟩=pure (ps.zip us)) :
  DfM K C x q st ps f (PySem.W.fnOf x q (eA st) (dS st) (aF st) .none kV doc pm an cdv ct) :=
 ⟨mK l c k,(mK l c k).binds h,⟨hf,hi,k⟩⟩
end Lw
namespace Lw
open PySem PySem.Spec PyProof.Rows L2 Ma MaR
inductive Lq(K:PySem.W.Frag)(H:Hp):Nat→V→V→Prop where
 | flat {d:Nat} {v:V} (h:eO v=true):Lq K H d v v
 | tup {d:Nat} {a b:Addr} {xs ys:List V} (h1:SqT K H a xs) (h2:SqT K H b ys) (hl:xs.length=ys.length) (hm:xs.length≤100) (h:∀ (i:Nat) (x y:V),xs[i]?=some x→ys[i]?=some y→Lq K H d x y):Lq K H (d+1) (.ref a) (.ref b)
 | lst {d:Nat} {a b:Addr} {xs ys:List V} (h1:H a=some (.lst xs)) (h2:H b=some (.lst ys)) (hl:xs.length=ys.length) (hm:xs.length≤100) (h:∀ (i:Nat) (x y:V),xs[i]?=some x→ys[i]?=some y→Lq K H d x y):Lq K H (d+1) (.ref a) (.ref b)
theorem Lq.same{K:PySem.W.Frag}{H H':Hp}(s:Same H H'):∀ {d:Nat} {x y:V},Lq K H d x y→Lq K H' d x y:=fun h=>by
 induction h with
 | flat h=>exact .flat h
 | tup h1 h2 hl hm _ ih=>exact .tup (L2.SqT.same s h1) (L2.SqT.same s h2) hl hm ih
 | lst h1 h2 hl hm _ ih=>exact .lst (s _ _ h1) (s _ _ h2) hl hm ih
def Cj(K:PySem.W.Frag)(d:Nat):Sp:=fun vs H Q _=>∃ x y:V,vs=[x,y]∧Lq K H d x y∧∀ H',Same H H'→Q (.bl true) H'
section
variable {K:PySem.W.Frag}{ts:List Tb}{H H2 H3:Hp}{l z:Addr}{n m:Nat}{rs qs:List (List Nat)}{ps:List (Addr×Nat×List Nat)}
end
section
variable {X:Cx}
theorem jR{A:Around}{s:Shared}{xs ys:List V}{us vs:List Value}(rx:Vals xs us)(ry:Vals ys vs)(h:∀ (i:Nat) (x y:V),xs[i]?=some x→ys[i]?=some y→∀ u v,RelV x u→RelV y v→SeqAt.EqAt A s u v true) :
  ∀ (j:Nat) (h1:j<us.toArray.size) (h2:j<vs.toArray.size),SeqAt.EqAt A s us.toArray[j] vs.toArray[j] ((fun _=>true) j):=fun j h1 h2=>by
 have hx:j<xs.length:=by rw[rx.length];simpa using h1
 have hy:j<ys.length:=by rw[ry.length];simpa using h2
 obtain⟨u,hu,ru⟩:=rx.get (List.getElem?_eq_getElem hx)
 obtain⟨v,hv,rv⟩:=ry.get (List.getElem?_eq_getElem hy)
 have eu:us.toArray[j]=u:=by
  have:us[j]?=some us.toArray[j]:=by rw[List.getElem?_eq_getElem (by simpa using h1)];simp
  rw[hu] at this;exact(Option.some.inj this).symm
 have ev:vs.toArray[j]=v:=by
  have:vs[j]?=some vs.toArray[j]:=by rw[List.getElem?_eq_getElem (by simpa using h2)];simp
  rw[hv] at this;exact(Option.some.inj this).symm
 rw[eu,ev]
 exact h j _ _ (List.getElem?_eq_getElem hx) (List.getElem?_eq_getElem hy) u v ru rv
theorem mM(n:Nat):(List.range n).all (fun _=>true)=true:=List.all_eq_true.mpr fun _ _=>rfl
theorem sZ{pins:List (Addr×Obj)}{σ:L2.St}{H:Hp}{s:Shared}(I:Inv X pins σ H s){d:Nat}{x y:V}(h:Lq X.K H d x y):∀ (A:Around),A.units+d<cLine→∀ u v,RelV x u→RelV y v→SeqAt.EqAt A s u v true:=by
 induction h with
 | @flat d v hf =>
  intro A _ u w ru rw'
  have:=xG (A:=A) (s:=s) ru rw' hf hf
  rwa [De hf] at this
 | @tup d a b xs ys h1 h2 hl hm _ ih =>
  intro A hu u w ru rw'
  cases ru
  cases rw'
  by_cases hab:a=b
  ·subst hab;exact SeqAt.EqAt.same _
  ·obtain⟨us,r1,p1,_⟩:=I.tuple h1
   obtain⟨vs,r2,p2,_⟩:=I.tuple h2
   have z:=SeqAt.RcAt.tuples (A:=A) (show s.heap.IsTuple a us.toArray from p1) (show s.heap.IsTuple b vs.toArray from p2) (by omega) (jR (A:=A.in1) (s:=s) r1 r2 fun i x y hx hy u v=>ih i x y hx hy A.in1 (by show A.units+1+d<cLine;omega) u v)
   have e:((List.range (min us.toArray.size vs.toArray.size)).all (fun _=>true) && us.toArray.size == vs.toArray.size)=true:=by
    rw[mM,List.size_toArray,List.size_toArray,← r1.length,← r2.length,hl];simp
   rw[e] at z
   exact SeqAt.EqAt.of_refs hab z
 | @lst d a b xs ys h1 h2 hl hm _ ih =>
  intro A hu u w ru rw'
  cases ru
  cases rw'
  by_cases hab:a=b
  ·subst hab;exact SeqAt.EqAt.same _
  ·obtain⟨us,r1,p1,_⟩:=I.list (SqL.of h1)
   obtain⟨vs,r2,p2,_⟩:=I.list (SqL.of h2)
   have z:=SeqAt.RcAt.lists (A:=A) p1.isList p2.isList (by simp;rw[← r1.length,← r2.length];exact hl) (by omega) (jR (A:=A.in1) (s:=s) r1 r2 fun i x y hx hy u v=>ih i x y hx hy A.in1 (by show A.units+1+d<cLine;omega) u v)
   rw[mM] at z
   exact SeqAt.EqAt.of_refs hab z
def IM(K:PySem.W.Frag)(neg:Bool):R2:=fun x y H Q=>∃ (d:Nat) (a b:Addr) (xs ys:List V),d≤30∧x=.ref a∧y=.ref b∧((H a=some (.lst xs)∧H b=some (.lst ys))∨(SqT K H a xs∧SqT K H b ys))∧xs.length=ys.length∧(∀ (i:Nat) (x y:V),xs[i]?=some x→ys[i]?=some y→Lq K H d x y)∧Q (.bl (!neg)) H
theorem G2{K:PySem.W.Frag}(hK:X.K=K)(hu:X.A.units+64<cLine):iC X (compareOp .Eq) (IM K false):=by
 subst hK
 intro pins s σ H x y v u Q I rx ry h
 obtain⟨d,a,b,xs,ys,hd,rfl,rfl,hq,hl,hall,q⟩:=h
 cases rx
 cases ry
 rcases hq with ⟨ha,hb⟩ | ⟨ha,hb⟩
 ·obtain⟨us,r1,p1,_⟩:=I.list (SqL.of ha)
  obtain⟨vs,r2,p2,_⟩:=I.list (SqL.of hb)
  refine SeqAt.eq_listAt p1.isList p2.isList (by simp;rw[← r1.length,← r2.length];exact hl) (by omega) (jR (A:=X.A.in1) (s:=s) r1 r2 fun i x y hx hy u v=>sZ I (hall i x y hx hy) X.A.in1 (by show X.A.units+1+d<cLine;omega) u v) ?_
  rw[mM]
  exact⟨.bl _,H,I,rfl,q⟩
 ·obtain⟨us,r1,p1,_⟩:=I.tuple ha
  obtain⟨vs,r2,p2,_⟩:=I.tuple hb
  refine SeqAt.eq_tupleAt (show s.heap.IsTuple a us.toArray from p1) (show s.heap.IsTuple b vs.toArray from p2) (by omega) (jR (A:=X.A.in1) (s:=s) r1 r2 fun i x y hx hy u v=>sZ I (hall i x y hx hy) X.A.in1 (by show X.A.units+1+d<cLine;omega) u v) ?_
  have e:((List.range (min us.toArray.size vs.toArray.size)).all (fun _=>true) && us.toArray.size == vs.toArray.size)=true:=by
   rw[mM,List.size_toArray,List.size_toArray,← r1.length,← r2.length,hl];simp
  rw[e]
  exact⟨.bl _,H,I,rfl,q⟩
theorem Cq{K:PySem.W.Frag}(hK:X.K=K)(hu:X.A.units+64<cLine):iC X (compareOp .NotEq) (IM K true):=by
 subst hK
 intro pins s σ H x y v u Q I rx ry h
 obtain⟨d,a,b,xs,ys,hd,rfl,rfl,hq,hl,hall,q⟩:=h
 cases rx
 cases ry
 rcases hq with ⟨ha,hb⟩ | ⟨ha,hb⟩
 ·obtain⟨us,r1,p1,_⟩:=I.list (SqL.of ha)
  obtain⟨vs,r2,p2,_⟩:=I.list (SqL.of hb)
  refine EqBoolInt.of_rcne (SeqAt.RcNeAt.lists p1.isList p2.isList (by simp;rw[← r1.length,← r2.length];exact hl) (by omega) (jR (A:=X.A.in1) (s:=s) r1 r2 fun i x y hx hy u v=>sZ I (hall i x y hx hy) X.A.in1 (by show X.A.units+1+d<cLine;omega) u v)) ?_
  rw[mM]
  exact⟨.bl _,H,I,rfl,q⟩
 ·obtain⟨us,r1,p1,_⟩:=I.tuple ha
  obtain⟨vs,r2,p2,_⟩:=I.tuple hb
  refine EqBoolInt.of_rcne (SeqAt.RcNeAt.tuples (show s.heap.IsTuple a us.toArray from p1) (show s.heap.IsTuple b vs.toArray from p2) (by omega) (jR (A:=X.A.in1) (s:=s) r1 r2 fun i x y hx hy u v=>sZ I (hall i x y hx hy) X.A.in1 (by show X.A.units+1+d<cLine;omega) u v)) ?_
  have e:((List.range (min us.toArray.size vs.toArray.size)).all (fun _=>true) && us.toArray.size == vs.toArray.size)=true:=by
   rw[mM,List.size_toArray,List.size_toArray,← r1.length,← r2.length,hl];simp
  rw[e]
  exact⟨.bl _,H,I,rfl,q⟩
end
end Lw
namespace L2
open PySem PySem.Spec PyProof.Rows
section
variable {X:Cx}{pins:List (Addr×Obj)}{σ:St}{H:Hp}{s:Shared}
theorem Inv.freezeK{d:Addr}{kvs:List (bW×V)}(I:Inv X pins σ H s)(e:H d=some (.dK kvs)):∃ o,s.heap.get? d=some o∧Inv X pins σ (upd H d (.frz o (.dK kvs))) s:=by
 obtain⟨z,y,vs,r,o,es,ep,h1,h2⟩:=(show ObjOk X.prog X.w H s.heap d (.dK kvs) from I.hok d _ e)
 exact⟨o,h1,I.swap e (fun _ z=>by cases z) (.inl fun _ _ z=>by cases z) (fun _ z=>by cases z) (fun _ z=>by cases z) ⟨h1,z,y,vs,r,o,es,ep,h1,h2⟩⟩
theorem Inv.thawK{d:Addr}{o:Obj}{kvs:List (bW×V)}(I:Inv X pins σ H s)(e:H d=some (.frz o (.dK kvs)))(h0:∀ o v,X.H₀ d≠some (.frz o v)):Inv X pins σ (upd H d (.dK kvs)) s:=by
 obtain⟨_,z,y,r⟩:=(show ObjOk X.prog X.w H s.heap d (.frz o (.dK kvs)) from I.hok d _ e)
 exact I.swap e (fun _ z=>by cases z) (.inr h0) (fun _ z=>by cases z) (fun _ z=>by cases z) ⟨z,y,r⟩
def Ha(H0 H H':Hp):Prop:=H'=H∨∃ d o kvs,H d=some (.frz o (.dK kvs))∧(∀ o v,H0 d≠some (.frz o v))∧H'=upd H d (.dK kvs)
def FW(H0:Hp)(t:TE):TE:=fun σ H Q=>t σ H fun v H'=>∃ H'',Ha H0 H' H''∧Q v H''
theorem BA{e:Expr}{t:TE}{H0:Hp}(h0:X.H₀=H0)(h:PE X e t):PE X e (FW H0 t):=by
 subst h0
 intro pins s σ H Q I q
 refine bS (h pins s σ H _ I q) fun u s1 ⟨v,H1,I1,rv,H2,th,q2⟩=>?_
 rcases th with rfl | ⟨d,o,kvs,e1,n0,rfl⟩
 ·exact⟨v,_,I1,rv,q2⟩
 ·exact⟨v,_,I1.thawK e1 n0,rv,q2⟩
end
def A4(d:Addr)(o:Obj)(kvs:List (bW×V)):It :=
 ⟨fun i H=>H d=some (.frz o (.dK kvs))∧i<kvs.length,fun i H x H'=>H'=H∧∃ k v,kvs[i]?=some (k,v)∧x=kV k,fun i H=>H d=some (.frz o (.dK kvs))∧kvs.length≤i⟩
theorem tJ{X:Cx}{pins:List (Addr×Obj)}{σ:St}{H:Hp}{s:Shared}{d:Addr}{o:Obj}{kvs:List (bW×V)}(I:Inv X pins σ H s)(e:H d=some (.frz o (.dK kvs))) :
  s.heap.get? d=some o∧(d == sysModules)=false∧∃ (vs:List (bW×Value)) (es:Array DictEntry) (ep:Nat),KV kvs vs∧o.ExactDict∧o.data=.dict es ep∧Pairs (bN X.prog X.w) es.toList vs:=by
 obtain⟨h0,z,y,vs,r,o',es,ep,h1,h2,h3,h4,h5,h6⟩:=(show ObjOk X.prog X.w H s.heap d (.frz o (.dK kvs)) from I.hok d _ e)
 rw[h0] at h1
 cases h1
 exact⟨h0,y,vs,es,ep,r,h2,h3,h5⟩
theorem J6{P:Program}{w:World}{k:bW}{u:Value}(h:(bN P w).is k u=true):RelV (kV k) u:=by
 rcases cE h with ⟨i,t,rfl,rfl⟩ | ⟨x,t,rfl,rfl⟩
 ·exact⟨t,rfl⟩
 ·exact⟨t,rfl⟩
theorem BF{P:Program}{w:World}:∀ {es:List DictEntry} {vs:List (bW×Value)},Pairs (bN P w) es vs→∀ {kvs:List (bW×V)},KV kvs vs→∀ {i:Nat} {kv:bW×V},kvs[i]?=some kv→∃ e,es[i]?=some e∧RelV (kV kv.1) e.key:=by
 intro es vs hp
 induction hp with
 | nil =>
  intro kvs r i kv h
  cases r
  simp at h
 | @cons e p es vs h1 h2 hp ih =>
  intro kvs r i kv h
  cases r with
  | cons ra rb =>
   cases i with
   | zero =>
    simp at h
    subst h
    exact⟨e,rfl,by rw[ra.1];exact J6 h1⟩
   | succ i =>
    obtain⟨e',he,hr⟩:=ih rb (i:=i) (kv:=kv) (by simpa using h)
    exact⟨e',by simpa using he,hr⟩
theorem AD{P:Program}{w:World}{K:PySem.W.Frag}{tg:Expr}(d it:Addr)(o:Obj)(es:Array DictEntry)(ep:Nat)(kvs:List (bW×V))(od:o.data=.dict es ep)(hl:es.size=kvs.length) :
  Turn P w K tg (A4 d o kvs) [it] it (fun i h=>h.IsKeyIter it d i es.size ep) where
 mem:=by simp
 obj:=fun i h st b hb=>by
  have e:b=it:=by simpa using hb
  subst e
  obtain⟨o,e,c,d⟩:=st
  exact⟨o,e,fun v z=>by rw[d] at z;cases z⟩
 keep:=fun i h h' st k=>st.at fun o e=>k it (by simp) o e
 item:=by
  intro X hP hw hK hc i pins s σ H E I hf st hg
  subst hP hw hK
  obtain⟨hd,hi⟩:=hg
  obtain⟨g0,_,vs,es',ep',r,_,od',hp⟩:=tJ I hd
  rw[od] at od'
  cases od'
  obtain⟨kv,hkv⟩:∃ kv,kvs[i]?=some kv:=⟨_,List.getElem?_eq_getElem hi⟩
  obtain⟨en,hen,hr⟩:=BF hp r hkv
  have hes:es[i]?=some en:=by rw[← Array.getElem?_toList];exact hen
  obtain⟨f0,f1,f2,f3,f4,f5⟩:=hf it (by simp)
  refine xV (n:=0) st g0 od hes fun h' st' sb=>?_
  have I1:Inv X pins σ H { s with heap:=h' }:=I.turned (t':=s.toks) (fun b o hb e=>(sb.2 b hb).trans e) f0 f1 f3 f4 f5
  obtain⟨o2,e2,c2,d2⟩:=id st'
  exact⟨_,rfl,pX (s:={ s with heap:=h' }) e2 c2 d2 (by decide) ⟨kV kv.1,H,I1,hr,⟨rfl,kv.1,kv.2,hkv,rfl⟩,st',fun b hb=>(hf b hb).1⟩⟩
 done:=by
  intro X hP hw hK hc i pins s σ H E I hf st hg
  subst hP hw hK
  obtain⟨hd,hi⟩:=hg
  obtain⟨g0,_,vs,es',ep',r,_,od',hp⟩:=tJ I hd
  rw[od] at od'
  cases od'
  obtain⟨f0,f1,f2,f3,f4,f5⟩:=hf it (by simp)
  exact A2 (n:=0) (I.ok.hd hc) st g0 od (by rw[Array.getElem?_eq_none_iff];omega) fun h' eb=>⟨rfl,I.turned (t':=s.toks) (fun b o hb e=>eb b o hb e) f0 f1 f3 f4 f5⟩
 self:=fun _ _ _ _ _ st h=>wpAny_pyIter_keyiter st h
section
variable {X:Cx}
def FR(td:TE):TI:=fun σ H R=>td σ H fun x H1=>∃ d kvs,x=.ref d∧((H1 d=some (.dK kvs)∧∀ o,R (A4 d o kvs) (upd H1 d (.frz o (.dK kvs))))∨∃ o,H1 d=some (.frz o (.dK kvs))∧R (A4 d o kvs) H1)
theorem Dm{tg e:Expr}{td:TE}(he:PE X e td):PI X tg e (FR td):=by
 intro pins s σ H R I h
 refine bS (he pins s σ H _ I h) fun u s1 ⟨x,H1,I1,rx,d,kvs,ex,hq⟩=>?_
 subst ex
 cases (show u=Value.ref d from rx)
 obtain⟨o,H2,e2,I2,q2⟩:∃ o H2,H2 d=some (.frz o (.dK kvs))∧Inv X pins σ H2 s1∧R (A4 d o kvs) H2:=by
  rcases hq with ⟨e1,q⟩ | ⟨o,e1,q⟩
  ·obtain⟨o,_,I2⟩:=I1.freezeK e1
   exact⟨o,_,aC,I2,q o⟩
  ·exact⟨o,H1,e1,I1,q⟩
 obtain⟨g0,hn,vs,es,ep,r,xo,od,hp⟩:=tJ I2 e2
 have hl:es.size=kvs.length:=by rw[← Array.length_toList,hp.length,← KV.length r]
 refine BQ hn g0 xo od ⟨s1.heap.objs.size,[s1.heap.objs.size],_,A4 d o kvs,H2,rfl,I2.kept (t':=s1.toks) (fun b u e=>Heap.get?_push_of_some _ e),AD d _ o es ep kvs od hl,⟨_,Heap.get?_push_size _ rfl,rfl,rfl⟩,fun b hb=>?_,q2⟩
 have e:b=s1.heap.objs.size:=by simpa using hb
 subst e
 exact I2.fpOk (Nat.le_refl _) (I2.hok.fresh (Nat.le_refl _))
end
theorem A_{d:Addr}{o:Obj}{kvs:List (bW×V)}{D:Addr}{Q:VK}{ti:TT}{te:TE}{c:St}{H0:Hp}(Pv:Nat→Hp→Prop)(h0:Pv 0 H0)(hl:∀ i H,i≤kvs.length→Pv i H→H d=some (.frz o (.dK kvs)))
  (hs:∀ i k v H,kvs[i]?=some (k,v)→Pv i H→ti (some (kV k)::c) H fun b H1=>if b=true then te (some (kV k)::c) H1 fun y H2=>∃ ys,H2 D=some (.lst ys)∧ys.length<sizeLine∧Pv (i+1) (upd H2 D (.lst (ys++[y]))) else Pv (i+1) H1)
  (hd:∀ H,Pv kvs.length H→Q (.ref D) H):iP (A4 d o kvs) D Q ti te c H0:=by
 refine⟨fun i m H'=>m=kvs.length - i∧i≤kvs.length∧Pv i H',⟨kvs.length,by simp,Nat.zero_le _,h0⟩,?_⟩
 rintro i m H' ⟨rfl,hi,p⟩
 have q:=hl i H' hi p
 by_cases hlt:i<kvs.length
 ·refine .inr ⟨⟨q,hlt⟩,Pv (i+1),fun H'' p=>⟨kvs.length - (i+1),by omega,rfl,hlt,p⟩,fun v H2 y=>?_⟩
  obtain⟨e,k,v',hk,rfl⟩:=y
  subst e
  exact hs i k v' H2 hk p
 ·have e:i=kvs.length:=by omega
  subst e
  exact .inl ⟨⟨q,Nat.le_refl _⟩,hd H' p⟩
theorem DGet.fk{H:Hp}{a:Addr}{o:Obj}{kvs:List (bW×V)}{k:bW}(e:H a=some (.frz o (.dK kvs))):DGet H a (kV k) (cF kvs k):=.inl ⟨kvs,k,.inr ⟨o,e⟩,rfl,rfl⟩
end L2
namespace PySem
open Sem (wp)
open Builtin
theorem mO:fillsNumberSlot (.type "tuple") "mul"=pure false :=
 fillsNumberSlot_seq (id:="tuple.__mul__") (r:=some (.builtin "tuple.__rmul__")) F.slot_tuple_mul.lookup (by decide +kernel) F.slot_tuple_rmul.lookup (by decide +kernel)
theorem tM:seqRepeat? (.type "tuple")=pure (some (.builtin "tuple.__mul__")):=by
 unfold seqRepeat?
 rw[seqSlot_of (T:="tuple") (name:="__mul__") (id:="tuple.__mul__") F.slot_tuple_mul.lookup (by decide +kernel),seqSlot_of (T:="tuple") (name:="__rmul__") (id:="tuple.__rmul__") F.slot_tuple_rmul.lookup (by decide +kernel)]
 rfl
theorem wU(a:Int)(t:Tok)(l:Addr)(items:Array Value) :
  Meets (Builtin.«int.__rmul__» ⟨[.int a t,.ref l],[]⟩) (fun _ R s=>PyProof.Rows.IsTup s.heap l items∧R (.ok (.ret Value.notImplemented)) s) :=
 .of_wp fun prog w A R s h=>by
  obtain⟨hp,g,d,tk,os⟩:=s
  obtain⟨⟨⟨cls,dd,data,sl⟩,ho,hc,n,hd⟩,h⟩:=h
  simp only at hc hd ho
  subst hc hd
  wp_walk
  exact⟨_,rfl,h⟩
theorem Aw(k:Int)(t:Tok)(l:Addr)(items:Array Value)(h0:items.isEmpty=false)(h1:1≤k)(h2:k<2 ^ 63)(hz:items.size * k.toNat≤sizeLine) :
  Meets (Builtin.«tuple.__mul__» ⟨[.ref l,.int k t],[]⟩) (fun _ R s=>PyProof.Rows.IsTup s.heap l items∧(k=1→R (.ok (.ret (.ref l))) s) ∧
   (k≠1→R (.ok (.ret (.ref s.heap.objs.size))) { s with heap:=s.heap.push { cls:=.type "tuple",data:=.seq ((List.replicate k.toNat items).foldl (·++·) #[]) } })) :=
 .of_wp fun prog w A R s h=>by
  obtain⟨hp,g,d,tk,os⟩:=s
  obtain⟨⟨⟨cls,dd,data,sl⟩,ho,hc,n,hd⟩,hA,hB⟩:=h
  simp only at hc hd ho
  subst hc hd
  wp_walk
  have o1:¬ (decide (k < -2 ^ 63) || decide (k ≥ 2 ^ 63))=true:=by
   rw[decide_eq_false (by omega),decide_eq_false (by omega)]
   decide
  rw[if_neg o1]
  refine wpAny_bind (wpAny_tupleItemsOf ho rfl ?_)
  by_cases hk:k=1
  ·have o2:(items.isEmpty || k == 1)=true:=by rw[hk];simp
   rw[if_pos o2]
   wp_walk
   exact⟨_,rfl,hA hk⟩
  ·have o2:¬ (items.isEmpty || k == 1)=true:=by rw[h0,beq_false_of_ne hk];decide
   have o3:¬ (decide (k≤0) || items.isEmpty)=true:=by rw[h0,decide_eq_false (by omega)];decide
   have e4:((items.size:Nat):Int) * k=((items.size * k.toNat:Nat):Int):=by rw[Int.natCast_mul,Int.toNat_of_nonneg (by omega)]
   have o4:¬ ((items.size:Nat):Int) * k > (2 ^ 63 - 1) / 8:=by
    rw[e4]
    have:(sizeLine:Nat)≤(2 ^ 63 - 1) / 8:=by decide
    omega
   have o5:¬ Tuple.tupleTooMany (((items.size:Nat):Int) * k)=true:=by
    unfold Tuple.tupleTooMany
    rw[e4]
    simp only [decide_eq_true_eq]
    omega
   rw[if_neg o2]
   show wpAny _ _ (if (decide (k≤0) || items.isEmpty)=true then _ else _) _ _ _
   rw[if_neg o3]
   show wpAny _ _ (if ((items.size:Nat):Int) * k > (2 ^ 63 - 1) / 8 then _ else _) _ _ _
   rw[if_neg o4]
   show wpAny _ _ (if Tuple.tupleTooMany (((items.size:Nat):Int) * k)=true then _ else _) _ _ _
   rw[if_neg o5]
   unfold Tuple.tupleExact
   refine wpAny_bind (wpAny_newObj_type ?_ ?_)
   ·exact wpAny_pure ⟨_,rfl,hB hk⟩
   ·have e5:=L2.foldl_rep items.toList k.toNat []
    have e6:List.foldl (fun x1 x2=>x1++x2) #[] (List.replicate k.toNat items)=((List.replicate k.toNat items.toList).flatten).toArray:=by
     rw[List.nil_append] at e5
     simpa using e5
    rw[e6]
    show ((List.replicate k.toNat items.toList).flatten).toArray.size≤sizeLine
    rw[List.size_toArray,L2.len_rep,Array.length_toList,Nat.mul_comm]
    exact hz
end PySem
namespace L2
open PySem PySem.Spec PyProof.Rows
def Fq(K:PySem.W.Frag):R2:=fun x y H Q=>∃ a k xs,x=.ref a∧y=.int k∧SqT K H a xs∧xs≠[]∧1≤k∧k<2 ^ 63∧xs.length * k.toNat≤sizeLine ∧
 (k=1→Q (.ref a) H)∧(k≠1→∀ p,H p=none→Q (.ref p) (upd H p (.tup (List.replicate k.toNat xs).flatten)))
theorem B3{X:Cx}{K:PySem.W.Frag}(hK:X.K=K):iC X (binaryOp .Mult) (Fq K):=by
 subst hK
 intro pins s σ H x y v u Q I rx ry h
 obtain⟨a,k,xs,rfl,rfl,ha,h0,h1,h2,hz,q1,q2⟩:=h
 cases rx
 obtain⟨t,rfl⟩:=ry
 obtain⟨its,r,p,_⟩:=I.tuple ha
 have hT:s.TypeIs (.ref a) "tuple":=by
  obtain⟨o,e,c,_⟩:=id p
  exact⟨o,e,c⟩
 have hne:its.toArray.isEmpty=false:=by
  cases its with
  | nil=>exact absurd (r.nil_iff.mp rfl) h0
  | cons b c=>rfl
 refine wpAny_binaryOp_repeat_ref (T:="tuple") (U:="int") (by decide) hT (fun s'=>typeIs_int s' k t) mO F.fills_int_mul F.slot_int_rmul tM F.slot_int_index.lookup
  (call_meets F.slot_int_rmul (typeIs_int s k t) F.entry_int_rmul (F.args_int_rmul_2 _ _) (wU k t a its.toArray)
   ⟨p,rfl,hT,call_meets F.slot_tuple_mul hT F.entry_tuple_mul (F.args_tuple_mul_2 _ _) (Aw k t a its.toArray hne h1 h2 (by rw[List.size_toArray,← r.length];exact hz)) ⟨p,fun e=>⟨.ref a,H,I,rfl,q1 e⟩,fun e=>?_⟩⟩)
 have e6:List.foldl (fun x1 x2=>x1++x2) #[] (List.replicate k.toNat its.toArray)=((List.replicate k.toNat its).flatten).toArray:=by
  have e5:=foldl_rep its k.toNat []
  rw[List.nil_append] at e5
  exact e5
 rw[e6]
 refine⟨.ref s.heap.objs.size,_,I.laid (t':=s.toks) (o:=.tup (List.replicate k.toNat xs).flatten) (fun b ob q=>Heap.get?_push_of_some _ q) (Nat.le_refl _) ?_,rfl,q2 e _ (I.hok.fresh (Nat.le_refl _))⟩
 exact⟨by rw[len_rep,Nat.mul_comm];exact hz,_,r.rep k.toNat,IsTup.new _ _,NoD.new _ _⟩
end L2
namespace Lw
open PySem PySem.Spec PyProof.Rows L2 Ma MaR
def wf(hd tn wy al:Addr):List (Str×V):=fB "alike" (.ref al) (fB "ways" (.ref wy) (fB "turns" (.ref tn) (fB "heads" (.ref hd) [])))
theorem Lp:¬ (("heads":Str)="alike"):=by decide +kernel
theorem Ln:¬ (("heads":Str)="ways"):=by decide +kernel
theorem Ll:¬ (("heads":Str)="turns"):=by decide +kernel
theorem Lk:¬ (("ways":Str)="alike"):=by decide +kernel
section
variable (hd tn wy al:Addr)
theorem Cr:(wf hd tn wy al).lookup ("heads":Str)=some (.ref hd):=by unfold wf;rw[bP,if_neg Lp,bP,if_neg Ln,bP,if_neg Ll,bP,if_pos rfl]
theorem tQ:(wf hd tn wy al).lookup ("ways":Str)=some (.ref wy):=by unfold wf;rw[bP,if_neg Lk,bP,if_pos rfl]
theorem Bz:(wf hd tn wy al).lookup ("alike":Str)=some (.ref al):=by unfold wf;rw[bP,if_pos rfl]
theorem gA{m:Str}(h1:¬ m="alike")(h2:¬ m="ways")(h3:¬ m="turns")(h4:¬ m="heads"):(wf hd tn wy al).lookup m=none:=by
 unfold wf
 rw[bP,if_neg h1,bP,if_neg h2,bP,if_neg h3,bP,if_neg h4]
 rfl
end
structure Wv(C:Addr)(H:Hp)(p d:Addr)(kvs:List (bW×V)):Prop where
 ob:∃ dx hd tn wy al,H p=some (.ins C dx (wf hd tn wy al))∧H hd=some (.lst [.int 0])∧H tn=some (.lst [.str (S [])])∧H wy=some (.lst [.ref d])∧H al=some (.lst [])
 dc:H d=some (.dK kvs)
theorem Wv.same{C:Addr}{H H':Hp}{p d:Addr}{kvs:List (bW×V)}(h:Wv C H p d kvs)(s:Same H H'):Wv C H' p d kvs:=by
 obtain⟨⟨dx,hd,tn,wy,al,a,b,c,e,f⟩,g⟩:=h
 exact⟨⟨dx,hd,tn,wy,al,s _ _ a,s _ _ b,s _ _ c,s _ _ e,s _ _ f⟩,s _ _ g⟩
def Ways(H:Hp)(kvs:List (bW×V))(m:Nat→Option (List Nat)):Prop:=∀ c,match m c with
 | some w=>∃ t,cF kvs (.inr (S [c]))=some (.ref t)∧H t=some (.tup [.int 0,.str (S w)])
 | none=>cF kvs (.inr (S [c]))=none
def EU:Sp:=fun _ _ _ _=>False
def tH(C:Addr):Sp:=fun vs H Q _=>∃ (p dx:Addr),vs=[.ref p]∧H p=some (.ins C dx [])∧∀ (d:Addr) (H':Hp),H d=none→Wv C H' p d []→(∀ b o,H b=some o→b≠p→H' b=some o)→Q .non H'
def zU(C:Addr):Sp:=fun vs H Q _=>∃ (p d:Addr) (kvs:List (bW×V)) (x:Str),vs=[.ref p,.int 0,.str x]∧Wv C H p d kvs∧∀ (t:Addr) (H':Hp),H t=none→Same H H'→H' t=some (.tup [.int 0,.str x])→Q (.ref t) H'
def tZ(C:Addr):Sp:=fun vs H Q _=>∃ (p d:Addr) (kvs:List (bW×V)),vs=[.ref p,.int 0]∧Wv C H p d kvs∧∀ H',Same H H'→Q (.int 0) H'
def xF(C:Addr):Sp:=fun vs H Q _=>∃ (p d:Addr) (kvs:List (bW×V)) (m:Nat→Option (List Nat)) (c:Nat),vs=[.ref p,.int 0,.str (S [c])]∧Wv C H p d kvs∧Ways H kvs m∧∀ H',Same H H'→Q (if (m c).isSome=true then .int 0 else .non) H'
theorem oG{H:Hp}{p q:Addr}{o:HO}(u o':HO)(hp:H p=some o)(hq:H q=none):upd (upd H q u) p o' p=some o'∧upd (upd H q u) p o' q=some u∧∀ b x,H b=some x→b≠p→upd (upd H q u) p o' b=some x:=by
 have n:q≠p:=(aH hp hq).symm
 refine⟨aC,by rw[aJ n,aC],fun b x e hb=>?_⟩
 rw[aJ hb,aJ (aH e hq)]
 exact e
theorem jH{H:Hp}{p q:Addr}{o:HO}(u:HO)(hp:H p=some o)(hq:H q=none):upd H q u p=some o:=by rw[aJ (aH hp hq)];exact hp
theorem pB{c:TT}{tb:TS}{D:L2.Ends}{σ:L2.St}{H:Hp}(h:∀ Q:Bool→Hp→Prop,(∀ H1,D.nx σ H1→Q false H1)→c σ H Q):BB c tb D σ H :=
 ⟨fun _ σ' H'=>σ'=σ∧H'=H,⟨0,rfl,rfl⟩,fun m σ' H' ⟨a,b⟩=>by subst a;subst b;exact h _ fun H1 q=>q⟩
def KpD(d:Addr)(H H':Hp):Prop:=∀ b o,H b=some o→b≠d→H' b=some o
theorem KpD.trans{d:Addr}{H H1 H2:Hp}(a:KpD d H H1)(b:KpD d H1 H2):KpD d H H2:=fun c o h n=>b c o (a c o h n) n
theorem KpD.same{d:Addr}{H H':Hp}(s:Same H H'):KpD d H H':=fun b o h _=>s b o h
theorem Wv.put{C:Addr}{H H':Hp}{p d:Addr}{kvs kvs':List (bW×V)}(h:Wv C H p d kvs)(k:KpD d H H')(e:H' d=some (.dK kvs')):Wv C H' p d kvs':=by
 obtain⟨⟨dx,hd,tn,wy,al,a,b,c,f,g⟩,z⟩:=h
 have n:∀ {x:Addr} {o:HO},H x=some o→o≠.dK kvs→H' x=some o:=fun {x o} hx ho=>k x o hx (nN hx z ho)
 exact⟨⟨dx,hd,tn,wy,al,n a (by intro q;cases q),n b (by intro q;cases q),n c (by intro q;cases q),n f (by intro q;cases q),n g (by intro q;cases q)⟩,e⟩
theorem Ways.put{H H':Hp}{d t:Addr}{kvs:List (bW×V)}{m:Nat→Option (List Nat)}{c:Nat}{w:List Nat}(h:Ways H kvs m)(hd:H d=some (.dK kvs))(k:KpD d H H')(ht:H' t=some (.tup [.int 0,.str (S w)])):Ways H' (dR kvs (.inr (S [c])) (.ref t)) (fun x=>if x=c then some w else m x):=by
 intro x
 show match (if x=c then some w else m x) with
  | some w=>_
  | none=>_
 by_cases q:x=c
 ·subst q
  rw[if_pos rfl]
  exact⟨t,by rw[fF,if_pos rfl],ht⟩
 ·rw[if_neg q]
  have nk:¬ (Sum.inr (S [x]):bW)=Sum.inr (S [c]):=fun z=>q (by
   have z2:=Sum.inr.inj z
   have:=congrArg (fun y:Str=>y.cps.toList) z2
   simpa [S] using this)
  have hx:=h x
  cases e:m x with
  | none =>
   rw[e] at hx
   show cF _ _=none
   rw[fF,if_neg nk]
   exact hx
  | some v =>
   rw[e] at hx
   obtain⟨u,hu,hu2⟩:=(show ∃ u,cF kvs (.inr (S [x]))=some (.ref u)∧H u=some (.tup [.int 0,.str (S v)]) from hx)
   exact⟨u,by rw[fF,if_neg nk];exact hu,k u _ hu2 (nN hu2 hd (by intro z;cases z))⟩
def Dj(C:Addr):Sp:=fun vs H Q _=>∃ (p d:Addr) (kvs:List (bW×V)) (m:Nat→Option (List Nat)) (c:Nat) (w:List Nat),vs=[.ref p,.int 0,.str (S [c]),.int 0,.str (S w)]∧Wv C H p d kvs∧Ways H kvs m∧m c=none∧kvs.length≤100 ∧
 ∀ (kvs':List (bW×V)) (H':Hp),Wv C H' p d kvs'→Ways H' kvs' (fun x=>if x=c then some w else m x)→kvs'.length≤kvs.length+1→KpD d H H'→Q .non H'
def tV(C:Addr):Sp:=fun vs H Q _=>∃ (p d:Addr) (kvs:List (bW×V)) (m:Nat→Option (List Nat)) (c:Nat) (w:List Nat),vs=[.ref p,.str (S [c]),.str (S w)]∧Wv C H p d kvs∧Ways H kvs m∧bU c∧AllL w∧w.length≤1000∧m c=none∧m (con c)=none∧kvs.length≤90 ∧
 ∀ (kvs':List (bW×V)) (H':Hp),Wv C H' p d kvs'→Ways H' kvs' (fun x=>if x=con c then some (back w) else if x=c then some w else m x)→kvs'.length≤kvs.length+2→KpD d H H'→Q .non H'
def xS(C:Addr):Sp:=fun vs H Q _=>∃ (p d:Addr) (kvs:List (bW×V)),vs=[.ref p]∧Wv C H p d kvs∧∀ H',Same H H'→Q .non H'
def wK(C:Addr):Sp:=fun vs H Q _=>∃ (p d:Addr) (kvs:List (bW×V)) (m:Nat→Option (List Nat)) (c:Nat) (w:List Nat),vs=[.ref p,.str (S [c])]∧Wv C H p d kvs∧Ways H kvs m∧m c=some w∧AllL w∧w.length≤1000∧∀ H',Same H H'→Q (.str (S (lay w))) H'
theorem Ways.same{H H':Hp}{kvs:List (bW×V)}{m:Nat→Option (List Nat)}(h:Ways H kvs m)(s:Same H H'):Ways H' kvs m:=by
 intro c
 have hc:=h c
 cases e:m c with
 | none=>rw[e] at hc;exact hc
 | some w =>
  rw[e] at hc
  obtain⟨t,a,b⟩:=(show ∃ t,cF kvs (.inr (S [c]))=some (.ref t)∧H t=some (.tup [.int 0,.str (S w)]) from hc)
  exact⟨t,a,s _ _ b⟩
def C1(C:Addr):Sp:=fun vs H Q _=>∃ (n:Nat) (p d:Addr) (kvs:List (bW×V)) (m:Nat→Option (List Nat)),vs=[.int (n:Nat),.ref p]∧1≤n∧n≤4∧Wv C H p d kvs∧Ways H kvs m∧∀ (t:Addr) (H':Hp),Same H H'→H t=none→H' t=some (.dK [(.inl 0,.int 0)])→Q (.ref t) H'
end Lw
namespace L2
open PySem PySem.Spec PyProof.Rows
end L2
namespace PySem
namespace SeqAt
end SeqAt
end PySem
namespace L2
open PySem PySem.Spec PyProof.Rows
section
variable {X:Cx}{K:PySem.W.Frag}{o e:Expr}{es:List Expr}{to:TE}{t:TA}{name:Str}{apos cpos:Pos}{id:String}{r:V→List V→Hp→VK→Prop}
end
end L2
namespace PySem
open Sem (wp)
open PyProof.Rows
namespace F
theorem tuple_norev:typeLookup (.type "tuple") "__reversed__"=pure none:=by rw[typeLookup_type,builtinLookup_eq_fast];kernel_rfl
end F
theorem jW(a:Addr)(items:Array Value)(hx:(items.size:Int)<2 ^ 63) :
  Meets (Builtin.«reversed.__new__» ⟨[.type "reversed",.ref a],[]⟩) (fun _ R s=>IsTup s.heap a items∧∀ tk,
   R (.ok (.ret (.ref s.heap.objs.size))) { s with heap:=s.heap.push { cls:=.type "reversed",data:=.fields #[.ref a,rawInt ((items.size:Int) - 1)] },toks:=tk }) :=
 .of_wp fun prog w A R s h=>by
  obtain⟨hp,g,d,tk,os⟩:=s
  obtain⟨⟨⟨cls,dd,data,sl⟩,ho,hc,n,hd⟩,h⟩:=h
  simp only at hc hd ho
  subst hc hd
  have hsub:=F.sub_reversed_self
  have hnr:=F.tuple_norev
  have hsd:isSubtype (.type "tuple") (.type "dict")=pure false:=by rw[isSubtype_type];kernel_rfl
  have hgi:=F.slot_tuple_getitem.lookup
  have hT:IsTup hp a items:=⟨_,ho,rfl,n,rfl⟩
  unfold Builtin.«reversed.__new__»
  refine wpAny_bind (wpAny_of_eq (newClass_reversed _) ?_)
  dsimp only
  refine wpAny_bind (wpAny_of_eq (a:=()) (by first | rfl | kernel_rfl) ?_)
  refine wpAny_bind (wpAny_of_eq (a:=()) (by first | rfl | kernel_rfl) ?_)
  try dsimp only
  wp_walk using PyProof.Rows.len_tuple (show IsTup hp a items from hT) hx
  exact⟨_,rfl,h _⟩
def Heap.IsRvt(h:Heap)(it a:Addr)(i:Int):Prop:=∃ o,h.get? it=some o∧o.cls=.type "reversed"∧o.data=.fields #[.ref a,rawInt i]
section
variable {prog:Program}{w:World}{A:Around}{E:Value→Shared→Prop}{s:Shared}
theorem Heap.IsRvt.typeIs{it a:Addr}{i:Int}(h:s.heap.IsRvt it a i):s.TypeIs (.ref it) "reversed":=let ⟨o,ho,hc,_⟩:=h;⟨o,ho,hc⟩
theorem kY{a:Addr}{items:Array Value}{Q:Value→Shared→Prop}(hx:(items.size:Int)<2 ^ 63)(hT:IsTup s.heap a items)
  (h:∀ tk,Q (.ref s.heap.objs.size) { s with heap:=s.heap.push { cls:=.type "reversed",data:=.fields #[.ref a,rawInt ((items.size:Int) - 1)] },toks:=tk }):wpAny (model prog w) A (call (.type "reversed") [.ref a]) Q E s :=
 callType_new F.called_reversed (by decide) (F.typeCall_reversed_1 _) (F.newCall_reversed_1 _) (fun obj=>F.args_object_init_2 obj _) F.entry_reversed_new (jW a items hx) ⟨hT,fun tk=>⟨⟨_,Heap.get?_push_size _ rfl,rfl⟩,h tk⟩⟩
theorem gK{it a:Addr}{i:Int}{Q:Value→Shared→Prop}(hit:s.heap.IsRvt it a i)(h:Q (.ref it) s):wpAny (model prog w) A (pyIter (.ref it)) Q E s:=by
 refine wpAny_pyIter_slot hit.typeIs F.slot_rvd_iter (wpAny_call_entry F.slot_rvd_iter hit.typeIs F.entry_rvd_iter ?_ (F.args_rvd_iter_1 _))
 show wpAny _ _ (ret (.ref it)) _ _ s
 exact wpAny_pure ⟨_,rfl,"reversed",_,hit.typeIs,F.slot_rvd_next.lookup,h⟩
theorem iS{it a:Addr}{items:Array Value}{i:Nat}{y:Value}{Q:Option Value→Shared→Prop}(hit:s.heap.IsRvt it a (i:Int))(hT:IsTup s.heap a items)(hc:items[i]?=some y)(hx:(items.size:Int)<2 ^ 63)
  (hQ:∀ h' tk,h'.IsRvt it a ((i:Int) - 1)→Heap.SameBut it s.heap h'→Q (some y) { s with heap:=h',toks:=tk }):wpAny (model prog w) A (pyNext (.ref it)) Q E s:=by
 obtain⟨o,ho,hcl,hd⟩:=id hit
 have hi:i<items.size:=(Array.getElem?_eq_some_iff.mp hc).1
 have hTy:s.TypeIs (.ref a) "tuple":=by
  obtain⟨o,e,c,_⟩:=id hT
  exact⟨o,e,c⟩
 unfold pyNext
 refine wpAny_bind (wpAny_attempt (wpAny_callSpecial?_slot (name:=Str.ofString "__next__") hit.typeIs F.slot_rvd_next
  (wpAny_call_entry F.slot_rvd_next hit.typeIs F.entry_rvd_next ?_ (F.args_rvd_next_1 _))))
 unfold Builtin.«reversed.__next__»
 refine wpAny_bind (wpAny_of_eq (a:=(Value.ref it,[])) rfl ?_)
 try dsimp only
 refine wpAny_bind (wpAny_field ho hd (x:=.ref a) rfl ?_)
 refine wpAny_bind (wpAny_field ho hd (x:=rawInt (i:Int)) rfl ?_)
 show wpAny _ _ (if (i:Int)<0 then _ else _) _ _ s
 rw[if_neg (by omega)]
 have hgi:=F.slot_tuple_getitem.lookup
 refine wpAny_bind (wpAny_specialOf (T:="tuple") hTy hgi ?_)
 show wpAny _ _ (if (some (Value.builtin "tuple.__getitem__")).isNone=true then _ else _) _ _ _
 rw[if_neg (by simp)]
 refine wpAny_bind (m:=mkInt _) (wpAny_mkInt ?_)
 refine wpAny_bind (wpAny_attempt (PyProof.Rows.getItem_tuple (items:=items) (j:=i) (x:=y) hT (by omega) (by omega) (seqIndex_of (by omega) (by omega)) hc ?_))
 dsimp only
 refine wpAny_bind (wpAny_field ho hd (x:=rawInt (i:Int)) rfl ?_)
 refine wpAny_bind (wpAny_setField ho hd (by simp) ?_)
 refine wpAny_pure ⟨_,rfl,wpAny_pure (hQ _ _ ?_ (Heap.SameBut.update ..))⟩
 exact⟨_,Heap.get?_update_self _ ho (Obj.isFreed_of_fields (Obj.data_mapFields hd _)),(Obj.cls_mapFields ..).trans hcl,by
  rw[Obj.data_mapFields hd];simp⟩
theorem iV{it a:Addr}{Q:Option Value→Shared→Prop}(hh:A.handled=none)(hit:s.heap.IsRvt it a (-1))
  (hQ:∀ h',Heap.ExtBut it s.heap h'→Q none { s with heap:=h' }):wpAny (model prog w) A (pyNext (.ref it)) Q E s:=by
 obtain⟨o,ho,hcl,hd⟩:=id hit
 unfold pyNext
 refine wpAny_bind (wpAny_attempt (wpAny_callSpecial?_slot (name:=Str.ofString "__next__") hit.typeIs F.slot_rvd_next
  (wpAny_call_entry F.slot_rvd_next hit.typeIs F.entry_rvd_next ?_ (F.args_rvd_next_1 _))))
 unfold Builtin.«reversed.__next__»
 refine wpAny_bind (wpAny_of_eq (a:=(Value.ref it,[])) rfl ?_)
 try dsimp only
 refine wpAny_bind (wpAny_field ho hd (x:=.ref a) rfl ?_)
 refine wpAny_bind (wpAny_field ho hd (x:=rawInt (-1)) rfl ?_)
 show wpAny _ _ (if (-1:Int)<0 then _ else _) _ _ s
 rw[if_pos (by decide)]
 refine wpAny_bind (wpAny_rule ?_)
 refine wpAny_bind ?_
 show wpAny _ _ (setField (.ref it) 1 (rawInt (-1)) >>= fun _=>setField (.ref it) 0 .none) _ _ _
 refine wpAny_bind (wpAny_setField ho hd (by simp) ?_)
 have ho':(s.heap.update it (Obj.mapFields fun xs=>xs.setIfInBounds 1 (rawInt (-1)))).get? it=some _:=Heap.get?_update_self _ ho (Obj.isFreed_of_fields (Obj.data_mapFields hd (fun xs=>xs.setIfInBounds 1 (rawInt (-1)))))
 have hd':=Obj.data_mapFields hd (fun xs=>xs.setIfInBounds 1 (rawInt (-1)))
 refine wpAny_setField (s:={ s with heap:=s.heap.update it (Obj.mapFields fun xs=>xs.setIfInBounds 1 (rawInt (-1))) }) ho' hd' (by simp) ?_
 have eb:Heap.ExtBut it s.heap ((s.heap.update it (Obj.mapFields fun xs=>xs.setIfInBounds 1 (rawInt (-1)))).update it (Obj.mapFields fun xs=>xs.setIfInBounds 0 .none)):=fun b ob hb e =>
  (Heap.get?_update_other _ _ (Ne.symm hb)).trans ((Heap.get?_update_other _ _ (Ne.symm hb)).trans e)
 refine wpAny_bind ?_
 show wpAny _ _ (newExc (.type "StopIteration") [] >>= _) _ _ _
 refine wpAny_bind ?_
 simp only [newExc,newTuple]
 refine wpAny_bind (wpAny_newObj_type ?_ (by size_fits))
 refine wpAny_bind (m:=firstArgMember _ _) (wpAny_of_eq (a:=Value.none) (by first | rfl | (simp only [firstArgMember];rfl)) ?_)
 refine wpAny_newObj_type ?_ (by size_fits)
 simp only [raiseNew]
 refine wpAny_bind (wpAny_handled ?_)
 first | rw[show A.in1.handled=none from hh] | rw[hh]
 refine wpAny_bind (wpAny_pure (wpAny_throw ?_))
 refine wpAny_bind (wpAny_isInstance (T:="StopIteration") (b:=true) ⟨_,Heap.get?_push_size _ rfl,rfl⟩ isSubtype_stop ?_)
 exact wpAny_pure (hQ _ ((eb.push _).push _))
end
end PySem
namespace L2
open PySem PySem.Spec PyProof.Rows
def Hu(K:PySem.W.Frag)(a:Addr)(xs:List V):It:=⟨fun i H=>SqT K H a xs∧i<xs.length,fun i H v H'=>H'=H∧xs[xs.length - 1 - i]?=some v,fun i H=>i=xs.length⟩
theorem Cs{P:Program}{w:World}{K:PySem.W.Frag}{tg:Expr}(a it:Addr)(xs:List V)(hx:xs.length≤1000):Turn P w K tg (Hu K a xs) [it] it (fun i h=>i≤xs.length∧h.IsRvt it a ((xs.length:Int) - 1 - (i:Int))) where
 mem:=by simp
 obj:=fun i h st b hb=>by
  have e:b=it:=by simpa using hb
  subst e
  obtain⟨_,o,e,c,d⟩:=st
  exact⟨o,e,fun v z=>by rw[d] at z;cases z⟩
 keep:=fun i h h' st k=>by
  obtain⟨hi,o,e,r⟩:=st
  exact⟨hi,o,k it (by simp) o e,r⟩
 item:=by
  intro X hP hw hK hc i pins s σ H E I hf st hg
  subst hP hw hK
  obtain⟨f0,f1,f2,f3,f4,f5⟩:=hf it (by simp)
  obtain⟨hi,st⟩:=st
  obtain⟨hq,hg'⟩:=hg
  obtain⟨its,rv,p,hz⟩:=I.tuple hq
  have hl:=rv.length
  have e1:(xs.length:Int) - 1 - (i:Int)=((xs.length - 1 - i:Nat):Int):=by omega
  rw[e1] at st
  have hcx:xs[xs.length - 1 - i]?=some (xs[xs.length - 1 - i]'(by omega)):=List.getElem?_eq_getElem (by omega)
  obtain⟨u,hu,ru⟩:=rv.get hcx
  refine iS (items:=its.toArray) st p (y:=u) (by simpa using hu) (by simp;omega) fun h' tk st' sb=>?_
  have e2:((xs.length - 1 - i:Nat):Int) - 1=(xs.length:Int) - 1 - ((i+1:Nat):Int):=by omega
  rw[e2] at st'
  have I1:Inv X pins σ H { s with heap:=h',toks:=tk }:=I.turned (fun b o hb e=>(sb.2 b hb).trans e) f0 f1 f3 f4 f5
  obtain⟨o,e,c,d⟩:=id st'
  exact⟨_,rfl,pX (s:={ s with heap:=h',toks:=tk }) e c d (by decide) ⟨_,H,I1,ru,⟨rfl,hcx⟩,⟨hg',st'⟩,fun b hb=>(hf b hb).1⟩⟩
 done:=by
  intro X hP hw hK hc i pins s σ H E I hf st hg
  subst hP hw hK
  obtain⟨f0,f1,f2,f3,f4,f5⟩:=hf it (by simp)
  have hi:i=xs.length:=hg
  subst hi
  have e1:(xs.length:Int) - 1 - ((xs.length:Nat):Int)=-1:=by omega
  have st':=st.2
  rw[e1] at st'
  exact iV (I.ok.hd hc) st' fun h' eb=>⟨rfl,I.turned (t':=s.toks) (fun b o hb e=>eb b o hb e) f0 f1 f3 f4 f5⟩
 self:=fun A i s Q E st h=>gK st.2 h
section
variable {X:Cx}{tg:Expr}
def JK(K:PySem.W.Frag)(ta:TA):TI:=fun σ H R=>ta σ H fun vs H1=>∃ (a:Addr) (xs:List V),vs=[.ref a]∧SqT K H1 a xs∧xs.length≤1000∧R (Hu K a xs) H1
theorem D_{K:PySem.W.Frag}{a:Expr}{ta:TA}{p pos:Pos}(hK:X.K=K)(hg:Gl X "reversed")(hm:X.mg "reversed"=none)(ha:PA X [a] ta)(hs:starEach [a] X.env=[(false,eval a X.env)]:=by rfl):PI X tg (.Call (.Name "reversed" p) [a] [] pos) (JK K ta):=by
 subst hK
 intro pins s σ H R I h
 refine Call_ (gE I hg hm boot_reversed (PyProof.Rows.callWith_type1 (bS (ha pos pins s σ H _ I h) fun us s1 ⟨vs,H1,I1,r1,q1⟩=>?_) hs rfl))
 obtain⟨z,xs,e,hq,hz,q⟩:=q1
 subst e
 obtain⟨u,rfl,ru⟩:=r1.one
 cases ru
 obtain⟨its,rv,p,_⟩:=I1.tuple hq
 have hl:=rv.length
 refine kY (items:=its.toArray) (by simp;omega) p fun tk=>?_
 have el:(its.toArray.size:Int)=(xs.length:Int):=by simp[hl]
 rw[el]
 have I2:Inv X pins σ H1 { s1 with heap:=s1.heap.push { cls:=.type "reversed",data:=.fields #[.ref z,rawInt ((xs.length:Int) - 1)] },toks:=tk }:=I1.kept fun b o e=>Heap.get?_push_of_some _ e
 have st:(s1.heap.push { cls:=.type "reversed",data:=.fields #[.ref z,rawInt ((xs.length:Int) - 1)] }).IsRvt s1.heap.objs.size z ((xs.length:Int) - 1):=⟨_,Heap.get?_push_size _ rfl,rfl,rfl⟩
 refine gK st ?_
 refine⟨s1.heap.objs.size,[s1.heap.objs.size],_,_,H1,rfl,I2,Cs z _ xs hz,⟨Nat.zero_le _,?_⟩,fun b hb=>?_,q⟩
 ·have e0:(xs.length:Int) - 1 - ((0:Nat):Int)=(xs.length:Int) - 1:=by omega
  rw[e0];exact st
 ·have e:b=s1.heap.objs.size:=by simpa using hb
  subst e
  exact I1.fpOk (Nat.le_refl _) (I1.hok.fresh (Nat.le_refl _))
end
theorem wJ{K:PySem.W.Frag}{a:Addr}{xs:List V}{D:Addr}{Q:VK}{ti:TT}{te:TE}{c:St}{H0:Hp}(Pv:Nat→Hp→Prop)(h0:Pv 0 H0)(hl:∀ i H,i≤xs.length→Pv i H→SqT K H a xs)
  (hs:∀ i k H,xs.reverse[i]?=some k→Pv i H→ti (some k::c) H fun b H1=>if b=true then te (some k::c) H1 fun y H2=>∃ ys,H2 D=some (.lst ys)∧ys.length<sizeLine∧Pv (i+1) (upd H2 D (.lst (ys++[y]))) else Pv (i+1) H1) (hd:∀ H,Pv xs.length H→Q (.ref D) H) :
  iP (Hu K a xs) D Q ti te c H0:=by
 refine⟨fun i m H'=>m=xs.length - i∧i≤xs.length∧Pv i H',⟨xs.length,by simp,Nat.zero_le _,h0⟩,?_⟩
 rintro i m H' ⟨rfl,hi,p⟩
 by_cases hlt:i<xs.length
 ·refine .inr ⟨⟨hl i H' hi p,hlt⟩,Pv (i+1),fun H'' p=>⟨xs.length - (i+1),by omega,rfl,hlt,p⟩,fun v H2 y=>?_⟩
  obtain⟨e,hk⟩:=y
  subst e
  refine hs i v H2 ?_ p
  rw[List.getElem?_reverse hlt]
  exact hk
 ·have e:i=xs.length:=by omega
  subst e
  exact .inl ⟨rfl,hd H' p⟩
end L2
namespace Lw
open PySem PySem.Spec PyProof.Rows L2 Ma MaR
theorem rH(cs:List Nat):bV (cR cs)=aX cs:=by unfold bV cR aX;rw[List.map_map];rfl
def zs(n:Nat):List V:=List.replicate n (.int 0)
theorem E_(n:Nat):(List.replicate n [V.int 0]).flatten=zs n:=by
 unfold zs
 induction n with
 | zero=>rfl
 | succ n ih=>rw[List.replicate_succ,List.flatten_cons,ih,List.replicate_succ];rfl
def N0(H:Hp)(t:Addr):Prop:=∃ o,H t=some (.frz o (.dK [(.inl 0,.int 0)]))
theorem N0.same{H H':Hp}{t:Addr}(h:N0 H t)(s:Same H H'):N0 H' t:=by obtain⟨o,e⟩:=h;exact⟨o,s _ _ e⟩
def zJ(C:Addr):Sp:=fun vs H Q _=>∃ (n:Nat) (p d t:Addr) (kvs:List (bW×V)) (m:Nat→Option (List Nat)),vs=[.int (n:Nat),.ref p,.ref t,.int 0]∧1≤n∧n≤4∧Wv C H p d kvs∧Ways H kvs m∧(∀ c∈cP n,(m c).isSome=true)∧N0 H t ∧
 ∀ (q:Addr) (H':Hp),H q=none→Same H H'→H' q=some (.tup (zs n))→Q (.ref q) H'
def kD(us:List (List Nat))(cs:List Nat):Nat→Option (List Nat):=(cs.zip us).foldl (fun m p x=>if x=con p.1 then some (back p.2) else if x=p.1 then some p.2 else m x) fun _=>none
theorem jO{us:List (List Nat)}{cs:List Nat}{i c:Nat}{u:List Nat}(hc:cs[i]?=some c)(hu:us[i]?=some u):kD (us.take (i+1)) (cs.take (i+1))=fun x=>if x=con c then some (back u) else if x=c then some u else kD (us.take i) (cs.take i) x:=by
 unfold kD
 have e:(cs.take (i+1)).zip (us.take (i+1))=(cs.take i).zip (us.take i)++[(c,u)]:=by
  rw[List.take_add_one,List.take_add_one,hc,hu]
  show (cs.take i++[c]).zip (us.take i++[u])=_
  have hi:=(List.getElem?_eq_some_iff.mp hc).1
  have hj:=(List.getElem?_eq_some_iff.mp hu).1
  rw[List.zip_append (by rw[List.length_take,List.length_take];omega)]
  rfl
 rw[e,List.foldl_append]
 rfl
section
variable {n:Nat}{cs:List Nat}(h1:1≤n)(h4:n≤4)(e:Exch n cs)
include h1 h4 e
theorem Exch.apart{i j c d:Nat}(hij:i≠j)(hc:cs[i]?=some c)(hd:cs[j]?=some d):c≠d∧c≠con d:=by
 have nd:(cs.map lo).Nodup:=(e.perm.nodup_iff).mpr (mC h1 h4)
 have q1:(cs.map lo)[i]?=some (lo c):=by rw[List.getElem?_map,hc];rfl
 have q2:(cs.map lo)[j]?=some (lo d):=by rw[List.getElem?_map,hd];rfl
 have key:lo c≠lo d:=fun z=>hij ((List.getElem?_inj (List.getElem?_eq_some_iff.mp q1).1 nd).mp (by rw[q1,q2,z]))
 have dL:=aK (e.mem d (List.mem_of_getElem? hd))
 exact⟨fun z=>key (by rw[z]),fun z=>key (by rw[z,eZ dL])⟩
theorem Exch.wayN{us:List (List Nat)}(hu:us.length=n):∀ (i:Nat),i≤n→∀ (j d:Nat),i≤j→cs[j]?=some d→kD (us.take i) (cs.take i) d=none∧kD (us.take i) (cs.take i) (con d)=none:=by
 intro i
 induction i with
 | zero=>intro _ j d _ _;exact⟨rfl,rfl⟩
 | succ i ih =>
  intro hi j d hj hd
  have hc:cs[i]?=some (cs[i]'(by rw[e.len];omega)):=List.getElem?_eq_getElem _
  generalize (cs[i]'(by rw[e.len];omega))=c at hc
  have hui:us[i]?=some (us[i]'(by omega)):=List.getElem?_eq_getElem _
  generalize (us[i]'(by omega))=u at hui
  obtain⟨a,b⟩:=e.apart h1 h4 (show j≠i by omega) hd hc
  have cL:=aK (e.mem c (List.mem_of_getElem? hc))
  have dL:=aK (e.mem d (List.mem_of_getElem? hd))
  obtain⟨x,y⟩:=ih (by omega) j d (by omega) hd
  rw[jO hc hui]
  constructor
  ·show (if d=con c then _ else if d=c then _ else _)=none
   rw[if_neg b,if_neg a];exact x
  ·show (if con d=con c then _ else if con d=c then _ else _)=none
   rw[if_neg (fun z=>a (by rw[← aN dL,z,aN cL])),if_neg (fun z=>b (by rw[← aN dL,z]))];exact y
theorem Exch.wayS{us:List (List Nat)}(hu:us.length=n):∀ (i:Nat),i≤n→∀ (j d:Nat) (v:List Nat),j<i→cs[j]?=some d→us[j]?=some v→kD (us.take i) (cs.take i) d=some v∧kD (us.take i) (cs.take i) (con d)=some (Ma.back v):=by
 intro i
 induction i with
 | zero=>intro _ j d v h;omega
 | succ i ih =>
  intro hi j d v hj hd hv
  have hc:cs[i]?=some (cs[i]'(by rw[e.len];omega)):=List.getElem?_eq_getElem _
  generalize (cs[i]'(by rw[e.len];omega))=c at hc
  have hui:us[i]?=some (us[i]'(by omega)):=List.getElem?_eq_getElem _
  generalize (us[i]'(by omega))=u at hui
  have cL:=aK (e.mem c (List.mem_of_getElem? hc))
  have dL:=aK (e.mem d (List.mem_of_getElem? hd))
  rw[jO hc hui]
  by_cases q:j=i
  ·subst q
   rw[hc] at hd;cases hd
   rw[hui] at hv;cases hv
   constructor
   ·show (if d=con d then _ else if d=d then _ else _)=some v
    rw[if_neg (hV dL).symm,if_pos rfl]
   ·show (if con d=con d then _ else _)=some (Ma.back v)
    rw[if_pos rfl]
  ·obtain⟨a,b⟩:=e.apart h1 h4 q hd hc
   obtain⟨x,y⟩:=ih (by omega) j d v (by omega) hd hv
   constructor
   ·show (if d=con c then _ else if d=c then _ else _)=some v
    rw[if_neg b,if_neg a];exact x
   ·show (if con d=con c then _ else if con d=c then _ else _)=some (Ma.back v)
    rw[if_neg (fun z=>a (by rw[← aN dL,z,aN cL])),if_neg (fun z=>b (by rw[← aN dL,z]))];exact y
theorem Exch.wayAll{us:List (List Nat)}(hu:us.length=n){d:Nat}(hd:d∈cP n):(kD us cs d).isSome=true:=by
 have key:∀ c∈cs,(kD us cs c).isSome=true∧(kD us cs (con c)).isSome=true:=fun c hc=>by
  obtain⟨j,hj,rfl⟩:=List.mem_iff_getElem.mp hc
  have hjn:j<n:=by rw[← e.len];exact hj
  have:=e.wayS h1 h4 hu n (Nat.le_refl _) j _ _ hjn (List.getElem?_eq_getElem hj) (List.getElem?_eq_getElem (by omega))
  rw[List.take_of_length_le (by omega),List.take_of_length_le (by rw[e.len];exact Nat.le_refl _)] at this
  rw[this.1,this.2]
  exact⟨rfl,rfl⟩
 rcases e.has h1 h4 hd with h | h
 ·exact(key d h).1
 ·have:=(key _ h).2
  rw[aN (iA hd)] at this
  exact this
theorem Exch.wayB{d:Nat}(hd:d∈cP n):kD (cK n) cs d=some [uY cs d]:=by
 have ll:(cK n).length=n:=(gC h1 h4).len
 have key:∀ c∈cs,kD (cK n) cs c=some [97+cs.idxOf c]∧kD (cK n) cs (con c)=some [65+cs.idxOf c]:=fun c hc=>by
  have hj:cs.idxOf c<cs.length:=List.idxOf_lt_length_of_mem hc
  have hjn:cs.idxOf c<n:=by rw[← e.len];exact hj
  obtain⟨a1,a2,a3,a4,a5,a6,a7,a8⟩:=lE h1 h4 hjn
  have g3:=yI h1 h4 a7
  rw[a5] at g3
  have hv:(cK n)[cs.idxOf c]?=some [97+cs.idxOf c]:=by
   unfold cK
   rw[List.getElem?_map,g3]
   rfl
  have hd':cs[cs.idxOf c]?=some c:=by rw[List.getElem?_eq_getElem hj,List.getElem_idxOf hj]
  have:=e.wayS h1 h4 ll n (Nat.le_refl _) _ _ _ hjn hd' hv
  rw[List.take_of_length_le (by omega),List.take_of_length_le (by rw[e.len];exact Nat.le_refl _)] at this
  refine⟨this.1,this.2.trans ?_⟩
  show some [con (97+cs.idxOf c)]=_
  have:con (97+cs.idxOf c)=65+cs.idxOf c:=by
   have:cs.idxOf c=0∨cs.idxOf c=1∨cs.idxOf c=2∨cs.idxOf c=3:=by omega
   rcases this with z | z | z | z <;> rw[z] <;> decide
  rw[this]
 unfold uY
 by_cases q:d∈cs
 ·rw[if_pos q];exact(key d q).1
 ·rw[if_neg q]
  have q2:con d∈cs:=(e.has h1 h4 hd).resolve_left q
  have:=(key _ q2).2
  rw[aN (iA hd)] at this
  exact this
end
def Fm(C:Addr):Sp:=fun vs H Q _=>∃ (n:Nat) (a:Addr) (cs:List Nat),vs=[.int (n:Nat),.ref a]∧1≤n∧n≤4∧Exch n cs∧H a=some (.tup (aX cs))∧∀ (r q:Addr) (H':Hp),Same H H'→H' r=some (.tup [.ref q])→H' q=some (.tup (zs n))→Q (.ref r) H'
def zX:Sp:=fun vs H Q _=>∃ (n:Nat) (a:Addr) (cs:List Nat),vs=[.ref a]∧1≤n∧n≤4∧Exch n cs∧H a=some (.tup (aX cs))∧∀ H',Same H H'→Q (.bl true) H'
def zO:Sp:=fun vs H Q _=>∃ (n:Nat) (a:Addr) (cs:List Nat),vs=[.ref a]∧1≤n∧n≤4∧Exch n cs∧H a=some (.tup (aX cs))∧∀ (q:Addr) (H':Hp),H q=none→Same H H'→H' q=some (.tup (aX (xB n cs)))→Q (.ref q) H'
inductive Stp where
 | ch (c:Nat) (sd:List Nat)
 | ex (cs:List Nat)
def Stp.tl(n:Nat):Stp→List (List Nat)
 | .ch c sd=>gD n c sd
 | .ex cs=>cR cs
def Stp.bk(n:Nat):Stp→Stp
 | .ch c sd=>.ch (con c) (qD c sd)
 | .ex cs=>.ex (xB n cs)
def Stp.Ok(n:Nat):Stp→Prop
 | .ch c sd=>GoodB n c sd∧sd.length≤8
 | .ex cs=>Exch n cs
section
variable {n:Nat}(h1:1≤n)(h4:n≤4){s:Stp}(h:s.Ok n)
include h1 h4 h
theorem Stp.okB:(s.bk n).Ok n:=by
 cases s with
 | ch c sd=>exact⟨h.1.back h1 h4,by unfold qD;rw[List.length_map];exact h.2⟩
 | ex cs=>exact Exch.back h1 h4 h
theorem Stp.inv:IvS n (s.tl n) ((s.bk n).tl n):=by
 cases s with
 | ch c sd=>exact EJ h1 h4 h.1
 | ex cs=>exact CL h1 h4 h
end
def StB(H:Hp)(v:V)(s:Stp):Prop:=∃ p q,v=.ref p∧match s with
 | .ch c sd=>H p=some (.tup [.str (Str.ofString "change"),.str (S [c]),.ref q])∧H q=some (.tup (aX sd))
 | .ex cs=>H p=some (.tup [.str (Str.ofString "exchange"),.ref q])∧H q=some (.tup (aX cs))
theorem StB.tups{H H':Hp}{v:V}{s:Stp}(h:StB H v s)(t:Tups H H'):StB H' v s:=by
 obtain⟨p,q,rfl,h⟩:=h
 cases s with
 | ch c sd=>exact⟨p,q,rfl,t _ _ h.1,t _ _ h.2⟩
 | ex cs=>exact⟨p,q,rfl,t _ _ h.1,t _ _ h.2⟩
theorem StB.ok{n:Nat}{H:Hp}{v:V}{s:Stp}(h:StB H v s)(g:s.Ok n):StepOk n H v (s.tl n):=by
 obtain⟨p,q,rfl,h⟩:=h
 cases s with
 | ch c sd=>exact⟨p,rfl,.inl ⟨c,sd,q,h.1,h.2,⟨g.1.let',g.1.side,g.2⟩,rfl⟩⟩
 | ex cs=>exact⟨p,rfl,.inr ⟨q,h.1,by rw[show Stp.tl n (.ex cs)=cR cs from rfl,rH];exact h.2,(jQ g).1,(jQ g).2⟩⟩
def Each{α β:Type}(F:α→β→Prop)(xs:List α)(ys:List β):Prop:=xs.length=ys.length∧∀ (i:Nat) (x:α) (y:β),xs[i]?=some x→ys[i]?=some y→F x y
theorem Each.snoc{α β:Type}{F:α→β→Prop}{xs:List α}{ys:List β}(h:Each F xs ys){x:α}{y:β}(f:F x y):Each F (xs++[x]) (ys++[y]):=by
 refine⟨by rw[List.length_append,List.length_append,h.1];rfl,fun i a b ha hb=>?_⟩
 by_cases hi:i<xs.length
 ·rw[List.getElem?_append_left hi] at ha
  rw[List.getElem?_append_left (by rw[← h.1];exact hi)] at hb
  exact h.2 i a b ha hb
 ·have e:i=xs.length:=by
   have:=(List.getElem?_eq_some_iff.mp ha).1
   rw[List.length_append,List.length_singleton] at this
   omega
  subst e
  have e1:x=a:=by simpa using ha
  have e2:y=b:=by rw[h.1] at hb;simpa using hb
  subst e1;subst e2
  exact f
theorem Each.imp{α β:Type}{F G:α→β→Prop}{xs:List α}{ys:List β}(h:Each F xs ys)(f:∀ x y,F x y→G x y):Each G xs ys:=⟨h.1,fun i x y hx hy=>f x y (h.2 i x y hx hy)⟩
theorem Each.nil{α β:Type}{F:α→β→Prop}:Each F ([]:List α) ([]:List β):=⟨rfl,fun i x y hx=>by simp at hx⟩
theorem Each.tail{α β:Type}{F:α→β→Prop}{x:α}{y:β}{xs:List α}{ys:List β}(h:Each F (x::xs) (y::ys)):F x y∧Each F xs ys :=
 ⟨h.2 0 x y rfl rfl,by have:=h.1;simpa using this,fun i a b ha hb=>h.2 (i+1) a b (by simpa using ha) (by simpa using hb)⟩
theorem Each.get{α β:Type}{F:α→β→Prop}{xs:List α}{ys:List β}(h:Each F xs ys){i:Nat}{x:α}(hx:xs[i]?=some x):∃ y,ys[i]?=some y∧F x y:=by
 have hi:=(List.getElem?_eq_some_iff.mp hx).1
 rw[h.1] at hi
 exact⟨_,List.getElem?_eq_getElem hi,h.2 i _ _ hx (List.getElem?_eq_getElem hi)⟩
def RdB(n:Nat)(H:Hp)(p:Addr)(ss:List Stp):Prop:=(∃ vs,H p=some (.tup vs)∧Each (StB H) vs ss)∧∀ s∈ss,s.Ok n
theorem RdB.tups{n:Nat}{H H':Hp}{p:Addr}{ss:List Stp}(h:RdB n H p ss)(t:Tups H H'):RdB n H' p ss:=by
 obtain⟨⟨vs,h1,h2⟩,h3⟩:=h
 exact⟨⟨vs,t _ _ h1,h2.imp fun v s x=>x.tups t⟩,h3⟩
theorem uV{n:Nat}{H:Hp}:∀ {vs:List V} {ss:List Stp},Each (StB H) vs ss→(∀ s∈ss,s.Ok n)→Steps n H vs (ss.map (Stp.tl n))
 | [],[],_,_=>trivial
 | v::vs,s::ss,h,g=>⟨h.tail.1.ok (g s List.mem_cons_self),uV h.tail.2 fun z hz=>g z (List.mem_cons_of_mem _ hz)⟩
 | [],_::_,h,_=>by have:=h.1;simp at this
 | _::_,[],h,_=>by have:=h.1;simp at this
theorem RdB.road{n:Nat}{H:Hp}{p:Addr}{ss:List Stp}(h:RdB n H p ss):IsRoad n H p (ss.map (Stp.tl n)):=by
 obtain⟨⟨vs,h1,h2⟩,h3⟩:=h
 exact⟨vs,h1,uV h2 h3⟩
theorem yY{n:Nat}(h1:1≤n)(h4:n≤4):∀ {ss:List Stp},(∀ s∈ss,s.Ok n)→Invs n (ss.map (Stp.tl n)) (ss.map fun s=>(s.bk n).tl n)
 | [],_=>trivial
 | s::ss,g=>⟨Stp.inv h1 h4 (g s List.mem_cons_self),yY h1 h4 fun z hz=>g z (List.mem_cons_of_mem _ hz)⟩
section
variable {K:PySem.W.Frag}{H:Hp}
theorem BH{a b:Addr}{ws:List (List Nat)}{d:Nat}(ha:H a=some (.tup (bV ws)))(hb:H b=some (.tup (bV ws)))(hl:ws.length≤100):Lq K H (d+1) (.ref a) (.ref b) :=
 .tup (SqT.of ha) (SqT.of hb) rfl (by rw[bI];exact hl) fun i x y hx hy=>by
  rw[hx] at hy
  cases hy
  obtain⟨c,_,rfl⟩:=dZ hx
  exact .flat rfl
end
def Dl:Sp:=fun vs H Q _=>∃ (n:Nat) (v:V) (s:Stp),vs=[v]∧1≤n∧n≤4∧StB H v s∧s.Ok n∧∀ (u:V) (H':Hp),Same H H'→StB H' u (s.bk n)→Q u H'
def Cw:Sp:=fun vs H Q _=>∃ (n:Nat) (p:Addr) (ss:List Stp),vs=[.int (n:Nat),.ref p]∧1≤n∧n≤4∧RdB n H p ss∧ss.length≤6∧∀ (q:Addr) (H':Hp),Same H H'→RdB n H' q (ss.reverse.map (Stp.bk n))→Q (.ref q) H'
def qI:Sp:=fun vs H Q _=>∃ (fl sc:Addr) (n:Nat),vs=[.ref fl,.int (n:Nat)]∧IsFl H fl sc∧1≤n∧n≤4∧∀ (p:Addr) (c:Nat) (sd:List Nat) (H':Hp),H p=none→GoodB n c sd→sd.length≤8→C8 H' p c sd→IsFl H' fl sc→Kp fl H H'→Q (.ref p) H'
def An:Sp:=fun vs H Q _=>∃ (fl sc:Addr) (n:Nat),vs=[.ref fl,.int (n:Nat)]∧IsFl H fl sc∧1≤n∧n≤4∧∀ (v:V) (s:Stp) (H':Hp),StB H' v s→s.Ok n→IsFl H' fl sc→Kp fl H H'→Q v H'
theorem G_{K:PySem.W.Frag}{H:Hp}{t:Addr}{n:Nat}{Q:VK}(h1:1≤n)(h4:n≤4)(ht:H t=some (.tup [.int 0]))(k:∀ (q:Addr) (H':Hp),Same H H'→H' q=some (.tup (zs n))→Q (.ref q) H'):Fq K (.ref t) (.int (n:Nat)) H Q:=by
 refine⟨t,(n:Nat),[.int 0],rfl,rfl,SqT.of ht,by simp,by omega,by omega,?_,fun e=>?_,fun e p hp=>?_⟩
 ·show 1 * _≤_
  rw[sizeLine_eq]
  omega
 ·have en:n=1:=by omega
  subst en
  exact k t H (Same.refl H) ht
 ·have e2:(List.replicate ((n:Nat):Int).toNat [V.int 0]).flatten=zs n:=by rw[Int.toNat_natCast];exact E_ n
  rw[e2]
  exact k p _ (Same.new hp) aC
theorem Jh{K:PySem.W.Frag}{H:Hp}{a b:Addr}{n d:Nat}(ha:H a=some (.tup (zs n)))(hb:H b=some (.tup (zs n)))(hl:n≤100):Lq K H (d+1) (.ref a) (.ref b) :=
 .tup (SqT.of ha) (SqT.of hb) rfl (by unfold zs;rw[List.length_replicate];exact hl) fun i x y hx hy=>by
  rw[hx] at hy
  cases hy
  have:=List.mem_of_getElem? hx
  rw[(List.mem_replicate.mp this).2]
  exact .flat rfl
theorem Each.rev{α β:Type}{F:α→β→Prop}{xs:List α}{ys:List β}(h:Each F xs ys):Each F xs.reverse ys.reverse:=by
 refine⟨by rw[List.length_reverse,List.length_reverse,h.1],fun i x y hx hy=>?_⟩
 have hi:i<xs.length:=by have:=(List.getElem?_eq_some_iff.mp hx).1;rw[List.length_reverse] at this;exact this
 rw[List.getElem?_reverse hi] at hx
 rw[List.getElem?_reverse (by rw[← h.1];exact hi),← h.1] at hy
 exact h.2 _ x y hx hy
theorem BO{n:Nat}(h1:1≤n)(h4:n≤4):(aQ (n:Nat)).Pairwise fun a b=>rk a<rk b:=by
 rcases Bk h1 h4 with rfl | rfl | rfl | rfl <;> decide
theorem zB{w:List Nat}{i:Nat}{v:V}(h:(aX w)[i]?=some v):∃ c,w[i]?=some c∧v=.str (S [c]):=by
 unfold aX at h
 rw[List.getElem?_map] at h
 cases hq:w[i]? with
 | none=>rw[hq] at h;cases h
 | some o=>rw[hq] at h;exact⟨o,rfl,(Option.some.inj h).symm⟩
end Lw
namespace PySem
open Sem (wp)
set_option maxHeartbeats 1000000 in
theorem jB(l:Addr)(items:Array Value) :
  Meets (Builtin.«enumerate.__new__» ⟨[.type "enumerate",.ref l],[]⟩) (fun _ R s=>s.heap.IsTuple l items ∧
   R (.ok (.ret (.ref (s.heap.push { cls:=.type "tuple_iterator",data:=.fields #[.ref l,.int 0 0] }).objs.size)))
    { s with heap:=(s.heap.push { cls:=.type "tuple_iterator",data:=.fields #[.ref l,.int 0 0] }).push { cls:=.type "enumerate",data:=.fields #[.none,.bool false,.ref s.heap.objs.size,rawInt 0,.none,.none] } }) :=
 .of_wp fun prog w A R s h=>by
  obtain⟨hp,g,d,tk,os⟩:=s
  obtain⟨hT,h⟩:=h
  have hsub:=sub_enumerate
  wp_walk
  refine wpAny_stack_any fun st=>wpAny_pure ?_
  split
  ·rename_i c _ _ _ _ _
   cases (c == Value.type "enumerate")
   ·wp_walk using wpAny_pyIter_tuple hT
    exact⟨_,rfl,h⟩
   ·wp_walk using wpAny_pyIter_tuple hT
    exact⟨_,rfl,h⟩
  ·wp_walk using wpAny_pyIter_tuple hT
   exact⟨_,rfl,h⟩
section
variable {prog:Program}{w:World}{A:Around}{E:Value→Shared→Prop}{s:Shared}
theorem kC{l:Addr}{items:Array Value}{Q:Value→Shared→Prop}(hL:s.heap.IsTuple l items)
  (h:∀ h',IsEnum h' (s.heap.objs.size+1) s.heap.objs.size 0 .none→h'.IsTupleIter s.heap.objs.size l 0→h'.objs.size=s.heap.objs.size+2 →
   (∀ b o,s.heap.get? b=some o→h'.get? b=some o)→Q (.ref (s.heap.objs.size+1)) { s with heap:=h' }) :
  wpAny (model prog w) A (call (.type "enumerate") [.ref l]) Q E s:=by
 refine callType_new F.called_enumerate (by decide) (F.typeCall_enumerate_1 _) (F.newCall_enumerate_1 _) (fun obj=>F.args_object_init_2 obj _) F.entry_enumerate_new
  (jB l items) ⟨hL,?_⟩
 have hz:(s.heap.push { cls:=.type "tuple_iterator",data:=.fields #[.ref l,.int 0 0] }).objs.size=s.heap.objs.size+1:=Heap.size_push ..
 show _∧_
 rw[hz]
 have he:IsEnum ((s.heap.push { cls:=.type "tuple_iterator",data:=.fields #[.ref l,.int 0 0] }).push
   { cls:=.type "enumerate",data:=.fields #[.none,.bool false,.ref s.heap.objs.size,rawInt 0,.none,.none] }) (s.heap.objs.size+1) s.heap.objs.size 0 .none:=by
  have:=Heap.get?_push_size (s.heap.push { cls:=.type "tuple_iterator",data:=.fields #[.ref l,.int 0 0] })
   (o:={ cls:=.type "enumerate",data:=.fields #[.none,.bool false,.ref s.heap.objs.size,rawInt 0,.none,.none] }) rfl
  rw[hz] at this;exact this
 refine⟨⟨_,he,rfl⟩,h _ he ⟨_,Heap.get?_push_of_some _ (Heap.get?_push_size _ rfl),rfl,rfl⟩ (by rw[Heap.size_push,hz]) fun b o x=>Heap.get?_push_of_some _ (Heap.get?_push_of_some _ x)⟩
end
end PySem
namespace L2
open PySem PySem.Spec PyProof.Rows
theorem nD{prog:Program}{w:World}{A:Around}(hh:A.handled=none)(it l:Addr)(hne:l≠it)(items:Array Value) :
  Draws prog w A it [it,l] items.size (fun i v=>items[i]?=some v) (fun i h=>h.IsTupleIter it l i∧h.IsTuple l items) where
 live:=fun _ _ st=>let ⟨o,ho,_⟩:=st.1;⟨o,ho⟩
 frame:=fun _ _ _ st hk=>⟨st.1.at fun o e=>hk it (by simp) o e,by obtain⟨o,e,r⟩:=st.2;exact⟨o,hk l (by simp) o e,r⟩⟩
 item:=fun i s Q E hi st hQ=>by
  refine iG st.1 st.2 (x:=items[i]) (by simp[hi]) fun h' hit' hs'=>?_
  exact hQ _ h' s.toks (by simp[hi]) ⟨hit',st.2.extBut hs'.extBut hne⟩ hs'
 done:=fun s Q E st hE=>mS hh st.1 st.2 (by simp) hE
def BJ(K:PySem.W.Frag)(a:Addr):It :=
 ⟨fun i H=>∃ xs x,SqT K H a xs∧xs[i]?=some x,fun i H v H'=>∃ p,v=.ref p∧H p=none∧∀ xs,SqT K H a xs→∃ x,xs[i]?=some x∧H'=upd H p (.tup [.int (i:Nat),x]),fun i H=>∃ xs,SqT K H a xs∧xs.length=i⟩
theorem yM{P:Program}{w:World}{K:PySem.W.Frag}{es:List Expr}{x1}{pos:Pos}(a e it:Addr)(hne:e≠it) :
  Turn P w K (.Tuple es x1 pos) (BJ K a) [e,it] e (fun i h=>(∃ old,IsEnum h e it ((i:Nat):Int) old)∧h.IsTupleIter it a i) where
 mem:=by simp
 obj:=fun i h st b hb=>by
  obtain⟨⟨old,he⟩,o,g,c,d⟩:=st
  simp only [List.mem_cons,List.not_mem_nil,or_false] at hb
  rcases hb with rfl | rfl
  ·exact⟨_,he,fun v z=>by cases z⟩
  ·exact⟨o,g,fun v z=>by rw[d] at z;cases z⟩
 keep:=fun i h h' st k=>by
  obtain⟨⟨old,he⟩,o,g,r⟩:=st
  exact⟨⟨old,k e (by simp) _ he⟩,o,k it (by simp) o g,r⟩
 item:=by
  intro X hP hw hK hc i pins s σ H E I hf st hg
  subst hP hw hK
  obtain⟨⟨old,he⟩,hs⟩:=st
  obtain⟨xs,y,hq,hx⟩:=hg
  obtain⟨its,rv,p,hz⟩:=I.tuple hq
  obtain⟨u,hu,ru⟩:=rv.get hx
  have hl:=rv.length
  have hai:a≠it:=fun c=>by
   obtain⟨o,g,c1,_⟩:=hs
   obtain⟨o2,g2,c2,_⟩:=id p
   subst c
   rw[g2] at g
   cases g
   rw[c1] at c2
   exact absurd (Value.type.inj c2) (by decide)
  have hea:e≠a:=fun c=>by
   obtain⟨o2,g2,c2,_⟩:=id p
   subst c
   have he':s.heap.get? e=some _:=he
   rw[g2] at he'
   cases he'
   exact absurd (Value.type.inj c2) (by decide)
  have hei:e ∉ [it,a]:=by simp[hne,hea]
  have DD:=nD (prog:=X.prog) (w:=X.w) (A:=X.A.in1) (I.ok.hd hc) it a hai its.toArray
  have hil:i<xs.length:=(List.getElem?_eq_some_iff.mp hx).1
  refine wpAny_pyNext_enum_itemD DD he ⟨hs,(show s.heap.IsTuple a its.toArray from p)⟩ (by simp;omega) hne hei fun v h1 tk hv ho hs1 hT1 hz1 kp=>⟨_,rfl,?_⟩
  have ev:v=u:=by
   have h3:its[i]?=some v:=by simpa using hv
   rw[hu] at h3
   exact(Option.some.inj h3).symm
  subst ev
  refine wpAny_letOwnedTupleGo_enum ho fun h2 he2 e2=>?_
  have ne:s.heap.objs.size≠e:=Nat.ne_of_gt (Heap.lt_size he)
  have hT2:h2.get? s.heap.objs.size=some { cls:=.type "tuple",data:=.seq #[.int i tk,v] }:=(e2.2 _ ne).trans hT1
  have hHn:H s.heap.objs.size=none:=I.hok.fresh (Nat.le_refl _)
  have kpn:∀ b o,b ∉ [e,it]→s.heap.get? b=some o→h2.get? b=some o:=fun b o hn q=>(e2.2 b fun z=>hn (by simp[z])).trans (kp b o (fun z=>hn (by simp[z])) (fun z=>hn (by simp[z])) q)
  refine⟨.ref s.heap.objs.size,upd H s.heap.objs.size (.tup [.int (i:Nat),y]),?_,rfl,⟨_,rfl,hHn,fun ys hy=>⟨y,by rw[I.tuple_inj hy hq];exact hx,rfl⟩⟩,⟨⟨_,by simpa using he2⟩,?_⟩,fun b hb=>?_⟩
  ·exact I.turnedN (t':=tk+1) (h':=h2) kpn hf (Nat.le_refl _) ⟨by show 2≤sizeLine;decide,[.int i tk,v],.cons ⟨_,rfl⟩ (.cons ru .nil),⟨_,hT2,rfl,0,rfl⟩,⟨_,hT2,rfl⟩⟩
  ·obtain⟨⟨o,g,r⟩,_⟩:=hs1
   exact⟨o,(e2.2 it hne.symm).trans g,r⟩
  ·have hce:b≠s.heap.objs.size:=by
    obtain⟨o1,g1,_⟩:=hs
    simp only [List.mem_cons,List.not_mem_nil,or_false] at hb
    rcases hb with rfl | rfl
    ·exact Nat.ne_of_lt (Heap.lt_size he)
    ·exact Nat.ne_of_lt (Heap.lt_size g1)
   rw[aJ hce]
   exact(hf b hb).1
 done:=by
  intro X hP hw hK hc i pins s σ H E I hf st hg
  subst hP hw hK
  obtain⟨⟨old,he⟩,hs⟩:=st
  obtain⟨xs,hq,hx⟩:=hg
  obtain⟨its,rv,p,hz⟩:=I.tuple hq
  have hl:=rv.length
  have hai:a≠it:=fun c=>by
   obtain⟨o,g,c1,_⟩:=hs
   obtain⟨o2,g2,c2,_⟩:=id p
   subst c
   rw[g2] at g
   cases g
   rw[c1] at c2
   exact absurd (Value.type.inj c2) (by decide)
  have hi:i=its.toArray.size:=by simp;omega
  subst hi
  have DD:=nD (prog:=X.prog) (w:=X.w) (A:=X.A.in1) (I.ok.hd hc) it a hai its.toArray
  refine wpAny_pyNext_enum_endD DD he ⟨hs,(show s.heap.IsTuple a its.toArray from p)⟩ fun h1 e1=>⟨rfl,?_⟩
  exact I.turnedM (t':=s.toks) (ch:=[e,it]) (fun b o hn q=>e1 b o (fun z=>hn (by simp[z])) q) hf
 self:=fun A i s Q E st h=>by
  obtain⟨⟨old,he⟩,_⟩:=st
  exact wpAny_pyIter_enum he h
section
variable {X:Cx}
def HD(K:PySem.W.Frag)(ta:TA):TI:=fun σ H R=>ta σ H fun vs H1=>∃ a,vs=[.ref a]∧(∃ xs,SqT K H1 a xs)∧R (BJ K a) H1
theorem CB{es:List Expr}{x1}{tpos:Pos}{a:Expr}{ta:TA}{p pos:Pos}{K:PySem.W.Frag}(hK:X.K=K)(hg:Gl X "enumerate")(hm:X.mg "enumerate"=none)(ha:PA X [a] ta)(hs:starEach [a] X.env=[(false,eval a X.env)]:=by rfl) :
  PI X (.Tuple es x1 tpos) (.Call (.Name "enumerate" p) [a] [] pos) (HD K ta):=by
 subst hK
 intro pins s σ H R I h
 refine Call_ (gE I hg hm boot_enumerate (PyProof.Rows.callWith_type1 (bS (ha pos pins s σ H _ I h) fun us s1 ⟨vs,H1,I1,r1,q1⟩=>?_) hs rfl))
 obtain⟨l,e,⟨xs,hq⟩,q⟩:=q1
 subst e
 obtain⟨u,rfl,ru⟩:=r1.one
 obtain rfl:u=.ref l:=ru
 obtain⟨its,rv,pl,hz⟩:=I1.tuple hq
 refine kC (show s1.heap.IsTuple l its.toArray from pl) fun h' he hit hz kp=>?_
 have I2:Inv X pins σ H1 { s1 with heap:=h' }:=I1.kept (t':=s1.toks) kp
 have hne:s1.heap.objs.size+1≠s1.heap.objs.size:=by omega
 refine wpAny_pyIter_enum he ⟨s1.heap.objs.size+1,[s1.heap.objs.size+1,s1.heap.objs.size],_,_,H1,rfl,I2,yM l _ _ hne,⟨⟨_,he⟩,hit⟩,fun b hb=>?_,q⟩
 have hle:s1.heap.objs.size≤b:=by
  simp only [List.mem_cons,List.not_mem_nil,or_false] at hb
  rcases hb with h | h <;> rw[h]
  ·exact Nat.le_add_right _ _
  ·exact Nat.le_refl _
 exact I1.fpOk hle (I1.hok.fresh hle)
end
theorem AN{K:PySem.W.Frag}{a:Addr}{xs:List V}{g:TG}{tb:TS}{D:Ends}{σ:St}{H:Hp}(Pv:Nat→St→Hp→Prop)(h0:Pv 0 σ H)(hl:∀ i σ H,i≤xs.length→Pv i σ H→SqT K H a xs)
  (hs:∀ i x p σ H,xs[i]?=some x→H p=none→Pv i σ H→g (.ref p) σ (upd H p (.tup [.int (i:Nat),x])) fun σ2 H2=>tb { D with nx:=Pv (i+1),ct:=Pv (i+1),bk:=D.nx } σ2 H2) (hd:∀ σ H,Pv xs.length σ H→D.nx σ H) :
  ∃ W:Nat→Nat→St→Hp→Prop,(∃ m,W 0 m σ H)∧∀ i m σ H,W i m σ H →
   ((BJ K a).stop i H∧D.nx σ H)∨((BJ K a).go i H∧∃ N:St→Hp→Prop,(∀ σ' H',N σ' H'→∃ m',m' < m∧W (i+1) m' σ' H')∧∀ x H',(BJ K a).yld i H x H'→g x σ H' fun σ2 H2=>tb { D with nx:=N,ct:=N,bk:=D.nx } σ2 H2):=by
 refine⟨fun i m σ H=>m=xs.length - i∧i≤xs.length∧Pv i σ H,⟨xs.length,by simp,Nat.zero_le _,h0⟩,?_⟩
 rintro i m σ H ⟨rfl,hi,p⟩
 have q:=hl i σ H hi p
 by_cases hlt:i<xs.length
 ·refine .inr ⟨⟨xs,_,q,List.getElem?_eq_getElem hlt⟩,Pv (i+1),fun σ' H' p'=>⟨xs.length - (i+1),by omega,rfl,hlt,p'⟩,fun x H' y=>?_⟩
  obtain⟨pp,rfl,hn,hy⟩:=y
  obtain⟨x,hx,rfl⟩:=hy xs q
  exact hs i x pp σ H hx hn p
 ·have e:i=xs.length:=by omega
  subst e
  exact .inl ⟨⟨xs,q,rfl⟩,hd σ H p⟩
def Io(K:PySem.W.Frag):V→Option Int→Option Int→Option Int→Hp→VK→Prop:=fun x lo hi st H Q=>∃ (a:Addr) (xs:List V),x=.ref a∧SqL K H a xs∧lo=none∧hi=none∧st=some (-1)∧∀ p,H p=none→Q (.ref p) (upd H p (.lst xs.reverse))
theorem Ck{X:Cx}{K:PySem.W.Frag}(hK:X.K=K):Hq X (Io K):=by
 subst hK
 intro pins s σ H x v vl vu vk lo hi st sl Q I rx hs pl pu pk h
 obtain⟨a,xs,rfl,hx,rfl,rfl,rfl,q⟩:=h
 cases rx
 obtain⟨its,r,ht,hz⟩:=I.list hx
 have hlen:=r.length
 refine⟨"list",_,slot_list_getitem.lookup,ht.isList.typeIs,?_⟩
 refine wpAny_getItem_list_slice ht.isList hs pl pu pk (by decide) ?_ (by rw[List.size_toArray];omega)
 rw[PySem.W.krv_pick]
 have rv:Vals xs.reverse its.reverse:=by
  have:=kS r (fun m=>xs.length - 1 - m) (List.range xs.length)
  unfold oZ at this
  rw[sT] at this
  rw[hlen,sT] at this
  exact this
 refine⟨.ref s.heap.objs.size,_,I.laid (t':=s.toks) (o:=.lst xs.reverse) (fun b ob q=>Heap.get?_push_of_some _ q) (Nat.le_refl _) ?_,rfl,q _ (I.hok.fresh (Nat.le_refl _))⟩
 exact⟨by rw[List.length_reverse];omega,its.reverse,0,rv,Heap.get?_push_size _ rfl⟩
end L2
namespace Lw
open PySem PySem.Spec PyProof.Rows L2 Ma MaR
def Al:List (List Nat)→List (List (List Nat))→List (List (List Nat))→Prop
 | _,[],[]=>True
 | rs,st::sts,q::qs=>RowR st rs q∧Al q sts qs
 | _,_,_=>False
def dH:List (List Nat)→List (List (List Nat))→List (List Nat)
 | rs,[]=>rs
 | _,q::qs=>dH q qs
theorem Al.len:∀ {rs:List (List Nat)} {sts qs:List (List (List Nat))},Al rs sts qs→qs.length=sts.length
 | _,[],[],_=>rfl
 | _,_::_,_::_,h=>by rw[List.length_cons,List.length_cons,Al.len h.2]
 | _,[],_::_,h=>h.elim
 | _,_::_,[],h=>h.elim
theorem Al.inj{n:Nat}:∀ {rs:List (List Nat)} {sts qs qs':List (List (List Nat))},(∀ st∈sts,RT st n 3)→Al rs sts qs→Al rs sts qs'→qs=qs'
 | _,[],[],[],_,_,_=>rfl
 | _,st::_,q::_,q'::_,hg,h,h'=>by
  have e:=h.1.inj (hg st List.mem_cons_self) h'.1
  subst e
  rw[Al.inj (fun s hs=>hg s (List.mem_cons_of_mem _ hs)) h.2 h'.2]
 | _,[],_::_,_,_,h,_=>h.elim
 | _,[],[],_::_,_,_,h=>h.elim
 | _,_::_,[],_,_,h,_=>h.elim
 | _,_::_,_::_,[],_,_,h=>h.elim
theorem eC:∀ (rs:List (List Nat)) (qs:List (List (List Nat))) (q:List (List Nat)),dH rs (qs++[q])=q
 | _,[],_=>rfl
 | _,a::qs,q=>eC a qs q
theorem Al.snoc:∀ {rs:List (List Nat)} {sts qs:List (List (List Nat))},Al rs sts qs→∀ {st q:List (List Nat)},RowR st (dH rs qs) q→Al rs (sts++[st]) (qs++[q])
 | _,[],[],_,_,_,h=>⟨h,trivial⟩
 | _,_::_,_::_,a,_,_,h=>⟨a.1,Al.snoc a.2 h⟩
 | _,[],_::_,h,_,_,_=>h.elim
 | _,_::_,[],h,_,_,_=>h.elim
theorem Al.split:∀ {sts:List (List (List Nat))} {rs:List (List Nat)} {st:List (List Nat)} {zs:List (List (List Nat))},Al rs (sts++[st]) zs→∃ zs1 z,zs=zs1++[z]∧Al rs sts zs1∧RowR st (dH rs zs1) z
 | [],_,_,[z],h=>⟨[],z,rfl,trivial,h.1⟩
 | [],_,_,[],h=>h.elim
 | [],_,_,_::_::_,h=>h.2.elim
 | _::sts,_,st,q::zs,h=>by
  obtain⟨zs1,z,rfl,h1,h2⟩:=Al.split (sts:=sts) h.2
  exact⟨q::zs1,z,rfl,⟨h.1,h1⟩,h2⟩
 | _::_,_,_,[],h=>h.elim
theorem Al.get:∀ {rs:List (List Nat)} {sts qs:List (List (List Nat))},Al rs sts qs→∀ {i:Nat} {st:List (List Nat)},sts[i]?=some st→∃ r q,(rs::qs)[i]?=some r∧qs[i]?=some q∧RowR st r q
 | _,[],_,_,i,st,hs=>by simp at hs
 | rs,s::sts,q::qs,h,0,st,hs=>by
  have:s=st:=by simpa using hs
  subst this
  exact⟨rs,q,rfl,rfl,h.1⟩
 | rs,s::sts,q::qs,h,i+1,st,hs=>by
  obtain⟨r,y,h1,h2,h3⟩:=Al.get h.2 (i:=i) (st:=st) (by simpa using hs)
  exact⟨r,y,by simpa using h1,by simpa using h2,h3⟩
 | _,_::_,[],h,_,_,_=>h.elim
theorem RowR.at{f rs qs:List (List Nat)}(h:RowR f rs qs){i:Nat}{y:List Nat}(hy:qs[i]?=some y):∃ x,rs[i]?=some x∧RingR (retl f x) y:=by
 have hi:=(List.getElem?_eq_some_iff.mp hy).1
 rw[h.1] at hi
 exact⟨_,List.getElem?_eq_getElem hi,h.2 i _ _ (List.getElem?_eq_getElem hi) hy⟩
theorem Ds{n:Nat}(h1:1≤n)(h4:n≤4){f rs qs:List (List Nat)}(o:∀ x∈f,OfN n x)(h:RowR f rs qs):∀ y∈qs,RgN n y:=fun y hy=>by
 obtain⟨i,hi,rfl⟩:=List.mem_iff_getElem.mp hy
 obtain⟨x,_,hr⟩:=h.at (List.getElem?_eq_getElem hi)
 exact⟨retl f x,qT h1 h4 o x,eJ _,hr⟩
theorem F5{n:Nat}{f rs qs:List (List Nat)}{M L:Nat}(r:RT f n M)(h:RowR f rs qs)(hl:∀ x∈rs,x.length≤L):∀ y∈qs,y.length≤L * M:=fun y hy=>by
 obtain⟨i,hi,rfl⟩:=List.mem_iff_getElem.mp hy
 obtain⟨x,hx,hr⟩:=h.at (List.getElem?_eq_getElem hi)
 have a:=hr.len
 have b:=kU r x
 have c:=Nat.mul_le_mul_right M (hl x (List.mem_of_getElem? hx))
 omega
theorem D4{n:Nat}(h1:1≤n)(h4:n≤4){rs:List (List Nat)}(hx:∀ x∈rs,RgN n x):RowR (cK n) rs rs:=by
 refine⟨rfl,fun i x q h h'=>?_⟩
 rw[h] at h'
 cases h'
 have g:=hx x (List.mem_of_getElem? h)
 obtain⟨ha,hp,_⟩:=fP g
 rw[rO h1 h4 g.ofn hp]
 obtain⟨y,oy,py,hy⟩:=g
 exact rT oy.all py hy
theorem Al.whole{n:Nat}(h1:1≤n)(h4:n≤4):∀ {sts qs:List (List (List Nat))} {rs rs0 f:List (List Nat)} {M:Nat},RT f n M→RowR f rs0 rs→(∀ st∈sts,RT st n 3)→Al rs sts qs→RowR (sts.foldl dX f) rs0 (dH rs qs)
 | [],[],_,_,_,_,_,h,_,_=>h
 | st::sts,q::qs,rs,rs0,f,M,r,h,hg,al=>by
  have r2:=hg st List.mem_cons_self
  refine Al.whole h1 h4 (rs:=q) (qs:=qs) (f:=dX f st) (yW r r2) ⟨by rw[al.1.1,h.1],fun i x z hx hz=>?_⟩ (fun s hs=>hg s (List.mem_cons_of_mem _ hs)) al.2
  obtain⟨y,hy,hr⟩:=al.1.at hz
  rw[rD r r2]
  exact nO r2 (dY r x) (eJ _) (h.2 i x y hx hy) hr
 | [],_::_,_,_,_,_,_,_,_,h=>h.elim
 | _::_,[],_,_,_,_,_,_,_,h=>h.elim
theorem IvS.rowB{n:Nat}(h1:1≤n)(h4:n≤4){st bk rs q z:List (List Nat)}(v:IvS n st bk)(hx:∀ x∈rs,RgN n x)(h:RowR st rs q)(g:RowR bk q z):z=rs:=by
 refine List.ext_getElem (by rw[g.1,h.1]) fun i hi hj=>?_
 obtain⟨y,hy,ry⟩:=g.at (List.getElem?_eq_getElem hi)
 have hr:=h.2 i _ _ (List.getElem?_eq_getElem hj) hy
 have gx:=hx _ (List.getElem_mem hj)
 obtain⟨ha,hp,_⟩:=fP gx
 have key:=nO v.bt.1 (dY v.rt.1 _) (eJ _) hr ry
 rw[← rD v.rt.1 v.bt.1,v.there,rO h1 h4 gx.ofn hp] at key
 obtain⟨w,ow,pw,hw⟩:=id gx
 exact key.inj ha (rT ow.all pw hw)
theorem xM:∀ (q:List (List Nat)) (qs:List (List (List Nat))) ,dH (dH q qs) (q::qs).dropLast.reverse=q
 | q,[]=>rfl
 | q,a::qs=>by
  show dH (dH a qs) (q::(a::qs).dropLast).reverse=q
  rw[List.reverse_cons,eC]
theorem Al.back{n:Nat}(h1:1≤n)(h4:n≤4):∀ {sts bks qs zs:List (List (List Nat))} {rs:List (List Nat)},Invs n sts bks→(∀ x∈rs,RgN n x)→Al rs sts qs→Al (dH rs qs) bks.reverse zs→zs=(rs::qs).dropLast.reverse
 | [],[],[],zs,_,_,_,_,h=>by
  cases zs with
  | nil=>rfl
  | cons a b=>exact h.elim
 | st::sts,bk::bks,q::qs,zs,rs,hi,hx,al,h=>by
  rw[List.reverse_cons] at h
  obtain⟨zs1,z,rfl,a1,a2⟩:=Al.split h
  have hq:∀ y∈q,RgN n y:=Ds h1 h4 hi.1.rt.2 al.1
  have e:=Al.back h1 h4 (rs:=q) hi.2 hq al.2 a1
  subst e
  have ez:dH (dH rs (q::qs)) (q::qs).dropLast.reverse=q:=xM q qs
  rw[ez] at a2
  rw[IvS.rowB h1 h4 hi.1 hx al.1 a2]
  show _=(rs::(q::qs).dropLast).reverse
  rw[List.reverse_cons]
 | [],[],_::_,_,_,_,_,h,_=>h.elim
 | _::_,_::_,[],_,_,_,_,h,_=>h.elim
 | [],_::_,_,_,_,h,_,_,_=>h.elim
 | _::_,[],_,_,_,h,_,_,_=>h.elim
def RwB(H:Hp)(u:V)(q:List (List Nat)):Prop:=∃ b,u=.ref b∧H b=some (.tup (bV q))
theorem RwB.tups{H H':Hp}{u:V}{q:List (List Nat)}(h:RwB H u q)(t:Tups H H'):RwB H' u q:=by
 obtain⟨b,e,x⟩:=h
 exact⟨b,e,t _ _ x⟩
structure RowOk(n:Nat)(r:List (List Nat)):Prop where
 few:r.length≤4
 rg:∀ x∈r,RgN n x
 tot:totL r≤48
theorem RowOk.le{n:Nat}{r:List (List Nat)}(h:RowOk n r):∀ x∈r,OfN n x∧x.length≤48:=fun x hx=>⟨(h.rg x hx).ofn,Nat.le_trans (oP hx) h.tot⟩
theorem GoodB.goodS{n c:Nat}{sd:List Nat}(g:GoodB n c sd)(h:sd.length≤8):GoodS n c sd:=⟨⟨g.let',g.side,h⟩,g.has,g.hasn⟩
theorem uA{K:PySem.W.Frag}{H:Hp}{a b:Addr}{d:Nat}{us vs:List V}{qs:List (List (List Nat))}(ha:H a=some (.lst us))(hb:H b=some (.lst vs))(hu:Each (RwB H) us qs)(hv:Each (RwB H) vs qs)(hl:qs.length≤100)(hq:∀ q∈qs,q.length≤100):Lq K H (d+2) (.ref a) (.ref b) :=
 .lst ha hb (by rw[hu.1,hv.1]) (by rw[hu.1];exact hl) fun i x y hx hy=>by
  obtain⟨q,hq',b1,rfl,e1⟩:=hu.get hx
  obtain⟨b2,rfl,e2⟩:=hv.2 i y q hy hq'
  exact BH e1 e2 (hq q (List.mem_of_getElem? hq'))
def C_(K:PySem.W.Frag):Sp:=fun vs H Q _=>∃ (f a:Addr) (fs rs:List (List Nat)) (n L:Nat),vs=[.ref f,.ref a]∧SqT K H f (bV fs)∧SqT K H a (bV rs)∧RT fs n 3∧1≤n∧n≤4∧rs.length≤100∧(∀ x∈rs,OfN n x∧x.length≤L)∧L * 3≤60000 ∧
 ∀ (p:Addr) (qs:List (List Nat)) (H':Hp),H p=none→Same H H'→RowR fs rs qs→H' p=some (.tup (bV qs))→Q (.ref p) H'
def vJ:Sp:=fun vs H Q _=>∃ (n:Nat) (a p:Addr) (rs:List (List Nat)) (ss:List Stp),vs=[.int (n:Nat),.ref a,.ref p]∧1≤n∧n≤4∧H a=some (.tup (bV rs))∧RowOk n rs∧RdB n H p ss∧ss.length≤6 ∧
 ∀ (l:Addr) (us:List V) (qs:List (List (List Nat))) (H':Hp),H l=none→Same H H'→H' l=some (.lst us)→Each (RwB H') us qs→Al rs (ss.map (Stp.tl n)) qs→Q (.ref l) H'
def wG:Sp:=fun vs H Q _=>∃ (fl sc:Addr) (n:Nat) (a:Addr) (rs:List (List Nat)),vs=[.ref fl,.int (n:Nat),.ref a]∧IsFl H fl sc∧1≤n∧n≤4∧H a=some (.tup (bV rs))∧RowOk n rs ∧
 ∀ (t p l:Addr) (ss:List Stp) (us:List V) (qs:List (List (List Nat))) (H':Hp),H' t=some (.tup [.ref p,.ref l])→RdB n H' p ss→ss.length≤6→H' l=some (.lst us)→Each (RwB H') us qs→Al rs (ss.map (Stp.tl n)) qs→(∀ q∈qs,RowOk n q)→IsFl H' fl sc→Kp fl H H'→Q (.ref t) H'
def zV:Sp:=fun vs H Q _=>∃ (n:Nat) (p l:Addr) (rs:List (List Nat)) (ss:List Stp) (us:List V) (qs:List (List (List Nat))),vs=[.int (n:Nat),.ref p,.ref l]∧1≤n∧n≤4∧RdB n H p ss∧ss.length≤6∧H l=some (.lst us)∧Each (RwB H) us (rs::qs)∧Al rs (ss.map (Stp.tl n)) qs∧(∀ q∈rs::qs,RowOk n q)∧∀ H',Same H H'→Q (.bl true) H'
theorem rK{F:V→List (List Nat)→Prop}:∀ {qs:List (List (List Nat))} {u:V} {us:List V} {r:List (List Nat)},Each F (u::us) (r::qs)→∃ ys y,u::us=ys++[y]∧F y (dH r qs)
 | [],u,us,r,h=>by
  have:us=[]:=List.length_eq_zero_iff.mp (by have:=h.1;simpa using this)
  subst this
  exact⟨[],u,rfl,h.tail.1⟩
 | q::qs,u,us,r,h=>by
  cases us with
  | nil=>have:=h.1;simp at this
  | cons a us =>
   obtain⟨ys,y,e,f⟩:=rK h.tail.2
   exact⟨u::ys,y,by rw[e];rfl,f⟩
theorem zZ{n:Nat}:∀ {qs:List (List (List Nat))} {r:List (List Nat)},(∀ q∈r::qs,RowOk n q)→RowOk n (dH r qs)
 | [],r,h=>h r List.mem_cons_self
 | q::qs,r,h=>zZ (r:=q) fun x hx=>h x (List.mem_cons_of_mem _ hx)
theorem Each.take{α β:Type}{F:α→β→Prop}{xs:List α}{ys:List β}(h:Each F xs ys)(k:Nat):Each F (xs.take k) (ys.take k):=by
 refine⟨by rw[List.length_take,List.length_take,h.1],fun i x y hx hy=>?_⟩
 rw[List.getElem?_take] at hx hy
 split at hx
 ·rename_i hk
  rw[if_pos hk] at hy
  exact h.2 i x y hx hy
 ·cases hx
theorem AV(xs:List V)(j:Nat):iL xs none (some (j:Int))=xs.take j:=by
 unfold iL HT.sIx
 simp only
 rw[if_neg (by omega)]
 simp
def J5(N P:List Str)(sc:Scope):Bool:=decide (sc.kind=.function) && (decide (sc.isCoroutine=false) && (decide (sc.isGenerator=false) && (decide N.Nodup && (decide (N.take P.length=P) && (P.all (fun x=>decide (sc.names.lookup x=some .local∨sc.names.lookup x=some .cell)) && sc.names.all (fun y=>decide (y.2≠.free)))))))
theorem dU{N P:List Str}{sc:Scope}(h:J5 N P sc=true):FnScope N P sc:=by
 unfold J5 at h
 simp only [Bool.and_eq_true,decide_eq_true_eq,List.all_eq_true] at h
 obtain⟨a,b,c,d,e,f,g⟩:=h
 exact⟨a,b,c,d,e,f,g⟩
theorem pC{X:Cx}{x:Str}{ps:List Str}{n m:Nat}{sp:Sp}{e:Expr}{es:List Expr}{t:TA}{p pos:Pos}(c:Cl X.prog X.w X.K X.mg X.base x ps n sp)(hr:Room m X.A)(ha:PA X (e::es) t)(hg:Gl X x:=by rfl)(hle:n≤m:=by first | decide | exact Nat.le_refl _)
  (hdb:(x == ("__debug__":Str))=false:=by decide) (he:starEach (e::es) X.env=(false,eval e X.env)::starEach es X.env:=by rfl) (hpl:(backTo pos (starEach es X.env)).any (·.1)=false:=by rfl) :
  PE X (.Call (.Name x p) (e::es) [] pos) (Fz sp [] E0 t):=by
 obtain⟨f,fd,F,hm,hk,hb⟩:=c
 exact D7 F (hr.mono hle) hg hm hk hb .nil dP ha hdb he hpl
abbrev DI(K:PySem.W.Frag)(x:Str)(st:Stmt):Prop:=∃ (f:Addr) (oc kV dc pm cd ct:Value) (od an:Option Addr) (sl:Array (Option Value)),PySem.W.nsIn K mainGlobals x=some (some (.ref f))∧K.lookup f=some ⟨oc,od,.func (PySem.W.fnOf x x (eA st) (dS st) (aF st) .none kV dc pm an cd ct),sl⟩∧PySem.W.codeIn K cd x=true∧PySem.W.keepIn K (.ref f)=true
theorem eP{K:PySem.W.Frag}{h:Heap}{mg:Str→Option Value}{x:Str}{st:Stmt}{ps:List Str}(d:DI K x st)(X:K.In h)(G:h.Ns mainGlobals mg)(hb:∀ (kV doc pm:Value) (an:Option Addr) (cdv ct:Value) (us:List Value),us.length=ps.length→bindArgs (PySem.W.fnOf x x (eA st) (dS st) (aF st) .none kV doc pm an cdv ct) ⟨us,[]⟩=pure (ps.zip us)):∃ f fd,Df K mg x st ps f fd:=by
 obtain⟨f,oc,kV,dc,pm,cd,ct,od,an,sl,a,l,c,k⟩:=d
 exact⟨f,_,mK l c k,(mK l c k).binds hb,PySem.W.mg_of X G a⟩
abbrev DJ(K:PySem.W.Frag)(C:Addr)(x q:Str)(st:Stmt):Prop:=∃ (f:Addr) (oc kV dc pm cd ct:Value) (od an:Option Addr) (sl:Array (Option Value)),PySem.W.findIn K (.ref C) x=some (some (.ref f))∧PySem.W.isFn K (.ref f)=true∧K.lookup f=some ⟨oc,od,.func (PySem.W.fnOf x q (eA st) (dS st) (aF st) .none kV dc pm an cd ct),sl⟩∧PySem.W.codeIn K cd q=true∧PySem.W.keepIn K (.ref f)=true
theorem DY{K:PySem.W.Frag}{C:Addr}{x q:Str}{st:Stmt}{ps:List Str}(d:DJ K C x q st)(hb:∀ (kV doc pm:Value) (an:Option Addr) (cdv ct:Value) (us:List Value),us.length=ps.length→bindArgs (PySem.W.fnOf x q (eA st) (dS st) (aF st) .none kV doc pm an cdv ct) ⟨us,[]⟩=pure (ps.zip us)):∃ f fd,DfM K C x q st ps f fd:=by
 obtain⟨f,oc,kV,dc,pm,cd,ct,od,an,sl,a,i,l,c,k⟩:=d
 exact⟨f,_,KW a i l c k hb⟩
end Lw
namespace Lw
open PySem PySem.Spec PyProof.Rows L2 Ma
def dW(i:Nat):Stmt:=PySem.Challenge.pw_newletters_k33_whole_rows_along_roads.main.body.getD i (.Pass ⟨0,0,0,0⟩)
abbrev Jv(x:Str)(st:Stmt)(kV dc pm:Value)(an:Option Addr)(cd ct:Value):FuncData:=PySem.W.fnOf x x (eA st) (dS st) (aF st) .none kV dc pm an cd ct
theorem Lm{K:PySem.W.Frag}{mg:Str→Option Value}{x:Str}{st:Stmt}{ps:List Str}{f:Addr}{oc:Value}{od an:Option Addr}{osl:Array (Option Value)}{kV doc pm cdv ct:Value}(l:K.lookup f=some ⟨oc,od,.func (Jv x st kV doc pm an cdv ct),osl⟩)
  (c:PySem.W.codeIn K cdv x=true) (k:PySem.W.keepIn K (.ref f)=true) (m:mg x=some (.ref f)) (h:∀ (kV doc pm:Value) (an:Option Addr) (cdv ct:Value) (us:List Value),us.length=ps.length→bindArgs (Jv x st kV doc pm an cdv ct) ⟨us,[]⟩=pure (ps.zip us)):Df K mg x st ps f (Jv x st kV doc pm an cdv ct) :=
 ⟨mK l c k,(mK l c k).binds h,m⟩
abbrev BD:Stmt:=dW 7
theorem GZ:FnScope ["n"] ["n"] (aF BD):=dU (by decide +kernel)
abbrev GV:Stmt:=dW 8
theorem Jd:FnScope ["n"] ["n"] (aF GV):=dU (by decide +kernel)
abbrev DE:Stmt:=dW 9
theorem F8:FnScope ["letter"] ["letter"] (aF DE):=dU (by decide +kernel)
abbrev By:Stmt:=dW 10
theorem Hd:FnScope ["letter"] ["letter"] (aF By):=dU (by decide +kernel)
abbrev DV:Stmt:=dW 12
theorem sc_zw1:FnScope ["text","kept","letter"] ["text"] (aF DV):=dU (by decide +kernel)
abbrev Fk:Stmt:=dW 13
theorem IC:FnScope ["word"] ["word"] (aF Fk):=dU (by decide +kernel)
abbrev Dc:Stmt:=dW 14
theorem Gv:FnScope ["one","other"] ["one","other"] (aF Dc):=dU (by decide +kernel)
abbrev F9:Stmt:=kA (dW 16) 0
theorem IT:FnScope ["self"] ["self"] (aF F9):=dU (by decide +kernel)
abbrev GB:Stmt:=kA (dW 16) 1
theorem sc_zx:FnScope ["self","place","told","above"] ["self","place","told"] (aF GB):=dU (by decide +kernel)
abbrev G4:Stmt:=kA (dW 16) 2
theorem JX:FnScope ["self","place"] ["self","place"] (aF G4):=dU (by decide +kernel)
abbrev Ib:Stmt:=kA (dW 16) 3
theorem sc_zq:FnScope ["self","head","letter","way"] ["self","head","letter"] (aF Ib):=dU (by decide +kernel)
abbrev HB:Stmt:=kA (dW 16) 4
theorem Jo:FnScope ["self","place"] ["self"] (aF HB):=dU (by decide +kernel)
abbrev Hm:Stmt:=kA (dW 16) 5
theorem sc_zs:FnScope ["self","place","letter","goal","told","known"] ["self","place","letter","goal","told"] (aF Hm):=dU (by decide +kernel)
abbrev GH:Stmt:=kA (dW 16) 6
theorem sc_zm:FnScope ["self","word","told","here","number","letter","is_last","goal","part"] ["self","word","told"] (aF GH):=dU (by decide +kernel)
abbrev Hs:Stmt:=kA (dW 16) 7
theorem JE:FnScope ["self","head","above","turn","letter","way"] ["self","head","above","turn"] (aF Hs):=dU (by decide +kernel)
abbrev BW:Stmt:=kA (dW 16) 8
theorem sc_zb1:FnScope ["self","pair","one","other"] ["self"] (aF BW):=dU (by decide +kernel)
abbrev FM:Stmt:=kA (dW 16) 9
theorem sc_zb:FnScope ["self","letter","begin","way","end"] ["self","letter"] (aF FM):=dU (by decide +kernel)
abbrev Hn:Stmt:=dW 17
theorem sc_ze:FnScope ["n","weave","heads","numbers","done","letter","goal"] ["n","weave"] (aF Hn):=dU (by decide +kernel)
abbrev vE:Stmt:=dW 18
theorem sc_zc1:FnScope ["n","weave","numbers","head","goals"] ["n","weave","numbers","head"] (aF vE):=dU (by decide +kernel)
abbrev Ai:Stmt:=dW 19
theorem sc_z41:FnScope ["n","words","weave","word","numbers"] ["n","words"] (aF Ai):=dU (by decide +kernel)
abbrev Gh:Stmt:=dW 21
theorem sc_zn:FnScope ["retelling","n","web"] ["retelling"] (aF Gh):=dU (by decide +kernel)
abbrev EA:Stmt:=dW 22
theorem sc_zw:FnScope ["retelling","letters","weave","letter","word"] ["retelling"] (aF EA):=dU (by decide +kernel)
abbrev DM:Stmt:=dW 24
theorem sc_zn1:FnScope ["word","many","last"] ["word"] (aF DM):=dU (by decide +kernel)
abbrev EY:Stmt:=dW 25
theorem sc_z3:FnScope ["word","ranks","size","one","other","like","left","right"] ["word"] (aF EY):=dU (by decide +kernel)
abbrev Dr:Stmt:=dW 26
theorem sc_zz1:FnScope ["word","many","bent","begin"] ["word"] (aF Dr):=dU (by decide +kernel)
abbrev zF:Stmt:=dW 27
theorem Gp:FnScope ["rings"] ["rings"] (aF zF):=dU (by decide +kernel)
abbrev G9:Stmt:=dW 29
theorem sc_zi:FnScope ["retelling","told","letter","word"] ["retelling"] (aF G9):=dU (by decide +kernel)
abbrev yU:Stmt:=dW 30
theorem sc_z21:FnScope ["retelling","word","told"] ["retelling","word"] (aF yU):=dU (by decide +kernel)
abbrev FP:Stmt:=dW 31
theorem Jg:FnScope ["retelling","ring"] ["retelling","ring"] (aF FP):=dU (by decide +kernel)
abbrev Ei:Stmt:=dW 32
theorem JA:FnScope ["retelling","rings"] ["retelling","rings"] (aF Ei):=dU (by decide +kernel)
abbrev zQ:Stmt:=dW 33
theorem HE:FnScope ["one","other"] ["one","other"] (aF zQ):=dU (by decide +kernel)
abbrev BI:Stmt:=dW 34
theorem Hw:FnScope ["n"] ["n"] (aF BI):=dU (by decide +kernel)
abbrev EO:Stmt:=dW 36
theorem JR:FnScope ["ties","side"] ["ties","side"] (aF EO):=dU (by decide +kernel)
abbrev DC:Stmt:=dW 38
theorem GJ:FnScope ["one","other"] ["one","other"] (aF DC):=dU (by decide +kernel)
abbrev Cd:Stmt:=dW 39
theorem sc_z01:FnScope ["rings","ties","ring","place","letter","pair"] ["rings"] (aF Cd):=dU (by decide +kernel)
abbrev zP:Stmt:=dW 40
theorem Ig:FnScope ["rings","letter"] ["rings","letter"] (aF zP):=dU (by decide +kernel)
abbrev Gb:Stmt:=dW 42
theorem sc_zk:FnScope ["letter","by","side","ahead","behind"] ["letter","by","side"] (aF Gb):=dU (by decide +kernel)
abbrev EV:Stmt:=dW 43
theorem IR:FnScope ["n","change"] ["n","change"] (aF EV):=dU (by decide +kernel)
abbrev Ga:Stmt:=dW 44
theorem Jw:FnScope ["n","rings","change"] ["n","rings","change"] (aF Ga):=dU (by decide +kernel)
abbrev Co:Stmt:=dW 47
theorem He:FnScope ["n","step"] ["n","step"] (aF Co):=dU (by decide +kernel)
abbrev Hy:Stmt:=dW 48
theorem sc_z0:FnScope ["n","words","road","told","step"] ["n","words","road"] (aF Hy):=dU (by decide +kernel)
abbrev CH:Stmt:=dW 49
theorem GK:FnScope ["n","road"] ["n","road"] (aF CH):=dU (by decide +kernel)
abbrev Av:Stmt:=dW 50
theorem sc_zf1:FnScope ["step","by"] ["step"] (aF Av):=dU (by decide +kernel)
abbrev At:Stmt:=dW 51
theorem HC:FnScope ["n","road"] ["n","road"] (aF At):=dU (by decide +kernel)
abbrev Go:Stmt:=dW 52
theorem sc_z6:FnScope ["n","rings","road","rows","row","step"] ["n","rings","road"] (aF Go):=dU (by decide +kernel)
abbrev C5:Stmt:=dW 54
theorem Gd:FnScope ["_law_script"] ["_law_script"] (aF C5):=dU (by decide +kernel)
abbrev DU:Stmt:=dW 55
theorem sc_zu1:FnScope ["_law_flow_here","_law_many","_law_cell","_law_digit"] ["_law_flow_here","_law_many"] (aF DU):=dU (by decide +kernel)
abbrev sB:Stmt:=dW 56
theorem Cn:FnScope ["_law_found","_law_due"] ["_law_found","_law_due"] (aF sB):=dU (by decide +kernel)
abbrev Ho:Stmt:=dW 57
theorem J2:FnScope ["_law_n"] ["_law_n"] (aF Ho):=dU (by decide +kernel)
abbrev Gy:Stmt:=dW 58
theorem JU:FnScope ["_law_letter"] ["_law_letter"] (aF Gy):=dU (by decide +kernel)
abbrev yX:Stmt:=dW 59
theorem Gf:FnScope ["_law_word_here"] ["_law_word_here"] (aF yX):=dU (by decide +kernel)
abbrev zK:Stmt:=dW 60
theorem Gz:FnScope ["_law_word_here"] ["_law_word_here"] (aF zK):=dU (by decide +kernel)
abbrev Cc:Stmt:=dW 61
theorem sc_zr1:FnScope ["_law_text","_law_found","_law_letter"] ["_law_text"] (aF Cc):=dU (by decide +kernel)
abbrev Ad:Stmt:=dW 62
theorem sc_zo1:FnScope ["_law_flow_here","_law_n","_law_most","_law_found","_law_letters_here","_law_k","_law_some"] ["_law_flow_here","_law_n","_law_most"] (aF Ad):=dU (by decide +kernel)
abbrev yS:Stmt:=dW 63
theorem sc_zs1:FnScope ["_law_word_here"] ["_law_word_here"] (aF yS):=dU (by decide +kernel)
abbrev CQ:Stmt:=dW 64
theorem sc_ze1:FnScope ["_law_retelling","_law_word_here","_law_found","_law_letter","_law_told"] ["_law_retelling","_law_word_here"] (aF CQ):=dU (by decide +kernel)
abbrev EZ:Stmt:=dW 65
theorem Ja:FnScope ["_law_retelling","_law_rings"] ["_law_retelling","_law_rings"] (aF EZ):=dU (by decide +kernel)
abbrev E6:Stmt:=dW 66
theorem J7:FnScope ["_law_rings"] ["_law_rings"] (aF E6):=dU (by decide +kernel)
abbrev FX:Stmt:=dW 67
theorem sc_zd:FnScope ["_law_flow_here","_law_n","_law_letter","_law_side","_law_other"] ["_law_flow_here","_law_n"] (aF FX):=dU (by decide +kernel)
abbrev G5:Stmt:=dW 68
theorem sc_zf:FnScope ["_law_n","_law_change","_law_letter","_law_side","_law_found","_law_other","_law_told"] ["_law_n","_law_change"] (aF G5):=dU (by decide +kernel)
abbrev zA:Stmt:=dW 69
theorem sc_zy1:FnScope ["_law_flow_here","_law_n","_law_many","_law_most","_law_rings","_law_k","_law_longer"] ["_law_flow_here","_law_n","_law_many","_law_most"] (aF zA):=dU (by decide +kernel)
abbrev GA:Stmt:=dW 70
theorem sc_zy:FnScope ["_law_flow_here","_law_n","_law_left","_law_found","_law_k","_law_letter"] ["_law_flow_here","_law_n"] (aF GA):=dU (by decide +kernel)
abbrev Gq:Stmt:=dW 71
theorem sc_zz:FnScope ["_law_flow_here","_law_n","_law_most","_law_form"] ["_law_flow_here","_law_n","_law_most"] (aF Gq):=dU (by decide +kernel)
abbrev GM:Stmt:=dW 72
theorem JG:FnScope ["_law_flow_here","_law_n"] ["_law_flow_here","_law_n"] (aF GM):=dU (by decide +kernel)
abbrev HY:Stmt:=dW 73
theorem Jn:FnScope ["_law_n","_law_step"] ["_law_n","_law_step"] (aF HY):=dU (by decide +kernel)
abbrev H_:Stmt:=dW 74
theorem sc_z7:FnScope ["_law_flow_here","_law_n","_law_rings","_law_road","_law_rows","_law_row_here","_law_k","_law_step","_law_there"] ["_law_flow_here","_law_n","_law_rings"] (aF H_):=dU (by decide +kernel)
abbrev F_:Stmt:=dW 75
theorem sc_za:FnScope ["_law_n","_law_road","_law_rows","_law_k","_law_step","_law_due"] ["_law_n","_law_road","_law_rows"] (aF F_):=dU (by decide +kernel)
abbrev wE:Stmt:=dW 76
theorem sc_law:FnScope ["_law_script","_law_flow_here","_law_n","_law_rings","_law_road","_law_due","_law_found","_law_told","_law_last","_law_back_here"] ["_law_script"] (aF wE):=dU (by decide +kernel)
structure Txt(P:Program)(w:World)(K:PySem.W.Frag)(mg:Str→Option Value)(LC:Addr)(LD:Addr)(LE:Addr)(LF:Addr)(LG:Addr):Prop where
 m_Weave:mg "Weave"=some (.ref LG)
 o_Weave:Own K LG
 n_Weave_heads:NoAttr K LG "heads"
 n_Weave_turns:NoAttr K LG "turns"
 n_Weave_ways:NoAttr K LG "ways"
 n_Weave_alike:NoAttr K LG "alike"
 b_all:mg "all"=none
 b_bool:mg "bool"=none
 b_enumerate:mg "enumerate"=none
 b_int:mg "int"=none
 b_isinstance:mg "isinstance"=none
 b_len:mg "len"=none
 b_list:mg "list"=none
 b_max:mg "max"=none
 b_min:mg "min"=none
 b_range:mg "range"=none
 b_reversed:mg "reversed"=none
 b_sum:mg "sum"=none
 b_tuple:mg "tuple"=none
 b_zip:mg "zip"=none
 m_CONTRARIES:mg "CONTRARIES"=some (.ref LC)
 t_CONTRARIES:∀ h,K.In h→StrTab P w h LC BM
 m_EXCHANGE:∃ t,mg "EXCHANGE"=some (.str (Str.ofString "exchange") t)
 m_LETTERS:mg "LETTERS"=some (.ref LE)
 t_LETTERS:∀ H,SqT K H LE letV
 m_RANKS:mg "RANKS"=some (.ref LF)
 t_RANKS:∀ h,K.In h→StrTab P w h LF zG
section
variable {P:Program}{w:World}{K:PySem.W.Frag}{mg:Str→Option Value}{base:Heap}{LC:Addr}{LD:Addr}{LE:Addr}{LF:Addr}{LG:Addr}
theorem Ia{f:Addr}{fd:FuncData}(D:Df K mg "_law_flow" C5 ["_law_script"] f fd)(T:Txt P w K mg LC LD LE LF LG):Cl P w K mg base "_law_flow" ["_law_script"] 1 (BX K):=by
 refine D.cl (D.F.ok Gd (fun vs H Q E h=>?_) (fun cdv A outer s H vs Q E hr h=>?_))
 ·obtain⟨a,ns,rfl,_⟩:=h
  rfl
 ·obtain⟨a,ns,rfl,hs,hl,k⟩:=h
  refine⟨_,(aE (aM (dG (aA (bG (wX (K:=K) rfl) (by rfl) T.b_list boot_list (aA (pv 0) aB)) (aA aG (aA aG (aA aG (aA aG aB)))))))),?_⟩
  refine⟨_,rfl,a,_,rfl,.inl hs,fun l hl0=>⟨aI (by simp),fun fl hf=>?_⟩⟩
  have ne:l≠fl:=(aH (aC (H:=H) (a:=l) (o:=HO.lst (ns.map V.int))) hf)
  have hH:H fl=none:=by rw[aJ ne.symm] at hf;exact hf
  refine k fl l _ hH ((Same.new hl0).upd' hf) ⟨ns,0,0,1,0,aC,?_,hl,by decide,by decide,by decide⟩
  rw[aJ ne,aC]
theorem Hh{f:Addr}{fd:FuncData}(D:Df K mg "_law_pick" DU ["_law_flow_here","_law_many"] f fd)(T:Txt P w K mg LC LD LE LF LG):Cl P w K mg base "_law_pick" ["_law_flow_here","_law_many"] 1 iM:=by
 refine D.cl (D.F.ok sc_zu1 (fun vs H Q E h=>?_) (fun cdv A outer s H vs Q E hr h=>?_))
 ·obtain⟨fl,sc,m,rfl,_⟩:=h
  rfl
 ·obtain⟨fl,sc,m,rfl,hf,h0,hm,k⟩:=h
  obtain⟨ns,i,a,b,c,h1,h2,hl,hi,ha,hb⟩:=id hf
  have hne:sc≠fl:=nN h2 h1 (by intro z;cases ns with | nil=>cases z | cons n ns=>cases z)
  refine⟨_,(hX (bQ (pw_and (aP dA (aR (aU (K:=K) rfl) (pv 0) aG (fun _ _=>rfl)) aG (aS _)) (pw_and1 (aP pW (aR (aU (K:=K) rfl) (pv 0) aG (fun _ _=>rfl)) (aO (bH (K:=K) rfl) (by rfl) T.b_len PySem.boot_len (aA (aR (aU (K:=K) rfl) (pv 0) aG (fun _ _=>rfl)) aB)) (aS _)))).pt (aD (aL (i:=2) sc_zu1.nd rfl (Or.inl rfl) (aR (aU (K:=K) rfl) (aR (aU (K:=K) rfl) (pv 0) aG (fun _ _=>rfl)) (aR (aU (K:=K) rfl) (pv 0) aG (fun _ _=>rfl)) (fun _ _=>rfl)))
   (aD (gF (aY cV (aR (aU (K:=K) rfl) (pv 0) aG (fun _ _=>rfl)) aG) (jC (pv 0) aG fE))
   (aE (bQ (aP IY (pv 2) (aY HG aG aG) (aS _)) (aE (gF (pv 2) (jC (pv 0) aG fE))) (aE (gF (aY iB (aY cV (aY cV (aY kK (aR (aU (K:=K) rfl) (pv 0) aG (fun _ _=>rfl)) aG) (aY iB (pv 2) aG)) aG) aG) (jC (pv 0) aG fE))))))) bA)
   (aD (bQ (aP nC (aR (aU (K:=K) rfl) (pv 0) aG (fun _ _=>rfl)) aG (aS _)) (aD (aL (i:=3) sc_zu1.nd rfl (Or.inl rfl) (aY iB (aR (aU (K:=K) rfl) (pv 0) aG (fun _ _=>rfl)) (pv 1)))
   (aD (gF (aY oO (aR (aU (K:=K) rfl) (pv 0) aG (fun _ _=>rfl)) (pv 1)) (jC (pv 0) aG fE))
   (aE (aM (pv 3))))) bA)
   (aD (gF (aY cV (aR (aU (K:=K) rfl) (pv 0) aG (fun _ _=>rfl)) aG) (jC (pv 0) aG fE))
   (aD (gF (aY iB (aY cV (aY cV (aY kK (aR (aU (K:=K) rfl) (pv 0) aG (fun _ _=>rfl)) aG) aG) (aR (aU (K:=K) rfl) (pv 0) aG (fun _ _=>rfl))) aG) (jC (pv 0) aG fE))
   (aE (aM (aY iB (aY oO (aY iB (aY kK (aY cV (aY iB (aR (aU (K:=K) rfl) (pv 0) aG (fun _ _=>rfl)) aG) aG) (aY cV (aY oO (aR (aU (K:=K) rfl) (pv 0) aG (fun _ _=>rfl)) aG) aG)) aG) aG) (pv 1)))))))),?_⟩
  refine⟨fun σ H1=>(∃ v,σ=[some (.ref fl),some (.int m),v,none])∧IsFl H1 fl sc∧Kp fl H H1,?_,?_⟩
  ·refine⟨_,rfl,fl,_,2,_,rfl,rfl,SqL.of h1,rfl,rfl,_,rfl,cJ (fun e=>?_) (fun _=>eQ ⟨⟨none,rfl⟩,hf,Kp.refl _ _⟩)⟩
   refine⟨_,rfl,fl,_,1,_,rfl,rfl,SqL.of h1,rfl,_,rfl,fl,_,0,_,rfl,rfl,SqL.of h1,rfl,sc,_,rfl,.inl (SqL.of h2),_,_,rfl,rfl,_,rfl,cJ (fun e2=>?_) (fun _=>⟨⟨none,rfl⟩,hf,Kp.refl _ _⟩)⟩
   have hlt:i<((ns.map V.int).length:Int):=of_decide_eq_true e2
   rw[List.length_map] at hlt
   have hil:i.toNat<ns.length:=by omega
   have hat:tR (ns.map V.int) i=some (.int ns[i.toNat]):=by
    have q:(ns.map V.int)[i.toNat]?=some (.int ns[i.toNat]):=by rw[List.getElem?_map,List.getElem?_eq_getElem hil];rfl
    have q2:=lO q
    rwa [Int.toNat_of_nonneg hi] at q2
   refine⟨_,rfl,fl,_,0,_,rfl,rfl,SqL.of h1,rfl,_,rfl,fl,_,1,_,rfl,rfl,SqL.of h1,rfl,sc,_,i,_,rfl,rfl,SqL.of h2,hat,?_⟩
   refine⟨_,rfl,fl,_,1,_,rfl,rfl,SqL.of h1,rfl,_,_,rfl,rfl,_,rfl,fl,_,1,1,rfl,rfl,h1,rfl,?_⟩
   refine⟨_,rfl,_,_,rfl,rfl,⟨by decide,by decide,by decide⟩,_,_,rfl,rfl,_,rfl,cJ (fun e3=>?_) (fun _=>?_)⟩
   ·have hc:(10:Int) ^ (18:Int).toNat≤ns[i.toNat]:=of_decide_eq_true e3
    have hp:(0:Int)≤10 ^ (18:Int).toNat:=by decide
    refine⟨_,rfl,_,rfl,fl,_,2,2,rfl,rfl,aC,rfl,⟨_,rfl⟩,⟨ns,i+1,ns[i.toNat],b,c,aC,?_,hl,by omega,by omega,hb⟩,((Kp.refl fl H).self).self⟩
    rw[aJ hne,aJ hne];exact h2
   ·refine⟨_,rfl,fl,_,3,_,rfl,rfl,SqL.of aC,rfl,_,_,rfl,rfl,.inr ⟨by decide,by decide⟩,_,rfl,_,_,rfl,rfl,(by show (0:Int)<1000003;decide),_,_,rfl,rfl,_,_,rfl,rfl,_,_,rfl,rfl,(by show (0:Int)<2147483647;decide),_,rfl,fl,_,3,3,rfl,rfl,aC,rfl,⟨_,rfl⟩,⟨ns,i+1,a,_,c,aC,?_,hl,by omega,ha,Int.emod_nonneg _ (by decide)⟩,((Kp.refl fl H).self).self⟩
    rw[aJ hne,aJ hne];exact h2
  ·rintro _ H1 ⟨⟨v,rfl⟩,⟨ns,i,a,b,c,h1,h2,hl,hi,ha,hb⟩,kp⟩
   have hne:sc≠fl:=nN h2 h1 (by intro z;cases ns with | nil=>cases z | cons n ns=>cases z)
   refine⟨_,rfl,fl,_,2,_,rfl,rfl,SqL.of h1,rfl,_,_,rfl,rfl,_,rfl,cJ (fun e=>?_) (fun _=>?_)⟩
   ·refine⟨_,rfl,fl,_,2,_,rfl,rfl,SqL.of h1,rfl,_,rfl,_,_,rfl,rfl,h0,?_⟩
    refine⟨_,rfl,fl,_,2,_,rfl,rfl,SqL.of h1,rfl,_,rfl,_,_,rfl,rfl,⟨h0,hm⟩,_,rfl,fl,_,2,2,rfl,rfl,h1,rfl,?_⟩
    refine⟨_,rfl,k _ _ (Int.emod_nonneg _ (by omega)) (Int.emod_lt_of_pos _ h0) ⟨ns,i,a / m,b,c,aC,?_,hl,hi,Int.ediv_nonneg ha (by omega),hb⟩ kp.self⟩
    rw[aJ hne];exact h2
   ·refine⟨_,rfl,fl,_,4,_,rfl,rfl,SqL.of h1,rfl,_,_,rfl,rfl,_,rfl,fl,_,4,4,rfl,rfl,h1,rfl,?_⟩
    refine⟨_,rfl,fl,_,3,_,rfl,rfl,SqL.of aC,rfl,_,_,rfl,rfl,.inr ⟨by decide,by decide⟩,_,_,rfl,rfl,_,rfl,fl,_,4,_,rfl,rfl,SqL.of aC,rfl,_,_,rfl,rfl,_,_,rfl,rfl,(by show (0:Int)<2147483647;decide),_,rfl,fl,_,3,3,rfl,rfl,aC,rfl,?_⟩
    have hb3:∀ x:Int,0≤x % 2147483647∧x % 2147483647<2147483647:=fun x=>⟨Int.emod_nonneg _ (by decide),Int.emod_lt_of_pos _ (by decide)⟩
    refine⟨_,rfl,fl,_,3,_,rfl,rfl,SqL.of aC,rfl,_,_,rfl,rfl,(by show (0:Int)<65521;decide),_,_,rfl,rfl,_,rfl,fl,_,3,_,rfl,rfl,SqL.of aC,rfl,_,_,rfl,rfl,⟨by decide,by decide⟩,_,_,rfl,rfl,_,_,rfl,rfl,.inl ⟨?_,?_⟩,_,_,rfl,rfl,(by show (0:Int)<1000003;decide),_,_,rfl,rfl,⟨by decide,by decide⟩,_,rfl,_,_,rfl,rfl,h0,?_⟩
    ·have:=Int.emod_nonneg ((b * 48271+12820163+(c+1)) % 2147483647) (show (65521:Int)≠0 by decide);omega
    ·have:=Int.emod_lt_of_pos ((b * 48271+12820163+(c+1)) % 2147483647) (show (0:Int)<65521 by decide);omega
    ·refine k _ _ (Int.emod_nonneg _ (by omega)) (Int.emod_lt_of_pos _ h0) ⟨ns,i,a,_,c+1,aC,?_,hl,hi,ha,(hb3 _).1⟩ kp.self.self
     rw[aJ hne,aJ hne];exact h2
theorem Jm{f:Addr}{fd:FuncData}(D:Df K mg "_law_contrary" Gy ["_law_letter"] f fd)(T:Txt P w K mg LC LD LE LF LG):Cl P w K mg base "_law_contrary" ["_law_letter"] 1 fA:=by
 refine D.cl (D.F.ok JU (fun vs H Q E h=>?_) (fun cdv A outer s H vs Q E hr h=>?_))
 ·obtain⟨c,rfl,_⟩:=h
  rfl
 ·obtain⟨c,rfl,hc,k⟩:=h
  refine⟨_,(aD (bQ (eX (eY (K:=K) rfl PySem.F.plainAttrs_str PySem.F.slot_str_islower PySem.F.type_str_islower yO (pv 0))) (aE (aM (eY (K:=K) rfl PySem.F.plainAttrs_str PySem.F.slot_str_upper PySem.F.type_str_upper vT (pv 0)))) bA)
   (aE (aM (eY (K:=K) rfl PySem.F.plainAttrs_str PySem.F.slot_str_lower PySem.F.type_str_lower pN (pv 0))))),?_⟩
  refine⟨_,rfl,rfl,_,rfl,rfl,_,rfl,?_⟩
  dsimp only
  rw[A0 hc]
  refine cJ (fun e=>?_) (fun e=>?_)
  ·refine⟨_,rfl,rfl,_,rfl,rfl,?_,?_⟩
   ·rw[oF hc e];exact yF _
   ·rw[oF hc e];exact k H (Same.refl H)
  ·have e':bK c=false:=by simpa using e
   refine⟨_,rfl,rfl,_,rfl,rfl,?_,?_⟩
   ·rw[Aq hc e'];exact yF _
   ·rw[Aq hc e'];exact k H (Same.refl H)
theorem Jq{f:Addr}{fd:FuncData}(D:Df K mg "_law_letters" Ho ["_law_n"] f fd)(T:Txt P w K mg LC LD LE LF LG):Cl P w K mg base "_law_letters" ["_law_n"] 1 mL:=by
 refine D.cl (D.F.ok J2 (fun vs H Q E h=>?_) (fun cdv A outer s H vs Q E hr h=>?_))
 ·obtain⟨n,rfl,_⟩:=h
  rfl
 ·obtain⟨n,rfl,h1,h4,k⟩:=h
  refine⟨_,(aE (aM (bG (lB rfl) (by rfl) T.b_list boot_list (aA (cG iO cD cT (cC (aY kK aG (pv 0)))) aB)))),?_⟩
  have e:Txt.slice (Str.ofString "aAbBcCdD") none (some (2 * n))=S (aQ n):=by
   rw[show Str.ofString "aAbBcCdD"=S lets by decide +kernel,fR lets (by omega) (by show (2 * n)≤(8:Int);omega)]
   rfl
  refine⟨_,rfl,_,_,rfl,rfl,.inl ⟨by decide,by decide⟩,_,rfl,_,rfl,by decide +kernel,aQ n,by rw[e],?_,fun l hl=>k l _ hl (Same.new hl) aC⟩
  rw[jL h1 h4];omega
theorem FN{f:Addr}{fd:FuncData}(D:Df K mg "_law_laid" Cc ["_law_text"] f fd)(T:Txt P w K mg LC LD LE LF LG)(c_zu:Cl P w K mg base "_law_contrary" ["_law_letter"] 1 fA):Cl P w K mg base "_law_laid" ["_law_text"] 2 rQ:=by
 refine D.cl (D.F.ok sc_zr1 (fun vs H Q E h=>?_) (fun cdv A outer s H vs Q E hr h=>?_))
 ·obtain⟨x,rfl,_⟩:=h
  rfl
 ·obtain⟨x,rfl,hx,hlen,k⟩:=h
  refine⟨_,(aD (aL (i:=1) sc_zr1.nd rfl (Or.inl rfl) (dG aB))
   (aD (dC PassesOwn.never rfl (kL (pv 0)) (bE (i:=2) sc_zr1.nd rfl (Or.inl rfl)) (aE (bQ (pw_and (aP nC (aO (bH (K:=K) rfl) (by rfl) T.b_len PySem.boot_len (aA (pv 1) aB)) aG (aS _)) (pw_and1 (aP dA (aR (aU (K:=K) rfl) (pv 1) (pJ kJ aG) (fun _ _=>rfl)) (pC c_zu hr (aA (pv 2) aB)) (aS _)))).pt (aE (cB (eY (K:=K) rfl PySem.F.plainAttrs_list PySem.F.slot_list_pop PySem.F.type_list_pop Di (pv 1)))) (aE (cB (cY (K:=K) rfl PySem.F.plainAttrs_list PySem.F.slot_list_append PySem.F.type_list_append cW (pv 1) (aA (pv 2) aB)))))))
   (aE (aM (cY (K:=K) rfl PySem.F.plainAttrs_str PySem.F.slot_str_join PySem.F.type_str_join (jF (K:=K) rfl) cD (aA (pv 1) aB)))))),?_⟩
  refine⟨aI (by simp),fun l hl=>?_⟩
  refine⟨_,rfl,S x,rfl,oC (w:=x) (fun i σ H1=>(∃ v,σ=[some (.str (S x)),some (.ref l),v])∧Same H H1∧H1 l=some (.lst (aX (gQ [] (x.take i)).reverse))) ⟨⟨none,rfl⟩,Same.new hl,aC⟩ ?_ ?_⟩
  ·rintro i c σ H1 hc ⟨⟨v,rfl⟩,s1,e1⟩
   have hi:i<x.length:=(List.getElem?_eq_some_iff.mp hc).1
   have hcL:bU c:=hx c (List.mem_of_getElem? hc)
   have hn:gQ [] (x.take (i+1))=push (gQ [] (x.take i)) c:=by rw[cA hc,fL]
   have hsz:(gQ [] (x.take i)).length≤60000:=by
    have:=oH (x.take i) []
    rw[List.length_take] at this
    simp at this
    omega
   refine⟨_,rfl,l,_,rfl,.inl (SqL.of e1),_,_,rfl,rfl,_,rfl,cJ (fun e=>?_) (fun e=>?_)⟩
   ·have hne:0<(gQ [] (x.take i)).length:=by
     have e':=of_decide_eq_true e
     rw[bB,List.length_reverse] at e'
     omega
    obtain⟨y,r,hk⟩:∃ y r,gQ [] (x.take i)=y::r:=by
     cases hq:gQ [] (x.take i) with
     | nil=>rw[hq] at hne;simp at hne
     | cons y r=>exact⟨y,r,rfl⟩
    rw[hk] at e1 hn hsz
    have e2:H1 l=some (.lst (aX r.reverse++[.str (S [y])])):=by rw[e1,List.reverse_cons,cM]
    refine⟨_,rfl,_,rfl,l,_,_,_,rfl,rfl,SqL.of e2,gP _ _,_,rfl,c,rfl,hcL,fun H2 s2=>⟨rfl,_,rfl,cJ (fun q=>?_) (fun q=>?_)⟩⟩
    ·rw[eK] at q
     have q':y=con c:=by simpa using q
     have hp:push (y::r) c=r:=by unfold push;dsimp only;rw[if_pos q']
     rw[hp] at hn
     refine⟨_,rfl,.inl ⟨rfl,_,SqL.of (s2 _ _ e2)⟩,l,_,_,rfl,rfl,s2 _ _ e2,by simp;rfl,⟨_,rfl⟩,(s1.trans s2).upd hl,?_⟩
     rw[aC,hn]
     simp
    ·rw[eK] at q
     have q':¬ y=con c:=by simpa using q
     have hp:push (y::r) c=c::y::r:=by unfold push;dsimp only;rw[if_neg q']
     rw[hp] at hn
     refine⟨_,rfl,.inl ⟨rfl,_,SqL.of (s2 _ _ e2)⟩,_,rfl,l,_,_,rfl,rfl,s2 _ _ e2,?_,⟨_,rfl⟩,(s1.trans s2).upd hl,?_⟩
     ·rw[List.length_append,bB,List.length_reverse]
      rw[List.length_cons] at hsz
      have h9:r.length+1≤100000:=by omega
      exact Nat.lt_of_le_of_lt h9 (by decide)
     ·rw[aC,hn,List.reverse_cons,List.reverse_cons,cM,cM]
   ·have hk:gQ [] (x.take i)=[]:=by
     cases hq:gQ [] (x.take i) with
     | nil=>rfl
     | cons y r =>
      exfalso
      apply e
      apply decide_eq_true
      rw[bB,List.length_reverse,hq]
      simp
    rw[hk] at e1 hn
    refine eQ ⟨_,rfl,.inl ⟨rfl,_,SqL.of e1⟩,_,rfl,l,_,_,rfl,rfl,e1,?_,⟨_,rfl⟩,s1.upd hl,?_⟩
    ·show (0:Nat)<sizeLine;decide
    ·rw[aC,hn]
     rfl
  ·rintro σ H1 ⟨⟨v,rfl⟩,s1,e1⟩
   rw[List.take_length] at e1
   have e2:SqL K H1 l ((lay x).map (fun c=>S [c]) |>.map V.str):=by
    rw[← oB];exact SqL.of e1
   refine⟨rfl,_,rfl,_,l,_,rfl,rfl,e2,iN _ (Nat.le_trans (tG x) (by omega)),?_⟩
   rw[jU]
   exact k H1 s1
theorem Hg{f:Addr}{fd:FuncData}(D:Df K mg "_law_word" Ad ["_law_flow_here","_law_n","_law_most"] f fd)(T:Txt P w K mg LC LD LE LF LG)(c_zu1:Cl P w K mg base "_law_pick" ["_law_flow_here","_law_many"] 1 iM)(c_z5:Cl P w K mg base "_law_letters" ["_law_n"] 1 mL)(c_zu:Cl P w K mg base "_law_contrary" ["_law_letter"] 1 fA):Cl P w K mg base "_law_word" ["_law_flow_here","_law_n","_law_most"] 2 wW:=by
 refine D.cl (D.F.ok sc_zo1 (fun vs H Q E h=>?_) (fun cdv A outer s H vs Q E hr h=>?_))
 ·obtain⟨fl,sc,n,most,rfl,_⟩:=h
  rfl
 ·obtain⟨fl,sc,n,most,rfl,hf,h1,h4,hm,hm2,k⟩:=h
  refine⟨_,(aD (aL (i:=3) sc_zo1.nd rfl (Or.inr rfl) cD)
   (aD (aL (i:=4) sc_zo1.nd rfl (Or.inl rfl) (pC c_z5 hr (aA (pv 1) aB)))
   (aD (dC PassesOwn.never rfl (eG (by rfl) T.b_range (aA (pC c_zu1 hr (aA (pv 0) (aA (aY cV (pv 2) aG) aB))) aB)) (bE (i:=5) sc_zo1.nd rfl (Or.inl rfl)) (aD (qC (i:=6) (sc0:=aF Ad) (N:=["_law_flow_here","_law_n","_law_most","_law_found","_law_letters_here","_law_k","_law_some"]) (ix:=[3]) sc_zo1.nd rfl rfl (by decide +kernel) rfl rfl rfl (pR (K:=K) rfl (pv 4)) (fun _ _ _=>vW (pw_or (aP dA (pv 1) cD (aS _)) (pw_or1 (aP iR (pv 0) (pC c_zu hr (aA (aR mE (pv 1) (pJ kJ aG) (fun _ _=>rfl)) aB)) (aS _)))).pt) (fun _ _ _=>(pv 0)))
   (aE (aL (i:=3) sc_zo1.nd rfl (Or.inr rfl) (aY cH (pv 3) (aR (aU (K:=K) rfl) (pv 6) (pC c_zu1 hr (aA (pv 0) (aA (aO (bH (K:=K) rfl) (by rfl) T.b_len PySem.boot_len (aA (pv 6) aB)) aB))) (fun _ _=>rfl)))))))
   (aE (aM (pv 3)))))),?_⟩
  refine⟨_,rfl,n,rfl,h1,h4,fun l H1 hl s1 e1=>?_⟩
  have hlf:l≠fl:=hf.ne hl
  refine⟨_,rfl,_,rfl,_,_,rfl,rfl,fl,sc,most+1,rfl,hf.same s1,by omega,by omega,fun d H2 d0 d1 f2 k2=>⟨d,rfl,by omega,by omega,?_⟩⟩
  refine jT (lo:=0) (n:=d.toNat) (fun i σ H3=>∃ (x:List Nat) (v5 v6:Option V),σ=[some (.ref fl),some (.int n),some (.int most),some (.str (S x)),some (.ref l),v5,v6]∧OfN n x∧bC x∧x.length=i∧IsFl H3 fl sc∧Kp fl H H3∧H3 l=some (.lst (aX (aQ n)))) ?_ ?_ ?_
  ·refine⟨[],none,none,?_,fun c hc=>(nomatch hc),trivial,rfl,f2,(s1.kp).trans k2,k2 _ _ e1 hlf⟩
   rw[← fQ];rfl
  ·rintro i _ H3 hi ⟨x,v5,v6,rfl,ho,hp,hxl,f3,k3,e3⟩
   have hxd:(x.length:Int)<most+1:=by omega
   refine⟨_,rfl,l,rfl,⟨_,SqL.of e3⟩,fun Dd hD=>nG (xs:=aX (aQ n)) (fun j H4=>Same H3 H4∧H4 Dd=some (.lst (aX (((aQ n).take j).filter (lY x))))) ⟨Same.new hD,aC⟩ (fun j H4 _ p=>SqL.of (p.1 _ _ e3)) ?_ ?_⟩
   ·rintro j y H4 hy ⟨s4,e4⟩
    obtain⟨c,hc,rfl⟩:∃ c,(aQ n)[j]?=some c∧y=.str (S [c]):=by
     unfold aX at hy
     rw[List.getElem?_map] at hy
     cases hq:(aQ n)[j]? with
     | none=>rw[hq] at hy;cases hy
     | some c=>rw[hq] at hy;exact⟨c,rfl,(Option.some.inj hy).symm⟩
    have hcL:bU c:=aK (List.mem_of_getElem? hc)
    have ht:((aQ n).take (j+1)).filter (lY x)=((aQ n).take j).filter (lY x)++(if lY x c then [c] else []):=take_succ_filter (lY x) (aQ n) j c hc
    have hsz:(((aQ n).take j).filter (lY x)).length≤100:=by
     have q1:=List.length_filter_le (lY x) ((aQ n).take j)
     have q2:((aQ n).take j).length≤(aQ n).length:=by rw[List.length_take];omega
     rw[jL h1 h4] at q2
     omega
    have app:lY x c=true→∀ H5,Same H4 H5→∃ ys,H5 Dd=some (.lst ys)∧ys.length<sizeLine∧Same H3 (upd H5 Dd (.lst (ys++[.str (S [c])])))∧upd H5 Dd (.lst (ys++[.str (S [c])])) Dd=some (.lst (aX (((aQ n).take (j+1)).filter (lY x)))):=fun ok H5 s5=>by
     refine⟨_,s5 _ _ e4,?_,(s4.trans s5).upd hD,?_⟩
     ·rw[bB];exact aW (by omega)
     ·rw[aC,ht,ok]
      show some (HO.lst _)=some (HO.lst (aX (_++[c])))
      rw[cM]
    refine⟨_,rfl,rfl,_,rfl,cJ (fun e=>?_) (fun e=>?_)⟩
    ·rw[fQ,eK] at e
     have e':x=[]:=by simpa using e
     refine kP ⟨_,rfl,app (by rw[e'];rfl) H4 (Same.refl _)⟩
    ·rw[fQ,eK] at e
     have e':x≠[]:=by simpa using e
     obtain⟨u,z,rfl⟩:∃ u z,x=u++[z]:=⟨x.dropLast,x.getLast e',(List.dropLast_concat_getLast e').symm⟩
     have hz:bU z:=aK (ho z (by simp))
     refine⟨_,rfl,_,rfl,_,rfl,_,_,z,rfl,rfl,by rw[aT];exact aI (by simp at hxd ⊢;omega),by rw[Bj];exact gP u z,z,rfl,hz,fun H5 s5=>⟨rfl,_,rfl,?_⟩⟩
     rw[eK]
     have ok:lY (u++[z]) c=!decide ([c]=[con z]):=by
      unfold lY
      simp
     rw[← ok]
     refine cJ (fun q=>⟨_,rfl,app q H5 s5⟩) (fun q=>⟨s4.trans s5,?_⟩)
     have q':lY (u++[z]) c=false:=by simpa using q
     rw[s5 _ _ e4,ht,q']
     simp
   ·rintro H4 ⟨s4,e4⟩
    rw[bB,List.take_length] at e4
    have hpos:=Es (x:=x) h1 h4
    have hsz:((aQ n).filter (lY x)).length≤8:=by
     have q1:=List.length_filter_le (lY x) (aQ n)
     rw[jL h1 h4] at q1
     omega
    have hDf:Dd≠fl:=f3.ne hD
    refine⟨_,rfl,_,rfl,_,rfl,_,rfl,Dd,_,rfl,.inl (SqL.of e4),fl,sc,_,rfl,f3.same s4,?_,?_,fun g H5 g0 g1 f5 k5=>?_⟩
    ·rw[bB];omega
    ·rw[bB];omega
    rw[bB] at g1
    have hg:g.toNat<((aQ n).filter (lY x)).length:=by omega
    have hmem:=List.getElem_mem hg
    have hat:tR (aX ((aQ n).filter (lY x))) g=some (.str (S [((aQ n).filter (lY x))[g.toNat]])):=gG g0 (pS (List.getElem?_eq_getElem hg))
    generalize ((aQ n).filter (lY x))[g.toNat]=c at hat hmem
    obtain⟨hm1,hm2⟩:=List.mem_filter.mp hmem
    refine⟨Dd,_,g,_,rfl,rfl,SqL.of (k5 _ _ e4 hDf),hat,_,_,rfl,rfl,?_,?_⟩
    ·rw[aT,aT];exact aI (by simp;omega)
    ·rw[dI]
     refine⟨x++[c],_,_,rfl,?_,mF (OfN.all ho) (aK hm1) hp hm2,?_,f5,(k3.trans s4.kp).trans k5,k5 _ _ (s4 _ _ e3) hlf⟩
     ·intro c' hc'
      rcases List.mem_append.mp hc' with q | q
      ·exact ho c' q
      ·rw[List.mem_singleton.mp q];exact hm1
     ·rw[List.length_append,hxl];rfl
  ·rintro _ H3 ⟨x,v5,v6,rfl,ho,hp,hxl,f3,k3,e3⟩
   exact⟨_,rfl,k x H3 ho hp (by omega) f3 k3⟩
theorem GI{f:Addr}{fd:FuncData}(D:Df K mg "_law_back" zK ["_law_word_here"] f fd)(T:Txt P w K mg LC LD LE LF LG)(c_zu:Cl P w K mg base "_law_contrary" ["_law_letter"] 1 fA):Cl P w K mg base "_law_back" ["_law_word_here"] 2 iY:=by
 refine D.cl (D.F.ok Gz (fun vs H Q E h=>?_) (fun cdv A outer s H vs Q E hr h=>?_))
 ·obtain⟨x,rfl,_⟩:=h
  rfl
 ·obtain⟨x,rfl,hx,hlen,k⟩:=h
  refine⟨_,(aE (aM (cY (K:=K) rfl PySem.F.plainAttrs_str PySem.F.slot_str_join PySem.F.type_str_join (jF (K:=K) rfl) cD (aA (bL (sc0:=aF zK) (N:=["_law_word_here"]) (ix:=[]) (by decide +kernel) rfl rfl rfl (Da (by rfl) T.b_reversed (aA (pv 0) aB)) (fun _ _ _=>bF) (fun _ _ _=>(pC c_zu hr (aA (pv 0) aB)))) aB)))),?_⟩
  refine⟨rfl,_,rfl,S x,rfl,by rw[aT];exact hlen,fun Dd hD=>?_⟩
  refine pZ (w:=x) (fun i H1=>Same H H1∧H1 Dd=some (.lst (aX ((x.reverse.take i).map con)))) ⟨Same.new hD,aC⟩ ?_ ?_
  ·rintro i c H1 hc ⟨s1,e1⟩
   have hcL:bU c:=hx c (List.mem_reverse.mp (List.mem_of_getElem? hc))
   have hi:i<x.length:=by have:=(List.getElem?_eq_some_iff.mp hc).1;simpa using this
   refine⟨_,rfl,c,rfl,hcL,fun H2 s2=>⟨_,s2 _ _ e1,?_,(s1.trans s2).upd hD,?_⟩⟩
   ·rw[bB,List.length_map,List.length_take];exact aW (by omega)
   ·rw[aC,cA hc,List.map_append,← cM];rfl
  ·rintro H1 ⟨s1,e1⟩
   have eb:(x.reverse.take x.length).map con=back x:=by
    rw[List.take_of_length_le (by simp)]
    unfold back
    rw[List.map_reverse]
   rw[eb] at e1
   have e2:SqL K H1 Dd (((back x).map fun c=>S [c]).map V.str):=by rw[← oB];exact SqL.of e1
   refine⟨_,Dd,_,rfl,rfl,e2,iN _ (by rw[lF];omega),?_⟩
   rw[jU]
   exact k H1 s1
theorem GF{f:Addr}{fd:FuncData}(D:Df K mg "contrary" DE ["letter"] f fd)(T:Txt P w K mg LC LD LE LF LG):Cl P w K mg base "contrary" ["letter"] 1 fA:=by
 refine D.cl (D.F.ok F8 (fun vs H Q E h=>?_) (fun cdv A outer s H vs Q E hr h=>?_))
 ·obtain⟨c,rfl,_⟩:=h
  rfl
 ·obtain⟨c,rfl,hc,k⟩:=h
  refine⟨_,(aE (aM (aR (Dt T.t_CONTRARIES) (jK (v:=.ref LC) (by rfl) T.m_CONTRARIES rfl) (pv 0) (fun _ _=>rfl)))),?_⟩
  exact⟨_,rfl,rfl,_,rfl,.inl ⟨_,uS hc,k H (Same.refl H)⟩⟩
theorem FU{f:Addr}{fd:FuncData}(D:Df K mg "laid_out" DV ["text"] f fd)(T:Txt P w K mg LC LD LE LF LG)(c_zq1:Cl P w K mg base "contrary" ["letter"] 1 fA):Cl P w K mg base "laid_out" ["text"] 2 rQ:=by
 refine D.cl (D.F.ok sc_zw1 (fun vs H Q E h=>?_) (fun cdv A outer s H vs Q E hr h=>?_))
 ·obtain⟨x,rfl,_⟩:=h
  rfl
 ·obtain⟨x,rfl,hx,hlen,k⟩:=h
  refine⟨_,(aD (aL (i:=1) sc_zw1.nd rfl (Or.inl rfl) (dG aB))
   (aD (dC PassesOwn.never rfl (kL (pv 0)) (bE (i:=2) sc_zw1.nd rfl (Or.inl rfl)) (aE (bQ (pw_and (aP nC (aO (bH (K:=K) rfl) (by rfl) T.b_len PySem.boot_len (aA (pv 1) aB)) aG (aS _)) (pw_and1 (aP dA (aR (aU (K:=K) rfl) (pv 1) (pJ kJ aG) (fun _ _=>rfl)) (pC c_zq1 hr (aA (pv 2) aB)) (aS _)))).pt (aE (cB (eY (K:=K) rfl PySem.F.plainAttrs_list PySem.F.slot_list_pop PySem.F.type_list_pop Di (pv 1)))) (aE (cB (cY (K:=K) rfl PySem.F.plainAttrs_list PySem.F.slot_list_append PySem.F.type_list_append cW (pv 1) (aA (pv 2) aB)))))))
   (aE (aM (cY (K:=K) rfl PySem.F.plainAttrs_str PySem.F.slot_str_join PySem.F.type_str_join (jF (K:=K) rfl) cD (aA (pv 1) aB)))))),?_⟩
  refine⟨aI (by simp),fun l hl=>?_⟩
  refine⟨_,rfl,S x,rfl,oC (w:=x) (fun i σ H1=>(∃ v,σ=[some (.str (S x)),some (.ref l),v])∧Same H H1∧H1 l=some (.lst (aX (gQ [] (x.take i)).reverse))) ⟨⟨none,rfl⟩,Same.new hl,aC⟩ ?_ ?_⟩
  ·rintro i c σ H1 hc ⟨⟨v,rfl⟩,s1,e1⟩
   have hi:i<x.length:=(List.getElem?_eq_some_iff.mp hc).1
   have hcL:bU c:=hx c (List.mem_of_getElem? hc)
   have hn:gQ [] (x.take (i+1))=push (gQ [] (x.take i)) c:=by rw[cA hc,fL]
   have hsz:(gQ [] (x.take i)).length≤60000:=by
    have:=oH (x.take i) []
    rw[List.length_take] at this
    simp at this
    omega
   refine⟨_,rfl,l,_,rfl,.inl (SqL.of e1),_,_,rfl,rfl,_,rfl,cJ (fun e=>?_) (fun e=>?_)⟩
   ·have hne:0<(gQ [] (x.take i)).length:=by
     have e':=of_decide_eq_true e
     rw[bB,List.length_reverse] at e'
     omega
    obtain⟨y,r,hk⟩:∃ y r,gQ [] (x.take i)=y::r:=by
     cases hq:gQ [] (x.take i) with
     | nil=>rw[hq] at hne;simp at hne
     | cons y r=>exact⟨y,r,rfl⟩
    rw[hk] at e1 hn hsz
    have e2:H1 l=some (.lst (aX r.reverse++[.str (S [y])])):=by rw[e1,List.reverse_cons,cM]
    refine⟨_,rfl,_,rfl,l,_,_,_,rfl,rfl,SqL.of e2,gP _ _,_,rfl,c,rfl,hcL,fun H2 s2=>⟨rfl,_,rfl,cJ (fun q=>?_) (fun q=>?_)⟩⟩
    ·rw[eK] at q
     have q':y=con c:=by simpa using q
     have hp:push (y::r) c=r:=by unfold push;dsimp only;rw[if_pos q']
     rw[hp] at hn
     refine⟨_,rfl,.inl ⟨rfl,_,SqL.of (s2 _ _ e2)⟩,l,_,_,rfl,rfl,s2 _ _ e2,by simp;rfl,⟨_,rfl⟩,(s1.trans s2).upd hl,?_⟩
     rw[aC,hn]
     simp
    ·rw[eK] at q
     have q':¬ y=con c:=by simpa using q
     have hp:push (y::r) c=c::y::r:=by unfold push;dsimp only;rw[if_neg q']
     rw[hp] at hn
     refine⟨_,rfl,.inl ⟨rfl,_,SqL.of (s2 _ _ e2)⟩,_,rfl,l,_,_,rfl,rfl,s2 _ _ e2,?_,⟨_,rfl⟩,(s1.trans s2).upd hl,?_⟩
     ·rw[List.length_append,bB,List.length_reverse]
      rw[List.length_cons] at hsz
      have h9:r.length+1≤100000:=by omega
      exact Nat.lt_of_le_of_lt h9 (by decide)
     ·rw[aC,hn,List.reverse_cons,List.reverse_cons,cM,cM]
   ·have hk:gQ [] (x.take i)=[]:=by
     cases hq:gQ [] (x.take i) with
     | nil=>rfl
     | cons y r =>
      exfalso
      apply e
      apply decide_eq_true
      rw[bB,List.length_reverse,hq]
      simp
    rw[hk] at e1 hn
    refine eQ ⟨_,rfl,.inl ⟨rfl,_,SqL.of e1⟩,_,rfl,l,_,_,rfl,rfl,e1,?_,⟨_,rfl⟩,s1.upd hl,?_⟩
    ·show (0:Nat)<sizeLine;decide
    ·rw[aC,hn]
     rfl
  ·rintro σ H1 ⟨⟨v,rfl⟩,s1,e1⟩
   rw[List.take_length] at e1
   have e2:SqL K H1 l ((lay x).map (fun c=>S [c]) |>.map V.str):=by
    rw[← oB];exact SqL.of e1
   refine⟨rfl,_,rfl,_,l,_,rfl,rfl,e2,iN _ (Nat.le_trans (tG x) (by omega)),?_⟩
   rw[jU]
   exact k H1 s1
theorem IP{f:Addr}{fd:FuncData}(D:Df K mg "turned_back" Fk ["word"] f fd)(T:Txt P w K mg LC LD LE LF LG)(c_zq1:Cl P w K mg base "contrary" ["letter"] 1 fA):Cl P w K mg base "turned_back" ["word"] 2 iY:=by
 refine D.cl (D.F.ok IC (fun vs H Q E h=>?_) (fun cdv A outer s H vs Q E hr h=>?_))
 ·obtain⟨x,rfl,_⟩:=h
  rfl
 ·obtain⟨x,rfl,hx,hlen,k⟩:=h
  refine⟨_,(aE (aM (cY (K:=K) rfl PySem.F.plainAttrs_str PySem.F.slot_str_join PySem.F.type_str_join (jF (K:=K) rfl) cD (aA (bL (sc0:=aF Fk) (N:=["word"]) (ix:=[]) (by decide +kernel) rfl rfl rfl (Da (by rfl) T.b_reversed (aA (pv 0) aB)) (fun _ _ _=>bF) (fun _ _ _=>(pC c_zq1 hr (aA (pv 0) aB)))) aB)))),?_⟩
  refine⟨rfl,_,rfl,S x,rfl,by rw[aT];exact hlen,fun Dd hD=>?_⟩
  refine pZ (w:=x) (fun i H1=>Same H H1∧H1 Dd=some (.lst (aX ((x.reverse.take i).map con)))) ⟨Same.new hD,aC⟩ ?_ ?_
  ·rintro i c H1 hc ⟨s1,e1⟩
   have hcL:bU c:=hx c (List.mem_reverse.mp (List.mem_of_getElem? hc))
   have hi:i<x.length:=by have:=(List.getElem?_eq_some_iff.mp hc).1;simpa using this
   refine⟨_,rfl,c,rfl,hcL,fun H2 s2=>⟨_,s2 _ _ e1,?_,(s1.trans s2).upd hD,?_⟩⟩
   ·rw[bB,List.length_map,List.length_take];exact aW (by omega)
   ·rw[aC,cA hc,List.map_append,← cM];rfl
  ·rintro H1 ⟨s1,e1⟩
   have eb:(x.reverse.take x.length).map con=back x:=by
    rw[List.take_of_length_le (by simp)]
    unfold back
    rw[List.map_reverse]
   rw[eb] at e1
   have e2:SqL K H1 Dd (((back x).map fun c=>S [c]).map V.str):=by rw[← oB];exact SqL.of e1
   refine⟨_,Dd,_,rfl,rfl,e2,iN _ (by rw[lF];omega),?_⟩
   rw[jU]
   exact k H1 s1
theorem Hl{f:Addr}{fd:FuncData}(D:Df K mg "joined" Dc ["one","other"] f fd)(T:Txt P w K mg LC LD LE LF LG)(c_zw1:Cl P w K mg base "laid_out" ["text"] 2 rQ):Cl P w K mg base "joined" ["one","other"] 3 tP:=by
 refine D.cl (D.F.ok Gv (fun vs H Q E h=>?_) (fun cdv A outer s H vs Q E hr h=>?_))
 ·obtain⟨u,x,rfl,_⟩:=h
  rfl
 ·obtain⟨u,x,rfl,hu,hx,hlen,k⟩:=h
  refine⟨_,(aE (aM (pC c_zw1 hr (aA (aY cH (pv 0) (pv 1)) aB)))),?_⟩
  refine⟨_,rfl,_,rfl,_,_,rfl,rfl,by rw[aT,aT];exact aI (by omega),u++x,by rw[dI];rfl,AllL.app.mpr ⟨hu,hx⟩,by rw[List.length_append];omega,k⟩
theorem FY{f:Addr}{fd:FuncData}(D:Df K mg "_law_alike" sB ["_law_found","_law_due"] f fd)(T:Txt P w K mg LC LD LE LF LG):Cl P w K mg base "_law_alike" ["_law_found","_law_due"] 1 (Cj K 0):=by
 refine D.cl (D.F.ok Cn (fun vs H Q E h=>?_) (fun cdv A outer s H vs Q E hr h=>?_))
 ·obtain⟨x,y,rfl,_⟩:=h
  rfl
 ·obtain⟨x,y,rfl,hk,k⟩:=h
  cases hk with
  | flat hfl =>
   refine⟨_,(aD (bQ (eX (aO (bD (K:=K) rfl) (by rfl) T.b_isinstance boot_isinstance (aA (pv 1) (aA (bY (aA (dJ (by rfl) T.b_list boot_list) (aA (dJ (by rfl) T.b_tuple boot_tuple) aB))) aB)))) mH bA)
   (aE (aM (qM (dM dA (aO (bD (K:=K) rfl) (by rfl) T.b_isinstance boot_isinstance (aA (pv 0) (aA (dJ (by rfl) T.b_bool boot_bool) aB))) (aO (bD (K:=K) rfl) (by rfl) T.b_isinstance boot_isinstance (aA (pv 1) (aA (dJ (by rfl) T.b_bool boot_bool) aB))) (aS _)) (qP (dM dA (pv 0) (pv 1) (aS _))))))),?_⟩
   obtain⟨t,ty,t1,t2⟩:=oS K H hfl
   refine⟨_,rfl,aI (by simp),fun p hp=>?_⟩
   have s1:Same H (upd H p (.tup [.ty "list",.ty "tuple"])):=Same.new hp
   have e1:upd H p (.tup [.ty "list",.ty "tuple"]) p=some (.tup [.ty "list",.ty "tuple"]):=aC
   generalize upd H p (.tup [.ty "list",.ty "tuple"])=H1 at s1 e1
   obtain⟨t',ty',t1',t2'⟩:=oS K H1 hfl
   refine⟨x,t',ty',.inr ⟨"list","tuple",p,rfl,e1,by decide,by decide,_,rfl,?_⟩⟩
   rw[t1',t2']
   refine eQ ?_
   refine⟨_,rfl,x,t',ty',.inl ⟨"bool",rfl,by decide,_,rfl,x,t',ty',.inl ⟨"bool",rfl,by decide,rfl,_,rfl,?_⟩⟩⟩
   rw[decide_eq_true rfl]
   refine kP ⟨_,rfl,_,rfl,?_,?_⟩
   ·cases x <;> first | rfl | exact absurd (show false=true from hfl) Bool.false_ne_true
   ·rw[decide_eq_true rfl];exact k H1 s1
theorem kT{f:Addr}{fd:FuncData}(D:Df K mg "_law_alike" sB ["_law_found","_law_due"] f fd){j d:Nat}(T:Txt P w K mg LC LD LE LF LG)(c_zh1:Cl P w K mg base "_law_alike" ["_law_found","_law_due"] j (Cj K d)):Cl P w K mg base "_law_alike" ["_law_found","_law_due"] (j+1) (Cj K (d+1)):=by
 refine D.cl (D.F.ok Cn (fun vs H Q E h=>?_) (fun cdv A outer s H vs Q E hr h=>?_))
 ·obtain⟨x,y,rfl,_⟩:=h
  rfl
 ·obtain⟨x,y,rfl,hk,k⟩:=h
  cases hk with
  | flat hfl =>
   refine⟨_,(aD (bQ (eX (aO (bD (K:=K) rfl) (by rfl) T.b_isinstance boot_isinstance (aA (pv 1) (aA (bY (aA (dJ (by rfl) T.b_list boot_list) (aA (dJ (by rfl) T.b_tuple boot_tuple) aB))) aB)))) mH bA)
   (aE (aM (qM (dM dA (aO (bD (K:=K) rfl) (by rfl) T.b_isinstance boot_isinstance (aA (pv 0) (aA (dJ (by rfl) T.b_bool boot_bool) aB))) (aO (bD (K:=K) rfl) (by rfl) T.b_isinstance boot_isinstance (aA (pv 1) (aA (dJ (by rfl) T.b_bool boot_bool) aB))) (aS _)) (qP (dM dA (pv 0) (pv 1) (aS _))))))),?_⟩
   obtain⟨t,ty,t1,t2⟩:=oS K H hfl
   refine⟨_,rfl,aI (by simp),fun p hp=>?_⟩
   have s1:Same H (upd H p (.tup [.ty "list",.ty "tuple"])):=Same.new hp
   have e1:upd H p (.tup [.ty "list",.ty "tuple"]) p=some (.tup [.ty "list",.ty "tuple"]):=aC
   generalize upd H p (.tup [.ty "list",.ty "tuple"])=H1 at s1 e1
   obtain⟨t',ty',t1',t2'⟩:=oS K H1 hfl
   refine⟨x,t',ty',.inr ⟨"list","tuple",p,rfl,e1,by decide,by decide,_,rfl,?_⟩⟩
   rw[t1',t2']
   refine eQ ?_
   refine⟨_,rfl,x,t',ty',.inl ⟨"bool",rfl,by decide,_,rfl,x,t',ty',.inl ⟨"bool",rfl,by decide,rfl,_,rfl,?_⟩⟩⟩
   rw[decide_eq_true rfl]
   refine kP ⟨_,rfl,_,rfl,?_,?_⟩
   ·cases x <;> first | rfl | exact absurd (show false=true from hfl) Bool.false_ne_true
   ·rw[decide_eq_true rfl];exact k H1 s1
  | @tup _ a b xs ys h1 h2 hl hm hall =>
   refine⟨_,(aD (bQ (eX (aO (bD (K:=K) rfl) (by rfl) T.b_isinstance boot_isinstance (aA (pv 1) (aA (bY (aA (dJ (by rfl) T.b_list boot_list) (aA (dJ (by rfl) T.b_tuple boot_tuple) aB))) aB)))) (aD (bQ (aP iR (aO (bD (K:=K) rfl) (by rfl) T.b_isinstance boot_isinstance (aA (pv 0) (aA (dJ (by rfl) T.b_list boot_list) aB))) (aO (bD (K:=K) rfl) (by rfl) T.b_isinstance boot_isinstance (aA (pv 1) (aA (dJ (by rfl) T.b_list boot_list) aB))) (aS _)) (aE (aM iQ)) bA)
   (aD (bQ (aP iR (aO (bD (K:=K) rfl) (by rfl) T.b_isinstance boot_isinstance (aA (pv 0) (aA (dJ (by rfl) T.b_tuple boot_tuple) aB))) (aO (bD (K:=K) rfl) (by rfl) T.b_isinstance boot_isinstance (aA (pv 1) (aA (dJ (by rfl) T.b_tuple boot_tuple) aB))) (aS _)) (aE (aM iQ)) bA)
   (aD (bQ (aP iR (aO (bH (K:=K) rfl) (by rfl) T.b_len PySem.boot_len (aA (pv 0) aB)) (aO (bH (K:=K) rfl) (by rfl) T.b_len PySem.boot_len (aA (pv 1) aB)) (aS _)) (aE (aM iQ)) bA)
   (aE (aM (aO (rY (K:=K) rfl rfl) (by rfl) T.b_all boot_all (aA (bL (sc0:=aF sB) (N:=["_law_found","_law_due"]) (ix:=[0,1]) (by decide +kernel) rfl rfl rfl (eG (by rfl) T.b_range (aA (aO (bH (K:=K) rfl) (by rfl) T.b_len PySem.boot_len (aA (pv 1) aB)) aB)) (fun _ _ _=>bF) (fun _ _ _=>(pC c_zh1 hr (aA (aR (aZ (K:=K) rfl) (pv 1) (pv 0) (fun _ _=>rfl)) (aA (aR (aZ (K:=K) rfl) (pv 2) (pv 0) (fun _ _=>rfl)) aB))))) aB))))))) bA)
   (aE (aM (qM (dM dA (aO (bD (K:=K) rfl) (by rfl) T.b_isinstance boot_isinstance (aA (pv 0) (aA (dJ (by rfl) T.b_bool boot_bool) aB))) (aO (bD (K:=K) rfl) (by rfl) T.b_isinstance boot_isinstance (aA (pv 1) (aA (dJ (by rfl) T.b_bool boot_bool) aB))) (aS _)) (qP (dM (yV (K:=K) rfl hr.units0) (pv 0) (pv 1) (aS _))))))),?_⟩
   refine⟨_,rfl,aI (by simp),fun p hp=>?_⟩
   have s1:Same H (upd H p (.tup [.ty "list",.ty "tuple"])):=Same.new hp
   have e1:upd H p (.tup [.ty "list",.ty "tuple"]) p=some (.tup [.ty "list",.ty "tuple"]):=aC
   have ha1:=L2.SqT.same s1 h1
   have hb1:=L2.SqT.same s1 h2
   generalize upd H p (.tup [.ty "list",.ty "tuple"])=H1 at s1 e1 ha1 hb1
   refine⟨.ref b,"tuple",.tup hb1,.inr ⟨"list","tuple",p,rfl,e1,by decide,by decide,_,rfl,cJ (fun _=>?_) (fun e=>absurd (by decide) e)⟩⟩
   refine⟨_,rfl,.ref a,"tuple",.tup ha1,.inl ⟨"list",rfl,by decide,_,rfl,.ref b,"tuple",.tup hb1,.inl ⟨"list",rfl,by decide,rfl,_,rfl,cJ (fun e=>absurd e (by decide)) (fun _=>?_)⟩⟩⟩
   refine⟨_,rfl,.ref a,"tuple",.tup ha1,.inl ⟨"tuple",rfl,by decide,_,rfl,.ref b,"tuple",.tup hb1,.inl ⟨"tuple",rfl,by decide,rfl,_,rfl,cJ (fun e=>absurd e (by decide)) (fun _=>?_)⟩⟩⟩
   refine⟨_,rfl,a,_,rfl,.inr ha1,_,rfl,b,_,rfl,.inr hb1,rfl,_,rfl,?_⟩
   rw[hl,decide_eq_true rfl]
   refine eQ ?_
   refine⟨_,rfl,b,_,rfl,.inr hb1,(ys.length:Nat),rfl,by omega,by omega,fun Dd hD=>?_⟩
   refine gZ (lo:=0) (n:=((ys.length:Nat):Int).toNat) (fun i H2=>Same H1 H2∧H2 Dd=some (.lst ((List.replicate i true).map V.bl))) ⟨Same.new hD,aC⟩ ?_ ?_
   ·rintro i H2 hi ⟨s2,e2⟩
    have hi':i<ys.length:=by omega
    obtain⟨x,hx⟩:∃ x,xs[i]?=some x:=⟨_,List.getElem?_eq_getElem (by omega)⟩
    obtain⟨y,hy⟩:∃ y,ys[i]?=some y:=⟨_,List.getElem?_eq_getElem hi'⟩
    refine⟨_,rfl,_,rfl,a,xs,_,x,rfl,rfl,L2.SqT.same s2 ha1,gG (by omega) (by rw[show ((0:Int)+(i:Nat)).toNat=i by omega];exact hx),_,rfl,_,rfl,b,ys,_,y,rfl,rfl,L2.SqT.same s2 hb1,gG (by omega) (by rw[show ((0:Int)+(i:Nat)).toNat=i by omega];exact hy),x,y,rfl,(hall i x y hx hy).same (s1.trans s2),fun H3 s3=>⟨_,s3 _ _ e2,?_,(s2.trans s3).upd hD,?_⟩⟩
    ·rw[List.length_map,List.length_replicate];exact aW (by omega)
    ·rw[aC,List.replicate_succ',List.map_append];rfl
   ·rintro H2 ⟨s2,e2⟩
    refine⟨Dd,_,rfl,SqL.of e2,?_⟩
    rw[show (List.replicate ((ys.length:Nat):Int).toNat true).all id=true by rw[List.all_eq_true];intro b hb;exact(List.mem_replicate.mp hb).2]
    exact k H2 (s1.trans s2)
  | @lst _ a b xs ys h1 h2 hl hm hall =>
   refine⟨_,(aD (bQ (eX (aO (bD (K:=K) rfl) (by rfl) T.b_isinstance boot_isinstance (aA (pv 1) (aA (bY (aA (dJ (by rfl) T.b_list boot_list) (aA (dJ (by rfl) T.b_tuple boot_tuple) aB))) aB)))) (aD (bQ (aP iR (aO (bD (K:=K) rfl) (by rfl) T.b_isinstance boot_isinstance (aA (pv 0) (aA (dJ (by rfl) T.b_list boot_list) aB))) (aO (bD (K:=K) rfl) (by rfl) T.b_isinstance boot_isinstance (aA (pv 1) (aA (dJ (by rfl) T.b_list boot_list) aB))) (aS _)) (aE (aM iQ)) bA)
   (aD (bQ (aP iR (aO (bD (K:=K) rfl) (by rfl) T.b_isinstance boot_isinstance (aA (pv 0) (aA (dJ (by rfl) T.b_tuple boot_tuple) aB))) (aO (bD (K:=K) rfl) (by rfl) T.b_isinstance boot_isinstance (aA (pv 1) (aA (dJ (by rfl) T.b_tuple boot_tuple) aB))) (aS _)) (aE (aM iQ)) bA)
   (aD (bQ (aP iR (aO (bH (K:=K) rfl) (by rfl) T.b_len PySem.boot_len (aA (pv 0) aB)) (aO (bH (K:=K) rfl) (by rfl) T.b_len PySem.boot_len (aA (pv 1) aB)) (aS _)) (aE (aM iQ)) bA)
   (aE (aM (aO (rY (K:=K) rfl rfl) (by rfl) T.b_all boot_all (aA (bL (sc0:=aF sB) (N:=["_law_found","_law_due"]) (ix:=[0,1]) (by decide +kernel) rfl rfl rfl (eG (by rfl) T.b_range (aA (aO (bH (K:=K) rfl) (by rfl) T.b_len PySem.boot_len (aA (pv 1) aB)) aB)) (fun _ _ _=>bF) (fun _ _ _=>(pC c_zh1 hr (aA (aR (aU (K:=K) rfl) (pv 1) (pv 0) (fun _ _=>rfl)) (aA (aR (aU (K:=K) rfl) (pv 2) (pv 0) (fun _ _=>rfl)) aB))))) aB))))))) bA)
   (aE (aM (qM (dM dA (aO (bD (K:=K) rfl) (by rfl) T.b_isinstance boot_isinstance (aA (pv 0) (aA (dJ (by rfl) T.b_bool boot_bool) aB))) (aO (bD (K:=K) rfl) (by rfl) T.b_isinstance boot_isinstance (aA (pv 1) (aA (dJ (by rfl) T.b_bool boot_bool) aB))) (aS _)) (qP (dM (yV (K:=K) rfl hr.units0) (pv 0) (pv 1) (aS _))))))),?_⟩
   refine⟨_,rfl,aI (by simp),fun p hp=>?_⟩
   have s1:Same H (upd H p (.tup [.ty "list",.ty "tuple"])):=Same.new hp
   have e1:upd H p (.tup [.ty "list",.ty "tuple"]) p=some (.tup [.ty "list",.ty "tuple"]):=aC
   have ha1:=s1 _ _ h1
   have hb1:=s1 _ _ h2
   generalize upd H p (.tup [.ty "list",.ty "tuple"])=H1 at s1 e1 ha1 hb1
   refine⟨.ref b,"list",.lst (SqL.of hb1),.inr ⟨"list","tuple",p,rfl,e1,by decide,by decide,_,rfl,cJ (fun _=>?_) (fun e=>absurd (by decide) e)⟩⟩
   refine⟨_,rfl,.ref a,"list",.lst (SqL.of ha1),.inl ⟨"list",rfl,by decide,_,rfl,.ref b,"list",.lst (SqL.of hb1),.inl ⟨"list",rfl,by decide,rfl,_,rfl,cJ (fun e=>absurd e (by decide)) (fun _=>?_)⟩⟩⟩
   refine⟨_,rfl,.ref a,"list",.lst (SqL.of ha1),.inl ⟨"tuple",rfl,by decide,_,rfl,.ref b,"list",.lst (SqL.of hb1),.inl ⟨"tuple",rfl,by decide,rfl,_,rfl,cJ (fun e=>absurd e (by decide)) (fun _=>?_)⟩⟩⟩
   refine⟨_,rfl,a,_,rfl,.inl (SqL.of ha1),_,rfl,b,_,rfl,.inl (SqL.of hb1),rfl,_,rfl,?_⟩
   rw[hl,decide_eq_true rfl]
   refine eQ ?_
   refine⟨_,rfl,b,_,rfl,.inl (SqL.of hb1),(ys.length:Nat),rfl,by omega,by omega,fun Dd hD=>?_⟩
   refine gZ (lo:=0) (n:=((ys.length:Nat):Int).toNat) (fun i H2=>Same H1 H2∧H2 Dd=some (.lst ((List.replicate i true).map V.bl))) ⟨Same.new hD,aC⟩ ?_ ?_
   ·rintro i H2 hi ⟨s2,e2⟩
    have hi':i<ys.length:=by omega
    obtain⟨x,hx⟩:∃ x,xs[i]?=some x:=⟨_,List.getElem?_eq_getElem (by omega)⟩
    obtain⟨y,hy⟩:∃ y,ys[i]?=some y:=⟨_,List.getElem?_eq_getElem hi'⟩
    refine⟨_,rfl,_,rfl,a,xs,_,x,rfl,rfl,SqL.of (s2 _ _ ha1),gG (by omega) (by rw[show ((0:Int)+(i:Nat)).toNat=i by omega];exact hx),_,rfl,_,rfl,b,ys,_,y,rfl,rfl,SqL.of (s2 _ _ hb1),gG (by omega) (by rw[show ((0:Int)+(i:Nat)).toNat=i by omega];exact hy),x,y,rfl,(hall i x y hx hy).same (s1.trans s2),fun H3 s3=>⟨_,s3 _ _ e2,?_,(s2.trans s3).upd hD,?_⟩⟩
    ·rw[List.length_map,List.length_replicate];exact aW (by omega)
    ·rw[aC,List.replicate_succ',List.map_append];rfl
   ·rintro H2 ⟨s2,e2⟩
    refine⟨Dd,_,rfl,SqL.of e2,?_⟩
    rw[show (List.replicate ((ys.length:Nat):Int).toNat true).all id=true by rw[List.all_eq_true];intro b hb;exact(List.mem_replicate.mp hb).2]
    exact k H2 (s1.trans s2)
theorem Hb{f:Addr}{fd:FuncData}(D:Df K mg "_law_key" yX ["_law_word_here"] f fd)(T:Txt P w K mg LC LD LE LF LG):Cl P w K mg base "_law_key" ["_law_word_here"] 1 Fu:=by
 refine D.cl (D.F.ok Gf (fun vs H Q E h=>?_) (fun cdv A outer s H vs Q E hr h=>?_))
 ·obtain⟨x,rfl,_⟩:=h
  rfl
 ·obtain⟨x,rfl,hx,hlen,k⟩:=h
  refine⟨_,(aE (aM (bY (aA (aO cQ (by rfl) T.b_len PySem.boot_len (aA (pv 0) aB)) (aA (bL (sc0:=aF yX) (N:=["_law_word_here"]) (ix:=[]) (by decide +kernel) rfl rfl rfl (kL (pv 0)) (fun _ _ _=>bF) (fun _ _ _=>(cY (K:=K) rfl PySem.F.plainAttrs_str PySem.F.slot_str_index PySem.F.type_str_index (uP rfl) cD (aA (pv 0) aB)))) aB))))),?_⟩
  refine⟨_,rfl,_,rfl,by rw[aT];exact aI (by omega),_,rfl,S x,rfl,fun Dd hD=>kN (w:=x) (fun i H1=>Same H H1∧H1 Dd=some (.lst ((Bx (x.take i)).map V.int))) ⟨Same.new hD,aC⟩ ?_ ?_⟩
  ·rintro i c H1 hc ⟨s1,e1⟩
   have hi:i<x.length:=(List.getElem?_eq_some_iff.mp hc).1
   have hcL:=hx c (List.mem_of_getElem? hc)
   refine⟨rfl,_,rfl,_,_,rfl,rfl,(FH hcL).1,?_⟩
   rw[(FH hcL).2]
   refine⟨_,e1,?_,s1.upd hD,?_⟩
   ·rw[List.length_map,iH,List.length_take];exact aW (by omega)
   ·rw[aC,cA hc];unfold Bx;rw[List.map_append,List.map_append];rfl
  ·rintro H1 ⟨s1,e1⟩
   rw[List.take_length] at e1
   refine⟨aI (by simp),fun p hp=>?_⟩
   rw[aT]
   exact k p Dd _ (s1.free hp) hD (s1.upd' hp) aC (by rw[aJ (aH e1 hp)];exact e1)
theorem HJ{f:Addr}{fd:FuncData}(D:Df K mg "_law_ring" yS ["_law_word_here"] f fd)(T:Txt P w K mg LC LD LE LF LG)(c_zu:Cl P w K mg base "_law_contrary" ["_law_letter"] 1 fA)(c_z11:Cl P w K mg base "_law_key" ["_law_word_here"] 1 Fu):Cl P w K mg base "_law_ring" ["_law_word_here"] 3 nX:=by
 obtain⟨f_z11,fd_z11,G_z11,m_z11,k_z11,b_z11⟩:=c_z11
 refine D.cl (D.F.ok sc_zs1 (fun vs H Q E h=>?_) (fun cdv A outer s H vs Q E hr h=>?_))
 ·obtain⟨x,rfl,_⟩:=h
  rfl
 ·obtain⟨x,rfl,hx,hlen,k⟩:=h
  refine⟨_,(hX (fM PassesOwn.never (pw_and (aP nC (aO cQ (by rfl) T.b_len PySem.boot_len (aA (pv 0) aB)) aG (aS _)) (pw_and1 (aP dA (aR mE (pv 0) (pJ kJ aG) (fun _ _=>rfl)) (pC c_zu hr (aA (aR mE (pv 0) aG (fun _ _=>rfl)) aB)) (aS _)))).pt (aE (aL (i:=0) sc_zs1.nd rfl (Or.inr rfl) (cG iO (pv 0) (cC aG) (cC (pJ kJ aG))))))
   (aE (aM (Dq (K:=K) rfl G_z11 (hr.mono (by decide)) b_z11 (Ax hr) rfl (by rfl) T.b_min (by rfl) m_z11 (aA (bL (sc0:=aF yS) (N:=["_law_word_here"]) (ix:=[0]) (by decide +kernel) rfl rfl rfl (eG (by rfl) T.b_range (aA (aO (AS rfl) (by rfl) T.b_max boot_max (aA aG (aA (aO cQ (by rfl) T.b_len PySem.boot_len (aA (pv 0) aB)) aB))) aB)) (fun _ _ _=>bF) (fun _ _ _=>(aY cH (cG iO (pv 1) (cC (pv 0)) cT) (cG iO (pv 1) cT (cC (pv 0)))))) aB))))),?_⟩
  have isx:∀ i:Nat,i<x.length→bU (x.getD i 0):=fun i hi=>cZ hx hi
  refine⟨fun σ H1=>∃ t:Nat,σ=[some (.str (S (gT x t)))]∧Same H H1∧Ends x t,?_,?_⟩
  ·refine⟨fun m σ H1=>∃ t:Nat,m=x.length - t∧σ=[some (.str (S (gT x t)))]∧Same H H1∧2 * t≤x.length∧∀ j,j<t→2 * j+1<x.length∧x.getD j 0=con (x.getD (x.length - 1 - j) 0),⟨_,0,rfl,by rw[jE];rfl,Same.refl H,by omega,fun j hj=>absurd hj (Nat.not_lt_zero _)⟩,?_⟩
   rintro m _ H1 ⟨t,rfl,rfl,s1,ht,hall⟩
   have ml:=hJ ht
   refine⟨_,rfl,_,rfl,by rw[aT];exact aI (by omega),_,_,rfl,rfl,_,rfl,cJ (fun q=>?_) (fun q=>eQ ⟨t,rfl,s1,hall,fun c=>q (decide_eq_true ?_)⟩)⟩
   ·have q':=of_decide_eq_true q
    rw[aT] at q'
    have hz:bU (x.getD t 0):=isx _ (by omega)
    refine⟨_,rfl,_,rfl,_,_,x.getD (x.length - 1 - t) 0,rfl,rfl,by rw[aT];exact aI (by omega),?_,_,rfl,_,_,x.getD t 0,rfl,rfl,by rw[aT];exact aI (by omega),by rw[Bj];exact gG (by decide) (by have:=oR (x:=x) (t:=t) (i:=0) (by omega);simpa using this),_,rfl,hz,fun H2 s2=>⟨rfl,_,rfl,?_⟩⟩
    ·rw[Bj]
     refine Fj ?_
     rw[oR (by omega)]
     congr 2
     omega
    rw[eK]
    refine cJ (fun z=>?_) (fun z=>⟨t,rfl,s1.trans s2,hall,fun c=>z (decide_eq_true ?_)⟩)
    ·have z':x.getD (x.length - 1 - t) 0=con (x.getD t 0):=by simpa using z
     have z2:x.getD t 0=con (x.getD (x.length - 1 - t) 0):=by rw[z',aN hz]
     refine⟨fun σ' H'=>σ'=[some (.str (S (gT x (t+1))))]∧Same H H',fun σ' H' ⟨a1,a2⟩=>⟨x.length - (t+1),by omega,t+1,rfl,a1,a2,by omega,fun j hj=>?_⟩,?_⟩
     ·by_cases c:j=t
      ·subst c;exact⟨by omega,z2⟩
      ·exact hall j (by omega)
     refine⟨_,rfl,_,rfl,_,rfl,_,rfl,_,rfl,by rw[aT];exact aI (by omega),?_,s1.trans s2⟩
     show [some (V.str (Txt.slice (S (gT x t)) (some 1) (some (-1))))]=_
     rw[BL _ (by omega),ml,CM (by omega)]
    ·rw[c.2,aN (isx _ (by omega))]
   ·show (1:Int)<((S (gT x t)).length:Int)
    rw[aT]
    omega
  rintro _ H1 ⟨t,rfl,s1,he⟩
  have ml:=hJ he.le
  have hy:=jP (m:=t) hx
  generalize hyy:gT x t=y at ml hy
  obtain⟨N,hN0,hN1,hN2,hN3⟩:∃ N:Nat,(if ((S y).length:Int) > 1 then ((S y).length:Int) else 1)=(N:Int)∧1≤N∧N≤900∧(N=y.length∨(y=[]∧N=1)):=by
   rw[aT]
   by_cases c:(y.length:Int) > 1
   ·exact⟨y.length,by rw[if_pos c],by omega,by omega,.inl rfl⟩
   ·refine⟨1,by rw[if_neg c];rfl,by omega,by omega,?_⟩
    by_cases c2:y=[]
    ·exact .inr ⟨c2,rfl⟩
    ·have:=List.length_pos_iff.mpr c2
     exact .inl (by omega)
  refine⟨_,rfl,_,rfl,by rw[aT];exact aI (by omega),_,_,rfl,N,by show [V.int (if ((S y).length:Int) > 1 then ((S y).length:Int) else 1)]=_;rw[hN0],by omega,by omega,fun Dd hD=>?_⟩
  refine gZ (lo:=0) (n:=(N:Int).toNat) (fun i H2=>Same H1 H2∧H2 Dd=some (.lst ((List.range i).map fun j=>V.str (S (eI y j))))) ⟨Same.new hD,aC⟩ ?_ ?_
  ·rintro i H2 hi ⟨s2,e2⟩
   have hi':i≤y.length:=by
    rcases hN3 with h | ⟨h,h'⟩
    ·omega
    ·omega
   refine⟨_,rfl,_,rfl,_,rfl,_,rfl,by rw[aT];exact aI (by omega),_,rfl,_,rfl,_,rfl,_,rfl,by rw[aT];exact aI (by omega),_,_,rfl,rfl,?_,?_⟩
   ·rw[iD _ (by omega) (by omega),fR _ (by omega) (by omega),aT,aT,List.length_drop,List.length_take];exact aI (by omega)
   rw[iD _ (by omega) (by omega),fR _ (by omega) (by omega),dI,show ((0:Int)+(i:Nat)).toNat=i by omega]
   refine⟨_,e2,by rw[List.length_map,List.length_range];exact aW (by omega),s2.upd hD,?_⟩
   rw[aC,List.range_succ,List.map_append]
   rfl
  rintro H2 ⟨s2,e2⟩
  rw[Int.toNat_natCast] at e2
  have len:∀ j,j<N→(eI y j).length=y.length:=fun j hj=>bZ (by rcases hN3 with h | ⟨h,h'⟩ <;> omega)
  have xget:∀ i z,((List.range N).map fun j=>V.str (S (eI y j)))[i]?=some z→i<N∧z=.str (S (eI y i)):=fun i z hz=>by
   rw[List.getElem?_map] at hz
   by_cases c:i<N
   ·rw[List.getElem?_range c] at hz
    exact⟨c,(Option.some.inj hz).symm⟩
   ·rw[List.getElem?_eq_none (by simp;omega)] at hz;cases hz
  refine⟨Dd,(List.range N).map fun j=>V.str (S (eI y j)),fun i b kb H3=>Same H1 H3∧1≤i∧H3 Dd=some (.lst ((List.range N).map fun j=>V.str (S (eI y j))))∧∃ (j:Nat) (p a:Addr),j<N∧b=.str (S (eI y j))∧kb=.ref p∧H3 p=some (.tup [.int (y.length:Nat),.ref a])∧H3 a=some (.lst ((Bx (eI y j)).map V.int))∧∀ j',j' < i→¬ MaR.Lt (gr y) y.length j' j,rfl,SqL.of e2,fun i b kb H3 h=>SqL.of h.2.2.1,⟨.str (S (eI y 0)),?_,eI y 0,rfl,zN hy,by rw[len 0 (by omega)];omega,fun p a H3 hp ha s3 ep ea=>⟨s2.trans s3,Nat.le_refl _,s3 _ _ e2,0,p,a,by omega,rfl,rfl,by rw[← len 0 (by omega)];exact ep,ea,fun j' hj'=>?_⟩⟩,?_,?_⟩
  ·rw[List.getElem?_map,List.getElem?_range (by omega)];rfl
  ·have:j'=0:=by omega
   subst this
   exact MaR.Lt.irrefl _
  ·rintro i b kb H3 ⟨s3,hi1,e3,j,p,a,hj,rfl,rfl,ep,ea,hall⟩ z hz
   obtain⟨hi,rfl⟩:=xget i z hz
   have hNy:N=y.length:=by
    rcases hN3 with h | ⟨h,h'⟩
    ·exact h
    ·omega
   refine⟨eI y i,rfl,zN hy,by rw[len i hi];omega,fun p' a' H4 hp' ha' s4 ep' ea'=>?_⟩
   rw[len i hi] at ep'
   refine⟨p',p,a',a,_,_,_,rfl,rfl,ep',s4 _ _ ep,ea',s4 _ _ ea,by rw[iH,iH,len i hi,len j hj],(aH ea ha').symm,_,rfl,?_⟩
   cases ht:HT.lexLt (Bx (eI y i)) (Bx (eI y j)) with
   | true =>
    have z':=(CD (by omega) (by omega)).mp ht
    refine⟨s3.trans s4,by omega,s4 _ _ e3,i,p',a',hi,rfl,rfl,ep',ea',fun j' hj'=>?_⟩
    by_cases c0:j'=i
    ·subst c0;exact MaR.Lt.irrefl _
    ·exact fun z2=>hall j' (by omega) (z2.trans z')
   | false =>
    refine⟨s3.trans s4,by omega,s4 _ _ e3,j,p,a,hj,rfl,rfl,s4 _ _ ep,s4 _ _ ea,fun j' hj'=>?_⟩
    by_cases c0:j'=i
    ·subst c0
     intro z2
     rw[(CD (by omega) (by omega)).mpr z2] at ht
     cases ht
    ·exact hall j' (by omega)
  ·rintro b kb H3 ⟨s3,hi1,e3,j,p,a,hj,rfl,rfl,ep,ea,hall⟩
   refine k _ H3 ⟨t,j,he,?_,by rw[hyy]⟩ (s1.trans s3)
   rw[hyy]
   rcases hN3 with h | ⟨h,h'⟩
   ·refine .inr ⟨by omega,fun j' hj'=>hall j' ?_⟩
    rw[List.length_map,List.length_range];omega
   ·exact .inl ⟨h,by omega⟩
theorem F7{f:Addr}{fd:FuncData}(D:Df K mg "_law_retold" CQ ["_law_retelling","_law_word_here"] f fd)(T:Txt P w K mg LC LD LE LF LG)(c_zt1:Cl P w K mg base "_law_back" ["_law_word_here"] 2 iY)(c_zr1:Cl P w K mg base "_law_laid" ["_law_text"] 2 rQ):Cl P w K mg base "_law_retold" ["_law_retelling","_law_word_here"] 3 (iZ K):=by
 refine D.cl (D.F.ok sc_ze1 (fun vs H Q E h=>?_) (fun cdv A outer s H vs Q E hr h=>?_))
 ·obtain⟨a,rs,n,M,x,rfl,_⟩:=h
  rfl
 ·obtain⟨a,rs,n,M,x,rfl,hq,hr0,h1,h4,hM,hox,hxl,hxm,k⟩:=h
  refine⟨_,(aD (aL (i:=2) sc_ze1.nd rfl (Or.inl rfl) cD)
   (aD (dC PassesOwn.never rfl (kL (pv 1)) (bE (i:=3) sc_ze1.nd rfl (Or.inl rfl)) (aD (aL (i:=4) sc_ze1.nd rfl (Or.inl rfl) (aR (aZ (K:=K) rfl) (pv 0) (cY (K:=K) rfl PySem.F.plainAttrs_str PySem.F.slot_str_index PySem.F.type_str_index (uP rfl) cD (aA (eY (K:=K) rfl PySem.F.plainAttrs_str PySem.F.slot_str_lower PySem.F.type_str_lower pN (pv 3)) aB)) (fun _ _=>rfl)))
   (hX (bQ (eX (eY (K:=K) rfl PySem.F.plainAttrs_str PySem.F.slot_str_isupper PySem.F.type_str_isupper yJ (pv 3))) (aE (aL (i:=4) sc_ze1.nd rfl (Or.inl rfl) (pC c_zt1 hr (aA (pv 4) aB)))) bA)
   (aE (aL (i:=2) sc_ze1.nd rfl (Or.inl rfl) (aY cH (pv 2) (pv 4)))))))
   (aE (aM (pC c_zr1 hr (aA (pv 2) aB)))))),?_⟩
  refine⟨_,rfl,S x,rfl,oC (w:=x) (fun i σ H1=>∃ v3 v4:Option V,σ=[some (.ref a),some (.str (S x)),some (.str (S (told rs (x.take i)))),v3,v4]∧Same H H1) ⟨none,none,by rw[fQ];rfl,Same.refl H⟩ ?_ ?_⟩
  ·rintro i c σ H1 hc ⟨v3,v4,rfl,s1⟩
   have hi:i<x.length:=(List.getElem?_eq_some_iff.mp hc).1
   have hcn:=hox c (List.mem_of_getElem? hc)
   have hcL:bU c:=aK hcn
   have hc1:AllL [c]:=fun d hd=>by rw[List.mem_singleton.mp hd];exact hcL
   have tl:=lS hr0 (x.take i)
   have tm:(x.take i).length * M≤x.length * M:=Nat.mul_le_mul_right _ (by rw[List.length_take];omega)
   have htk:told rs (x.take (i+1))=told rs (x.take i)++tell rs c:=by rw[cA hc,gU,dF,vD,List.append_nil]
   have hll:=wA hr0 c
   obtain⟨r,hr9⟩:∃ r,rs[lo c - 97]?=some r:=⟨_,List.getElem?_eq_getElem (Jc hcn hr0.len h1 h4)⟩
   have hra:=hr0.all r (List.mem_of_getElem? hr9)
   have hrl:=hr0.le r (List.mem_of_getElem? hr9)
   refine⟨_,rfl,rfl,_,rfl,rfl,S [c],rfl,rfl,rM [c] hc1 (by simp),_,_,rfl,rfl,?_,a,bV rs,_,.str (S r),rfl,rfl,L2.SqT.same s1 hq,?_,?_⟩
   ·rw[jN hc1];exact(yR hcL).1
   ·rw[jN hc1]
    show tR (bV rs) (Txt.find (Str.ofString "abcd") (S [lo c]))=some (.str (S r))
    rw[(yR hcL).2]
    exact lO (HP hr9)
   refine⟨fun σ H2=>σ=[some (.ref a),some (.str (S x)),some (.str (S (told rs (x.take i)))),some (.str (S [c])),some (.str (S (tell rs c)))]∧Same H H2,?_,?_⟩
   ·refine⟨_,rfl,rfl,_,rfl,rfl,_,rfl,?_⟩
    rw[Bw hcL]
    have ht:tell rs c=if bK c=true then r else back r:=by
     unfold tell lo at *
     unfold bK
     by_cases q:96<c
     ·rw[if_pos q] at hr9
      rw[if_pos (decide_eq_true q),if_pos (decide_eq_true q),List.getD_eq_getElem?_getD,hr9];rfl
     ·rw[if_neg q] at hr9
      rw[if_neg (by simpa using q),if_neg (by simpa using q),List.getD_eq_getElem?_getD,show c - 65=c+32 - 97 by omega,hr9];rfl
    cases hlow:bK c with
    | true =>
     rw[hlow,if_pos rfl] at ht
     rw[ht]
     exact eQ ⟨rfl,s1⟩
    | false =>
     rw[hlow,if_neg (by decide)] at ht
     rw[ht]
     exact kP ⟨_,rfl,r,rfl,hra,by omega,fun H2 s2=>⟨rfl,s1.trans s2⟩⟩
   rintro _ H2 ⟨rfl,s2⟩
   refine⟨_,rfl,_,rfl,_,_,rfl,rfl,by rw[aT,aT];exact aI (by omega),some (.str (S [c])),some (.str (S (tell rs c))),?_,s2⟩
   rw[htk,dI]
   rfl
  ·rintro _ H1 ⟨v3,v4,rfl,s1⟩
   rw[List.take_length]
   have tl:=lS hr0 x
   exact⟨_,rfl,told rs x,rfl,dQ hr0 x,by omega,fun H2 s2=>k H2 (s1.trans s2)⟩
theorem Jt{f:Addr}{fd:FuncData}(D:Df K mg "_law_drawn_change" FX ["_law_flow_here","_law_n"] f fd)(T:Txt P w K mg LC LD LE LF LG)(c_zu1:Cl P w K mg base "_law_pick" ["_law_flow_here","_law_many"] 1 iM)(c_z5:Cl P w K mg base "_law_letters" ["_law_n"] 1 mL)(c_zu:Cl P w K mg base "_law_contrary" ["_law_letter"] 1 fA):Cl P w K mg base "_law_drawn_change" ["_law_flow_here","_law_n"] 2 qI:=by
 refine D.cl (D.F.ok sc_zd (fun vs H Q E h=>?_) (fun cdv A outer s H vs Q E hr h=>?_))
 ·obtain⟨fl,sc,n,rfl,_⟩:=h
  rfl
 ·obtain⟨fl,sc,n,rfl,hf,h1,h4,k⟩:=h
  refine⟨_,(aD (aL (i:=2) sc_zd.nd rfl (Or.inl rfl) (aR (aU (K:=K) rfl) (pC c_z5 hr (aA (pv 1) aB)) (pC c_zu1 hr (aA (pv 0) (aA (aY kK aG (pv 1)) aB))) (fun _ _=>rfl)))
   (aD (aL (i:=3) sc_zd.nd rfl (Or.inl rfl) (dG aB))
   (aD (dC PassesOwn.never rfl (pR (K:=K) rfl (pC c_z5 hr (aA (pv 1) aB))) (bE (i:=4) sc_zd.nd rfl (Or.inl rfl)) (aE (bQ (pw_or (aP dA (pv 4) (pv 2) (aS _)) (pw_or1 (pw_and (aP iR (pv 4) (pC c_zu hr (aA (pv 2) aB)) (aS _)) (pw_and1 (aP dA (pC c_zu1 hr (aA (pv 0) (aA aG aB))) aG (aS _)))).pt)).pt (aE (cB (cY (K:=K) rfl PySem.F.plainAttrs_list PySem.F.slot_list_append PySem.F.type_list_append cW (pv 3) (aA (pv 4) aB)))) bA)))
   (aE (aM (bY (aA (pv 2) (aA (bG (bJ (K:=K) rfl) (by rfl) T.b_tuple boot_tuple (aA (pv 3) aB)) aB)))))))),?_⟩
  have i1:(1:Int)≤(n:Nat):=by omega
  have i4:((n:Nat):Int)≤4:=by omega
  refine⟨_,rfl,(n:Nat),rfl,i1,i4,fun l H1 hl s1 e1=>?_⟩
  refine⟨_,rfl,_,rfl,_,_,rfl,rfl,.inl ⟨by decide,by decide⟩,fl,sc,_,rfl,hf.same s1,by omega,by omega,fun d H2 d0 d1 f2 k2=>?_⟩
  have hln:=jL i1 i4
  obtain⟨c,hc⟩:∃ c,(aQ (n:Nat))[d.toNat]?=some c:=⟨_,List.getElem?_eq_getElem (show d.toNat<(aQ (n:Nat)).length by omega)⟩
  have hcm:c∈aQ (n:Nat):=List.mem_of_getElem? hc
  have hcL:=aK hcm
  refine⟨l,_,_,.str (S [c]),rfl,rfl,SqL.of (k2 _ _ e1 (hf.ne hl)),gG d0 (pS hc),aI (by simp),fun sd hsd=>?_⟩
  have hsf:sd≠fl:=f2.ne hsd
  have hss:sd≠sc:=f2.ne2 hsd
  have k02:Kp fl H H2:=s1.kp.trans k2
  have hsd0:H sd=none:=k02.free hsd hsf
  refine⟨_,rfl,(n:Nat),rfl,i1,i4,fun l2 H3 hl2 s3 e3=>⟨l2,rfl,⟨_,SqL.of e3⟩,?_⟩⟩
  have hl2s:sd≠l2:=aH (aC (H:=H2) (a:=sd) (o:=HO.lst [])) hl2
  have hl2f:l2≠fl:=(f2.upd hsd).ne hl2
  refine CT (K:=K) (a:=l2) (xs:=aX (aQ (n:Nat))) (fun i σ H4=>∃ (v4:Option V) (w:List Nat),σ=[some (.ref fl),some (.int (n:Nat)),some (.str (S [c])),some (.ref sd),v4]∧IsFl H4 fl sc∧Kp fl H H4∧H4 l2=some (.lst (aX (aQ (n:Nat))))∧H4 sd=some (.lst (aX w))∧(∀ d∈w,d∈aQ (n:Nat)∧d≠con c)∧w.length≤i∧(c∈(aQ (n:Nat)).take i→c∈w)∧w.Sublist ((aQ (n:Nat)).take i)) ?_ ?_ ?_ ?_
  ·exact⟨none,[],rfl,(f2.upd hsd).same s3,(k02.upd hsd0).trans s3.kp,e3,s3 _ _ aC,fun d hd=>(nomatch hd),Nat.le_refl _,(fun h=>by simp at h),List.Sublist.refl []⟩
  ·rintro i _ H4 _ ⟨v4,w,rfl,f4,k4,e4,_⟩
   exact SqL.of e4
  ·rintro i v _ H4 hv ⟨v4,w,rfl,f4,k4,e4,es,hw,hwl,hin,hsub⟩
   obtain⟨o,ho,rfl⟩:∃ o,(aQ (n:Nat))[i]?=some o∧v=.str (S [o]):=by
    unfold aX at hv
    rw[List.getElem?_map] at hv
    cases hq:(aQ (n:Nat))[i]? with
    | none=>rw[hq] at hv;cases hv
    | some o=>rw[hq] at hv;exact⟨o,rfl,(Option.some.inj hv).symm⟩
   have hom:=List.mem_of_getElem? ho
   have hi:i<8:=by have:=(List.getElem?_eq_some_iff.mp ho).1;omega
   have tk:c∈(aQ (n:Nat)).take (i+1)→c∈(aQ (n:Nat)).take i∨c=o:=fun h=>by
    rw[cA ho] at h
    rcases List.mem_append.mp h with q | q
    ·exact .inl q
    ·exact .inr (List.mem_singleton.mp q)
   have app:o≠con c→∀ H5,IsFl H5 fl sc→Kp fl H H5→H5 l2=some (.lst (aX (aQ (n:Nat))))→H5 sd=some (.lst (aX w))→∃ (v4:Option V) (w':List Nat),[some (V.ref fl),some (.int (n:Nat)),some (.str (S [c])),some (.ref sd),some (.str (S [o]))]=[some (.ref fl),some (.int (n:Nat)),some (.str (S [c])),some (.ref sd),v4]∧IsFl (upd H5 sd (.lst (aX w++[.str (S [o])]))) fl sc∧Kp fl H (upd H5 sd (.lst (aX w++[.str (S [o])])))∧upd H5 sd (.lst (aX w++[.str (S [o])])) l2=some (.lst (aX (aQ (n:Nat))))∧upd H5 sd (.lst (aX w++[.str (S [o])])) sd=some (.lst (aX w'))∧(∀ d∈w',d∈aQ (n:Nat)∧d≠con c)∧w'.length≤i+1∧(c∈(aQ (n:Nat)).take (i+1)→c∈w')∧w'.Sublist ((aQ (n:Nat)).take (i+1)):=fun hoc H5 f5 k5 e5 es5=>by
    refine⟨_,w++[o],rfl,f5.set hsf hss,k5.upd hsd0,by rw[aJ hl2s.symm];exact e5,by rw[aC,cM],fun d hd=>?_,by rw[List.length_append,List.length_singleton];omega,fun h=>?_,(by rw[cA ho];exact hsub.append (List.Sublist.refl _))⟩
    ·rcases List.mem_append.mp hd with q | q
     ·exact hw d q
     ·rw[List.mem_singleton.mp q];exact⟨hom,hoc⟩
    ·rcases tk h with q | q
     ·exact List.mem_append_left _ (hin q)
     ·rw[q];simp
   refine⟨_,rfl,_,rfl,rfl,_,rfl,cJ (fun z=>kP ⟨_,rfl,.inl ⟨rfl,_,SqL.of es⟩,_,rfl,sd,_,_,rfl,rfl,es,by rw[bB];exact aW (by omega),app (by rw[eK] at z;have z':o=c:=(by simpa using z);rw[z'];exact(hV hcL).symm) H4 f4 k4 e4 es⟩) (fun z=>?_)⟩
   have hsub2:w.Sublist ((aQ (n:Nat)).take (i+1)):=by rw[cA ho];exact hsub.trans (List.sublist_append_left _ _)
   have zc:¬ c=o:=fun e=>z (by rw[eK,e];simp)
   have nin:c∈(aQ (n:Nat)).take (i+1)→c∈w:=fun h=>by
    rcases tk h with q | q
    ·exact hin q
    ·exact absurd q zc
   refine⟨_,rfl,_,rfl,c,rfl,hcL,fun H5 s5=>⟨rfl,_,rfl,cJ (fun y=>?_) (fun y=>eQ ?_)⟩⟩
   ·refine⟨_,rfl,fl,sc,2,rfl,f4.same s5,by decide,by decide,fun e H6 e0 e1 f6 k6=>⟨rfl,_,rfl,cJ (fun x=>?_) (fun x=>?_)⟩⟩
    ·have es6:=k6 _ _ (s5 _ _ es) hsf
     exact⟨_,rfl,.inl ⟨rfl,_,SqL.of es6⟩,_,rfl,sd,_,_,rfl,rfl,es6,by rw[bB];exact aW (by omega),app (fun e=>by rw[eK,e] at y;simp at y) H6 f6 ((k4.trans s5.kp).trans k6) (k6 _ _ (s5 _ _ e4) hl2f) es6⟩
    ·exact⟨_,w,rfl,f6,(k4.trans s5.kp).trans k6,k6 _ _ (s5 _ _ e4) hl2f,k6 _ _ (s5 _ _ es) hsf,hw,by omega,nin,hsub2⟩
   ·exact⟨_,w,rfl,f4.same s5,k4.trans s5.kp,s5 _ _ e4,s5 _ _ es,hw,by omega,nin,hsub2⟩
  ·rintro _ H4 ⟨v4,w,rfl,f4,k4,e4,es,hw,hwl,hin,hsub⟩
   rw[bB,List.take_length] at hin hsub
   rw[bB,hln] at hwl
   refine⟨_,rfl,_,rfl,sd,_,rfl,.inl ⟨SqL.of es,fun q hq=>⟨aI (by simp),fun p hp=>?_⟩⟩⟩
   have hqf:q≠fl:=f4.ne hq
   have hpf:p≠fl:=(f4.upd hq).ne hp
   have hq0:H q=none:=k4.free hq hqf
   have hp0:H p=none:=(k4.upd hq0).free hp hpf
   have hpq:q≠p:=aH (aC (H:=H4) (a:=q) (o:=HO.tup (aX w))) hp
   exact k p c w _ hp0 ⟨hcm,fun d hd=>(hw d hd).1,(BO h1 h4).sublist hsub,hin hcm,fun z=>(hw _ z).2 rfl⟩ (by omega) ⟨q,aC,by rw[aJ hpq];exact aC⟩ ((f4.upd hq).upd hp) ((k4.upd hq0).upd hp0)
theorem JJ{f:Addr}{fd:FuncData}(D:Df K mg "_law_change_told" G5 ["_law_n","_law_change"] f fd)(T:Txt P w K mg LC LD LE LF LG)(c_zu:Cl P w K mg base "_law_contrary" ["_law_letter"] 1 fA):Cl P w K mg base "_law_change_told" ["_law_n","_law_change"] 2 iX:=by
 refine D.cl (D.F.ok sc_zf (fun vs H Q E h=>?_) (fun cdv A outer s H vs Q E hr h=>?_))
 ·obtain⟨n,p,c,sd,rfl,_⟩:=h
  rfl
 ·obtain⟨n,p,c,sd,rfl,h1,h4,⟨q,ep,eq⟩,hc,hsd,k⟩:=h
  refine⟨_,(aD (gF (pv 1) (kH (K:=K) rfl rfl (cO (bE (i:=2) sc_zf.nd rfl (Or.inl rfl)) (cO (bE (i:=3) sc_zf.nd rfl (Or.inl rfl)) iK))))
   (aD (aL (i:=4) sc_zf.nd rfl (Or.inl rfl) (dG aB))
   (aD (dC PassesOwn.never rfl (kL (cG iO cD cT (cC (pv 0)))) (bE (i:=5) sc_zf.nd rfl (Or.inl rfl)) (aD (aL (i:=6) sc_zf.nd rfl (Or.inl rfl) (pv 5))
   (hX (bQ (aP iR (pv 5) (eY (K:=K) rfl PySem.F.plainAttrs_str PySem.F.slot_str_lower PySem.F.type_str_lower pN (pv 2)) (aS _)) (aD (aL (i:=6) sc_zf.nd rfl (Or.inl rfl) (aY cH (pv 5) (aY kI (pv 2) (bG rZ (by rfl) T.b_int boot_int (aA (dM (kF (K:=K) rfl) (pv 5) (pv 3) (by rfl)) aB)))))
   (aE (aL (i:=6) sc_zf.nd rfl (Or.inl rfl) (aY cH (aY kI (pC c_zu hr (aA (pv 2) aB)) (bG rZ (by rfl) T.b_int boot_int (aA (dM (kF (K:=K) rfl) (pC c_zu hr (aA (pv 5) aB)) (pv 3) (by rfl)) aB))) (pv 6))))) bA)
   (aE (cB (cY (K:=K) rfl PySem.F.plainAttrs_list PySem.F.slot_list_append PySem.F.type_list_append cW (pv 4) (aA (pv 6) aB)))))))
   (aE (aM (bG (bJ (K:=K) rfl) (by rfl) T.b_tuple boot_tuple (aA (pv 4) aB))))))),?_⟩
  refine⟨_,rfl,p,_,rfl,.inr (SqT.of ep),rfl,_,_,rfl,_,_,rfl,rfl,?_⟩
  refine⟨aI (by simp),fun l hl=>?_⟩
  refine⟨_,rfl,_,rfl,_,rfl,by decide +kernel,S (cP n),?_,?_⟩
  ·show V.str (Txt.slice (Str.ofString "abcd") none (some ((n:Nat):Int)))=_
   rw[CO,fR _ (by omega) (by simp;omega)]
   rfl
  refine oC (w:=cP n) (fun i σ H1=>∃ v5 v6:Option V,σ=[some (.int (n:Nat)),some (.ref p),some (.str (S [c])),some (.ref q),some (.ref l),v5,v6]∧Same H H1∧H1 l=some (.lst (bV (((cP n).take i).map (iU c sd))))) ⟨none,none,rfl,Same.new hl,aC⟩ ?_ ?_
  ·rintro i d σ H1 hd ⟨v5,v6,rfl,s1,e1⟩
   have hm:=List.mem_of_getElem? hd
   have hdL:=iA hm
   have hdl:=fX hm
   have hi:i<4:=by have:=(List.getElem?_eq_some_iff.mp hd).1;rw[fG h4] at this;omega
   have hc1:=fY hc
   refine⟨_,rfl,?_⟩
   refine⟨fun σ H2=>σ=[some (.int (n:Nat)),some (.ref p),some (.str (S [c])),some (.ref q),some (.ref l),some (.str (S [d])),some (.str (S (iU c sd d)))]∧Same H1 H2,?_,?_⟩
   ·refine⟨_,rfl,_,rfl,rfl,S [c],rfl,rfl,rM [c] hc1 (by simp),?_⟩
    rw[jN hc1]
    refine⟨rfl,_,rfl,?_⟩
    show if (!decide (V.str (S [d])=V.str (S [lo c])))=true then _ else _
    rw[HA]
    by_cases hlo:d=lo c
    ·rw[decide_eq_true hlo]
     have e:iU c sd d=[d]:=by unfold iU;rw[if_pos hlo]
     rw[e]
     exact eQ ⟨rfl,Same.refl _⟩
    ·rw[decide_eq_false hlo]
     refine kP ⟨_,rfl,_,rfl,_,rfl,_,rfl,q,aX sd,rfl,.inr (SqT.of (s1 _ _ eq)),rfl,gR sd,.inr ⟨_,rfl,?_⟩⟩
     refine⟨S [c],(if nT (.str (S [d])) (aX sd)=true then 1 else 0),rfl,rfl,zC _ _,?_⟩
     rw[FI,mW]
     have hu1:(if decide (d∈sd)=true then [c] else []).length≤1:=by split <;> simp
     have hu2:(if decide (d∈sd)=true then [c] else [])=(if d∈sd then [c] else []):=by simp only [decide_eq_true_iff]
     generalize (if decide (d∈sd)=true then [c] else [])=u at hu1 hu2
     refine⟨_,_,rfl,rfl,by rw[aT,aT];exact aI (by simp;omega),?_⟩
     rw[dI]
     refine⟨_,rfl,c,rfl,hc,fun H2 s2=>⟨_,rfl,d,rfl,hdL,fun H3 s3=>⟨_,rfl,q,aX sd,rfl,.inr (SqT.of (s3 _ _ (s2 _ _ (s1 _ _ eq)))),rfl,gR sd,.inr ⟨_,rfl,S [con c],(if nT (.str (S [con d])) (aX sd)=true then 1 else 0),rfl,rfl,zC _ _,?_⟩⟩⟩⟩
     rw[FI,mW]
     have hv1:(if decide (con d∈sd)=true then [con c] else []).length≤1:=by split <;> simp
     have hv2:(if decide (con d∈sd)=true then [con c] else [])=(if con d∈sd then [con c] else []):=by simp only [decide_eq_true_iff]
     generalize (if decide (con d∈sd)=true then [con c] else [])=v at hv1 hv2
     refine⟨_,rfl,_,_,rfl,rfl,by rw[aT,aT,List.length_append];exact aI (by simp;omega),?_,s2.trans s3⟩
     rw[dI,← List.append_assoc,hu2,hv2]
     have e:iU c sd d=(if con d∈sd then [con c] else [])++[d]++(if d∈sd then [c] else []):=by unfold iU;rw[if_neg hlo]
     rw[e]
     rfl
   rintro _ H2 ⟨rfl,s2⟩
   have e2:=s2 _ _ e1
   refine⟨_,rfl,.inl ⟨rfl,_,SqL.of e2⟩,_,rfl,l,_,_,rfl,rfl,e2,?_,_,_,rfl,(s1.trans s2).upd hl,?_⟩
   ·rw[bI,List.length_map,List.length_take];exact aW (by omega)
   ·rw[aC,cA hd,List.map_append]
    unfold bV
    rw[List.map_append]
    rfl
  ·rintro _ H1 ⟨v5,v6,rfl,s1,e1⟩
   rw[List.take_length] at e1
   exact⟨_,rfl,l,_,rfl,.inl ⟨SqL.of e1,fun t ht=>k t _ (s1.free ht) (s1.upd' ht) aC⟩⟩
theorem HK{f:Addr}{fd:FuncData}(D:Df K mg "rank_of" By ["letter"] f fd)(T:Txt P w K mg LC LD LE LF LG):Cl P w K mg base "rank_of" ["letter"] 1 wR:=by
 refine D.cl (D.F.ok Hd (fun vs H Q E h=>?_) (fun cdv A outer s H vs Q E hr h=>?_))
 ·obtain⟨c,rfl,_⟩:=h
  rfl
 ·obtain⟨c,rfl,hc,k⟩:=h
  refine⟨_,(aE (aM (aR (Dt T.t_RANKS) (jK (v:=.ref LF) (by rfl) T.m_RANKS rfl) (pv 0) (fun _ _=>rfl)))),?_⟩
  exact⟨_,rfl,rfl,_,rfl,.inr ⟨_,tY hc,k H (Same.refl H)⟩⟩
theorem Hf{f:Addr}{fd:FuncData}(D:Df K mg "ends_off" DM ["word"] f fd)(T:Txt P w K mg LC LD LE LF LG)(c_zq1:Cl P w K mg base "contrary" ["letter"] 1 fA):Cl P w K mg base "ends_off" ["word"] 2 Dv:=by
 refine D.cl (D.F.ok sc_zn1 (fun vs H Q E h=>?_) (fun cdv A outer s H vs Q E hr h=>?_))
 ·obtain⟨x,rfl,_⟩:=h
  rfl
 ·obtain⟨x,rfl,hx,hlen,k⟩:=h
  refine⟨_,(aD (aL (i:=1) sc_zn1.nd rfl (Or.inl rfl) aG)
   (aD (aL (i:=2) sc_zn1.nd rfl (Or.inl rfl) (aY kM (aO cQ (by rfl) T.b_len PySem.boot_len (aA (pv 0) aB)) aG))
   (aD (fM PassesOwn.never (pw_and (aP pW (pv 1) (aY kM (pv 2) (pv 1)) (aS _)) (pw_and1 (aP dA (aR mE (pv 0) (pv 1) (fun _ _=>rfl)) (pC c_zq1 hr (aA (aR mE (pv 0) (aY kM (pv 2) (pv 1)) (fun _ _=>rfl)) aB)) (aS _)))).pt (aE (mD (i:=1) sc_zn1.nd rfl (Or.inl rfl) aG mQ)))
   (aE (aM (pv 1)))))),?_⟩
  refine⟨_,rfl,_,rfl,by rw[aT];exact aI (by omega),_,_,rfl,rfl,?_⟩
  have getx:∀ i:Nat,i<x.length→x[i]?=some (x.getD i 0):=fun i hi=>by rw[List.getD_eq_getElem?_getD,List.getElem?_eq_getElem hi];rfl
  have isx:∀ i:Nat,i<x.length→bU (x.getD i 0):=fun i hi=>hx _ (List.mem_of_getElem? (getx i hi))
  refine⟨fun t σ H1=>∃ (m:Nat) (i1 i2:Int),i1=m∧i2=(x.length:Int) - 1∧t=x.length - m∧m≤x.length∧σ=[some (.str (S x)),some (.int i1),some (.int i2)]∧Same H H1∧∀ j,j<m→2 * j+1<x.length∧x.getD j 0=con (x.getD (x.length - 1 - j) 0),⟨x.length,0,0,_,rfl,by rw[aT],rfl,Nat.zero_le _,rfl,Same.refl H,fun j hj=>absurd hj (Nat.not_lt_zero _)⟩,?_⟩
  rintro t _ H1 ⟨m,i1,i2,e1,e2,rfl,hm,rfl,s1,hall⟩
  refine⟨_,rfl,_,rfl,_,rfl,_,_,rfl,rfl,_,_,rfl,rfl,_,rfl,cJ (fun q=>?_) (fun q=>eQ ?_)⟩
  ·have q':=of_decide_eq_true q
   have h2:2 * m+1<x.length:=by omega
   have hl2:bU (x.getD (x.length - 1 - m) 0):=isx _ (by omega)
   refine⟨_,rfl,_,rfl,_,_,x.getD m 0,rfl,rfl,by rw[aT];exact aI (by omega),Fv (by omega) (by rw[show i1.toNat=m by omega];exact getx m (by omega)),_,rfl,_,rfl,_,rfl,_,_,rfl,rfl,_,_,x.getD (x.length - 1 - m) 0,rfl,rfl,by rw[aT];exact aI (by omega),Fv (by omega) (by rw[show (i2 - i1).toNat=x.length - 1 - m by omega];exact getx _ (by omega)),_,rfl,hl2,fun H2 s2=>⟨rfl,_,rfl,?_⟩⟩
   rw[eK]
   refine cJ (fun z=>?_) (fun z=>?_)
   ·have z':x.getD m 0=con (x.getD (x.length - 1 - m) 0):=by simpa using z
    refine⟨fun σ' H'=>∃ (i1 i2:Int),i1=(m+1:Nat)∧i2=(x.length:Int) - 1∧σ'=[some (.str (S x)),some (.int i1),some (.int i2)]∧Same H H',fun σ' H' ⟨j1,j2,a1,a2,a3,a4⟩=>⟨x.length - (m+1),by omega,m+1,j1,j2,a1,a2,rfl,by omega,a3,a4,fun j hj=>?_⟩,?_⟩
    ·by_cases c:j=m
     ·subst c;exact⟨h2,z'⟩
     ·exact hall j (by omega)
    ·exact⟨_,rfl,_,_,rfl,rfl,_,_,(by show i1+1=((m+1:Nat):Int);omega),e2,rfl,s1.trans s2⟩
   ·have z':¬ x.getD m 0=con (x.getD (x.length - 1 - m) 0):=by simpa using z
    refine⟨_,rfl,?_⟩
    rw[e1]
    exact k m H2 ⟨hall,fun c=>z' c.2⟩ (s1.trans s2)
  ·have q':¬ i1<i2 - i1:=fun c=>q (decide_eq_true c)
   refine⟨_,rfl,?_⟩
   rw[e1]
   exact k m H1 ⟨hall,fun c=>q' (by omega)⟩ s1
theorem J1{f:Addr}{fd:FuncData}(D:Df K mg "least_begin" EY ["word"] f fd)(T:Txt P w K mg LC LD LE LF LG)(c_zx1:Cl P w K mg base "rank_of" ["letter"] 1 wR):Cl P w K mg base "least_begin" ["word"] 2 zS:=by
 refine D.cl (D.F.ok sc_z3 (fun vs H Q E h=>?_) (fun cdv A outer s H vs Q E hr h=>?_))
 ·obtain⟨x,rfl,_⟩:=h
  rfl
 ·obtain⟨x,rfl,hx,hlen,k⟩:=h
  refine⟨_,(aD (qC (i:=1) (sc0:=aF EY) (N:=["word","ranks","size","one","other","like","left","right"]) (ix:=[]) sc_z3.nd rfl rfl (by decide +kernel) rfl rfl rfl (kL (pv 0)) (fun _ _ _=>bF) (fun _ _ _=>(pC c_zx1 hr (aA (pv 0) aB))))
   (aD (aL (i:=2) sc_z3.nd rfl (Or.inl rfl) (aO (bH (K:=K) rfl) (by rfl) T.b_len PySem.boot_len (aA (pv 1) aB)))
   (aD (aL (i:=3) sc_z3.nd rfl (Or.inl rfl) aG)
   (aD (aL (i:=4) sc_z3.nd rfl (Or.inl rfl) aG)
   (aD (aL (i:=5) sc_z3.nd rfl (Or.inl rfl) aG)
   (aD (fM PassesOwn.never (pw_and (aP pW (pv 3) (pv 2) (aS _)) (pw_and (aP pW (pv 4) (pv 2) (aS _)) (pw_and1 (aP pW (pv 5) (pv 2) (aS _))))).pt (aD (aL (i:=6) sc_z3.nd rfl (Or.inl rfl) (aR (aU (K:=K) rfl) (pv 1) (aY iB (aY cV (pv 3) (pv 5)) (pv 2)) (fun _ _=>rfl)))
   (aD (aL (i:=7) sc_z3.nd rfl (Or.inl rfl) (aR (aU (K:=K) rfl) (pv 1) (aY iB (aY cV (pv 4) (pv 5)) (pv 2)) (fun _ _=>rfl)))
   (aD (bQ (aP dA (pv 6) (pv 7) (aS _)) (aD (mD (i:=5) sc_z3.nd rfl (Or.inl rfl) aG mQ)
   (aE vI)) bA)
   (hX (bQ (aP nC (pv 6) (pv 7) (aS _)) (aE (mD (i:=3) sc_z3.nd rfl (Or.inl rfl) (aY cV (pv 5) aG) mQ)) (aE (mD (i:=4) sc_z3.nd rfl (Or.inl rfl) (aY cV (pv 5) aG) mQ)))
   (hX (bQ (aP dA (pv 3) (pv 4) (aS _)) (aE (mD (i:=4) sc_z3.nd rfl (Or.inl rfl) aG mQ)) bA)
   (aE (aL (i:=5) sc_z3.nd rfl (Or.inl rfl) aG))))))))
   (aE (aM (aO (Az rfl) (by rfl) T.b_min boot_min (aA (pv 3) (aA (pv 4) aB))))))))))),?_⟩
  refine⟨_,rfl,S x,rfl,fun Dd hD=>kN (w:=x) (fun i H1=>Same H H1∧H1 Dd=some (.lst ((x.take i).map fun c=>V.int (rk c:Nat)))) ⟨Same.new hD,aC⟩ ?_ ?_⟩
  ·rintro i c H1 hc ⟨s1,e1⟩
   have hi:i<x.length:=(List.getElem?_eq_some_iff.mp hc).1
   refine⟨_,rfl,c,rfl,hx c (List.mem_of_getElem? hc),fun H2 s2=>⟨_,s2 _ _ e1,?_,(s1.trans s2).upd hD,?_⟩⟩
   ·rw[List.length_map,List.length_take];exact Gs (by omega)
   ·rw[aC,cA hc,List.map_append];rfl
  rintro H1 ⟨s1,e1⟩
  rw[List.take_length] at e1
  refine⟨_,rfl,Dd,_,rfl,.inl (SqL.of e1),?_⟩
  have atx:∀ i:Nat,0<x.length→tR (x.map fun c=>V.int (rk c:Nat)) (((i % x.length:Nat)):Int)=some (.int (gr x i:Nat)):=fun i hn=>by
   have hi:i % x.length<x.length:=Nat.mod_lt _ hn
   refine lO ?_
   rw[List.getElem?_map,List.getElem?_eq_getElem hi]
   unfold gr
   rw[List.getD_eq_getElem?_getD,List.getElem?_eq_getElem hi]
   rfl
  refine⟨fun t σ H2=>∃ (o1 o2 li:Nat) (i0 i1 i2 i3:Int) (v6 v7:Option V),i0=x.length∧i1=o1∧i2=o2∧i3=li∧t=3 * x.length - (o1+o2+li)∧σ=[some (.str (S x)),some (.ref Dd),some (.int i0),some (.int i1),some (.int i2),some (.int i3),v6,v7]∧MaR.Walk (gr x) x.length o1 o2 li∧(x=[]→o1=0)∧Same H H2∧H2 Dd=some (.lst (x.map fun c=>V.int (rk c:Nat))),
   ⟨_,0,1,0,_,0,1,0,none,none,by rw[List.length_map],rfl,rfl,rfl,rfl,rfl,MaR.walk_start,fun _=>rfl,s1,e1⟩,?_⟩
  rintro t _ H2 ⟨o1,o2,li,i0,i1,i2,i3,v6,v7,a0,a1,a2,a3,rfl,rfl,wk,w0,s2,e2⟩
  have fin:¬ (o1<x.length∧o2<x.length∧li<x.length)→Q (.int (if i2<i1 then i2 else i1)) H2:=fun hend=>by
   have e:(if i2<i1 then i2 else i1)=((min o1 o2:Nat):Int):=by split <;> omega
   rw[e]
   refine k _ H2 ?_ s2
   by_cases hn:x.length=0
   ·have hx0:x=[]:=List.length_eq_zero_iff.mp hn
    exact .inl ⟨hx0,by rw[w0 hx0];omega⟩
   ·exact .inr (MaR.walk_end (qL x) (by omega) wk hend)
  refine⟨_,rfl,_,rfl,_,_,rfl,rfl,_,rfl,cJ (fun q1=>?_) (fun q1=>eQ ⟨_,rfl,_,rfl,_,_,rfl,fin fun c=>q1 (decide_eq_true (by omega))⟩)⟩
  refine⟨_,rfl,_,rfl,_,_,rfl,rfl,_,rfl,cJ (fun q2=>?_) (fun q2=>eQ ⟨_,rfl,_,rfl,_,_,rfl,fin fun c=>q2 (decide_eq_true (by omega))⟩)⟩
  refine⟨_,rfl,_,rfl,_,_,rfl,rfl,_,rfl,cJ (fun q3=>?_) (fun q3=>⟨_,rfl,_,rfl,_,_,rfl,fin fun c=>q3 (decide_eq_true (by omega))⟩)⟩
  have p1:=of_decide_eq_true q1
  have p2:=of_decide_eq_true q2
  have p3:=of_decide_eq_true q3
  have hn:0<x.length:=by omega
  refine⟨fun σ' H'=>∃ (o1' o2' li':Nat) (i0 i1 i2 i3:Int) (v6 v7:Option V),i0=x.length∧i1=o1'∧i2=o2'∧i3=li'∧o1+o2+li<o1' + o2' + li'∧σ'=[some (.str (S x)),some (.ref Dd),some (.int i0),some (.int i1),some (.int i2),some (.int i3),v6,v7]∧MaR.Walk (gr x) x.length o1' o2' li'∧Same H H'∧H' Dd=some (.lst (x.map fun c=>V.int (rk c:Nat))),
   fun σ' H' ⟨o1',o2',li',j0,j1,j2,j3,v6,v7,b0,b1,b2,b3,b4,b5,b6,b7,b8⟩=>⟨3 * x.length - (o1' + o2' + li'),by omega,o1',o2',li',j0,j1,j2,j3,v6,v7,b0,b1,b2,b3,rfl,b5,b6,fun z=>absurd (List.length_eq_zero_iff.mpr z) (by omega),b7,b8⟩,?_⟩
  have m1:(i1+i3) % i0=(((o1+li) % x.length:Nat):Int):=by rw[a0,a1,a3];norm_cast
  have m2:(i2+i3) % i0=(((o2+li) % x.length:Nat):Int):=by rw[a0,a2,a3];norm_cast
  refine⟨_,rfl,_,rfl,_,rfl,_,_,rfl,rfl,_,rfl,_,_,rfl,rfl,by omega,Dd,_,_,_,rfl,rfl,SqL.of e2,by rw[m1];exact atx (o1+li) hn,?_⟩
  refine⟨_,rfl,_,rfl,_,rfl,_,_,rfl,rfl,_,rfl,_,_,rfl,rfl,by omega,Dd,_,_,_,rfl,rfl,SqL.of e2,by rw[m2];exact atx (o2+li) hn,?_⟩
  refine⟨_,rfl,_,rfl,rfl,_,rfl,cJ (fun z=>?_) (fun z=>?_)⟩
  ·have z':gr x (o1+li)=gr x (o2+li):=by
    have:=V.int.inj (of_decide_eq_true z)
    omega
   exact⟨_,rfl,_,_,rfl,rfl,o1,o2,li+1,i0,i1,i2,_,_,_,a0,a1,a2,(by show i3+1=((li+1:Nat):Int);omega),by omega,rfl,MaR.walk_like wk z',s2,e2⟩
  have z':¬ gr x (o1+li)=gr x (o2+li):=fun c=>z (decide_eq_true (by rw[c]))
  refine⟨fun σ' H'=>H'=H2∧∃ (j1 j2:Int) (v6 v7:Option V),σ'=[some (.str (S x)),some (.ref Dd),some (.int i0),some (.int j1),some (.int j2),some (.int i3),v6,v7]∧((j1=(o1+li+1:Nat)∧j2=o2∧gr x (o2+li)<gr x (o1+li))∨(j1=o1∧j2=(o2+li+1:Nat)∧gr x (o1+li)<gr x (o2+li))),?_,?_⟩
  ·refine⟨_,rfl,_,rfl,_,_,rfl,rfl,_,rfl,cJ (fun y=>?_) (fun y=>?_)⟩
   ·have y':=of_decide_eq_true y
    exact⟨_,rfl,_,rfl,_,_,rfl,rfl,_,_,rfl,rfl,rfl,_,_,_,_,rfl,.inl ⟨(by show i1+(i3+1)=((o1+li+1:Nat):Int);omega),a2,by omega⟩⟩
   ·have y':¬ ((gr x (o2+li):Nat):Int)<((gr x (o1+li):Nat):Int):=fun c=>y (decide_eq_true c)
    exact⟨_,rfl,_,rfl,_,_,rfl,rfl,_,_,rfl,rfl,rfl,_,_,_,_,rfl,.inr ⟨a1,(by show i2+(i3+1)=((o2+li+1:Nat):Int);omega),by omega⟩⟩
  rintro _ H9 ⟨hH,j1,j2,u6,u7,rfl,hj⟩
  rw[hH]
  refine⟨fun σ' H'=>H'=H2∧∃ (l1 l2:Int) (o1' o2':Nat) (v6 v7:Option V),σ'=[some (.str (S x)),some (.ref Dd),some (.int i0),some (.int l1),some (.int l2),some (.int i3),v6,v7]∧l1=o1'∧l2=o2'∧o1+o2+li<o1' + o2'∧MaR.Walk (gr x) x.length o1' o2' 0,?_,?_⟩
  ·refine⟨_,rfl,_,rfl,rfl,_,rfl,?_⟩
   rcases hj with ⟨c1,c2,c3⟩ | ⟨c1,c2,c3⟩
   ·have wn:=MaR.walk_one (qL x) hn wk (by omega) c3
    refine cJ (fun y=>?_) (fun y=>?_)
    ·have y':j1=j2:=V.int.inj (of_decide_eq_true y)
     rw[if_pos (by omega)] at wn
     exact⟨_,rfl,_,_,rfl,rfl,rfl,_,_,_,_,_,_,rfl,c1,(by show j2+1=((o2+1:Nat):Int);omega),by omega,wn⟩
    ·have y':¬ j1=j2:=fun c=>y (decide_eq_true (by rw[c]))
     rw[if_neg (by omega)] at wn
     exact⟨rfl,_,_,_,_,_,_,rfl,c1,c2,by omega,wn⟩
   ·have wn:=MaR.walk_other (qL x) hn wk (by omega) c3
    refine cJ (fun y=>?_) (fun y=>?_)
    ·have y':j1=j2:=V.int.inj (of_decide_eq_true y)
     rw[if_pos (by omega)] at wn
     exact⟨_,rfl,_,_,rfl,rfl,rfl,_,_,_,_,_,_,rfl,c1,(by show j2+1=((o2+li+1+1:Nat):Int);omega),by omega,wn⟩
    ·have y':¬ j1=j2:=fun c=>y (decide_eq_true (by rw[c]))
     rw[if_neg (by omega)] at wn
     exact⟨rfl,_,_,_,_,_,_,rfl,c1,c2,by omega,wn⟩
  rintro _ H9 ⟨hH,l1,l2,o1',o2',u6,u7,rfl,d1,d2,d3,d4⟩
  rw[hH]
  exact⟨o1',o2',0,i0,l1,l2,0,_,_,a0,d1,d2,rfl,by omega,rfl,d4,s2,e2⟩
theorem HL{f:Addr}{fd:FuncData}(D:Df K mg "ring_of" Dr ["word"] f fd)(T:Txt P w K mg LC LD LE LF LG)(c_zn1:Cl P w K mg base "ends_off" ["word"] 2 Dv)(c_z3:Cl P w K mg base "least_begin" ["word"] 2 zS):Cl P w K mg base "ring_of" ["word"] 3 uK:=by
 refine D.cl (D.F.ok sc_zz1 (fun vs H Q E h=>?_) (fun cdv A outer s H vs Q E hr h=>?_))
 ·obtain⟨x,rfl,_⟩:=h
  rfl
 ·obtain⟨x,rfl,hx,hlen,k⟩:=h
  refine⟨_,(aD (aL (i:=1) sc_zz1.nd rfl (Or.inl rfl) (pC c_zn1 hr (aA (pv 0) aB)))
   (aD (aL (i:=2) sc_zz1.nd rfl (Or.inl rfl) (cG iO (pv 0) (cC (pv 1)) (cC (aY kM (aO cQ (by rfl) T.b_len PySem.boot_len (aA (pv 0) aB)) (pv 1)))))
   (aD (aL (i:=3) sc_zz1.nd rfl (Or.inl rfl) (pC c_z3 hr (aA (pv 2) aB)))
   (aE (aM (aY cH (cG iO (pv 2) (cC (pv 3)) cT) (cG iO (pv 2) cT (cC (pv 3))))))))),?_⟩
  refine⟨_,rfl,x,rfl,hx,hlen,fun m H1 hm s1=>?_⟩
  have h2:=hm.le
  have ml:=hJ h2
  have sl:Txt.slice (S x) (some ((m:Nat):Int)) (some (((S x).length:Int) - ((m:Nat):Int)))=S (gT x m):=by
   rw[aT,vS x (by omega) (by omega) (by omega)]
   unfold gT
   congr 2
   omega
  refine⟨_,rfl,_,rfl,_,rfl,_,rfl,_,rfl,by rw[aT];exact aI (by omega),_,rfl,_,_,rfl,rfl,_,rfl,_,rfl,by rw[aT];exact aI (by omega),?_⟩
  dsimp only
  rw[sl]
  refine⟨_,rfl,gT x m,rfl,jP hx,by omega,fun b H2 hb s2=>?_⟩
  have hbl:=hb.le
  refine⟨_,rfl,_,rfl,_,rfl,_,rfl,by rw[aT];exact aI (by omega),_,rfl,_,rfl,_,rfl,_,rfl,by rw[aT];exact aI (by omega),_,_,rfl,rfl,?_,?_⟩
  ·rw[iD _ (by omega) (by omega),fR _ (by omega) (by omega),aT,aT,List.length_drop,List.length_take];exact aI (by omega)
  ·rw[iD _ (by omega) (by omega),fR _ (by omega) (by omega),dI]
   exact k _ H2 ⟨m,b,hm,hb,by unfold eI;rw[show ((b:Nat):Int).toNat=b by omega]⟩ (s1.trans s2)
theorem HI{f:Addr}{fd:FuncData}(D:Df K mg "letters_of" BD ["n"] f fd)(T:Txt P w K mg LC LD LE LF LG):Cl P w K mg base "letters_of" ["n"] 1 (B6 K):=by
 refine D.cl (D.F.ok GZ (fun vs H Q E h=>?_) (fun cdv A outer s H vs Q E hr h=>?_))
 ·obtain⟨n,rfl,_⟩:=h
  rfl
 ·obtain⟨n,rfl,h1,h4,k⟩:=h
  refine⟨_,(aE (aM (cG (Ej (K:=K) rfl) (jK (v:=.ref LE) (by rfl) T.m_LETTERS rfl) cT (cC (aY kK aG (pv 0)))))),?_⟩
  refine⟨_,rfl,_,_,rfl,rfl,.inl ⟨by decide,by decide⟩,_,rfl,LE,letV,2 * n,rfl,T.t_LETTERS _,rfl,?_,?_,fun _ p hp=>?_,fun e=>?_⟩
  ·show some (2 * ((n:Nat):Int))=_;congr 1
  ·rw[vC];omega
  ·exact k p _ (Same.new hp) (by rw[← sV h1 h4];exact SqT.of aC)
  ·refine k _ _ (Same.refl H) ?_
   rw[← sV h1 h4,List.take_of_length_le (by omega)]
   exact T.t_LETTERS _
theorem Ke{f:Addr}{fd:FuncData}(D:Df K mg "first_letters" GV ["n"] f fd)(T:Txt P w K mg LC LD LE LF LG):Cl P w K mg base "first_letters" ["n"] 1 gB:=by
 refine D.cl (D.F.ok Jd (fun vs H Q E h=>?_) (fun cdv A outer s H vs Q E hr h=>?_))
 ·obtain⟨n,rfl,_⟩:=h
  rfl
 ·obtain⟨n,rfl,h1,h4,k⟩:=h
  refine⟨_,(aE (aM (qZ (B9 (K:=K) rfl) (jK (v:=.ref LE) (by rfl) T.m_LETTERS rfl) cT (cC (aY kK aG (pv 0))) (cC aG)))),?_⟩
  refine⟨_,rfl,_,_,rfl,rfl,.inl ⟨by decide,by decide⟩,_,rfl,_,rfl,LE,letV,2 * n,rfl,T.t_LETTERS _,rfl,?_,rfl,?_,fun p hp=>?_⟩
  ·show some (2 * ((n:Nat):Int))=_;congr 1
  ·rw[vC];omega
  ·rw[AW h1 h4]
   exact k p _ hp (Same.new hp) aC
theorem GE{f:Addr}{fd:FuncData}(D:Df K mg "told_same" BI ["n"] f fd)(T:Txt P w K mg LC LD LE LF LG)(c_zp:Cl P w K mg base "first_letters" ["n"] 1 gB):Cl P w K mg base "told_same" ["n"] 2 gB:=by
 refine D.cl (D.F.ok Hw (fun vs H Q E h=>?_) (fun cdv A outer s H vs Q E hr h=>?_))
 ·obtain⟨n,rfl,_⟩:=h
  rfl
 ·obtain⟨n,rfl,h1,h4,k⟩:=h
  refine⟨_,(aE (aM (pC c_zp hr (aA (pv 0) aB)))),?_⟩
  exact⟨_,rfl,n,rfl,h1,h4,k⟩
theorem IH{f:Addr}{fd:FuncData}(D:Df K mg "words_by_letter" G9 ["retelling"] f fd)(T:Txt P w K mg LC LD LE LF LG)(c_zp:Cl P w K mg base "first_letters" ["n"] 1 gB)(c_zq1:Cl P w K mg base "contrary" ["letter"] 1 fA)(c_z1:Cl P w K mg base "turned_back" ["word"] 2 iY):Cl P w K mg base "words_by_letter" ["retelling"] 3 (Fp K):=by
 refine D.cl (D.F.ok sc_zi (fun vs H Q E h=>?_) (fun cdv A outer s H vs Q E hr h=>?_))
 ·obtain⟨a,rs,n,M,rfl,_⟩:=h
  rfl
 ·obtain⟨a,rs,n,M,rfl,hq,hr0,h1,h4,hM,k⟩:=h
  refine⟨_,(aD (aL (i:=1) sc_zi.nd rfl (Or.inl rfl) vL)
   (aD (dC PassesOwn.never rfl (CK (K:=K) rfl (by rfl) T.b_zip (aA (pC c_zp hr (aA (aO (bH (K:=K) rfl) (by rfl) T.b_len PySem.boot_len (aA (pv 0) aB)) aB)) (aA (pv 0) aB))) (kH (K:=K) rfl rfl (cO (bE (i:=2) sc_zi.nd rfl (Or.inl rfl)) (cO (bE (i:=3) sc_zi.nd rfl (Or.inl rfl)) iK))) (aD (oN (Nat.lt_of_le_of_lt (Nat.add_le_add_left (by decide:1≤64) _) hr.units) (pv 1) (pv 2) (pv 3) (by rfl))
   (aE (oN (Nat.lt_of_le_of_lt (Nat.add_le_add_left (by decide:1≤64) _) hr.units) (pv 1) (pC c_zq1 hr (aA (pv 2) aB)) (pC c_z1 hr (aA (pv 3) aB)) (by rfl)))))
   (aE (aM (pv 1))))),?_⟩
  refine fun p hp=>?_
  have hq1:SqT K (upd H p (.dK [])) a (bV rs):=Lw.SqT.new hq hp
  refine⟨_,rfl,a,_,rfl,.inr hq1,n,by rw[bI,hr0.len];rfl,h1,h4,fun t H1 ht s1 et=>⟨_,rfl,t,a,rfl,⟨_,SqT.of et⟩,⟨_,L2.SqT.same s1 hq1⟩,?_⟩⟩
  have ll:(cK n).length=n:=(gC h1 h4).len
  have hpt:p≠t:=aH (aC (H:=H) (a:=p) (o:=HO.dK [])) ht
  refine Am (K:=K) (t:=t) (u:=a) (xs:=bV (cK n)) (ys:=bV rs) (fun i σ H2=>∃ (v2 v3:Option V) (kvs:List (bW×V)),σ=[some (.ref a),some (.ref p),v2,v3]∧Same H H2∧H2 p=some (.dK kvs)∧H2 t=some (.tup (bV (cK n)))∧kvs.length≤2 * i∧EK kvs rs i) ?_ ?_ ?_ ?_
  ·exact⟨none,none,[],rfl,(Same.new hp).trans s1,s1 _ _ aC,et,Nat.le_refl _,fun j hj=>absurd hj (Nat.not_lt_zero _)⟩
  ·rintro i _ H2 _ ⟨v2,v3,kvs,rfl,s2,e2,t2,_⟩
   exact⟨SqT.of t2,L2.SqT.same s2 hq⟩
  ·rintro i x y q _ H2 hx hy hq2 ⟨v2,v3,kvs,rfl,s2,e2,t2,hl,htab⟩
   obtain⟨rfl,hi⟩:=lD h4 hx
   obtain⟨r,hri,rfl⟩:=dZ hy
   have hra:=hr0.all r (List.mem_of_getElem? hri)
   have hrl:=hr0.le r (List.mem_of_getElem? hri)
   have hcL:bU (97+i):=by unfold bU;omega
   have e3:upd H2 q (.tup [.str (S [97+i]),.str (S r)]) p=some (.dK kvs):=by rw[aJ (aH e2 hq2)];exact e2
   have s3:Same H (upd H2 q (.tup [.str (S [97+i]),.str (S r)])):=s2.upd' hq2
   have t3:upd H2 q (.tup [.str (S [97+i]),.str (S r)]) t=some (.tup (bV (cK n))):=by rw[aJ (aH t2 hq2)];exact t2
   refine⟨q,_,rfl,.inr (SqT.of aC),rfl,_,_,rfl,_,_,rfl,rfl,?_⟩
   generalize upd H2 q (.tup [.str (S [97+i]),.str (S r)])=H3 at e3 s3 t3
   refine⟨_,rfl,_,rfl,_,rfl,p,_,rfl,DPut.k (k:=.inr (S [97+i])) e3 (aW (by omega)),?_⟩
   have s4:Same H (upd H3 p (.dK (dR kvs (.inr (S [97+i])) (.str (S r))))):=s3.upd hp
   have t4:upd H3 p (.dK (dR kvs (.inr (S [97+i])) (.str (S r)))) t=some (.tup (bV (cK n))):=by rw[aJ hpt.symm];exact t3
   have e4:upd H3 p (.dK (dR kvs (.inr (S [97+i])) (.str (S r)))) p=some (.dK (dR kvs (.inr (S [97+i])) (.str (S r)))):=aC
   generalize upd H3 p (.dK (dR kvs (.inr (S [97+i])) (.str (S r))))=H4 at s4 t4 e4
   have l1:=dB kvs (.inr (S [97+i])) (.str (S r))
   have l2:=dB (dR kvs (.inr (S [97+i])) (.str (S r))) (.inr (S [con (97+i)])) (.str (S (back r)))
   refine⟨_,rfl,r,rfl,hra,by omega,fun H5 s5=>⟨_,rfl,_,rfl,97+i,rfl,hcL,fun H6 s6=>⟨p,_,rfl,DPut.k (k:=.inr (S [con (97+i)])) (s6 _ _ (s5 _ _ e4)) (aW (by omega)),?_⟩⟩⟩
   exact⟨_,_,_,rfl,((s4.trans s5).trans s6).upd hp,aC,by rw[aJ hpt.symm];exact s6 _ _ (s5 _ _ t4),by omega,Ef hri (by omega) htab⟩
  ·rintro _ H2 ⟨v2,v3,kvs,rfl,s2,e2,t2,hl,htab⟩
   have em:min (bV (cK n)).length (bV rs).length=n:=by rw[bI,bI,ll,hr0.len,Nat.min_self]
   rw[em] at htab
   exact⟨_,rfl,k p kvs H2 hp s2 e2 (Ec hr0.len h1 h4 htab)⟩
theorem GD{f:Addr}{fd:FuncData}(D:Df K mg "retold" yU ["retelling","word"] f fd)(T:Txt P w K mg LC LD LE LF LG)(c_zw1:Cl P w K mg base "laid_out" ["text"] 2 rQ)(c_zi:Cl P w K mg base "words_by_letter" ["retelling"] 3 (Fp K)):Cl P w K mg base "retold" ["retelling","word"] 4 (iZ K):=by
 refine D.cl (D.F.ok sc_z21 (fun vs H Q E h=>?_) (fun cdv A outer s H vs Q E hr h=>?_))
 ·obtain⟨a,rs,n,M,x,rfl,_⟩:=h
  rfl
 ·obtain⟨a,rs,n,M,x,rfl,hq,hr0,h1,h4,hM,hox,hxl,hxm,k⟩:=h
  refine⟨_,(aD (aL (i:=2) sc_z21.nd rfl (Or.inr rfl) (pC c_zi hr (aA (pv 0) aB)))
   (aE (aM (pC c_zw1 hr (aA (cY (K:=K) rfl PySem.F.plainAttrs_str PySem.F.slot_str_join PySem.F.type_str_join (jF (K:=K) rfl) cD (aA (bL (sc0:=aF yU) (N:=["retelling","word","told"]) (ix:=[2]) (by decide +kernel) rfl rfl rfl (kL (pv 1)) (fun _ _ _=>bF) (fun _ _ _=>(sY (Nat.lt_of_le_of_lt (Nat.add_le_add_left (by decide:1≤64) _) hr.units) (pv 1) (pv 0) (fun _ _=>rfl)))) aB)) aB))))),?_⟩
  refine⟨_,rfl,a,rs,n,M,rfl,hq,hr0,h1,h4,hM,fun p kvs H1 hp s1 e1 htab=>?_⟩
  have tl:=lS hr0 x
  have ta:=dQ hr0 x
  refine⟨rfl,_,rfl,S x,rfl,fun Dd hD=>kN (w:=x) (fun i H2=>Same H1 H2∧H2 Dd=some (.lst (bV ((x.take i).map (tell rs))))) ⟨Same.new hD,aC⟩ ?_ ?_⟩
  ·rintro i c H2 hc ⟨s2,e2⟩
   have hi:i<x.length:=(List.getElem?_eq_some_iff.mp hc).1
   have hcn:c∈aQ rs.length:=by rw[hr0.len];exact hox c (List.mem_of_getElem? hc)
   refine⟨_,rfl,_,rfl,p,.str (S (tell rs c)),rfl,?_,_,e2,?_,s2.upd hD,?_⟩
   ·have:=DGet.k (k:=.inr (S [c])) (s2 _ _ e1)
    rw[htab c hcn] at this
    exact this
   ·rw[bI,List.length_map,List.length_take];exact Nat.lt_of_lt_of_le (show _<100000 by omega) (aI (Nat.le_refl _))
   ·rw[aC,cA hc,List.map_append]
    unfold bV
    rw[List.map_append]
    rfl
  ·rintro H2 ⟨s2,e2⟩
   rw[List.take_length] at e2
   have e3:SqL K H2 Dd (((x.map (tell rs)).map S).map V.str):=by
    have:((x.map (tell rs)).map S).map V.str=bV (x.map (tell rs)):=by unfold bV;rw[List.map_map];rfl
    rw[this];exact SqL.of e2
   have ef:(x.map (tell rs)).flatten=told rs x:=by unfold told;rw[List.flatMap_def]
   refine⟨_,Dd,_,rfl,rfl,e3,?_,told rs x,?_,ta,by omega,fun H3 s3=>k H3 ((s1.trans s2).trans s3)⟩
   ·rw[zD,ef,fQ,aT]
    simp
    omega
   ·rw[fQ,xA,ef];rfl
theorem GP{f:Addr}{fd:FuncData}(D:Df K mg "told_then" zQ ["one","other"] f fd)(T:Txt P w K mg LC LD LE LF LG)(c_z21:Cl P w K mg base "retold" ["retelling","word"] 4 (iZ K)):Cl P w K mg base "told_then" ["one","other"] 5 (CY K):=by
 refine D.cl (D.F.ok HE (fun vs H Q E h=>?_) (fun cdv A outer s H vs Q E hr h=>?_))
 ·obtain⟨a,b,f,s,n,M,L,rfl,_⟩:=h
  rfl
 ·obtain⟨a,b,f0,s0,n,M,L,rfl,ha,hb,hf0,hs0,hfo,h1,h4,hM,hL,hML,k⟩:=h
  refine⟨_,(aE (aM (bG (bJ (K:=K) rfl) (by rfl) T.b_tuple boot_tuple (aA (bL (sc0:=aF zQ) (N:=["one","other"]) (ix:=[1]) (by decide +kernel) rfl rfl rfl (cS (K:=K) rfl (pv 0)) (fun _ _ _=>bF) (fun _ _ _=>(pC c_z21 hr (aA (pv 1) (aA (pv 0) aB))))) aB)))),?_⟩
  refine⟨_,rfl,a,rfl,⟨_,ha⟩,fun Dd hD=>cI (xs:=bV f0) (fun i H1=>Same H H1∧H1 Dd=some (.lst (bV ((f0.take i).map (retl s0))))) ⟨Same.new hD,aC⟩ (fun i H1 _ h=>L2.SqT.same h.1 ha) ?_ ?_⟩
  ·rintro i v H1 hv ⟨s1,e1⟩
   obtain⟨x,hx,rfl⟩:=dZ hv
   have hxm:=List.mem_of_getElem? hx
   have hi:i<f0.length:=(List.getElem?_eq_some_iff.mp hx).1
   have hxl:=hf0.le x hxm
   refine⟨_,rfl,_,rfl,b,s0,n,L,x,rfl,L2.SqT.same s1 hb,hs0,h1,h4,hL,hfo x hxm,by omega,Nat.le_trans (Nat.mul_le_mul_right _ hxl) (Nat.le_trans hML (by decide)),fun H2 s2=>⟨_,s2 _ _ e1,?_,(s1.trans s2).upd hD,?_⟩⟩
   ·have:=hf0.len
    rw[bI,List.length_map,List.length_take];exact aW (by omega)
   ·rw[aC,List.take_add_one,hx,List.map_append]
    unfold bV
    rw[List.map_append]
    rfl
  ·rintro H1 ⟨s1,e1⟩
   rw[bI,List.take_length] at e1
   refine⟨Dd,_,rfl,.inl ⟨SqL.of e1,fun q hq=>k q _ (s1.free hq) (s1.upd' hq) aC⟩⟩
theorem Iu{f:Addr}{fd:FuncData}(D:Df K mg "ring_retold" FP ["retelling","ring"] f fd)(T:Txt P w K mg LC LD LE LF LG)(c_zz1:Cl P w K mg base "ring_of" ["word"] 3 uK)(c_z21:Cl P w K mg base "retold" ["retelling","word"] 4 (iZ K)):Cl P w K mg base "ring_retold" ["retelling","ring"] 5 (gY K):=by
 refine D.cl (D.F.ok Jg (fun vs H Q E h=>?_) (fun cdv A outer s H vs Q E hr h=>?_))
 ·obtain⟨a,rs,n,M,x,rfl,_⟩:=h
  rfl
 ·obtain⟨a,rs,n,M,x,rfl,hq,hr0,h1,h4,hM,hox,hxl,hxm,k⟩:=h
  refine⟨_,(aE (aM (pC c_zz1 hr (aA (pC c_z21 hr (aA (pv 0) (aA (pv 1) aB))) aB)))),?_⟩
  have lr:=kU hr0 x
  exact⟨_,rfl,_,rfl,a,rs,n,M,x,rfl,hq,hr0,h1,h4,hM,hox,by omega,by omega,fun H1 s1=>⟨retl rs x,rfl,dY hr0 x,by omega,fun r H2 hr s2=>k r H2 hr (s1.trans s2)⟩⟩
theorem Ip{f:Addr}{fd:FuncData}(D:Df K mg "letter_changed" Gb ["letter","by","side"] f fd)(T:Txt P w K mg LC LD LE LF LG)(c_zq1:Cl P w K mg base "contrary" ["letter"] 1 fA):Cl P w K mg base "letter_changed" ["letter","by","side"] 2 (Iq K):=by
 refine D.cl (D.F.ok sc_zk (fun vs H Q E h=>?_) (fun cdv A outer s H vs Q E hr h=>?_))
 ·obtain⟨d,c,q,sd,rfl,_⟩:=h
  rfl
 ·obtain⟨d,c,q,sd,rfl,eq,hd,hdl,hc,k⟩:=h
  refine⟨_,(aD (bQ (aP (kF (K:=K) rfl) (pv 0) (bY (aA (pv 1) (aA (pC c_zq1 hr (aA (pv 1) aB)) aB))) (by rfl)) (aE (aM (pv 0))) bA)
   (aD (aL (i:=3) sc_zk.nd rfl (Or.inl rfl) (fC (aP (kF (K:=K) rfl) (pC c_zq1 hr (aA (pv 0) aB)) (pv 2) (by rfl)) (pC c_zq1 hr (aA (pv 1) aB)) cD))
   (aD (aL (i:=4) sc_zk.nd rfl (Or.inl rfl) (fC (aP (kF (K:=K) rfl) (pv 0) (pv 2) (by rfl)) (pv 1) cD))
   (aE (aM (aY cH (aY cH (pv 3) (pv 0)) (pv 4))))))),?_⟩
  refine⟨_,rfl,_,rfl,_,rfl,c,rfl,hc,fun H1 s1=>⟨aI (by simp),fun t ht=>⟨t,[.str (S [c]),.str (S [con c])],rfl,.inr (SqT.of aC),rfl,rfl,_,rfl,?_⟩⟩⟩
  have s2:Same H (upd H1 t (.tup [.str (S [c]),.str (S [con c])])):=s1.upd' ht
  generalize upd H1 t (.tup [.str (S [c]),.str (S [con c])])=H2 at s2
  have ein:nT (.str (S [d])) [.str (S [c]),.str (S [con c])]=decide (d=lo c):=(mW d [c,con c]).trans (C7 hc hd hdl)
  show if nT (.str (S [d])) [.str (S [c]),.str (S [con c])]=true then _ else _
  rw[ein]
  refine cJ (fun z=>?_) (fun z=>?_)
  ·have z':=of_decide_eq_true z
   have e:iU c sd d=[d]:=by unfold iU;rw[if_pos z']
   have:=k H2 s2
   rw[e] at this
   exact⟨_,rfl,this⟩
  have z':¬ d=lo c:=fun c0=>z (decide_eq_true c0)
  refine⟨_,rfl,d,rfl,hd,fun H3 s3=>⟨_,rfl,q,aX sd,rfl,.inr (SqT.of (s3 _ _ (s2 _ _ eq))),rfl,gR sd,_,rfl,?_⟩⟩
  show if nT (.str (S [con d])) (aX sd)=true then _ else _
  rw[mW]
  have s23:=s2.trans s3
  by_cases h1:con d∈sd
  ·rw[decide_eq_true h1]
   refine kP ⟨_,rfl,c,rfl,hc,fun H4 s4=>?_⟩
   refine⟨_,rfl,_,rfl,q,aX sd,rfl,.inr (SqT.of ((s23.trans s4) _ _ eq)),rfl,gR sd,_,rfl,?_⟩
   show if nT (.str (S [d])) (aX sd)=true then _ else _
   rw[mW]
   by_cases h2:d∈sd
   ·rw[decide_eq_true h2]
    refine kP ⟨_,rfl,?_⟩
    refine⟨_,rfl,_,rfl,_,_,rfl,rfl,by rw[aT,aT];exact aI (by simp),_,rfl,_,_,rfl,rfl,by rw[dI,aT,aT];exact aI (by simp),?_⟩
    have e:iU c sd d=[con c]++[d]++[c]:=by unfold iU;rw[if_neg z',if_pos h1,if_pos h2]
    have kk:=k H4 (s23.trans s4)
    rw[e] at kk
    rw[dI,dI]
    exact kk
   ·rw[decide_eq_false h2]
    refine eQ ?_
    refine⟨_,rfl,_,rfl,_,_,rfl,rfl,by rw[aT,aT];exact aI (by simp),_,rfl,_,_,rfl,rfl,by rw[dI,aT,fQ,aT];exact aI (by simp),?_⟩
    have e:iU c sd d=[con c]++[d]++[]:=by unfold iU;rw[if_neg z',if_pos h1,if_neg h2]
    have kk:=k H4 (s23.trans s4)
    rw[e] at kk
    rw[fQ,dI,dI]
    exact kk
  ·rw[decide_eq_false h1]
   refine eQ ?_
   refine⟨_,rfl,_,rfl,q,aX sd,rfl,.inr (SqT.of (s23 _ _ eq)),rfl,gR sd,_,rfl,?_⟩
   show if nT (.str (S [d])) (aX sd)=true then _ else _
   rw[mW]
   by_cases h2:d∈sd
   ·rw[decide_eq_true h2]
    refine kP ⟨_,rfl,?_⟩
    refine⟨_,rfl,_,rfl,_,_,rfl,rfl,by rw[fQ,aT,aT];exact aI (by simp),_,rfl,_,_,rfl,rfl,by rw[fQ,dI,aT,aT];exact aI (by simp),?_⟩
    have e:iU c sd d=[]++[d]++[c]:=by unfold iU;rw[if_neg z',if_neg h1,if_pos h2]
    have kk:=k H3 s23
    rw[e] at kk
    rw[fQ,dI,dI]
    exact kk
   ·rw[decide_eq_false h2]
    refine eQ ?_
    refine⟨_,rfl,_,rfl,_,_,rfl,rfl,by rw[fQ,aT,aT];exact aI (by simp),_,rfl,_,_,rfl,rfl,by rw[fQ,dI,aT,aT];exact aI (by simp),?_⟩
    have e:iU c sd d=[]++[d]++[]:=by unfold iU;rw[if_neg z',if_neg h1,if_neg h2]
    have kk:=k H3 s23
    rw[e] at kk
    rw[fQ,dI,dI]
    exact kk
theorem JI{f:Addr}{fd:FuncData}(D:Df K mg "change_told" EV ["n","change"] f fd)(T:Txt P w K mg LC LD LE LF LG)(c_zp:Cl P w K mg base "first_letters" ["n"] 1 gB)(c_zk:Cl P w K mg base "letter_changed" ["letter","by","side"] 2 (Iq K)):Cl P w K mg base "change_told" ["n","change"] 3 iX:=by
 refine D.cl (D.F.ok IR (fun vs H Q E h=>?_) (fun cdv A outer s H vs Q E hr h=>?_))
 ·obtain⟨n,p,c,sd,rfl,_⟩:=h
  rfl
 ·obtain⟨n,p,c,sd,rfl,h1,h4,⟨q,ep,eq⟩,hc,hsd,k⟩:=h
  refine⟨_,(aE (aM (bG (bJ (K:=K) rfl) (by rfl) T.b_tuple boot_tuple (aA (bL (sc0:=aF EV) (N:=["n","change"]) (ix:=[1]) (by decide +kernel) rfl rfl rfl (cS (K:=K) rfl (pC c_zp hr (aA (pv 0) aB))) (fun _ _ _=>bF) (fun _ _ _=>(pC c_zk hr (aA (pv 0) (aA (aR (aZ (K:=K) rfl) (pv 1) aG (fun _ _=>rfl)) (aA (aR (aZ (K:=K) rfl) (pv 1) aG (fun _ _=>rfl)) aB)))))) aB)))),?_⟩
  have ll:(cK n).length=n:=(gC h1 h4).len
  refine⟨_,rfl,n,rfl,h1,h4,fun t H2 ht s2 et=>⟨t,rfl,⟨_,SqT.of et⟩,fun Dd hD=>cI (xs:=bV (cK n)) (fun i H3=>Same H2 H3∧H3 Dd=some (.lst (bV (((cP n).take i).map (iU c sd))))) ⟨Same.new hD,aC⟩ (fun i H3 _ h=>SqT.of (h.1 _ _ et)) ?_ ?_⟩⟩
  ·rintro i v H3 hv ⟨s3,e3⟩
   obtain⟨rfl,hi⟩:=lD h4 hv
   have hci:=iW hv
   have hm:=List.mem_of_getElem? hci
   have s23:=s2.trans s3
   refine⟨_,rfl,_,rfl,p,_,0,_,rfl,rfl,SqT.of (s23 _ _ ep),rfl,_,rfl,p,_,1,_,rfl,rfl,SqT.of (s23 _ _ ep),rfl,97+i,c,q,sd,rfl,s23 _ _ eq,iA hm,fX hm,hc,fun H4 s4=>⟨_,s4 _ _ e3,?_,(s3.trans s4).upd hD,?_⟩⟩
   ·rw[bI,List.length_map,List.length_take];exact aW (by omega)
   ·rw[aC,List.take_add_one,hci,List.map_append]
    unfold bV
    rw[List.map_append]
    rfl
  ·rintro H3 ⟨s3,e3⟩
   rw[bI,ll,List.take_of_length_le (by rw[fG h4];omega)] at e3
   have s13:=s2.trans s3
   exact⟨Dd,_,rfl,.inl ⟨SqL.of e3,fun q hq=>k q _ (s13.free hq) (s13.upd' hq) aC⟩⟩
theorem Hx{f:Addr}{fd:FuncData}(D:Df K mg "tied_pair" DC ["one","other"] f fd)(T:Txt P w K mg LC LD LE LF LG)(c_zx1:Cl P w K mg base "rank_of" ["letter"] 1 wR):Cl P w K mg base "tied_pair" ["one","other"] 2 CN:=by
 refine D.cl (D.F.ok GJ (fun vs H Q E h=>?_) (fun cdv A outer s H vs Q E hr h=>?_))
 ·obtain⟨c,d,rfl,_⟩:=h
  rfl
 ·obtain⟨c,d,rfl,hc,hd,k⟩:=h
  refine⟨_,(aE (aM (fC (aP pW (pC c_zx1 hr (aA (pv 0) aB)) (pC c_zx1 hr (aA (pv 1) aB)) (aS _)) (bY (aA (pv 0) (aA (pv 1) aB))) (bY (aA (pv 1) (aA (pv 0) aB)))))),?_⟩
  refine⟨_,rfl,c,rfl,hc,fun H1 s1=>⟨_,rfl,d,rfl,hd,fun H2 s2=>⟨_,_,rfl,rfl,_,rfl,cJ (fun q=>?_) (fun q=>?_)⟩⟩⟩
  ·have q':=of_decide_eq_true q
   refine⟨_,rfl,_,rfl,aI (by simp),fun p hp=>k p _ ((s1.trans s2).free hp) ((s1.trans s2).upd' hp) ?_⟩
   rw[aC]
   unfold jY
   rw[if_pos (by omega)]
   rfl
  ·have q':¬ ((rk c:Nat):Int)<((rk d:Nat):Int):=fun z=>q (decide_eq_true z)
   refine⟨_,rfl,_,rfl,aI (by simp),fun p hp=>k p _ ((s1.trans s2).free hp) ((s1.trans s2).upd' hp) ?_⟩
   rw[aC]
   unfold jY
   rw[if_neg (by omega)]
   rfl
theorem HX{f:Addr}{fd:FuncData}(D:Df K mg "ties_of" Cd ["rings"] f fd)(T:Txt P w K mg LC LD LE LF LG)(c_zq1:Cl P w K mg base "contrary" ["letter"] 1 fA)(c_zm1:Cl P w K mg base "tied_pair" ["one","other"] 2 CN):Cl P w K mg base "ties_of" ["rings"] 3 (Ct K):=by
 refine D.cl (D.F.ok sc_z01 (fun vs H Q E h=>?_) (fun cdv A outer s H vs Q E hr h=>?_))
 ·obtain⟨a,rs,rfl,_⟩:=h
  rfl
 ·obtain⟨a,rs,rfl,hq,hall,htot,k⟩:=h
  refine⟨_,(aD (aL (i:=1) sc_z01.nd rfl (Or.inl rfl) BR)
   (aD (dC PassesOwn.never rfl (cS (K:=K) rfl (pv 0)) (bE (i:=2) sc_z01.nd rfl (Or.inl rfl)) (aE (dC PassesOwn.never rfl (zR (by rfl) T.b_enumerate (aA (pv 2) aB)) (kH (K:=K) rfl rfl (cO (bE (i:=3) sc_z01.nd rfl (Or.inl rfl)) (cO (bE (i:=4) sc_z01.nd rfl (Or.inl rfl)) iK))) (aD (aL (i:=5) sc_z01.nd rfl (Or.inl rfl) (pC c_zm1 hr (aA (aR mE (pv 2) (aY kM (pv 3) aG) (fun _ _=>rfl)) (aA (pC c_zq1 hr (aA (pv 4) aB)) aB))))
   (aE (oN (Nat.lt_of_le_of_lt (Nat.add_le_add_left (by decide:1≤64) _) hr.units) (pv 1) (pv 5) (aY cV (CW (Nat.lt_of_le_of_lt (Nat.add_le_add_left (by decide:1≤64) _) hr.units) (pv 1) (pv 5) aG ⟨rfl,rfl,rfl,rfl⟩) aG) (by rfl)))))))
   (aE (aM (pv 1))))),?_⟩
  refine fun p hp=>?_
  refine⟨_,rfl,a,rfl,⟨_,Lw.SqT.new hq hp⟩,?_⟩
  refine lU (K:=K) (a:=a) (xs:=bV rs) (fun j σ H1=>∃ v2 v3 v4 v5:Option V,σ=[some (.ref a),some (.ref p),v2,v3,v4,v5]∧Same H H1∧H1 p=some (.dT (Dk (bO (rs.take j))))) ⟨none,none,none,none,rfl,Same.new hp,aC⟩ (fun j σ H1 _ ⟨_,_,_,_,_,s1,_⟩=>L2.SqT.same s1 hq) ?_ ?_
  ·rintro j v _ H1 hv ⟨v2,v3,v4,v5,rfl,s1,e1⟩
   obtain⟨x,hx,rfl⟩:=dZ hv
   have hxa:=hall x (List.mem_of_getElem? hx)
   have htj:(bO (rs.take j)).length+x.length≤900:=by
    have h1:=mI (rs.take (j+1))
    rw[List.take_add_one,hx] at h1
    have h2:=vH (rs.map List.length) (j+1)
    rw[← List.map_take,List.take_add_one,hx] at h2
    rw[show bO (rs.take j++(some x).toList)=bO (rs.take j)++eT x from pO _ _,List.length_append,gS] at h1
    unfold totL at htot
    omega
   refine⟨_,rfl,S x,rfl,?_⟩
   refine uM (w:=x) (fun i σ H2=>∃ v3 v4 v5:Option V,σ=[some (.ref a),some (.ref p),some (.str (S x)),v3,v4,v5]∧Same H H2∧H2 p=some (.dT (Dk (bO (rs.take j)++(eT x).take i)))) ⟨v3,v4,v5,rfl,s1,by rw[List.take_zero,List.append_nil];exact e1⟩ ?_ ?_
   ·rintro i c q _ H2 hc hq2 ⟨v3,v4,v5,rfl,s2,e2⟩
    have hi:i<x.length:=(List.getElem?_eq_some_iff.mp hc).1
    have hcL:=hxa c (List.mem_of_getElem? hc)
    have hcd:x.getD i 0=c:=by rw[List.getD_eq_getElem?_getD,hc];rfl
    have s3:Same H (upd H2 q (.tup [.int (i:Nat),.str (S [c])])):=s2.upd' hq2
    have e3:upd H2 q (.tup [.int (i:Nat),.str (S [c])]) p=some (.dT (Dk (bO (rs.take j)++(eT x).take i))):=by rw[aJ (aH e2 hq2)];exact e2
    refine⟨q,_,rfl,.inr (SqT.of aC),rfl,_,_,rfl,_,_,rfl,rfl,?_⟩
    generalize upd H2 q (.tup [.int (i:Nat),.str (S [c])])=H3 at s3 e3
    have hpL:=BE hxa hi
    refine⟨_,rfl,_,rfl,_,_,rfl,rfl,_,_,jD x i,rfl,rfl,by rw[aT];exact aI (by omega),Eh hi,?_⟩
    refine⟨_,rfl,c,rfl,hcL,fun H4 s4=>?_⟩
    refine⟨jD x i,con c,rfl,hpL,cN hcL,fun t H5 ht s5 et=>?_⟩
    have e5:=s5 _ _ (s4 _ _ e3)
    refine⟨_,rfl,p,rfl,.inr ⟨_,.inl e5⟩,_,rfl,_,DGet.t e5 et,?_⟩
    rw[D1]
    refine⟨_,_,rfl,rfl,_,rfl,_,rfl,p,_,rfl,DPut.t e5 et (aW ?_),_,_,_,rfl,((s3.trans s4).trans s5).upd hp,?_⟩
    ·have h1:=DK (bO (rs.take j)++(eT x).take i)
     rw[List.length_append,List.length_take,gS] at h1
     omega
    ·rw[aC,xT hi,← List.append_assoc,kZ,hcd]
     rfl
   ·rintro _ H2 ⟨v3,v4,v5,rfl,s2,e2⟩
    refine⟨_,_,_,_,rfl,s2,?_⟩
    rw[e2,List.take_of_length_le (l:=eT x) (by rw[gS];exact Nat.le_refl _),List.take_add_one,hx]
    rw[show bO (rs.take j++(some x).toList)=bO (rs.take j)++eT x from pO _ _]
  ·rintro _ H1 ⟨v2,v3,v4,v5,rfl,s1,e1⟩
   rw[bI,List.take_length] at e1
   exact⟨_,rfl,k p H1 hp s1 e1⟩
theorem Gk{f:Addr}{fd:FuncData}(D:Df K mg "count_of" zP ["rings","letter"] f fd)(T:Txt P w K mg LC LD LE LF LG)(c_zq1:Cl P w K mg base "contrary" ["letter"] 1 fA):Cl P w K mg base "count_of" ["rings","letter"] 2 (As K):=by
 refine D.cl (D.F.ok Ig (fun vs H Q E h=>?_) (fun cdv A outer s H vs Q E hr h=>?_))
 ·obtain⟨a,rs,c,rfl,_⟩:=h
  rfl
 ·obtain⟨a,rs,c,rfl,hq,hlen,hc,k⟩:=h
  refine⟨_,(aE (aM (aO (jS (K:=K) rfl rfl) (by rfl) T.b_sum boot_sum (aA (bL (sc0:=aF zP) (N:=["rings","letter"]) (ix:=[1]) (by decide +kernel) rfl rfl rfl (cS (K:=K) rfl (pv 0)) (fun _ _ _=>bF) (fun _ _ _=>(aY cV (cY (K:=K) rfl PySem.F.plainAttrs_str PySem.F.slot_str_count PySem.F.type_str_count rP (pv 0) (aA (pv 1) aB)) (cY (K:=K) rfl PySem.F.plainAttrs_str PySem.F.slot_str_count PySem.F.type_str_count rP (pv 0) (aA (pC c_zq1 hr (aA (pv 1) aB)) aB))))) aB)))),?_⟩
  refine⟨_,rfl,a,rfl,⟨_,hq⟩,fun Dd hD=>cI (K:=K) (a:=a) (xs:=bV rs) (fun i H1=>Same H H1∧H1 Dd=some (.lst (((rs.take i).map fun x=>xH (S x) (S [c])+xH (S x) (S [con c])).map V.int))) ⟨Same.new hD,aC⟩ (fun i H1 _ p=>L2.SqT.same p.1 hq) ?_ ?_⟩
  ·rintro i v H1 hv ⟨s1,e1⟩
   obtain⟨x,hx,rfl⟩:=dZ hv
   have hi:i<rs.length:=(List.getElem?_eq_some_iff.mp hx).1
   refine⟨_,rfl,rfl,_,rfl,_,_,rfl,rfl,?_⟩
   refine⟨_,rfl,rfl,_,rfl,c,rfl,hc,fun H2 s2=>⟨_,_,rfl,rfl,_,_,rfl,rfl,_,s2 _ _ e1,?_,(s1.trans s2).upd hD,?_⟩⟩
   ·rw[List.length_map,List.length_map,List.length_take];exact aW (by omega)
   ·rw[aC,List.take_add_one,hx,List.map_append,List.map_append];rfl
  ·rintro H1 ⟨s1,e1⟩
   rw[bI,List.take_length] at e1
   exact⟨Dd,_,rfl,SqL.of e1,k H1 s1⟩
theorem J4{f:Addr}{fd:FuncData}(D:Df K mg "_law_rings_retold" EZ ["_law_retelling","_law_rings"] f fd)(T:Txt P w K mg LC LD LE LF LG)(c_zs1:Cl P w K mg base "_law_ring" ["_law_word_here"] 3 nX)(c_ze1:Cl P w K mg base "_law_retold" ["_law_retelling","_law_word_here"] 3 (iZ K)):Cl P w K mg base "_law_rings_retold" ["_law_retelling","_law_rings"] 4 (qJ K):=by
 refine D.cl (D.F.ok Ja (fun vs H Q E h=>?_) (fun cdv A outer s H vs Q E hr h=>?_))
 ·obtain⟨a,b,f,rs,n,rfl,_⟩:=h
  rfl
 ·obtain⟨a,b,f,rs,n,rfl,ha,hb,hf,hfo,h1,h4,hlen,hrs,k⟩:=h
  refine⟨_,(aE (aM (bG (bJ (K:=K) rfl) (by rfl) T.b_tuple boot_tuple (aA (bL (sc0:=aF EZ) (N:=["_law_retelling","_law_rings"]) (ix:=[0]) (by decide +kernel) rfl rfl rfl (cS (K:=K) rfl (pv 1)) (fun _ _ _=>bF) (fun _ _ _=>(pC c_zs1 hr (aA (pC c_ze1 hr (aA (pv 1) (aA (pv 0) aB))) aB)))) aB)))),?_⟩
  refine⟨_,rfl,b,rfl,⟨_,hb⟩,fun Dd hD=>cI (K:=K) (a:=b) (xs:=bV rs) (fun i H1=>Same H H1∧∃ qs:List (List Nat),qs.length=i∧(∀ (j:Nat) (x q:List Nat),rs[j]?=some x→qs[j]?=some q→RingR (retl f x) q)∧(∀ y∈qs,RgN n y∧y.length≤300)∧H1 Dd=some (.lst (bV qs))) ⟨Same.new hD,[],rfl,(fun j x q _ h=>by simp at h),fun y hy=>(nomatch hy),aC⟩ (fun i H1 _ p=>L2.SqT.same p.1 hb) ?_ ?_⟩
  ·rintro i v H1 hv ⟨s1,qs,hql,hrow,hqs,e1⟩
   obtain⟨x,hx,rfl⟩:=dZ hv
   have hi:i<rs.length:=(List.getElem?_eq_some_iff.mp hx).1
   obtain⟨hxo,hxl⟩:=hrs x (List.mem_of_getElem? hx)
   have hrl:=kU hf x
   refine⟨_,rfl,_,rfl,a,f,n,3,x,rfl,L2.SqT.same s1 ha,hf,h1,h4,by decide,hxo,by omega,by omega,fun H2 s2=>?_⟩
   refine⟨retl f x,rfl,dY hf x,by omega,fun r H3 hr s3=>⟨_,s3 _ _ (s2 _ _ e1),?_,((s1.trans s2).trans s3).upd hD,qs++[r],?_,?_,?_,?_⟩⟩
   ·rw[bI];exact aW (by omega)
   ·rw[List.length_append,hql];rfl
   ·intro j x' q hx' hq'
    by_cases hj:j<qs.length
    ·rw[List.getElem?_append_left hj] at hq'
     exact hrow j x' q hx' hq'
    ·have ej:j=i:=by
      have:=(List.getElem?_eq_some_iff.mp hq').1
      rw[List.length_append,List.length_singleton] at this
      omega
     subst ej
     rw[hx] at hx'
     cases hx'
     have eq':q=r:=by
      rw[← hql] at hq'
      simpa using hq'.symm
     rw[eq'];exact hr
   ·intro y hy
    rcases List.mem_append.mp hy with q | q
    ·exact hqs y q
    ·rw[List.mem_singleton.mp q]
     exact⟨⟨_,qT h1 h4 hfo x,eJ _,hr⟩,by have:=hr.len;omega⟩
   ·rw[aC];unfold bV;rw[List.map_append];rfl
  ·rintro H1 ⟨s1,qs,hql,hrow,hqs,e1⟩
   rw[bI] at hql
   refine⟨Dd,_,rfl,.inl ⟨SqL.of e1,fun p hp=>?_⟩⟩
   exact k p qs _ (s1.free hp) (s1.upd' hp) ⟨hql,hrow⟩ hqs aC
theorem IX{f:Addr}{fd:FuncData}(D:Df K mg "_law_length" E6 ["_law_rings"] f fd)(T:Txt P w K mg LC LD LE LF LG):Cl P w K mg base "_law_length" ["_law_rings"] 1 (gO K):=by
 refine D.cl (D.F.ok J7 (fun vs H Q E h=>?_) (fun cdv A outer s H vs Q E hr h=>?_))
 ·obtain⟨a,rs,rfl,_⟩:=h
  rfl
 ·obtain⟨a,rs,rfl,hq,hlen,hrs,k⟩:=h
  refine⟨_,(aE (aM (aO (jS (K:=K) rfl rfl) (by rfl) T.b_sum boot_sum (aA (bL (sc0:=aF E6) (N:=["_law_rings"]) (ix:=[]) (by decide +kernel) rfl rfl rfl (cS (K:=K) rfl (pv 0)) (fun _ _ _=>bF) (fun _ _ _=>(aO cQ (by rfl) T.b_len PySem.boot_len (aA (pv 0) aB)))) aB)))),?_⟩
  refine⟨_,rfl,a,rfl,⟨_,hq⟩,fun Dd hD=>cI (K:=K) (a:=a) (xs:=bV rs) (fun i H1=>Same H H1∧H1 Dd=some (.lst (((rs.take i).map fun x=>((x.length:Nat):Int)).map V.int))) ⟨Same.new hD,aC⟩ (fun i H1 _ p=>L2.SqT.same p.1 hq) ?_ ?_⟩
  ·rintro i v H1 hv ⟨s1,e1⟩
   obtain⟨x,hx,rfl⟩:=dZ hv
   have hi:i<rs.length:=(List.getElem?_eq_some_iff.mp hx).1
   have hxl:=hrs x (List.mem_of_getElem? hx)
   refine⟨_,rfl,_,rfl,by rw[aT];exact aI (by omega),_,e1,?_,s1.upd hD,?_⟩
   ·rw[List.length_map,List.length_map,List.length_take];exact aW (by omega)
   ·rw[aC,List.take_add_one,hx,List.map_append,List.map_append,aT];rfl
  ·rintro H1 ⟨s1,e1⟩
   rw[bI,List.take_length] at e1
   refine⟨Dd,_,rfl,SqL.of e1,?_⟩
   rw[pG]
   exact k H1 s1
theorem Hi{f:Addr}{fd:FuncData}(D:Df K mg "_law_row" zA ["_law_flow_here","_law_n","_law_many","_law_most"] f fd)(T:Txt P w K mg LC LD LE LF LG)(c_zu1:Cl P w K mg base "_law_pick" ["_law_flow_here","_law_many"] 1 iM)(c_zo1:Cl P w K mg base "_law_word" ["_law_flow_here","_law_n","_law_most"] 2 wW)(c_zs1:Cl P w K mg base "_law_ring" ["_law_word_here"] 3 nX)(c_zc:Cl P w K mg base "_law_rings_retold" ["_law_retelling","_law_rings"] 4 (qJ K))(c_z9:Cl P w K mg base "_law_length" ["_law_rings"] 1 (gO K))(c_zd:Cl P w K mg base "_law_drawn_change" ["_law_flow_here","_law_n"] 2 qI)(c_zf:Cl P w K mg base "_law_change_told" ["_law_n","_law_change"] 2 iX):Cl P w K mg base "_law_row" ["_law_flow_here","_law_n","_law_many","_law_most"] 5 FE:=by
 refine D.cl (D.F.ok sc_zy1 (fun vs H Q E h=>?_) (fun cdv A outer s H vs Q E hr h=>?_))
 ·obtain⟨fl,sc,n,many,most,rfl,_⟩:=h
  rfl
 ·obtain⟨fl,sc,n,many,most,rfl,hf,h1,h4,h8,h60,k⟩:=h
  refine⟨_,(aD (aL (i:=4) sc_zy1.nd rfl (Or.inl rfl) (bG (bJ (K:=K) rfl) (by rfl) T.b_tuple boot_tuple (aA (bL (sc0:=aF zA) (N:=["_law_flow_here","_law_n","_law_many","_law_most","_law_rings","_law_k","_law_longer"]) (ix:=[0,1]) (by decide +kernel) rfl rfl rfl (eG (by rfl) T.b_range (aA (pC c_zu1 hr (aA (pv 0) (aA (aY cV (pv 2) aG) aB))) aB)) (fun _ _ _=>bF) (fun _ _ _=>(pC c_zs1 hr (aA (pC c_zo1 hr (aA (pv 1) (aA (pv 2) (aA aG aB)))) aB)))) aB)))
   (hX (bQ (pw_and (aP nC (pv 2) aG (aS _)) (pw_and1 (aP dA (pC c_zu1 hr (aA (pv 0) (aA aG aB))) aG (aS _)))).pt (aE (aL (i:=4) sc_zy1.nd rfl (Or.inl rfl) (bY (aA (pC c_zs1 hr (aA (pC c_zo1 hr (aA (pv 0) (aA (pv 1) (aA (pv 3) aB)))) aB)) aB)))) bA)
   (aD (dC PassesOwn.never rfl (eG (by rfl) T.b_range (aA (pC c_zu1 hr (aA (pv 0) (aA aG aB))) aB)) (bE (i:=5) sc_zy1.nd rfl (Or.inl rfl)) (aD (aL (i:=6) sc_zy1.nd rfl (Or.inl rfl) (pC c_zc hr (aA (pC c_zf hr (aA (pv 1) (aA (pC c_zd hr (aA (pv 0) (aA (pv 1) aB))) aB))) (aA (pv 4) aB))))
   (aE (bQ (aP Ft (pC c_z9 hr (aA (pv 6) aB)) (pv 3) (aS _)) (aE (aL (i:=4) sc_zy1.nd rfl (Or.inl rfl) (pv 6))) bA))))
   (aD (fM PassesOwn.never (aP nC (pC c_z9 hr (aA (pv 4) aB)) (pv 3) (aS _)) (aE (aL (i:=4) sc_zy1.nd rfl (Or.inl rfl) (cG (oM (K:=K) rfl) (pv 4) (cC aG) cT))))
   (aE (aM (pv 4))))))),?_⟩
  have i1:(1:Int)≤(n:Nat):=by omega
  have i4:((n:Nat):Int)≤4:=by omega
  refine⟨_,rfl,_,rfl,_,_,rfl,rfl,fl,sc,_,rfl,hf,by omega,by omega,fun d H1 d0 d1 f1 k1=>⟨d,rfl,by omega,by omega,fun Dd hD=>?_⟩⟩
  have hDf:Dd≠fl:=f1.ne hD
  have hDs:Dd≠sc:=f1.ne2 hD
  have hD0:H Dd=none:=k1.free hD hDf
  refine gZ (lo:=0) (n:=d.toNat) (fun i H2=>IsFl H2 fl sc∧Kp fl H H2∧∃ rs:List (List Nat),rs.length=i∧(∀ x∈rs,RgN n x∧x.length≤6)∧H2 Dd=some (.lst (bV rs))) ⟨f1.upd hD,k1.upd hD0,[],rfl,fun x hx=>(nomatch hx),aC⟩ ?_ ?_
  ·rintro i H2 hi ⟨f2,k2,rs,hrl,hrs,e2⟩
   refine⟨_,rfl,_,rfl,fl,sc,(n:Nat),6,rfl,f2,i1,i4,by decide,by decide,fun w H3 ow pw wl f3 k3=>?_⟩
   refine⟨w,rfl,ow.all,by omega,fun r H4 hr s4=>⟨_,s4 _ _ (k3 _ _ e2 hDf),?_,(f3.same s4).set hDf hDs,((k2.trans k3).trans s4.kp).upd hD0,rs++[r],?_,?_,?_⟩⟩
   ·rw[bI];exact aW (by omega)
   ·rw[List.length_append,hrl];rfl
   ·intro y hy
    rcases List.mem_append.mp hy with q | q
    ·exact hrs y q
    ·rw[List.mem_singleton.mp q]
     exact⟨⟨w,ow,pw,hr⟩,by have:=hr.len;omega⟩
   ·rw[aC];unfold bV;rw[List.map_append];rfl
  rintro H2 ⟨f2,k2,rs,hrl,hrs,e2⟩
  refine⟨Dd,_,rfl,.inl ⟨SqL.of e2,fun p hp=>?_⟩⟩
  have hp0:H p=none:=k2.free hp (f2.ne hp)
  have row0:Row n many rs:=⟨by omega,fun x hx=>(hrs x hx).1,fun x hx=>by have:=(hrs x hx).2;omega⟩
  refine⟨fun σ H3=>∃ (p:Addr) (rs:List (List Nat)),σ=[some (.ref fl),some (.int (n:Nat)),some (.int (many:Nat)),some (.int (most:Nat)),some (.ref p),none,none]∧H p=none∧IsFl H3 fl sc∧Kp fl H H3∧Row n many rs∧H3 p=some (.tup (bV rs)),?_,?_⟩
  ·have f3:=f2.upd (o:=.tup (bV rs)) hp
   have k3:=k2.upd (o:=.tup (bV rs)) hp0
   have e3:upd H2 p (.tup (bV rs)) p=some (.tup (bV rs)):=aC
   generalize upd H2 p (.tup (bV rs))=H3 at f3 k3 e3
   refine⟨_,rfl,_,_,rfl,rfl,_,rfl,cJ (fun q=>?_) (fun q=>eQ ⟨p,rs,rfl,hp0,f3,k3,row0,e3⟩)⟩
   refine⟨_,rfl,fl,sc,3,rfl,f3,by decide,by decide,fun g H4 g0 g1 f4 k4=>⟨rfl,_,rfl,cJ (fun q=>?_) (fun q=>⟨p,rs,rfl,hp0,f4,k3.trans k4,row0,jG f3 k4 e3⟩)⟩⟩
   refine⟨_,rfl,_,rfl,_,rfl,fl,sc,(n:Nat),(most:Nat),rfl,f4,i1,i4,by omega,by omega,fun w H5 ow pw wl f5 k5=>?_⟩
   refine⟨w,rfl,ow.all,by omega,fun r H6 hr s6=>⟨aI (by simp),fun t ht=>?_⟩⟩
   have f6:=f5.same s6
   have k6:=((k3.trans k4).trans k5).trans s6.kp
   have ht0:H t=none:=k6.free ht (f6.ne ht)
   refine⟨t,[r],rfl,ht0,f6.upd ht,k6.upd ht0,⟨by simp;omega,fun x hx=>?_,fun x hx=>?_⟩,aC⟩
   ·rw[List.mem_singleton.mp hx];exact⟨w,ow,pw,hr⟩
   ·rw[List.mem_singleton.mp hx];have:=hr.len;omega
  clear k2 f2 e2 hrs hrl row0 hp hp0
  rintro _ H3 ⟨p,rs,rfl,hp0,f3,k3,row,e3⟩
  refine⟨_,rfl,fl,sc,6,rfl,f3,by decide,by decide,fun g H4 g0 g1 f4 k4=>⟨g,rfl,by omega,by omega,?_⟩⟩
  have e4:=jG f3 k4 e3
  refine jT (lo:=0) (n:=g.toNat) (fun i σ H5=>∃ (p:Addr) (rs:List (List Nat)) (v5 v6:Option V),σ=[some (.ref fl),some (.int (n:Nat)),some (.int (many:Nat)),some (.int (most:Nat)),some (.ref p),v5,v6]∧H p=none∧IsFl H5 fl sc∧Kp fl H H5∧Row n many rs∧H5 p=some (.tup (bV rs))) ⟨p,rs,none,none,rfl,hp0,f4,k3.trans k4,row,e4⟩ ?_ ?_
  ·clear e4 e3 row hp0 k3 f3 k4 f4
   rintro i _ H5 hi ⟨p,rs,v5,v6,rfl,hp0,f5,k5,row,e5⟩
   refine⟨_,rfl,_,rfl,_,rfl,fl,sc,n,rfl,f5,h1,h4,fun cp c sd H6 hcp gc h8 ic f6 k6=>?_⟩
   refine⟨n,cp,c,sd,rfl,h1,h4,ic,aK gc.let',fun d hd=>aK (gc.side d hd),fun t H7 ht s7 et=>?_⟩
   have e7:=s7 _ _ (jG f5 k6 e5)
   have rl:=row.few
   refine⟨_,rfl,t,p,gD n c sd,rs,n,rfl,SqT.of et,SqT.of e7,oJ h4 (aK gc.let'),lV h1 h4 gc.let',h1,h4,by omega,fun x hx=>⟨(row.rg x hx).ofn,by have:=row.le x hx;omega⟩,fun q qs H8 hq s8 ⟨hql,_⟩ hqs eq=>?_⟩
   have f8:=(f6.same s7).same s8
   have k8:=((k5.trans k6).trans s7.kp).trans s8.kp
   have hq0:H q=none:=(((k5.trans k6).trans s7.kp)).free hq ((f6.same s7).ne hq)
   refine⟨_,rfl,q,qs,rfl,SqT.of eq,by omega,fun x hx=>by have:=(hqs x hx).2;omega,fun H9 s9=>⟨_,rfl,_,_,rfl,rfl,_,rfl,cJ (fun z=>?_) (fun z=>?_)⟩⟩
   ·have z':=of_decide_eq_true z
    refine⟨_,rfl,q,qs,_,_,rfl,hq0,f8.same s9,k8.trans s9.kp,⟨by omega,fun x hx=>(hqs x hx).1,fun x hx=>?_⟩,s9 _ _ eq⟩
    have:=oP hx
    omega
   ·exact⟨p,rs,_,_,rfl,hp0,f8.same s9,k8.trans s9.kp,row,s9 _ _ (s8 _ _ e7)⟩
  clear e4 e3 row hp0 k3 f3 k4 f4
  rintro _ H5 ⟨p,rs,v5,v6,rfl,hp0,f5,k5,row,e5⟩
  refine⟨fun m σ H6=>∃ (p:Addr) (rs:List (List Nat)) (v5 v6:Option V),m=rs.length∧σ=[some (.ref fl),some (.int (n:Nat)),some (.int (many:Nat)),some (.int (most:Nat)),some (.ref p),v5,v6]∧H p=none∧IsFl H6 fl sc∧Kp fl H H6∧Row n many rs∧H6 p=some (.tup (bV rs)),⟨_,p,rs,v5,v6,rfl,rfl,hp0,f5,k5,row,e5⟩,?_⟩
  clear e5 row hp0 k5 f5
  rintro m _ H6 ⟨p,rs,v5,v6,rfl,rfl,hp0,f6,k6,row,e6⟩
  have rl:=row.few
  refine⟨_,rfl,p,rs,rfl,SqT.of e6,by omega,fun x hx=>by have:=row.le x hx;omega,fun H7 s7=>⟨_,rfl,_,_,rfl,rfl,_,rfl,cJ (fun z=>?_) (fun z=>?_)⟩⟩
  ·have z':=of_decide_eq_true z
   obtain⟨x,qs,rfl⟩:∃ x qs,rs=x::qs:=by
    cases rs with
    | nil=>exact absurd z' (by unfold totL;simp)
    | cons x qs=>exact⟨x,qs,rfl⟩
   refine⟨fun σ' H'=>∃ (p:Addr) (v5 v6:Option V),σ'=[some (.ref fl),some (.int (n:Nat)),some (.int (many:Nat)),some (.int (most:Nat)),some (.ref p),v5,v6]∧H p=none∧IsFl H' fl sc∧Kp fl H H'∧H' p=some (.tup (bV qs)),fun σ' H' ⟨p',v5,v6,a1,a2,a3,a4,a5⟩=>⟨qs.length,by rw[List.length_cons];omega,p',qs,v5,v6,rfl,a1,a2,a3,a4,⟨by rw[List.length_cons] at rl;omega,fun y hy=>row.rg y (List.mem_cons_of_mem _ hy),fun y hy=>row.le y (List.mem_cons_of_mem _ hy)⟩,a5⟩,?_⟩
   refine⟨_,rfl,_,rfl,p,_,rfl,SqT.of (s7 _ _ e6),DQ x qs,fun q hq=>?_⟩
   rw[Ed]
   have f7:=f6.same s7
   have k7:=k6.trans s7.kp
   have hq0:H q=none:=k7.free hq (f7.ne hq)
   exact⟨q,_,_,rfl,hq0,f7.upd hq,k7.upd hq0,aC⟩
  ·have z':¬ ((totL rs:Nat):Int) > ((most:Nat):Int):=fun c=>z (decide_eq_true c)
   exact⟨_,rfl,k p rs H7 hp0 rl row.rg (by omega) (f6.same s7) (k6.trans s7.kp) (s7 _ _ e6)⟩
theorem GW{f:Addr}{fd:FuncData}(D:Df K mg "row_length" zF ["rings"] f fd)(T:Txt P w K mg LC LD LE LF LG):Cl P w K mg base "row_length" ["rings"] 1 (gO K):=by
 refine D.cl (D.F.ok Gp (fun vs H Q E h=>?_) (fun cdv A outer s H vs Q E hr h=>?_))
 ·obtain⟨a,rs,rfl,_⟩:=h
  rfl
 ·obtain⟨a,rs,rfl,hq,hlen,hrs,k⟩:=h
  refine⟨_,(aE (aM (aO (jS (K:=K) rfl rfl) (by rfl) T.b_sum boot_sum (aA (bL (sc0:=aF zF) (N:=["rings"]) (ix:=[]) (by decide +kernel) rfl rfl rfl (cS (K:=K) rfl (pv 0)) (fun _ _ _=>bF) (fun _ _ _=>(aO cQ (by rfl) T.b_len PySem.boot_len (aA (pv 0) aB)))) aB)))),?_⟩
  refine⟨_,rfl,a,rfl,⟨_,hq⟩,fun Dd hD=>cI (K:=K) (a:=a) (xs:=bV rs) (fun i H1=>Same H H1∧H1 Dd=some (.lst (((rs.take i).map fun x=>((x.length:Nat):Int)).map V.int))) ⟨Same.new hD,aC⟩ (fun i H1 _ p=>L2.SqT.same p.1 hq) ?_ ?_⟩
  ·rintro i v H1 hv ⟨s1,e1⟩
   obtain⟨x,hx,rfl⟩:=dZ hv
   have hi:i<rs.length:=(List.getElem?_eq_some_iff.mp hx).1
   have hxl:=hrs x (List.mem_of_getElem? hx)
   refine⟨_,rfl,_,rfl,by rw[aT];exact aI (by omega),_,e1,?_,s1.upd hD,?_⟩
   ·rw[List.length_map,List.length_map,List.length_take];exact aW (by omega)
   ·rw[aC,List.take_add_one,hx,List.map_append,List.map_append,aT];rfl
  ·rintro H1 ⟨s1,e1⟩
   rw[bI,List.take_length] at e1
   refine⟨Dd,_,rfl,SqL.of e1,?_⟩
   rw[pG]
   exact k H1 s1
theorem Kd{f:Addr}{fd:FuncData}(D:Df K mg "row_retold" Ei ["retelling","rings"] f fd)(T:Txt P w K mg LC LD LE LF LG)(c_z4:Cl P w K mg base "ring_retold" ["retelling","ring"] 5 (gY K)):Cl P w K mg base "row_retold" ["retelling","rings"] 6 (C_ K):=by
 refine D.cl (D.F.ok JA (fun vs H Q E h=>?_) (fun cdv A outer s H vs Q E hr h=>?_))
 ·obtain⟨a,b,f,rs,n,L,rfl,_⟩:=h
  rfl
 ·obtain⟨a,b,f,rs,n,L,rfl,ha,hb,hf,h1,h4,hlen,hrs,hL,k⟩:=h
  refine⟨_,(aE (aM (bG (bJ (K:=K) rfl) (by rfl) T.b_tuple boot_tuple (aA (bL (sc0:=aF Ei) (N:=["retelling","rings"]) (ix:=[0]) (by decide +kernel) rfl rfl rfl (cS (K:=K) rfl (pv 1)) (fun _ _ _=>bF) (fun _ _ _=>(pC c_z4 hr (aA (pv 1) (aA (pv 0) aB))))) aB)))),?_⟩
  refine⟨_,rfl,b,rfl,⟨_,hb⟩,fun Dd hD=>cI (K:=K) (a:=b) (xs:=bV rs) (fun i H1=>Same H H1∧∃ qs:List (List Nat),qs.length=i∧(∀ (j:Nat) (x q:List Nat),rs[j]?=some x→qs[j]?=some q→RingR (retl f x) q)∧H1 Dd=some (.lst (bV qs))) ⟨Same.new hD,[],rfl,(fun j x q _ h=>by simp at h),aC⟩ (fun i H1 _ p=>L2.SqT.same p.1 hb) ?_ ?_⟩
  ·rintro i v H1 hv ⟨s1,qs,hql,hrow,e1⟩
   obtain⟨x,hx,rfl⟩:=dZ hv
   have hi:i<rs.length:=(List.getElem?_eq_some_iff.mp hx).1
   obtain⟨hxo,hxl⟩:=hrs x (List.mem_of_getElem? hx)
   have hx3:=Nat.mul_le_mul_right 3 hxl
   refine⟨_,rfl,_,rfl,a,f,n,3,x,rfl,L2.SqT.same s1 ha,hf,h1,h4,by decide,hxo,by omega,by omega,fun r H3 hr s3=>⟨_,s3 _ _ e1,?_,(s1.trans s3).upd hD,qs++[r],?_,?_,?_⟩⟩
   ·rw[bI];exact aW (by omega)
   ·rw[List.length_append,hql];rfl
   ·intro j x' q hx' hq'
    by_cases hj:j<qs.length
    ·rw[List.getElem?_append_left hj] at hq'
     exact hrow j x' q hx' hq'
    ·have ej:j=i:=by
      have:=(List.getElem?_eq_some_iff.mp hq').1
      rw[List.length_append,List.length_singleton] at this
      omega
     subst ej
     rw[hx] at hx'
     cases hx'
     have eq':q=r:=by
      rw[← hql] at hq'
      simpa using hq'.symm
     rw[eq'];exact hr
   ·rw[aC];unfold bV;rw[List.map_append];rfl
  ·rintro H1 ⟨s1,qs,hql,hrow,e1⟩
   rw[bI] at hql
   refine⟨Dd,_,rfl,.inl ⟨SqL.of e1,fun p hp=>?_⟩⟩
   exact k p qs _ (s1.free hp) (s1.upd' hp) ⟨hql,hrow⟩ aC
theorem Iz{f:Addr}{fd:FuncData}(D:Df K mg "ties_leaving" EO ["ties","side"] f fd)(T:Txt P w K mg LC LD LE LF LG):Cl P w K mg base "ties_leaving" ["ties","side"] 1 yZ:=by
 refine D.cl (D.F.ok JR (fun vs H Q E h=>?_) (fun cdv A outer s H vs Q E hr h=>?_))
 ·obtain⟨t,q,rs,sd,rfl,_⟩:=h
  rfl
 ·obtain⟨t,q,rs,sd,rfl,et,eq,htot,k⟩:=h
  refine⟨_,(aE (aM (aO (jS (K:=K) rfl rfl) (by rfl) T.b_sum boot_sum (aA (Ez (H0:=H) rfl (Bu (sc0:=aF EO) (N:=["ties","side"]) (ix:=[1]) (by decide +kernel) (K:=K) rfl rfl rfl rfl (C4 (pv 0)) (fun _ _ _=>vW (aP iR (dM (kF (K:=K) rfl) (aR (aZ (K:=K) rfl) (pv 0) aG (fun _ _=>rfl)) (pv 2) (by rfl)) (dM (kF (K:=K) rfl) (aR (aZ (K:=K) rfl) (pv 0) aG (fun _ _=>rfl)) (pv 2) (by rfl)) (aS _))) (fun _ _ _=>(pv 1)))) aB)))),?_⟩
  refine⟨_,rfl,t,_,rfl,.inl ⟨et,fun o Dd hD=>?_⟩⟩
  have hdl:=DK (bO rs)
  have htl:=mI rs
  unfold totL at htot
  have htq:q≠t:=nN eq et (by intro z;cases z)
  have eF:upd H t (.frz o (.dT (Dk (bO rs)))) t=some (.frz o (.dT (Dk (bO rs)))):=aC
  have qF:upd H t (.frz o (.dT (Dk (bO rs)))) q=some (.tup (aX sd)):=by rw[aJ htq];exact eq
  have sF:∀ b u,b≠t→H b=some u→upd H t (.frz o (.dT (Dk (bO rs)))) b=some u:=fun b u hb hu=>by rw[aJ hb];exact hu
  generalize upd H t (.frz o (.dT (Dk (bO rs))))=HF at eF qF sF hD
  have hDt:Dd≠t:=(aH eF hD).symm
  refine vQ (K:=K) (fun i H1=>Same HF H1∧H1 Dd=some (.lst (((((Dk (bO rs)).take i).filter fun kv=>mB sd kv.1).map fun kv=>Fi kv.2).map V.int))) ⟨Same.new hD,aC⟩ (fun i H1 _ p=>p.1 _ _ eF) ?_ ?_
  ·rintro i key v p q2 H1 hk hp hq2 ⟨s1,e1⟩
   have hi:i<(Dk (bO rs)).length:=(List.getElem?_eq_some_iff.mp hk).1
   have hmem:=List.mem_of_getElem? hk
   obtain⟨hv,hin⟩:=DR hmem
   obtain⟨c1,c2,ek0⟩:=BG hin
   obtain⟨u1,u2,eu⟩:=EH c1 c2
   have ekk:key=[lk u1,lk u2]:=by rw[show key=jY c1 c2 from ek0,eu]
   have hv:v=.int ((ctK (bO rs) key:Nat):Int):=hv
   subst hv
   have ht:((Dk (bO rs)).take (i+1)).filter (fun kv=>mB sd kv.1)=((Dk (bO rs)).take i).filter (fun kv=>mB sd kv.1)++(if mB sd key then [(key,V.int ((ctK (bO rs) key:Nat):Int))] else []):=lX (fun kv=>mB sd kv.1) (Dk (bO rs)) i _ hk
   have s2:Same HF (upd H1 p (.tup [.ref q2,.int ((ctK (bO rs) key:Nat):Int)])):=s1.upd' hp
   have q2':upd H1 p (.tup [.ref q2,.int ((ctK (bO rs) key:Nat):Int)]) q2=some (.tup [.str (S [u1]),.str (S [u2])]):=by
    rw[aJ (aH hq2 hp),hq2,ekk];rfl
   have e2:upd H1 p (.tup [.ref q2,.int ((ctK (bO rs) key:Nat):Int)]) Dd=_:=(aJ (aH e1 hp)).trans e1
   generalize upd H1 p (.tup [.ref q2,.int ((ctK (bO rs) key:Nat):Int)])=H2 at s2 q2' e2
   have fl1:(aX sd).all eO=true:=by
    rw[List.all_eq_true];intro z hz;obtain⟨d,_,rfl⟩:=List.mem_map.mp hz;rfl
   refine⟨_,rfl,q2,_,_,.str (S [u1]),rfl,rfl,SqT.of q2',rfl,_,rfl,q,_,rfl,.inr (SqT.of (s2 _ _ qF)),rfl,fl1,?_⟩
   refine⟨_,rfl,q2,_,_,.str (S [u2]),rfl,rfl,SqT.of q2',rfl,_,rfl,q,_,rfl,.inr (SqT.of (s2 _ _ qF)),rfl,fl1,rfl,_,rfl,?_⟩
   rw[if_neg Bool.false_ne_true,if_neg Bool.false_ne_true]
   have el:(!decide (V.bl (nT (.str (S [u1])) (aX sd))=V.bl (nT (.str (S [u2])) (aX sd))))=mB sd key:=by
    rw[ekk]
    show _=(nT (.str (S [u1])) (aX sd) != nT (.str (S [u2])) (aX sd))
    cases nT (.str (S [u1])) (aX sd) <;> cases nT (.str (S [u2])) (aX sd) <;> rfl
   rw[el]
   refine cJ (fun z=>?_) (fun z=>?_)
   ·refine⟨_,rfl,_,e2,?_,s2.upd hD,?_⟩
    ·rw[List.length_map,List.length_map]
     have q1:=List.length_filter_le (fun kv:KP×V=>mB sd kv.1) ((Dk (bO rs)).take i)
     rw[List.length_take] at q1
     exact aW (by omega)
    ·rw[aC,ht,if_pos z,List.map_append,List.map_append];rfl
   ·refine⟨s2,?_⟩
    rw[e2,ht,if_neg z,List.append_nil]
  ·rintro H1 ⟨s1,e1⟩
   rw[List.take_length] at e1
   have eF1:=s1 _ _ eF
   refine⟨upd H1 t (.dT (Dk (bO rs))),.inr ⟨t,o,_,eF1,(fun o v c=>by rw[et] at c;cases c),rfl⟩,Dd,_,rfl,SqL.of (by rw[aJ hDt];exact e1),?_⟩
   refine k _ fun b u hu=>?_
   by_cases hb:b=t
   ·subst hb
    rw[et] at hu
    cases hu
    exact aC
   ·rw[aJ hb];exact s1 _ _ (sF b u hb hu)
theorem IG{f:Addr}{fd:FuncData}(D:Df K mg "length_behind" Ga ["n","rings","change"] f fd)(T:Txt P w K mg LC LD LE LF LG)(c_zd1:Cl P w K mg base "row_length" ["rings"] 1 (gO K))(c_zv:Cl P w K mg base "ties_leaving" ["ties","side"] 1 yZ)(c_z01:Cl P w K mg base "ties_of" ["rings"] 3 (Ct K))(c_zv1:Cl P w K mg base "count_of" ["rings","letter"] 2 (As K)):Cl P w K mg base "length_behind" ["n","rings","change"] 4 (wD K):=by
 refine D.cl (D.F.ok Jw (fun vs H Q E h=>?_) (fun cdv A outer s H vs Q E hr h=>?_))
 ·obtain⟨n,a,p,rs,c,sd,rfl,_⟩:=h
  rfl
 ·obtain⟨n,a,p,rs,c,sd,rfl,ha,hlen,hall,htot,ic,hc,k⟩:=h
  obtain⟨q,ep,eq⟩:=id ic
  refine⟨_,(aE (aM (aY cV (aY kM (pC c_zd1 hr (aA (pv 1) aB)) (pC c_zv1 hr (aA (pv 1) (aA (aR (aZ (K:=K) rfl) (pv 2) aG (fun _ _=>rfl)) aB)))) (pC c_zv hr (aA (pC c_z01 hr (aA (pv 1) aB)) (aA (aR (aZ (K:=K) rfl) (pv 2) aG (fun _ _=>rfl)) aB)))))),?_⟩
  refine⟨_,rfl,a,rs,rfl,ha,hlen,fun x hx=>by have:=oP hx;omega,fun H1 s1=>?_⟩
  refine⟨_,rfl,_,rfl,p,_,_,_,rfl,rfl,SqT.of (s1 _ _ ep),rfl,a,rs,c,rfl,L2.SqT.same s1 ha,hlen,hc,fun H2 s2=>⟨_,_,rfl,rfl,?_⟩⟩
  refine⟨_,rfl,a,rs,rfl,L2.SqT.same (s1.trans s2) ha,hall,htot,fun t H3 ht s3 et=>?_⟩
  have s13:=(s1.trans s2).trans s3
  refine⟨_,rfl,p,_,_,_,rfl,rfl,SqT.of (s13 _ _ ep),rfl,t,q,rs,sd,rfl,et,s13 _ _ eq,htot,fun H4 s4=>⟨_,_,rfl,rfl,k H4 (s13.trans s4)⟩⟩
theorem Iw{f:Addr}{fd:FuncData}(D:Df K mg "_law_any_row" Gq ["_law_flow_here","_law_n","_law_most"] f fd)(T:Txt P w K mg LC LD LE LF LG)(c_zu1:Cl P w K mg base "_law_pick" ["_law_flow_here","_law_many"] 1 iM)(c_zo1:Cl P w K mg base "_law_word" ["_law_flow_here","_law_n","_law_most"] 2 wW)(c_zs1:Cl P w K mg base "_law_ring" ["_law_word_here"] 3 nX)(c_zy1:Cl P w K mg base "_law_row" ["_law_flow_here","_law_n","_law_many","_law_most"] 5 FE):Cl P w K mg base "_law_any_row" ["_law_flow_here","_law_n","_law_most"] 6 vA:=by
 refine D.cl (D.F.ok sc_zz (fun vs H Q E h=>?_) (fun cdv A outer s H vs Q E hr h=>?_))
 ·obtain⟨fl,sc,n,most,rfl,_⟩:=h
  rfl
 ·obtain⟨fl,sc,n,most,rfl,hf,h1,h4,h6,h60,k⟩:=h
  refine⟨_,(aD (aL (i:=3) sc_zz.nd rfl (Or.inl rfl) (pC c_zu1 hr (aA (pv 0) (aA aG aB))))
   (aD (bQ (aP dA (pv 3) aG (aS _)) (aE (aM (bY (aA (pC c_zs1 hr (aA (pC c_zo1 hr (aA (pv 0) (aA (pv 1) (aA (pv 2) aB)))) aB)) aB)))) bA)
   (aD (bQ (aP dA (pv 3) aG (aS _)) (aE (aM (bY (aA (pC c_zs1 hr (aA (aY kI (pC c_zs1 hr (aA (pC c_zo1 hr (aA (pv 0) (aA (pv 1) (aA aG aB)))) aB)) (aY cV aG (pC c_zu1 hr (aA (pv 0) (aA (aY oO (pv 2) aG) aB))))) aB)) aB)))) bA)
   (aE (aM (pC c_zy1 hr (aA (pv 0) (aA (pv 1) (aA aG (aA (pv 2) aB)))))))))),?_⟩
  have i1:(1:Int)≤(n:Nat):=by omega
  have i4:((n:Nat):Int)≤4:=by omega
  refine⟨_,rfl,fl,sc,6,rfl,hf,by decide,by decide,fun e H1 e0 e1 f1 k1=>?_⟩
  refine⟨_,rfl,rfl,_,rfl,cJ (fun q=>?_) (fun q=>?_)⟩
  ·refine⟨_,rfl,_,rfl,_,rfl,fl,sc,(n:Nat),(most:Nat),rfl,f1,i1,i4,by omega,by omega,fun w H2 ow pw wl f2 k2=>?_⟩
   refine⟨w,rfl,ow.all,by omega,fun r H3 hr s3=>⟨aI (by simp),fun t ht=>?_⟩⟩
   have f3:=f2.same s3
   have k3:=(k1.trans k2).trans s3.kp
   have ht0:H t=none:=k3.free ht (f3.ne ht)
   refine k t [r] _ ht0 (by simp) (fun x hx=>?_) ?_ (f3.upd ht) (k3.upd ht0) aC
   ·rw[List.mem_singleton.mp hx];exact⟨w,ow,pw,hr⟩
   ·have:=hr.len
    unfold totL
    simp only [List.map_cons,List.map_nil,List.sum_cons,List.sum_nil]
    omega
  refine⟨_,rfl,rfl,_,rfl,cJ (fun q=>?_) (fun q=>?_)⟩
  ·refine⟨_,rfl,_,rfl,fl,sc,(n:Nat),6,rfl,f1,i1,i4,by decide,by decide,fun w H2 ow pw wl f2 k2=>?_⟩
   refine⟨w,rfl,ow.all,by omega,fun r H3 hr s3=>?_⟩
   have rg:RgN n r:=⟨w,ow,pw,hr⟩
   have rl:=hr.len
   have f3:=f2.same s3
   have k3:=(k1.trans k2).trans s3.kp
   refine⟨_,rfl,_,rfl,_,_,rfl,rfl,⟨by decide,by decide⟩,fl,sc,_,rfl,f3,by omega,by omega,fun g H4 g0 g1 f4 k4=>⟨_,_,rfl,rfl,?_⟩⟩
   obtain⟨m,hm⟩:∃ m:Nat,1+g=(m:Int):=⟨(1+g).toNat,by omega⟩
   rw[show (fun i j:Int=>V.int (i+j)) 1 g=V.int (m:Nat) by rw[← hm]]
   have m1:1≤m:=by omega
   have m6:m * 6≤most:=by omega
   have pl:(kQ r m).length≤most:=by
    rw[oQ]
    exact Nat.le_trans (Nat.mul_le_mul_left m (by omega)) m6
   refine⟨_,_,rfl,rfl,B4 r m m1 (by omega) (by omega),kQ r m,by rw[Fh r m m1];rfl,fun d hd=>rg.ofn.all d (tL hd),by omega,fun r2 H5 hr2 s5=>⟨aI (by simp),fun t ht=>?_⟩⟩
   have f5:=f4.same s5
   have k5:=(k3.trans k4).trans s5.kp
   have ht0:H t=none:=k5.free ht (f5.ne ht)
   refine k t [r2] _ ht0 (by simp) (fun x hx=>?_) ?_ (f5.upd ht) (k5.upd ht0) aC
   ·rw[List.mem_singleton.mp hx];exact⟨kQ r m,fun d hd=>rg.ofn d (tL hd),AA rg m,hr2⟩
   ·have:=hr2.len
    unfold totL
    simp only [List.map_cons,List.map_nil,List.sum_cons,List.sum_nil]
    omega
  ·exact⟨_,rfl,_,rfl,_,rfl,fl,sc,n,4,most,rfl,f1,h1,h4,by decide,h60,fun p rs H2 hp hl hrg ht f2 k2 e2=>k p rs H2 (k1.free hp (f1.ne hp)) hl hrg ht f2 (k1.trans k2) e2⟩
theorem Im{f:Addr}{fd:FuncData}(D:Df K mg "_law_exchange" GA ["_law_flow_here","_law_n"] f fd)(T:Txt P w K mg LC LD LE LF LG)(c_zu1:Cl P w K mg base "_law_pick" ["_law_flow_here","_law_many"] 1 iM):Cl P w K mg base "_law_exchange" ["_law_flow_here","_law_n"] 2 Ak:=by
 refine D.cl (D.F.ok sc_zy (fun vs H Q E h=>?_) (fun cdv A outer s H vs Q E hr h=>?_))
 ·obtain⟨fl,sc,n,rfl,_⟩:=h
  rfl
 ·obtain⟨fl,sc,n,rfl,hf,h1,h4,k⟩:=h
  refine⟨_,(aD (aL (i:=2) sc_zy.nd rfl (Or.inl rfl) (bG (lB rfl) (by rfl) T.b_list boot_list (aA (cG iO cD cT (cC (pv 1))) aB)))
   (aD (aL (i:=3) sc_zy.nd rfl (Or.inl rfl) (dG aB))
   (aD (dC PassesOwn.never rfl (eG (by rfl) T.b_range (aA (pv 1) aB)) (bE (i:=4) sc_zy.nd rfl (Or.inl rfl)) (aD (aL (i:=5) sc_zy.nd rfl (Or.inl rfl) (cY (K:=K) rfl PySem.F.plainAttrs_list PySem.F.slot_list_pop PySem.F.type_list_pop vF (pv 2) (aA (pC c_zu1 hr (aA (pv 0) (aA (aO (bH (K:=K) rfl) (by rfl) T.b_len PySem.boot_len (aA (pv 2) aB)) aB))) aB)))
   (aE (cB (cY (K:=K) rfl PySem.F.plainAttrs_list PySem.F.slot_list_append PySem.F.type_list_append cW (pv 3) (aA (aR (aU (K:=K) rfl) (dG (aA (pv 5) (aA (eY (K:=K) rfl PySem.F.plainAttrs_str PySem.F.slot_str_upper PySem.F.type_str_upper vT (pv 5)) aB))) (pC c_zu1 hr (aA (pv 0) (aA aG aB))) (fun _ _=>rfl)) aB))))))
   (aE (aM (bG (bJ (K:=K) rfl) (by rfl) T.b_tuple boot_tuple (aA (pv 3) aB))))))),?_⟩
  refine⟨_,rfl,_,rfl,_,rfl,by decide +kernel,cP n,?_,?_,fun l hl=>?_⟩
  ·show [V.str (Txt.slice (Str.ofString "abcd") none (some ((n:Nat):Int)))]=_
   rw[CO,fR _ (by omega) (by simp;omega)]
   rfl
  ·rw[fG h4];omega
  refine⟨aI (by simp),fun fd hfd=>?_⟩
  have hlf:l≠fl:=hf.ne hl
  have hls:l≠sc:=hf.ne2 hl
  have hff:fd≠fl:=(hf.upd hl).ne hfd
  have hfs:fd≠sc:=(hf.upd hl).ne2 hfd
  have hld:l≠fd:=aH (aC (H:=H) (a:=l) (o:=HO.lst ((cP n).map fun c=>V.str (S [c])))) hfd
  have hfd0:H fd=none:=by rw[aJ hld.symm] at hfd;exact hfd
  refine⟨_,rfl,(n:Nat),rfl,by omega,by omega,jT (lo:=0) (n:=((n:Nat):Int).toNat) (fun i σ H1=>∃ (v4 v5:Option V) (ls cs:List Nat),σ=[some (.ref fl),some (.int (n:Nat)),some (.ref l),some (.ref fd),v4,v5]∧IsFl H1 fl sc∧Kp fl H H1∧H1 l=some (.lst (aX ls))∧H1 fd=some (.lst (bV (cR cs)))∧(∀ d∈ls,d∈cP n)∧ls.length+i=n∧cs.length=i∧(∀ c∈cs,c∈aQ (n:Nat))∧(cs.map lo++ls).Perm (cP n)) ?_ ?_ ?_⟩
  ·refine⟨none,none,cP n,[],rfl,(hf.upd hl).upd hfd,((Kp.refl fl H).upd hl).upd hfd0,?_,aC,fun d hd=>hd,by rw[fG h4];rfl,rfl,(fun x hx=>nomatch hx),List.Perm.refl _⟩
   rw[aJ hld,aC]
   rfl
  ·rintro i _ H1 hi ⟨v4,v5,ls,cs,rfl,f1,k1,el,ef,hls',hll,hsl,hst,hpm⟩
   have hpos:0<ls.length:=by omega
   refine⟨_,rfl,.inl ⟨rfl,_,SqL.of el⟩,_,rfl,_,rfl,l,_,rfl,.inl (SqL.of el),fl,sc,_,rfl,f1,by rw[bB];omega,by rw[bB];omega,fun g H2 g0 g1 f2 k2=>?_⟩
   rw[bB] at g1
   obtain⟨d,hd⟩:∃ d,ls[g.toNat]?=some d:=⟨_,List.getElem?_eq_getElem (by omega)⟩
   have hdm:=hls' d (List.mem_of_getElem? hd)
   have hdL:=iA hdm
   have hdl:=fX hdm
   have hdn:=fS h1 h4 hdm
   have el2:=k2 _ _ el hlf
   refine⟨l,_,g,g.toNat,.str (S [d]),rfl,rfl,el2,by omega,by omega,?_,pS hd,?_⟩
   ·rw[bB]
    exact PySem.StrLaws.seqIndex_nonneg g0 (by omega)
   rw[pM]
   have hel:(ls.eraseIdx g.toNat).length=ls.length - 1:=by rw[List.length_eraseIdx,if_pos (by omega)]
   have hes:∀ d∈ls.eraseIdx g.toNat,d∈cP n:=fun d hd=>hls' d (List.mem_of_mem_eraseIdx hd)
   have hpe:=wQ hd
   generalize ls.eraseIdx g.toNat=ls2 at hel hes hpe
   have f3:IsFl (upd H2 l (.lst (aX ls2))) fl sc:=f2.set hlf hls
   have hl0:H l=none:=hl
   have k3:Kp fl H (upd H2 l (.lst (aX ls2))):=(k1.trans k2).upd hl0
   have el3:upd H2 l (.lst (aX ls2)) l=some (.lst (aX ls2)):=aC
   have ef3:upd H2 l (.lst (aX ls2)) fd=some (.lst (bV (cR cs))):=by rw[aJ hld.symm];exact k2 _ _ ef hff
   generalize upd H2 l (.lst (aX ls2))=H3 at f3 k3 el3 ef3
   refine⟨_,rfl,.inl ⟨rfl,_,SqL.of ef3⟩,_,rfl,_,rfl,rfl,S [d],rfl,rfl,by rw[oF hdL hdl];exact yF _,aI (by simp),fun q hq=>?_⟩
   rw[oF hdL hdl]
   refine⟨_,rfl,fl,sc,2,rfl,f3.upd hq,by decide,by decide,fun e H4 e0 e1 f4 k4=>?_⟩
   obtain⟨x,hx,hxn,hxl⟩:∃ x,tR [V.str (S [d]),V.str (S [con d])] e=some (.str (S [x]))∧x∈aQ (n:Nat)∧lo x=d:=by
    have:e=0∨e=1:=by omega
    rcases this with rfl | rfl
    ·exact⟨d,rfl,hdn,DO hdL hdl⟩
    ·exact⟨con d,rfl,eV (by omega) (by omega) hdn,G8 hdL hdl⟩
   have hqf:q≠fl:=f3.ne hq
   have ef4:=k4 _ _ (show upd H3 q (.lst [.str (S [d]),.str (S [con d])]) fd=some (.lst (bV (cR cs))) by rw[aJ (aH ef3 hq)];exact ef3) hff
   have el4:=k4 _ _ (show upd H3 q (.lst [.str (S [d]),.str (S [con d])]) l=some (.lst (aX ls2)) by rw[aJ (aH el3 hq)];exact el3) hlf
   have eq4:=k4 _ _ (aC (H:=H3) (a:=q) (o:=HO.lst [.str (S [d]),.str (S [con d])])) hqf
   refine⟨q,_,_,_,rfl,rfl,SqL.of eq4,hx,fd,_,_,rfl,rfl,ef4,by rw[bI];unfold cR;rw[List.length_map];exact aW (by omega),_,_,ls2,cs++[x],rfl,f4.set hff hfs,((k3.upd (k3.free hq hqf)).trans k4).upd hfd0,by rw[aJ hld];exact el4,?_,hes,by omega,by rw[List.length_append,hsl];rfl,fun y hy=>?_,?_⟩
   ·rw[aC];unfold bV cR;rw[List.map_append,List.map_append];rfl
   ·rcases List.mem_append.mp hy with z | z
    ·exact hst y z
    ·rw[List.mem_singleton.mp z];exact hxn
   ·rw[List.map_append,List.append_assoc]
    show (cs.map lo++(lo x::ls2)).Perm _
    rw[hxl]
    exact(hpe.append_left _).trans hpm
  ·rintro _ H1 ⟨v4,v5,ls,cs,rfl,f1,k1,el,ef,hls',hll,hsl,hst,hpm⟩
   rw[Int.toNat_natCast] at hsl
   have hls0:ls=[]:=List.length_eq_zero_iff.mp (by have:ls.length+((n:Nat):Int).toNat=n:=hll;rw[Int.toNat_natCast] at this;omega)
   subst hls0
   rw[List.append_nil] at hpm
   refine⟨_,rfl,fd,_,rfl,.inl ⟨SqL.of ef,fun p hp=>k p cs _ (k1.free hp (f1.ne hp)) ⟨hsl,hst,hpm⟩ ⟨by unfold cR;rw[List.length_map];exact hsl,fun x hx=>?_,fun x hx=>?_⟩ (fun x hx=>?_) aC (f1.upd hp) (k1.upd (k1.free hp (f1.ne hp)))⟩⟩
   ·obtain⟨e,he,rfl⟩:=List.mem_map.mp hx
    exact fY (aK (hst e he))
   ·obtain⟨e,he,rfl⟩:=List.mem_map.mp hx
    exact Nat.le_refl _
   ·obtain⟨e,he,rfl⟩:=List.mem_map.mp hx
    intro z hz
    rw[List.mem_singleton.mp hz];exact hst e he
theorem IB{f:Addr}{fd:FuncData}(D:DfM K LG "__init__" "Weave.__init__" F9 ["self"] f fd)(T:Txt P w K mg LC LD LE LF LG):lZ P w K mg base LG "__init__" ["self"] 1 (tH LG):=by
 refine D.cl (D.F.ok IT (fun vs H Q E h=>?_) (fun cdv A outer s H vs Q E hr h=>?_))
 ·obtain⟨p,dx,rfl,_⟩:=h
  rfl
 ·obtain⟨p,dx,rfl,hp,k⟩:=h
  refine⟨_,(aD (oA (K:=K) rfl (pv 0) (dG (aA aG aB)) rfl)
   (aD (oA (K:=K) rfl (pv 0) (dG (aA cD aB)) rfl)
   (aD (oA (K:=K) rfl (pv 0) (dG (aA vL aB)) rfl)
   (aE (oA (K:=K) rfl (pv 0) (dG aB) rfl))))),?_⟩
  refine⟨by decide,fun q1 h1=>?_⟩
  have F1:=oG (HO.lst [.int 0]) (.ins LG dx (fB "heads" (.ref q1) [])) hp h1
  refine⟨_,rfl,p,LG,dx,[],rfl,jH _ hp h1,T.o_Weave.cl,T.n_Weave_heads,(by show 0<1000;decide),?_⟩
  refine⟨by decide,fun q2 h2=>?_⟩
  have F2:=oG (HO.lst [.str (S [])]) (.ins LG dx (fB "turns" (.ref q2) (fB "heads" (.ref q1) []))) F1.1 h2
  refine⟨_,rfl,p,LG,dx,_,rfl,jH _ F1.1 h2,T.o_Weave.cl,T.n_Weave_turns,(by show 1<1000;decide),?_⟩
  intro d hd
  have hpd:=jH (.dK []) F2.1 hd
  refine⟨(by show 1≤sizeLine;decide),fun q3 h3=>?_⟩
  have F3:=oG (HO.lst [.ref d]) (.ins LG dx (fB "ways" (.ref q3) (fB "turns" (.ref q2) (fB "heads" (.ref q1) [])))) hpd h3
  refine⟨_,rfl,p,LG,dx,_,rfl,jH _ hpd h3,T.o_Weave.cl,T.n_Weave_ways,(by show 2<1000;decide),?_⟩
  refine⟨by decide,fun q4 h4=>?_⟩
  have F4:=oG (HO.lst []) (.ins LG dx (wf q1 q2 q3 q4)) F3.1 h4
  refine⟨_,rfl,p,LG,dx,_,rfl,jH _ F3.1 h4,T.o_Weave.cl,T.n_Weave_alike,(by show 3<1000;decide),?_⟩
  have n1:q1≠p:=(aH hp h1).symm
  have n2:q2≠p:=(aH F1.1 h2).symm
  have n3:d≠p:=(aH F2.1 hd).symm
  have n4:q3≠p:=(aH hpd h3).symm
  have kp:∀ b o,H b=some o→b≠p→_:=fun b o e hb=>F4.2.2 b o (F3.2.2 b o (jH _ (F2.2.2 b o (F1.2.2 b o e hb) hb) hd) hb) hb
  refine k d _ ?_ ⟨⟨dx,q1,q2,q3,q4,F4.1,?_,?_,?_,F4.2.1⟩,?_⟩ kp
  ·cases e:H d with
   | none=>rfl
   | some o =>
    have z:=hd.symm.trans (F2.2.2 d o (F1.2.2 d o e n3) n3)
    cases z
  ·exact F4.2.2 _ _ (F3.2.2 _ _ (jH _ (F2.2.2 _ _ F1.2.1 n1) hd) n1) n1
  ·exact F4.2.2 _ _ (F3.2.2 _ _ (jH _ F2.2.1 hd) n2) n2
  ·exact F4.2.2 _ _ F3.2.1 n4
  ·exact F4.2.2 _ _ (F3.2.2 _ _ aC n3) n3
theorem II{f:Addr}{fd:FuncData}(D:DfM K LG "end_of" "Weave.end_of" GB ["self","place","told"] f fd)(T:Txt P w K mg LC LD LE LF LG)(c_z31:Cl P w K mg base "joined" ["one","other"] 3 tP):lZ P w K mg base LG "end_of" ["self","place","told"] 4 (zU LG):=by
 refine D.cl (D.F.ok sc_zx (fun vs H Q E h=>?_) (fun cdv A outer s H vs Q E hr h=>?_))
 ·obtain⟨p,d,kvs,x,rfl,_⟩:=h
  rfl
 ·obtain⟨p,d,kvs,x,rfl,hW,k⟩:=h
  refine⟨_,(aD (fM PassesOwn.never (aP iR (aR (aU (K:=K) rfl) (dD (K:=K) rfl (pv 0) rfl) (pv 1) (fun _ _=>rfl)) (pv 1) (aS _)) (aD (aL (i:=3) sc_zx.nd rfl (Or.inl rfl) (aR (aU (K:=K) rfl) (dD (K:=K) rfl (pv 0) rfl) (pv 1) (fun _ _=>rfl)))
   (aD (gF (pC c_z31 hr (aA (aR (aU (K:=K) rfl) (dD (K:=K) rfl (pv 0) rfl) (pv 1) (fun _ _=>rfl)) (aA (aR (aU (K:=K) rfl) (dD (K:=K) rfl (pv 0) rfl) (pv 3) (fun _ _=>rfl)) aB))) (jC (dD (K:=K) rfl (pv 0) rfl) (pv 1) fE))
   (aD (gF (aR (aU (K:=K) rfl) (dD (K:=K) rfl (pv 0) rfl) (pv 3) (fun _ _=>rfl)) (jC (dD (K:=K) rfl (pv 0) rfl) (pv 1) fE))
   (aD (aL (i:=2) sc_zx.nd rfl (Or.inl rfl) (pC c_z31 hr (aA (pv 2) (aA (aR (aU (K:=K) rfl) (dD (K:=K) rfl (pv 0) rfl) (pv 1) (fun _ _=>rfl)) aB))))
   (aE (aL (i:=1) sc_zx.nd rfl (Or.inl rfl) (aR (aU (K:=K) rfl) (dD (K:=K) rfl (pv 0) rfl) (pv 1) (fun _ _=>rfl)))))))))
   (aE (aM (bY (aA (pv 1) (aA (pv 2) aB)))))),?_⟩
  obtain⟨⟨dx,hd,tn,wy,al,a1,a2,a3,a4,a5⟩,a6⟩:=id hW
  refine pB fun Q' q=>?_
  refine⟨_,rfl,p,LG,dx,_,_,rfl,a1,T.o_Weave.cl,T.n_Weave_heads,Cr _ _ _ _,_,rfl,hd,_,0,.int 0,rfl,rfl,SqL.of a2,rfl,_,rfl,rfl,?_⟩
  refine⟨_,rfl,(show Q' false H from q _ ?_)⟩
  exact⟨_,rfl,_,rfl,(by show 2≤sizeLine;decide),fun t ht=>k t _ ht (Same.new ht) aC⟩
theorem JN{f:Addr}{fd:FuncData}(D:DfM K LG "head_of" "Weave.head_of" G4 ["self","place"] f fd)(T:Txt P w K mg LC LD LE LF LG)(c_zx:lZ P w K mg base LG "end_of" ["self","place","told"] 4 (zU LG)):lZ P w K mg base LG "head_of" ["self","place"] 5 (tZ LG):=by
 obtain⟨f_zx,fd_zx,G_zx,m_zx,b_zx⟩:=c_zx
 refine D.cl (D.F.ok JX (fun vs H Q E h=>?_) (fun cdv A outer s H vs Q E hr h=>?_))
 ·obtain⟨p,d,kvs,rfl,_⟩:=h
  rfl
 ·obtain⟨p,d,kvs,rfl,hW,k⟩:=h
  refine⟨_,(aE (aM (aR (aZ (K:=K) rfl) (dE (pv 0) T.o_Weave.cl m_zx G_zx (hr.mono (by decide)) b_zx .nil dP (aA (pv 1) (aA cD aB))) aG (fun _ _=>rfl)))),?_⟩
  obtain⟨⟨dx,hd,tn,wy,al,a1,a2,a3,a4,a5⟩,a6⟩:=id hW
  refine⟨_,rfl,p,dx,_,rfl,a1,gA _ _ _ _ (by decide +kernel) (by decide +kernel) (by decide +kernel) (by decide +kernel),_,rfl,p,d,kvs,_,rfl,hW,fun t H1 ht s1 et=>?_⟩
  exact⟨t,_,0,.int 0,rfl,rfl,SqT.of et,rfl,k _ s1⟩
theorem JZ{f:Addr}{fd:FuncData}(D:DfM K LG "goal_of" "Weave.goal_of" Ib ["self","head","letter"] f fd)(T:Txt P w K mg LC LD LE LF LG)(c_zo:lZ P w K mg base LG "head_of" ["self","place"] 5 (tZ LG)):lZ P w K mg base LG "goal_of" ["self","head","letter"] 6 (xF LG):=by
 obtain⟨f_zo,fd_zo,G_zo,m_zo,b_zo⟩:=c_zo
 refine D.cl (D.F.ok sc_zq (fun vs H Q E h=>?_) (fun cdv A outer s H vs Q E hr h=>?_))
 ·obtain⟨p,d,kvs,m,c,rfl,_⟩:=h
  rfl
 ·obtain⟨p,d,kvs,m,c,rfl,hW,hm,k⟩:=h
  refine⟨_,(aD (aL (i:=3) sc_zq.nd rfl (Or.inl rfl) (Ca (Nat.lt_of_le_of_lt (Nat.add_le_add_left (by decide:1≤64) _) hr.units) (aR (aU (K:=K) rfl) (dD (K:=K) rfl (pv 0) rfl) (pv 1) (fun _ _=>rfl)) (pv 2) ⟨rfl,rfl,rfl,rfl⟩))
   (aE (aM (fC (aP C6 (pv 3) qH (aS _)) qH (dE (pv 0) T.o_Weave.cl m_zo G_zo (hr.mono (by decide)) b_zo .nil dP (aA (aR (aZ (K:=K) rfl) (pv 3) aG (fun _ _=>rfl)) aB)))))),?_⟩
  obtain⟨⟨dx,hd,tn,wy,al,a1,a2,a3,a4,a5⟩,a6⟩:=id hW
  refine⟨_,rfl,p,LG,dx,_,_,rfl,a1,T.o_Weave.cl,T.n_Weave_ways,tQ _ _ _ _,_,rfl,wy,_,0,.ref d,rfl,rfl,SqL.of a4,rfl,d,rfl,.inl ⟨kvs,.inl a6⟩,_,rfl,_,DGet.k (k:=.inr (S [c])) a6,?_⟩
  have hc:=hm c
  refine⟨_,rfl,rfl,_,rfl,?_⟩
  cases e:m c with
  | none =>
   rw[e] at hc
   have hv:cF kvs (Sum.inr (S [c]))=none:=hc
   rw[hv]
   show Q .non H
   have:=k H (fun _ _ z=>z)
   rw[e] at this
   exact this
  | some w =>
   rw[e] at hc
   obtain⟨t,hv,ht⟩:=(show ∃ t,cF kvs (Sum.inr (S [c]))=some (V.ref t)∧H t=some (HO.tup [V.int 0,V.str (S w)]) from hc)
   rw[hv]
   have k':=k
   rw[e] at k'
   refine⟨_,rfl,p,dx,_,rfl,a1,gA _ _ _ _ (by decide +kernel) (by decide +kernel) (by decide +kernel) (by decide +kernel),_,rfl,t,_,0,.int 0,rfl,rfl,SqT.of ht,rfl,p,d,kvs,rfl,hW,fun H1 s1=>k' H1 s1⟩
theorem JP{f:Addr}{fd:FuncData}(D:DfM K LG "lay_way" "Weave.lay_way" Hm ["self","place","letter","goal","told"] f fd)(T:Txt P w K mg LC LD LE LF LG)(c_z1:Cl P w K mg base "turned_back" ["word"] 2 iY)(c_z31:Cl P w K mg base "joined" ["one","other"] 3 tP):lZ P w K mg base LG "lay_way" ["self","place","letter","goal","told"] 4 (Dj LG):=by
 refine D.cl (D.F.ok sc_zs (fun vs H Q E h=>?_) (fun cdv A outer s H vs Q E hr h=>?_))
 ·obtain⟨p,d,kvs,m,c,w,rfl,_⟩:=h
  rfl
 ·obtain⟨p,d,kvs,m,c,w,rfl,hW,hm,hn,hl,k⟩:=h
  refine⟨_,(aD (aL (i:=5) sc_zs.nd rfl (Or.inl rfl) (Cb (aR (aU (K:=K) rfl) (dD (K:=K) rfl (pv 0) rfl) (pv 1) (fun _ _=>rfl)) (pv 2) (bY (aA (pv 3) (aA (pv 4) aB))) ⟨rfl,rfl,rfl,rfl⟩))
   (aE (bQ (aP (Cq (K:=K) rfl hr.units) (pv 5) (bY (aA (pv 3) (aA (pv 4) aB))) (aS _)) (aE (cB (cY (K:=K) rfl PySem.F.plainAttrs_list PySem.F.slot_list_append PySem.F.type_list_append cW (dD (K:=K) rfl (pv 0) rfl) (aA (bY (aA (pv 3) (aA (pC c_z31 hr (aA (pC c_z1 hr (aA (pv 4) aB)) (aA (aR (aZ (K:=K) rfl) (pv 5) aG (fun _ _=>rfl)) aB))) (aA (aR (aZ (K:=K) rfl) (pv 5) aG (fun _ _=>rfl)) aB)))) aB)))) bA))),?_⟩
  obtain⟨⟨dx,hd,tn,wy,al,a1,a2,a3,a4,a5⟩,a6⟩:=id hW
  have hv:cF kvs (.inr (S [c]))=none:=by
   have:=hm c
   rw[hn] at this
   exact this
  refine⟨_,rfl,p,LG,dx,_,_,rfl,a1,T.o_Weave.cl,T.n_Weave_ways,tQ _ _ _ _,_,rfl,wy,_,0,.ref d,rfl,rfl,SqL.of a4,rfl,d,rfl,.inl ⟨kvs,.inl a6⟩,_,rfl,_,rfl,_,rfl,(by show 2≤sizeLine;decide),fun t ht=>?_⟩
  have s1:=Same.new (o:=HO.tup [.int 0,.str (S w)]) ht
  refine⟨kvs,.inr (S [c]),s1 _ _ a6,(by rw[sizeLine_eq];omega),rfl,fun v e=>(by rw[hv] at e;cases e),fun _=>?_⟩
  have k1:KpD d H (upd (upd H t (.tup [.int 0,.str (S w)])) d (.dK (dR kvs (.inr (S [c])) (.ref t)))):=fun b o e n=>by rw[aJ n];exact s1 b o e
  have nt:t≠d:=(aH a6 ht).symm
  have et:upd (upd H t (.tup [.int 0,.str (S w)])) d (.dK (dR kvs (.inr (S [c])) (.ref t))) t=some (.tup [.int 0,.str (S w)]):=by rw[aJ nt,aC]
  refine⟨_,rfl,_,rfl,_,rfl,(by show 2≤sizeLine;decide),fun t2 ht2=>?_⟩
  have s2:=Same.new (o:=HO.tup [.int 0,.str (S w)]) ht2
  refine⟨0,t,t2,[.int 0,.str (S w)],[.int 0,.str (S w)],by decide,rfl,rfl,.inr ⟨SqT.of (s2 _ _ et),SqT.of aC⟩,rfl,fun i x y hx hy=>?_,_,rfl,?_⟩
  ·rw[hx] at hy
   cases hy
   have:eO x=true:=by
    have hm:=List.mem_of_getElem? hx
    simp only [List.mem_cons,List.not_mem_nil,or_false] at hm
    rcases hm with rfl | rfl <;> rfl
   exact .flat this
  ·have k2:=k1.trans (KpD.same s2)
   exact k _ _ (hW.put k2 (s2 _ _ aC)) (hm.put a6 k2 (s2 _ _ et)) (dB _ _ _) k2
theorem Jb{f:Addr}{fd:FuncData}(D:DfM K LG "new_place" "Weave.new_place" HB ["self"] f fd)(T:Txt P w K mg LC LD LE LF LG):lZ P w K mg base LG "new_place" ["self"] 1 EU:=by
 refine D.cl (D.F.ok Jo (fun vs H Q E h=>?_) (fun cdv A outer s H vs Q E hr h=>?_))
 ·exact h.elim
 ·exact h.elim
theorem JL{f:Addr}{fd:FuncData}(D:DfM K LG "put_under" "Weave.put_under" Hs ["self","head","above","turn"] f fd)(T:Txt P w K mg LC LD LE LF LG):lZ P w K mg base LG "put_under" ["self","head","above","turn"] 1 EU:=by
 refine D.cl (D.F.ok JE (fun vs H Q E h=>?_) (fun cdv A outer s H vs Q E hr h=>?_))
 ·exact h.elim
 ·exact h.elim
theorem G1{f:Addr}{fd:FuncData}(D:DfM K LG "fold" "Weave.fold" BW ["self"] f fd)(T:Txt P w K mg LC LD LE LF LG)(c_z1:Cl P w K mg base "turned_back" ["word"] 2 iY)(c_z31:Cl P w K mg base "joined" ["one","other"] 3 tP)(c_zx:lZ P w K mg base LG "end_of" ["self","place","told"] 4 (zU LG))(c_zg:lZ P w K mg base LG "put_under" ["self","head","above","turn"] 1 EU):lZ P w K mg base LG "fold" ["self"] 5 (xS LG):=by
 obtain⟨f_zx,fd_zx,G_zx,m_zx,b_zx⟩:=c_zx
 obtain⟨f_zg,fd_zg,G_zg,m_zg,b_zg⟩:=c_zg
 refine D.cl (D.F.ok sc_zb1 (fun vs H Q E h=>?_) (fun cdv A outer s H vs Q E hr h=>?_))
 ·obtain⟨p,d,kvs,rfl,_⟩:=h
  rfl
 ·obtain⟨p,d,kvs,rfl,hW,k⟩:=h
  refine⟨_,(aE (fM PassesOwn.never (aP nC (aO (bH (K:=K) rfl) (by rfl) T.b_len PySem.boot_len (aA (dD (K:=K) rfl (pv 0) rfl) aB)) aG (aS _)) (aD (aL (i:=1) sc_zb1.nd rfl (Or.inl rfl) (cY (K:=K) rfl PySem.F.plainAttrs_list PySem.F.slot_list_pop PySem.F.type_list_pop vF (dD (K:=K) rfl (pv 0) rfl) (aA aG aB)))
   (aD (aL (i:=2) sc_zb1.nd rfl (Or.inl rfl) (dE (pv 0) T.o_Weave.cl m_zx G_zx (hr.mono (by decide)) b_zx .nil dP (aA (aR (aZ (K:=K) rfl) (pv 1) aG (fun _ _=>rfl)) (aA cD aB))))
   (aD (aL (i:=3) sc_zb1.nd rfl (Or.inl rfl) (dE (pv 0) T.o_Weave.cl m_zx G_zx (hr.mono (by decide)) b_zx .nil dP (aA (aR (aZ (K:=K) rfl) (pv 1) aG (fun _ _=>rfl)) (aA (aR (aZ (K:=K) rfl) (pv 1) aG (fun _ _=>rfl)) aB))))
   (aE (bQ (aP iR (aR (aZ (K:=K) rfl) (pv 2) aG (fun _ _=>rfl)) (aR (aZ (K:=K) rfl) (pv 3) aG (fun _ _=>rfl)) (aS _)) (aE (cB (dE (pv 0) T.o_Weave.cl m_zg G_zg (hr.mono (by decide)) b_zg .nil dP (aA (aR (aZ (K:=K) rfl) (pv 2) aG (fun _ _=>rfl)) (aA (aR (aZ (K:=K) rfl) (pv 3) aG (fun _ _=>rfl)) (aA (pC c_z31 hr (aA (pC c_z1 hr (aA (aR (aZ (K:=K) rfl) (pv 2) aG (fun _ _=>rfl)) aB)) (aA (aR (aZ (K:=K) rfl) (pv 3) aG (fun _ _=>rfl)) aB))) aB)))))) bA))))))),?_⟩
  obtain⟨⟨dx,hd,tn,wy,al,a1,a2,a3,a4,a5⟩,a6⟩:=id hW
  refine pB fun Q' q=>?_
  refine⟨_,rfl,p,LG,dx,_,_,rfl,a1,T.o_Weave.cl,T.n_Weave_alike,Bz _ _ _ _,al,[],rfl,.inl (SqL.of a5),_,_,rfl,rfl,_,rfl,(show Q' false H from q _ (k _ (fun _ _ z=>z)))⟩
theorem Kh{f:Addr}{fd:FuncData}(D:DfM K LG "round_told" "Weave.round_told" FM ["self","letter"] f fd)(T:Txt P w K mg LC LD LE LF LG)(c_zw1:Cl P w K mg base "laid_out" ["text"] 2 rQ)(c_z1:Cl P w K mg base "turned_back" ["word"] 2 iY)(c_zx:lZ P w K mg base LG "end_of" ["self","place","told"] 4 (zU LG)):lZ P w K mg base LG "round_told" ["self","letter"] 5 (wK LG):=by
 obtain⟨f_zx,fd_zx,G_zx,m_zx,b_zx⟩:=c_zx
 refine D.cl (D.F.ok sc_zb (fun vs H Q E h=>?_) (fun cdv A outer s H vs Q E hr h=>?_))
 ·obtain⟨p,d,kvs,m,c,w,rfl,_⟩:=h
  rfl
 ·obtain⟨p,d,kvs,m,c,w,rfl,hW,hm,hc,hA,hl,k⟩:=h
  refine⟨_,(aD (aL (i:=2) sc_zb.nd rfl (Or.inl rfl) (dE (pv 0) T.o_Weave.cl m_zx G_zx (hr.mono (by decide)) b_zx .nil dP (aA aG (aA cD aB))))
   (aD (aL (i:=3) sc_zb.nd rfl (Or.inl rfl) (sY (Nat.lt_of_le_of_lt (Nat.add_le_add_left (by decide:1≤64) _) hr.units) (aR (aU (K:=K) rfl) (dD (K:=K) rfl (pv 0) rfl) (aR (aZ (K:=K) rfl) (pv 2) aG (fun _ _=>rfl)) (fun _ _=>rfl)) (pv 1) (fun _ _=>rfl)))
   (aD (aL (i:=4) sc_zb.nd rfl (Or.inl rfl) (dE (pv 0) T.o_Weave.cl m_zx G_zx (hr.mono (by decide)) b_zx .nil dP (aA (aR (aZ (K:=K) rfl) (pv 3) aG (fun _ _=>rfl)) (aA (aR (aZ (K:=K) rfl) (pv 3) aG (fun _ _=>rfl)) aB))))
   (aE (aM (pC c_zw1 hr (aA (aY cH (aY cH (aR (aZ (K:=K) rfl) (pv 2) aG (fun _ _=>rfl)) (aR (aZ (K:=K) rfl) (pv 4) aG (fun _ _=>rfl))) (pC c_z1 hr (aA (aR (aZ (K:=K) rfl) (pv 2) aG (fun _ _=>rfl)) aB))) aB))))))),?_⟩
  obtain⟨⟨dx,hd,tn,wy,al,a1,a2,a3,a4,a5⟩,a6⟩:=id hW
  have hv:=hm c
  rw[hc] at hv
  obtain⟨t0,v0,v1⟩:=(show ∃ t,cF kvs (Sum.inr (S [c]))=some (V.ref t)∧H t=some (HO.tup [V.int 0,V.str (S w)]) from hv)
  refine⟨_,rfl,p,dx,_,rfl,a1,gA _ _ _ _ (by decide +kernel) (by decide +kernel) (by decide +kernel) (by decide +kernel),p,d,kvs,_,rfl,hW,fun t1 H1 h1 s1 e1=>?_⟩
  have e1':H1 t1=some (.tup [.int 0,.str (S [])]):=e1
  have hg:DGet H1 d (.str (S [c])) (some (.ref t0)):=by
   have:=DGet.k (k:=.inr (S [c])) (s1 _ _ a6)
   rw[v0] at this
   exact this
  refine⟨_,rfl,p,LG,dx,_,_,rfl,s1 _ _ a1,T.o_Weave.cl,T.n_Weave_ways,tQ _ _ _ _,_,rfl,t1,_,0,.int 0,rfl,rfl,SqT.of e1',rfl,wy,_,0,.ref d,rfl,rfl,SqL.of (s1 _ _ a4),rfl,_,rfl,d,.ref t0,rfl,hg,?_⟩
  refine⟨_,rfl,p,dx,_,rfl,s1 _ _ a1,gA _ _ _ _ (by decide +kernel) (by decide +kernel) (by decide +kernel) (by decide +kernel),_,rfl,t0,_,0,.int 0,rfl,rfl,SqT.of (s1 _ _ v1),rfl,_,rfl,t0,_,1,.str (S w),rfl,rfl,SqT.of (s1 _ _ v1),rfl,p,d,kvs,_,rfl,hW.same s1,fun t2 H2 h2 s2 e2=>?_⟩
  have e1'':=s2 _ _ e1'
  refine⟨_,rfl,t1,_,1,.str (S []),rfl,rfl,SqT.of e1'',rfl,_,rfl,t2,_,1,.str (S w),rfl,rfl,SqT.of e2,rfl,_,_,rfl,rfl,?_,_,rfl,t1,_,1,.str (S []),rfl,rfl,SqT.of e1'',rfl,[],rfl,AllL.nil,by decide,fun H3 s3=>⟨_,_,rfl,rfl,?_,w,?_,hA,by omega,fun H4 s4=>?_⟩⟩
  ·rw[aT,aT,sizeLine_eq];show 0+w.length≤_;omega
  ·rw[dI,aT,aT,sizeLine_eq];show ([]++w).length+0≤_;rw[List.nil_append];omega
  ·rw[dI,dI];show [V.str (S ([]++w++[]))]=_;rw[List.nil_append,List.append_nil]
  ·exact k _ (s1.trans (s2.trans (s3.trans s4)))
theorem JT{f:Addr}{fd:FuncData}(D:DfM K LG "lay_word" "Weave.lay_word" GH ["self","word","told"] f fd)(T:Txt P w K mg LC LD LE LF LG)(c_zq1:Cl P w K mg base "contrary" ["letter"] 1 fA)(c_z1:Cl P w K mg base "turned_back" ["word"] 2 iY)(c_zh:lZ P w K mg base LG "new_place" ["self"] 1 EU)(c_zs:lZ P w K mg base LG "lay_way" ["self","place","letter","goal","told"] 4 (Dj LG)):lZ P w K mg base LG "lay_word" ["self","word","told"] 5 (tV LG):=by
 obtain⟨f_zh,fd_zh,G_zh,m_zh,b_zh⟩:=c_zh
 obtain⟨f_zs,fd_zs,G_zs,m_zs,b_zs⟩:=c_zs
 refine D.cl (D.F.ok sc_zm (fun vs H Q E h=>?_) (fun cdv A outer s H vs Q E hr h=>?_))
 ·obtain⟨p,d,kvs,m,c,w,rfl,_⟩:=h
  rfl
 ·obtain⟨p,d,kvs,m,c,w,rfl,hW,hm,hcL,hA,hl,hn1,hn2,hk,k⟩:=h
  refine⟨_,(aD (aL (i:=3) sc_zm.nd rfl (Or.inl rfl) aG)
   (aE (dC PassesOwn.never rfl (zR (by rfl) T.b_enumerate (aA (pv 1) aB)) (kH (K:=K) rfl rfl (cO (bE (i:=4) sc_zm.nd rfl (Or.inl rfl)) (cO (bE (i:=5) sc_zm.nd rfl (Or.inl rfl)) iK))) (aD (aL (i:=6) sc_zm.nd rfl (Or.inl rfl) (dM dA (pv 4) (aY kM (aO cQ (by rfl) T.b_len PySem.boot_len (aA (pv 1) aB)) aG) (aS _)))
   (aD (aL (i:=7) sc_zm.nd rfl (Or.inl rfl) (fC (eX (pv 6)) aG (pI (pv 0) T.o_Weave.cl m_zh G_zh (hr.mono (by decide)) b_zh .nil dP)))
   (aD (aL (i:=8) sc_zm.nd rfl (Or.inl rfl) (fC (eX (pv 6)) (pv 2) cD))
   (aD (cB (dE (pv 0) T.o_Weave.cl m_zs G_zs (hr.mono (by decide)) b_zs .nil dP (aA (pv 3) (aA (pv 5) (aA (pv 7) (aA (pv 8) aB))))))
   (aD (cB (dE (pv 0) T.o_Weave.cl m_zs G_zs (hr.mono (by decide)) b_zs .nil dP (aA (pv 7) (aA (pC c_zq1 hr (aA (pv 5) aB)) (aA (pv 3) (aA (pC c_z1 hr (aA (pv 8) aB)) aB))))))
   (aE (aL (i:=3) sc_zm.nd rfl (Or.inl rfl) (pv 7))))))))))),?_⟩
  refine⟨_,rfl,S [c],rfl,uM (w:=[c]) (fun i σ H2=>∃ v3 v4 v5 v6 v7 v8:Option V,∃ kvs' m',σ=[some (.ref p),some (.str (S [c])),some (.str (S w)),v3,v4,v5,v6,v7,v8]∧Wv LG H2 p d kvs'∧Ways H2 kvs' m'∧KpD d H H2∧((i=0∧v3=some (.int 0)∧kvs'=kvs∧m'=m)∨(i=1∧kvs'.length≤kvs.length+2∧m'=fun x=>if x=con c then some (back w) else if x=c then some w else m x))) ?_ ?_ ?_⟩
  ·exact⟨_,_,_,_,_,_,kvs,m,rfl,hW,hm,fun _ _ z _=>z,.inl ⟨rfl,rfl,rfl,rfl⟩⟩
  ·rintro i c1 q _ H2 hc1 hq2 ⟨v3,v4,v5,v6,v7,v8,kvs',m',rfl,W2,M2,K2,hcase⟩
   have hi:i=0∧c1=c:=by
    cases i with
    | zero=>exact⟨rfl,by simpa using hc1.symm⟩
    | succ i=>simp at hc1
   obtain⟨rfl,rfl⟩:=hi
   rcases hcase with ⟨_,rfl,rfl,rfl⟩ | ⟨z,_⟩
   rotate_left
   ·exact absurd z (by decide)
   have s3:=Same.new (o:=HO.tup [.int ((0:Nat):Int),.str (S [c1])]) hq2
   refine⟨q,_,rfl,.inr (SqT.of aC),rfl,_,_,rfl,_,_,rfl,rfl,?_⟩
   generalize upd H2 q (.tup [.int ((0:Nat):Int),.str (S [c1])])=H3 at s3
   refine⟨_,rfl,_,rfl,S [c1],rfl,?_,_,_,rfl,rfl,rfl,?_⟩
   ·rw[aT,sizeLine_eq];show 1≤_;decide
   have hb:decide (V.int ((0:Nat):Int)=V.int ((((S [c1]).length:Nat):Int) - 1))=true:=by rw[aT];rfl
   refine⟨_,rfl,_,rfl,cJ (fun _=>?_) (fun z=>absurd hb z)⟩
   refine⟨_,rfl,_,rfl,cJ (fun _=>?_) (fun z=>absurd hb z)⟩
   refine⟨_,rfl,?_⟩
   have W3:=W2.same s3
   have M3:=M2.same s3
   obtain⟨⟨dx,hd,tn,wy,al,a1,a2,a3,a4,a5⟩,a6⟩:=id W3
   refine⟨_,rfl,p,dx,_,rfl,a1,gA _ _ _ _ (by decide +kernel) (by decide +kernel) (by decide +kernel) (by decide +kernel),_,rfl,_,rfl,_,rfl,_,rfl,p,d,kvs',m',c1,w,rfl,W3,M3,hn1,by omega,fun kvs4 H4 W4 M4 hl4 K4=>?_⟩
   obtain⟨⟨dy,hd',tn',wy',al',b1,b2,b3,b4,b5⟩,b6⟩:=id W4
   refine⟨_,rfl,p,dy,_,rfl,b1,gA _ _ _ _ (by decide +kernel) (by decide +kernel) (by decide +kernel) (by decide +kernel),_,rfl,_,rfl,c1,rfl,hcL,fun H5 s5=>?_⟩
   refine⟨_,rfl,_,rfl,w,rfl,hA,hl,fun H6 s6=>?_⟩
   refine⟨p,d,kvs4,_,con c1,back w,rfl,(W4.same s5).same s6,(M4.same s5).same s6,?_,by omega,fun kvs7 H7 W7 M7 hl7 K7=>?_⟩
   ·show (if con c1=c1 then some w else m' (con c1))=none
    rw[if_neg (hV hcL)]
    exact hn2
   ·exact⟨_,rfl,_,_,_,_,_,_,kvs7,_,rfl,W7,M7,(((K2.trans (KpD.same s3)).trans K4).trans (KpD.same (s5.trans s6))).trans K7,.inr ⟨rfl,by omega,rfl⟩⟩
  ·rintro σ H2 ⟨v3,v4,v5,v6,v7,v8,kvs',m',rfl,W2,M2,K2,hcase⟩
   rcases hcase with ⟨z,_⟩ | ⟨_,hl',rfl⟩
   ·exact absurd z (by simp)
   ·exact k kvs' H2 W2 M2 hl' K2
theorem IE{f:Addr}{fd:FuncData}(D:Df K mg "numbers_of_heads" Hn ["n","weave"] f fd)(T:Txt P w K mg LC LD LE LF LG)(c_za1:Cl P w K mg base "letters_of" ["n"] 1 (B6 K))(c_zo:lZ P w K mg base LG "head_of" ["self","place"] 5 (tZ LG))(c_zq:lZ P w K mg base LG "goal_of" ["self","head","letter"] 6 (xF LG)):Cl P w K mg base "numbers_of_heads" ["n","weave"] 7 (C1 LG):=by
 obtain⟨f_zo,fd_zo,G_zo,m_zo,b_zo⟩:=c_zo
 obtain⟨f_zq,fd_zq,G_zq,m_zq,b_zq⟩:=c_zq
 refine D.cl (D.F.ok sc_ze (fun vs H Q E h=>?_) (fun cdv A outer s H vs Q E hr h=>?_))
 ·obtain⟨n,p,d,kvs,m,rfl,_⟩:=h
  rfl
 ·obtain⟨n,p,d,kvs,m,rfl,h1,h4,hW,hm,k⟩:=h
  refine⟨_,(aD (aL (i:=2) sc_ze.nd rfl (Or.inl rfl) (dG (aA (dE (pv 1) T.o_Weave.cl m_zo G_zo (hr.mono (by decide)) b_zo .nil dP (aA aG aB)) aB)))
   (aD (aL (i:=3) sc_ze.nd rfl (Or.inl rfl) (EE (BN (aR (aU (K:=K) rfl) (pv 2) aG (fun _ _=>rfl)) aG D5) rfl rfl (by simp) (by decide)))
   (aD (aL (i:=4) sc_ze.nd rfl (Or.inl rfl) aG)
   (aD (fM PassesOwn.never (aP pW (pv 4) (aO (bH (K:=K) rfl) (by rfl) T.b_len PySem.boot_len (aA (pv 2) aB)) (aS _)) (aD (dC PassesOwn.never rfl (cS (K:=K) rfl (pC c_za1 hr (aA (pv 0) aB))) (bE (i:=5) sc_ze.nd rfl (Or.inl rfl)) (aD (aL (i:=6) sc_ze.nd rfl (Or.inl rfl) (dE (pv 1) T.o_Weave.cl m_zq G_zq (hr.mono (by decide)) b_zq .nil dP (aA (aR (aU (K:=K) rfl) (pv 2) (pv 4) (fun _ _=>rfl)) (aA (pv 5) aB))))
   (aE (bQ (pw_and (aP Fe (pv 6) qH (aS _)) (pw_and1 (Hk (AJ (Nat.lt_of_le_of_lt (Nat.add_le_add_left (by decide:1≤64) _) hr.units) (pv 6) (pv 3)) (by rfl)))).pt (aD (oN (Nat.lt_of_le_of_lt (Nat.add_le_add_left (by decide:1≤64) _) hr.units) (pv 3) (pv 6) (aO (bH (K:=K) rfl) (by rfl) T.b_len PySem.boot_len (aA (pv 2) aB)) (by rfl))
   (aE (cB (cY (K:=K) rfl PySem.F.plainAttrs_list PySem.F.slot_list_append PySem.F.type_list_append cW (pv 2) (aA (pv 6) aB))))) bA))))
   (aE (mD (i:=4) sc_ze.nd rfl (Or.inl rfl) aG mQ))))
   (aE (aM (pv 3))))))),?_⟩
  obtain⟨⟨dx,hd,tn,wy,al,a1,a2,a3,a4,a5⟩,a6⟩:=id hW
  refine⟨_,rfl,p,dx,_,rfl,a1,gA _ _ _ _ (by decide +kernel) (by decide +kernel) (by decide +kernel) (by decide +kernel),p,d,kvs,rfl,hW,fun H1 s1=>?_⟩
  refine⟨by decide,fun hs hh=>?_⟩
  have s2:Same H (upd H1 hs (.lst [.int 0])):=s1.trans (Same.new hh)
  have e2:upd H1 hs (.lst [.int 0]) hs=some (.lst [.int 0]):=aC
  generalize upd H1 hs (.lst [.int 0])=H2 at s2 e2
  intro q hq
  have s3:=Same.new (o:=HO.dK []) hq
  refine⟨_,rfl,hs,_,0,.int 0,rfl,rfl,SqL.of (s3 _ _ e2),rfl,?_⟩
  refine⟨aC,[(.inl 0,.int 0)],rfl,by decide,?_⟩
  have s4:Same H2 (upd (upd H2 q (.dK [])) q (.dK [(.inl 0,.int 0)])):=fun b o e=>by
   have n:b≠q:=aH e hq
   rw[aJ n,aJ n];exact e
  have e4:upd (upd H2 q (.dK [])) q (.dK [(.inl 0,.int 0)]) q=some (.dK [(.inl 0,.int 0)]):=aC
  show JV _ _ _ _ (upd (upd H2 q (.dK [])) q (.dK [(.inl 0,.int 0)]))
  generalize upd (upd H2 q (.dK [])) q (.dK [(.inl 0,.int 0)])=H3 at s4 e4
  have hqH:H q=none:=by
   cases e:H q with
   | none=>rfl
   | some o=>rw[s2 _ _ e] at hq;cases hq
  have e3:=s4 _ _ e2
  have s5:=s2.trans s4
  refine⟨fun m0 σ H'=>∃ (v5 v6:Option V) (dn:Nat),m0+dn=1∧σ=[some (.int (n:Nat)),some (.ref p),some (.ref hs),some (.ref q),some (.int (dn:Nat)),v5,v6]∧Same H3 H',⟨1,none,none,0,rfl,rfl,fun _ _ z=>z⟩,?_⟩
  rintro m0 _ H4 ⟨v5,v6,dn,hmd,rfl,s6⟩
  refine⟨_,rfl,_,rfl,hs,[.int 0],rfl,.inl (SqL.of (s6 _ _ e3)),_,_,rfl,rfl,_,rfl,?_⟩
  refine cJ (fun z=>?_) (fun z=>?_)
  rotate_left
  ·exact⟨_,rfl,k q H4 (s5.trans s6) hqH (s6 _ _ e4)⟩
  ·have hdn:dn=0:=by
    rcases Nat.eq_zero_or_pos dn with h | h
    ·exact h
    ·have:dn=1:=by omega
     subst this
     exact absurd z (by decide)
   subst hdn
   have hm0:m0=1:=by omega
   subst hm0
   refine⟨fun σ' H'=>∃ v5 v6:Option V,σ'=[some (.int (n:Nat)),some (.ref p),some (.ref hs),some (.ref q),some (.int ((1:Nat):Int)),v5,v6]∧Same H3 H',fun σ' H' ⟨v5,v6,e,s⟩=>⟨0,by decide,v5,v6,1,rfl,e,s⟩,?_⟩
   refine⟨_,rfl,n,rfl,h1,h4,fun t H5 s7 ht=>⟨t,rfl,⟨_,ht⟩,?_⟩⟩
   refine lU (K:=K) (a:=t) (xs:=aX (aQ (n:Nat))) (fun i σ H'=>∃ v5 v6:Option V,σ=[some (.int (n:Nat)),some (.ref p),some (.ref hs),some (.ref q),some (.int ((0:Nat):Int)),v5,v6]∧Same H5 H') ⟨_,_,rfl,fun _ _ z=>z⟩ ?_ ?_ ?_
   ·rintro i σ H' _ ⟨_,_,_,s8⟩
    exact L2.SqT.same s8 ht
   ·rintro i x _ H6 hx ⟨v5,v6,rfl,s8⟩
    obtain⟨c,hc,rfl⟩:∃ c,(aQ (n:Nat))[i]?=some c∧x=.str (S [c]):=by
     unfold aX at hx
     rw[List.getElem?_map] at hx
     cases e:(aQ (n:Nat))[i]? with
     | none=>rw[e] at hx;cases hx
     | some c=>rw[e] at hx;cases hx;exact⟨c,rfl,rfl⟩
    have s9:Same H3 H6:=s6.trans (s7.trans s8)
    have s10:=s5.trans s9
    refine⟨_,rfl,p,dx,_,rfl,s10 _ _ a1,gA _ _ _ _ (by decide +kernel) (by decide +kernel) (by decide +kernel) (by decide +kernel),_,rfl,_,rfl,hs,_,0,.int 0,rfl,rfl,SqL.of (s9 _ _ e3),rfl,_,rfl,p,d,kvs,m,c,rfl,hW.same s10,hm.same s10,fun H7 s11=>?_⟩
    cases e:m c with
    | none =>
     refine⟨_,rfl,rfl,_,rfl,?_⟩
     show ∃ v5 v6:Option V,_∧Same H5 H7
     exact⟨_,_,rfl,s8.trans s11⟩
    | some w =>
     refine⟨_,rfl,rfl,_,rfl,?_⟩
     refine(show tB (Ac (Ep 6) (Ep 3)) _ H7 _ from ?_)
     refine⟨_,rfl,_,rfl,q,_,rfl,DGet.k (k:=.inl 0) ((s9.trans s11) _ _ e4),_,rfl,?_⟩
     show ∃ v5 v6:Option V,_∧Same H5 H7
     exact⟨_,_,rfl,s8.trans s11⟩
   ·rintro σ H6 ⟨v5,v6,rfl,s8⟩
    exact⟨_,rfl,_,_,rfl,rfl,v5,v6,rfl,s6.trans (s7.trans s8)⟩
theorem FV{f:Addr}{fd:FuncData}(D:Df K mg "place_told" vE ["n","weave","numbers","head"] f fd)(T:Txt P w K mg LC LD LE LF LG)(c_zp:Cl P w K mg base "first_letters" ["n"] 1 gB)(c_zq:lZ P w K mg base LG "goal_of" ["self","head","letter"] 6 (xF LG)):Cl P w K mg base "place_told" ["n","weave","numbers","head"] 7 (zJ LG):=by
 obtain⟨f_zq,fd_zq,G_zq,m_zq,b_zq⟩:=c_zq
 refine D.cl (D.F.ok sc_zc1 (fun vs H Q E h=>?_) (fun cdv A outer s H vs Q E hr h=>?_))
 ·obtain⟨n,p,d,t,kvs,m,rfl,_⟩:=h
  rfl
 ·obtain⟨n,p,d,t,kvs,m,rfl,h1,h4,hW,hm,hall,hN,k⟩:=h
  refine⟨_,(aD (qC (i:=4) (sc0:=aF vE) (N:=["n","weave","numbers","head","goals"]) (ix:=[1,3]) sc_zc1.nd rfl rfl (by decide +kernel) rfl rfl rfl (cS (K:=K) rfl (pC c_zp hr (aA (pv 0) aB))) (fun _ _ _=>bF) (fun _ _ _=>(dE (pv 1) T.o_Weave.cl m_zq G_zq (hr.mono (by decide)) b_zq .nil dP (aA (pv 2) (aA (pv 0) aB)))))
   (aE (aM (bG (bJ (K:=K) rfl) (by rfl) T.b_tuple boot_tuple (aA (bL (sc0:=aF vE) (N:=["n","weave","numbers","head","goals"]) (ix:=[2]) (by decide +kernel) rfl rfl rfl (pR (K:=K) rfl (pv 4)) (fun _ _ _=>bF) (fun _ _ _=>(fC (aP C6 (pv 0) qH (aS _)) qH (sY (Nat.lt_of_le_of_lt (Nat.add_le_add_left (by decide:1≤64) _) hr.units) (pv 1) (pv 0) (fun _ _=>rfl))))) aB))))),?_⟩
  obtain⟨⟨dx,hd,tn,wy,al,a1,a2,a3,a4,a5⟩,a6⟩:=id hW
  have ll:(cK n).length=n:=(gC h1 h4).len
  refine⟨_,rfl,n,rfl,h1,h4,fun tl H1 htl s1 etl=>⟨tl,rfl,⟨_,SqT.of etl⟩,fun Dd hD=>?_⟩⟩
  refine cI (xs:=bV (cK n)) (fun i H2=>Same H1 H2∧H2 Dd=some (.lst (zs i))) ⟨Same.new hD,aC⟩ (fun i H2 _ h=>SqT.of (h.1 _ _ etl)) ?_ ?_
  ·rintro i v H2 hv ⟨s2,e2⟩
   obtain⟨rfl,hi⟩:=lD h4 hv
   have hci:=iW hv
   have hcm:=List.mem_of_getElem? hci
   have s12:=s1.trans s2
   refine⟨_,rfl,p,dx,_,rfl,s12 _ _ a1,gA _ _ _ _ (by decide +kernel) (by decide +kernel) (by decide +kernel) (by decide +kernel),_,rfl,_,rfl,p,d,kvs,m,97+i,rfl,hW.same s12,hm.same s12,fun H3 s3=>?_⟩
   rw[hall _ hcm]
   refine⟨_,s3 _ _ e2,?_,(s2.trans s3).upd hD,?_⟩
   ·unfold zs;rw[List.length_replicate];exact aW (by omega)
   ·rw[aC];unfold zs;rw[List.replicate_succ'];rfl
  ·rintro H2 ⟨s2,e2⟩
   rw[bI,ll] at e2
   have s12:=s1.trans s2
   refine⟨_,rfl,Dd,rfl,⟨_,SqL.of e2⟩,fun Ee hE=>?_⟩
   have hDE:Dd≠Ee:=aH e2 hE
   refine nG (xs:=zs n) (fun i H3=>Same H2 H3∧H3 Ee=some (.lst (zs i))) ⟨Same.new hE,aC⟩ (fun i H3 _ h=>SqL.of (h.1 _ _ e2)) ?_ ?_
   ·rintro i v H3 hv ⟨s3,e3⟩
    have hv':v=.int 0:=by
     have:=List.mem_of_getElem? hv
     exact(List.mem_replicate.mp this).2
    subst hv'
    have hi:i<n:=by have:=(List.getElem?_eq_some_iff.mp hv).1;unfold zs at this;rw[List.length_replicate] at this;exact this
    obtain⟨o,et⟩:=(hN.same s12).same s3
    refine⟨_,rfl,rfl,_,rfl,?_⟩
    refine⟨_,rfl,_,rfl,t,.int 0,rfl,DGet.fk (k:=.inl 0) et,?_⟩
    refine⟨_,e3,?_,s3.upd hE,?_⟩
    ·unfold zs;rw[List.length_replicate];exact aW (by omega)
    ·rw[aC];unfold zs;rw[List.replicate_succ']
   ·rintro H3 ⟨s3,e3⟩
    have hzl:(zs n).length=n:=by unfold zs;rw[List.length_replicate]
    rw[hzl] at e3
    have s13:=s12.trans s3
    exact⟨Ee,_,rfl,.inl ⟨SqL.of e3,fun q hq=>k q _ (s13.free hq) (s13.upd' hq) aC⟩⟩
theorem HS{f:Addr}{fd:FuncData}(D:Df K mg "web_of" Ai ["n","words"] f fd)(T:Txt P w K mg LC LD LE LF LG)(c_zl:lZ P w K mg base LG "__init__" ["self"] 1 (tH LG))(c_zm:lZ P w K mg base LG "lay_word" ["self","word","told"] 5 (tV LG))(c_zb1:lZ P w K mg base LG "fold" ["self"] 5 (xS LG))(c_ze:Cl P w K mg base "numbers_of_heads" ["n","weave"] 7 (C1 LG))(c_zc1:Cl P w K mg base "place_told" ["n","weave","numbers","head"] 7 (zJ LG)):Cl P w K mg base "web_of" ["n","words"] 8 (Fm LG):=by
 obtain⟨f_zl,fd_zl,G_zl,m_zl,b_zl⟩:=c_zl
 obtain⟨f_zm,fd_zm,G_zm,m_zm,b_zm⟩:=c_zm
 obtain⟨f_zb1,fd_zb1,G_zb1,m_zb1,b_zb1⟩:=c_zb1
 refine D.cl (D.F.ok sc_z41 (fun vs H Q E h=>?_) (fun cdv A outer s H vs Q E hr h=>?_))
 ·obtain⟨n,a,cs,rfl,_⟩:=h
  rfl
 ·obtain⟨n,a,cs,rfl,h1,h4,ex,ea,k⟩:=h
  refine⟨_,(aD (aL (i:=2) sc_z41.nd rfl (Or.inr rfl) (uR (T.o_Weave.make m_zl) G_zl (hr.mono (by decide)) (by rfl) T.m_Weave b_zl .nil dP))
   (aD (dC PassesOwn.never rfl (cS (K:=K) rfl (pv 1)) (bE (i:=3) sc_z41.nd rfl (Or.inl rfl)) (aE (cB (dE (pv 2) T.o_Weave.cl m_zm G_zm (hr.mono (by decide)) b_zm .nil dP (aA (pv 3) (aA cD aB))))))
   (aD (cB (pI (pv 2) T.o_Weave.cl m_zb1 G_zb1 (hr.mono (by decide)) b_zb1 .nil dP))
   (aD (aL (i:=4) sc_z41.nd rfl (Or.inr rfl) (pC c_ze hr (aA (pv 0) (aA (pv 2) aB))))
   (aE (aM (bG (bJ (K:=K) rfl) (by rfl) T.b_tuple boot_tuple (aA (BA (H0:=H) rfl (bL (sc0:=aF Ai) (N:=["n","words","weave","word","numbers"]) (ix:=[0,2,4]) (by decide +kernel) rfl rfl rfl (Dm (pv 4)) (fun _ _ _=>bF) (fun _ _ _=>(pC c_zc1 hr (aA (pv 1) (aA (pv 2) (aA (pv 3) (aA (pv 0) aB)))))))) aB)))))))),?_⟩
  have hcl:=ex.len
  intro p dx hp hdx hne
  have hp0:upd (upd H dx (.own p)) p (.ins LG dx []) p=some (.ins LG dx []):=aC
  have sN:∀ b o,H b=some o→upd (upd H dx (.own p)) p (.ins LG dx []) b=some o:=fun b o e=>by rw[aJ (aH e hp),aJ (aH e hdx)];exact e
  refine⟨p,dx,rfl,hp0,fun d H1 hd1 hW1 kp1=>⟨rfl,?_⟩⟩
  have s1:Same H H1:=fun b o e=>kp1 b o (sN b o e) (aH e hp)
  have hd0:H d=none:=by
   cases e:H d with
   | none=>rfl
   | some o=>rw[sN _ _ e] at hd1;cases hd1
  have hul:(List.replicate n ([]:List Nat)).length=n:=List.length_replicate
  refine⟨_,rfl,a,rfl,⟨_,SqT.of (s1 _ _ ea)⟩,lU (K:=K) (a:=a) (xs:=aX cs) (fun i σ H2=>∃ (v3:Option V) (kvs:List (bW×V)),σ=[some (.int (n:Nat)),some (.ref a),some (.ref p),v3,none]∧Wv LG H2 p d kvs∧Ways H2 kvs (kD ((List.replicate n []).take i) (cs.take i))∧kvs.length≤2 * i∧Same H H2) ⟨none,[],rfl,hW1,fun c=>rfl,Nat.le_refl _,s1⟩ (fun i σ H2 _ ⟨_,_,_,_,_,_,s⟩=>SqT.of (s _ _ ea)) ?_ ?_⟩
  ·rintro i v _ H2 hv ⟨v3,kvs,rfl,W2,M2,hl2,s2⟩
   obtain⟨c,hc,rfl⟩:∃ c,cs[i]?=some c∧v=.str (S [c]):=by
    unfold aX at hv
    rw[List.getElem?_map] at hv
    cases hq:cs[i]? with
    | none=>rw[hq] at hv;cases hv
    | some o=>rw[hq] at hv;exact⟨o,rfl,(Option.some.inj hv).symm⟩
   have hi:i<n:=by have:=(List.getElem?_eq_some_iff.mp hc).1;omega
   have hu:(List.replicate n ([]:List Nat))[i]?=some []:=by rw[List.getElem?_replicate,if_pos hi]
   obtain⟨g1,g2⟩:=ex.wayN h1 h4 hul i (by omega) i c (Nat.le_refl _) hc
   obtain⟨⟨dy,hd',tn',wy',al',b1,b2,b3,b4,b5⟩,b6⟩:=id W2
   refine⟨_,rfl,p,dy,_,rfl,b1,gA _ _ _ _ (by decide +kernel) (by decide +kernel) (by decide +kernel) (by decide +kernel),_,rfl,p,d,kvs,_,c,[],rfl,W2,M2,aK (ex.mem c (List.mem_of_getElem? hc)),AllL.nil,by decide,g1,g2,by omega,fun kvs' H3 W3 M3 l3 k3=>⟨_,kvs',rfl,W3,?_,by omega,fun b o e=>k3 b o (s2 b o e) (aH e hd0)⟩⟩
   rw[jO hc hu]
   exact M3
  ·rintro _ H2 ⟨v3,kvs,rfl,W2,M2,hl2,s2⟩
   rw[bB,List.take_length,List.take_of_length_le (by rw[hul];omega)] at M2
   obtain⟨⟨dy,hd',tn',wy',al',b1,b2,b3,b4,b5⟩,b6⟩:=id W2
   refine⟨_,rfl,p,dy,_,rfl,b1,gA _ _ _ _ (by decide +kernel) (by decide +kernel) (by decide +kernel) (by decide +kernel),p,d,kvs,rfl,W2,fun H3 s3=>?_⟩
   refine⟨_,rfl,_,rfl,n,p,d,kvs,_,rfl,h1,h4,W2.same s3,M2.same s3,fun t H4 s4 ht et=>?_⟩
   have s23:=s2.trans s3
   have ht0:H t=none:=s23.free ht
   refine⟨_,rfl,t,_,rfl,.inl ⟨et,fun o Dd hD=>?_⟩⟩
   have sf:Same H3 (upd H4 t (.frz o (.dK [(.inl 0,.int 0)]))):=s4.upd ht
   have htD:t≠Dd:=aH (aC (H:=H4) (a:=t) (o:=HO.frz o (.dK [(.inl 0,.int 0)]))) hD
   have hD3:H3 Dd=none:=sf.free hD
   refine A_ (d:=t) (o:=o) (kvs:=[(.inl 0,.int 0)]) (fun i H5=>Same H3 H5∧H5 t=some (.frz o (.dK [(.inl 0,.int 0)]))∧((i=0∧H5 Dd=some (.lst []))∨(i=1∧∃ q,H5 Dd=some (.lst [.ref q])∧H5 q=some (.tup (zs n))))) ⟨sf.upd' hD,by rw[aJ htD,aC],.inl ⟨rfl,aC⟩⟩ (fun i H5 _ h=>h.2.1) ?_ ?_
   ·rintro i ky v H5 hk ⟨s5,e5,hcase⟩
    have hi:i=0∧ky=.inl 0:=by
     cases i with
     | zero=>cases hk;exact⟨rfl,rfl⟩
     | succ i=>simp at hk
    obtain⟨rfl,rfl⟩:=hi
    rcases hcase with ⟨_,eD⟩ | ⟨z,_⟩
    rotate_left
    ·exact absurd z (by decide)
    refine⟨_,rfl,_,rfl,_,rfl,_,rfl,n,p,d,t,kvs,_,rfl,h1,h4,(W2.same s3).same s5,(M2.same s3).same s5,fun c hc=>ex.wayAll h1 h4 hul hc,⟨o,e5⟩,fun q H6 hq s6 eq=>⟨[],s6 _ _ eD,by decide,(s5.trans s6).upd hD3,by rw[aJ htD];exact s6 _ _ e5,.inr ⟨rfl,q,aC,?_⟩⟩⟩
    rw[aJ (aH eD hq).symm]
    exact eq
   ·rintro H5 ⟨s5,e5,hcase⟩
    rcases hcase with ⟨z,_⟩ | ⟨_,q,eD,eq⟩
    ·exact absurd z (by decide)
    refine⟨_,.inr ⟨t,o,_,e5,fun o v z=>(by rw[ht0] at z;cases z),rfl⟩,?_⟩
    have s6:Same H (upd H5 t (.dK [(.inl 0,.int 0)])):=(s23.trans s5).upd ht0
    have eD6:upd H5 t (.dK [(.inl 0,.int 0)]) Dd=some (.lst [.ref q]):=by rw[aJ htD.symm];exact eD
    have eq6:upd H5 t (.dK [(.inl 0,.int 0)]) q=some (.tup (zs n)):=by rw[aJ (nN eq e5 (by intro z;cases z))];exact eq
    refine⟨Dd,_,rfl,.inl ⟨SqL.of eD6,fun r hr=>k r q _ (s6.upd' hr) aC ?_⟩⟩
    rw[aJ (aH eq6 hr)]
    exact eq6
theorem JD{f:Addr}{fd:FuncData}(D:Df K mg "look_alphabet" Gh ["retelling"] f fd)(T:Txt P w K mg LC LD LE LF LG)(c_z41:Cl P w K mg base "web_of" ["n","words"] 8 (Fm LG)):Cl P w K mg base "look_alphabet" ["retelling"] 9 zX:=by
 refine D.cl (D.F.ok sc_zn (fun vs H Q E h=>?_) (fun cdv A outer s H vs Q E hr h=>?_))
 ·obtain⟨n,a,cs,rfl,_⟩:=h
  rfl
 ·obtain⟨n,a,cs,rfl,h1,h4,ex,ea,k⟩:=h
  refine⟨_,(aD (aL (i:=1) sc_zn.nd rfl (Or.inl rfl) (aO (bH (K:=K) rfl) (by rfl) T.b_len PySem.boot_len (aA (pv 0) aB)))
   (aD (aL (i:=2) sc_zn.nd rfl (Or.inl rfl) (pC c_z41 hr (aA (pv 1) (aA (pv 0) aB))))
   (aD (bQ (aP (Cq (K:=K) rfl hr.units) (pv 2) (bY (aA (aY (B3 (K:=K) rfl) (bY (aA aG aB)) (pv 1)) aB)) (aS _)) mH bA)
   (aE (aM iQ))))),?_⟩
  have hcl:=ex.len
  refine⟨_,rfl,a,_,rfl,.inr (SqT.of ea),?_⟩
  rw[bB,hcl]
  refine⟨_,rfl,_,rfl,n,a,cs,rfl,h1,h4,ex,ea,fun r q H1 s1 er eq=>?_⟩
  refine⟨_,rfl,aI (by simp),fun t1 ht1=>⟨_,rfl,G_ h1 h4 aC fun q2 H2 s2 e2=>⟨aI (by simp),fun t2 ht2=>?_⟩⟩⟩
  have s3:Same H1 (upd H2 t2 (.tup [.ref q2])):=((Same.new ht1).trans s2).upd' ht2
  refine⟨1,r,t2,[.ref q],[.ref q2],by decide,rfl,rfl,.inr ⟨SqT.of (s3 _ _ er),SqT.of aC⟩,rfl,fun i x y hx hy=>?_,_,rfl,?_⟩
  ·cases i with
   | zero =>
    cases hx;cases hy
    exact Jh (s3 _ _ eq) (by rw[aJ (aH e2 ht2)];exact e2) (by omega)
   | succ i=>simp at hx
  ·exact k _ (s1.trans s3)
theorem Iv{f:Addr}{fd:FuncData}(D:Df K mg "leading_back" EA ["retelling"] f fd)(T:Txt P w K mg LC LD LE LF LG)(c_zp:Cl P w K mg base "first_letters" ["n"] 1 gB)(c_zl:lZ P w K mg base LG "__init__" ["self"] 1 (tH LG))(c_zm:lZ P w K mg base LG "lay_word" ["self","word","told"] 5 (tV LG))(c_zb1:lZ P w K mg base LG "fold" ["self"] 5 (xS LG))(c_zb:lZ P w K mg base LG "round_told" ["self","letter"] 5 (wK LG))(c_zn:Cl P w K mg base "look_alphabet" ["retelling"] 9 zX):Cl P w K mg base "leading_back" ["retelling"] 10 zO:=by
 obtain⟨f_zl,fd_zl,G_zl,m_zl,b_zl⟩:=c_zl
 obtain⟨f_zm,fd_zm,G_zm,m_zm,b_zm⟩:=c_zm
 obtain⟨f_zb1,fd_zb1,G_zb1,m_zb1,b_zb1⟩:=c_zb1
 obtain⟨f_zb,fd_zb,G_zb,m_zb,b_zb⟩:=c_zb
 refine D.cl (D.F.ok sc_zw (fun vs H Q E h=>?_) (fun cdv A outer s H vs Q E hr h=>?_))
 ·obtain⟨n,a,cs,rfl,_⟩:=h
  rfl
 ·obtain⟨n,a,cs,rfl,h1,h4,ex,ea,k⟩:=h
  refine⟨_,(aD (cB (pC c_zn hr (aA (pv 0) aB)))
   (aD (aL (i:=1) sc_zw.nd rfl (Or.inl rfl) (pC c_zp hr (aA (aO (bH (K:=K) rfl) (by rfl) T.b_len PySem.boot_len (aA (pv 0) aB)) aB)))
   (aD (aL (i:=2) sc_zw.nd rfl (Or.inr rfl) (uR (T.o_Weave.make m_zl) G_zl (hr.mono (by decide)) (by rfl) T.m_Weave b_zl .nil dP))
   (aD (dC PassesOwn.never rfl (CK (K:=K) rfl (by rfl) T.b_zip (aA (pv 1) (aA (pv 0) aB))) (kH (K:=K) rfl rfl (cO (bE (i:=3) sc_zw.nd rfl (Or.inl rfl)) (cO (bE (i:=4) sc_zw.nd rfl (Or.inl rfl)) iK))) (aE (cB (dE (pv 2) T.o_Weave.cl m_zm G_zm (hr.mono (by decide)) b_zm .nil dP (aA (pv 4) (aA (pv 3) aB))))))
   (aD (cB (pI (pv 2) T.o_Weave.cl m_zb1 G_zb1 (hr.mono (by decide)) b_zb1 .nil dP))
   (aE (aM (bG (bJ (K:=K) rfl) (by rfl) T.b_tuple boot_tuple (aA (bL (sc0:=aF EA) (N:=["retelling","letters","weave","letter","word"]) (ix:=[2]) (by decide +kernel) rfl rfl rfl (cS (K:=K) rfl (pv 1)) (fun _ _ _=>bF) (fun _ _ _=>(dE (pv 1) T.o_Weave.cl m_zb G_zb (hr.mono (by decide)) b_zb .nil dP (aA (pv 0) aB)))) aB))))))))),?_⟩
  have hcl:=ex.len
  have ll:(cK n).length=n:=(gC h1 h4).len
  refine⟨_,rfl,n,a,cs,rfl,h1,h4,ex,ea,fun H0 s0=>?_⟩
  have ea0:=s0 _ _ ea
  refine⟨_,rfl,a,_,rfl,.inr (SqT.of ea0),n,by rw[bB,hcl];rfl,h1,h4,fun t Ht ht st et=>?_⟩
  have eat:=st _ _ ea0
  intro p dx hp hdx hne
  have hp0:upd (upd Ht dx (.own p)) p (.ins LG dx []) p=some (.ins LG dx []):=aC
  have sN:∀ b o,Ht b=some o→upd (upd Ht dx (.own p)) p (.ins LG dx []) b=some o:=fun b o e=>by rw[aJ (aH e hp),aJ (aH e hdx)];exact e
  refine⟨p,dx,rfl,hp0,fun d H1 hd1 hW1 kp1=>⟨rfl,?_⟩⟩
  have s1:Same Ht H1:=fun b o e=>kp1 b o (sN b o e) (aH e hp)
  have hd0:Ht d=none:=by
   cases e:Ht d with
   | none=>rfl
   | some o=>rw[sN _ _ e] at hd1;cases hd1
  refine⟨_,rfl,_,rfl,t,a,rfl,⟨_,SqT.of (s1 _ _ et)⟩,⟨_,SqT.of (s1 _ _ eat)⟩,?_⟩
  refine Am (K:=K) (t:=t) (u:=a) (xs:=bV (cK n)) (ys:=aX cs) (fun i σ H2=>∃ (v3 v4:Option V) (kvs:List (bW×V)),σ=[some (.ref a),some (.ref t),some (.ref p),v3,v4]∧Wv LG H2 p d kvs∧Ways H2 kvs (kD ((cK n).take i) (cs.take i))∧kvs.length≤2 * i∧Same Ht H2) ⟨none,none,[],rfl,hW1,fun c=>rfl,Nat.le_refl _,s1⟩ ?_ ?_ ?_
  ·rintro i _ H2 _ ⟨v3,v4,kvs,rfl,W2,M2,hl2,s2⟩
   exact⟨SqT.of (s2 _ _ et),SqT.of (s2 _ _ eat)⟩
  ·rintro i x y q _ H2 hx hy hq2 ⟨v3,v4,kvs,rfl,W2,M2,hl2,s2⟩
   obtain⟨rfl,hi⟩:=lD h4 hx
   obtain⟨c,hc,rfl⟩:=zB hy
   have hwi:(cK n)[i]?=some [97+i]:=by
    unfold cK
    rw[List.getElem?_map,iW hx]
    rfl
   have s3:Same H2 (upd H2 q (.tup [.str (S [97+i]),.str (S [c])])):=Same.new hq2
   refine⟨q,_,rfl,.inr (SqT.of aC),rfl,_,_,rfl,_,_,rfl,rfl,?_⟩
   generalize upd H2 q (.tup [.str (S [97+i]),.str (S [c])])=H3 at s3
   obtain⟨g1,g2⟩:=ex.wayN h1 h4 ll i (by omega) i c (Nat.le_refl _) hc
   have W3:=W2.same s3
   obtain⟨⟨dy,hd',tn',wy',al',b1,b2,b3,b4,b5⟩,b6⟩:=id W3
   refine⟨_,rfl,p,dy,_,rfl,b1,gA _ _ _ _ (by decide +kernel) (by decide +kernel) (by decide +kernel) (by decide +kernel),_,rfl,_,rfl,p,d,kvs,_,c,[97+i],rfl,W3,M2.same s3,aK (ex.mem c (List.mem_of_getElem? hc)),fY (iA (List.mem_of_getElem? (iW hx))),by simp,g1,g2,by omega,fun kvs' H4 W4 M4 l4 k4=>⟨_,_,kvs',rfl,W4,?_,by omega,fun b o e=>k4 b o (s3 b o (s2 b o e)) (aH e hd0)⟩⟩
   rw[jO hc hwi]
   exact M4
  ·rintro _ H2 ⟨v3,v4,kvs,rfl,W2,M2,hl2,s2⟩
   have em:min (bV (cK n)).length (aX cs).length=n:=by rw[bI,bB,ll,hcl,Nat.min_self]
   rw[em,List.take_of_length_le (by omega),List.take_of_length_le (by omega)] at M2
   obtain⟨⟨dy,hd',tn',wy',al',b1,b2,b3,b4,b5⟩,b6⟩:=id W2
   refine⟨_,rfl,p,dy,_,rfl,b1,gA _ _ _ _ (by decide +kernel) (by decide +kernel) (by decide +kernel) (by decide +kernel),p,d,kvs,rfl,W2,fun H3 s3=>?_⟩
   have s23:=s2.trans s3
   refine⟨_,rfl,t,rfl,⟨_,SqT.of (s23 _ _ et)⟩,fun Dd hD=>cI (xs:=bV (cK n)) (fun i H4=>Same H3 H4∧H4 Dd=some (.lst (aX ((xB n cs).take i)))) ⟨Same.new hD,aC⟩ (fun i H4 _ h=>SqT.of (h.1 _ _ (s23 _ _ et))) ?_ ?_⟩
   ·rintro i v H4 hv ⟨s4,e4⟩
    obtain⟨rfl,hi⟩:=lD h4 hv
    have hci:=iW hv
    have hcm:=List.mem_of_getElem? hci
    have s34:=s3.trans s4
    refine⟨_,rfl,p,dy,_,rfl,s34 _ _ b1,gA _ _ _ _ (by decide +kernel) (by decide +kernel) (by decide +kernel) (by decide +kernel),_,rfl,p,d,kvs,_,97+i,[uY cs (97+i)],rfl,W2.same s34,M2.same s34,ex.wayB h1 h4 hcm,fY (aK (ex.bk h1 h4 hcm).1),by simp,fun H5 s5=>?_⟩
    have hx:(xB n cs)[i]?=some (uY cs (97+i)):=by unfold xB;rw[List.getElem?_map,hci];rfl
    rw[eN (show bC [uY cs (97+i)] from trivial)]
    refine⟨_,s5 _ _ e4,?_,(s4.trans s5).upd hD,?_⟩
    ·rw[bB,List.length_take];exact aW (by omega)
    ·rw[aC,cA hx,cM]
   ·rintro H4 ⟨s4,e4⟩
    rw[bI,ll,List.take_of_length_le (by rw[ex.xB_len h1 h4];exact Nat.le_refl _)] at e4
    have s14:=(s0.trans st).trans (s23.trans s4)
    exact⟨Dd,_,rfl,.inl ⟨SqL.of e4,fun q hq=>k q _ (s14.free hq) (s14.upd' hq) aC⟩⟩
theorem G3{f:Addr}{fd:FuncData}(D:Df K mg "step_back" Av ["step"] f fd)(T:Txt P w K mg LC LD LE LF LG)(c_zq1:Cl P w K mg base "contrary" ["letter"] 1 fA)(c_zw:Cl P w K mg base "leading_back" ["retelling"] 10 zO):Cl P w K mg base "step_back" ["step"] 11 Dl:=by
 refine D.cl (D.F.ok sc_zf1 (fun vs H Q E h=>?_) (fun cdv A outer s H vs Q E hr h=>?_))
 ·obtain⟨n,v,s,rfl,_⟩:=h
  rfl
 ·obtain⟨n,v,s,rfl,h1,h4,⟨p,q,rfl,hst⟩,ok,k⟩:=h
  refine⟨_,(aD (bQ (aP dA (aR (aZ (K:=K) rfl) (pv 0) aG (fun _ _=>rfl)) (qK (z:=Str.ofString "exchange") (by rfl) T.m_EXCHANGE) (aS _)) (aE (aM (bY (aA (qK (z:=Str.ofString "exchange") (by rfl) T.m_EXCHANGE) (aA (pC c_zw hr (aA (aR (aZ (K:=K) rfl) (pv 0) aG (fun _ _=>rfl)) aB)) aB))))) bA)
   (aD (aL (i:=1) sc_zf1.nd rfl (Or.inr rfl) (pC c_zq1 hr (aA (aR (aZ (K:=K) rfl) (pv 0) aG (fun _ _=>rfl)) aB)))
   (aE (aM (bY (aA (aR (aZ (K:=K) rfl) (pv 0) aG (fun _ _=>rfl)) (aA (pv 1) (aA (bG (bJ (K:=K) rfl) (by rfl) T.b_tuple boot_tuple (aA (bL (sc0:=aF Av) (N:=["step","by"]) (ix:=[0,1]) (by decide +kernel) rfl rfl rfl (cS (K:=K) rfl (aR (aZ (K:=K) rfl) (pv 0) aG (fun _ _=>rfl))) (fun _ _ _=>bF) (fun _ _ _=>(fC (aP dA (pv 0) (aR (aZ (K:=K) rfl) (pv 1) aG (fun _ _=>rfl)) (aS _)) (pv 2) (pv 0)))) aB)) aB)))))))),?_⟩
  cases s with
  | ex cs =>
   obtain⟨e1,e2⟩:=hst
   refine⟨_,rfl,p,_,0,_,rfl,rfl,SqT.of e1,rfl,rfl,_,rfl,?_⟩
   rw[decide_eq_true rfl]
   refine kP ⟨_,rfl,p,_,1,_,rfl,rfl,SqT.of e1,rfl,n,q,cs,rfl,h1,h4,ok,e2,fun t H1 ht s1 et=>⟨aI (by simp),fun r hr=>k (.ref r) _ (s1.upd' hr) ⟨r,t,rfl,aC,by rw[aJ (aH et hr)];exact et⟩⟩⟩
  | ch c sd =>
   obtain⟨e1,e2⟩:=hst
   refine⟨_,rfl,p,_,0,_,rfl,rfl,SqT.of e1,rfl,rfl,_,rfl,?_⟩
   rw[decide_eq_false (fun z=>absurd (V.str.inj z) (by decide))]
   refine eQ ⟨_,rfl,p,_,1,_,rfl,rfl,SqT.of e1,rfl,c,rfl,aK ok.1.let',fun H1 s1=>?_⟩
   have e1':=s1 _ _ e1
   have e2':=s1 _ _ e2
   have hl8:=ok.2
   refine⟨_,rfl,p,_,0,_,rfl,rfl,SqT.of e1',rfl,_,rfl,_,rfl,p,_,2,_,rfl,rfl,SqT.of e1',rfl,q,rfl,⟨_,SqT.of e2'⟩,fun Dd hD=>cI (xs:=aX sd) (fun i H2=>Same H1 H2∧H2 Dd=some (.lst (aX (qD c (sd.take i))))) ⟨Same.new hD,aC⟩ (fun i H2 _ h=>SqT.of (h.1 _ _ e2')) ?_ ?_⟩
   ·rintro i v H2 hv ⟨s2,eD⟩
    obtain⟨d,hd,rfl⟩:=zB hv
    have hi:i<sd.length:=(List.getElem?_eq_some_iff.mp hd).1
    have fin:∀ x,x=(if d=c then con c else d)→∃ ys,H2 Dd=some (.lst ys)∧ys.length<sizeLine∧Same H1 (upd H2 Dd (.lst (ys++[.str (S [x])])))∧upd H2 Dd (.lst (ys++[.str (S [x])])) Dd=some (.lst (aX (qD c (sd.take (i+1))))):=fun x ex=>by
     refine⟨_,eD,?_,s2.upd hD,?_⟩
     ·rw[bB];unfold qD;rw[List.length_map,List.length_take];exact aW (by omega)
     ·rw[aC,cA hd]
      unfold qD
      rw[List.map_append,← cM,ex]
      rfl
    refine⟨_,rfl,_,rfl,p,_,1,_,rfl,rfl,SqT.of (s2 _ _ e1'),rfl,rfl,_,rfl,?_⟩
    rw[eK]
    refine cJ (fun z=>?_) (fun z=>?_)
    ·have z':d=c:=by simpa using z
     exact⟨_,rfl,fin _ (by rw[if_pos z'])⟩
    ·have z':¬ d=c:=by simpa using z
     exact⟨_,rfl,fin _ (by rw[if_neg z'])⟩
   ·rintro H2 ⟨s2,eD⟩
    rw[bB,List.take_length] at eD
    refine⟨Dd,_,rfl,.inl ⟨SqL.of eD,fun t ht=>⟨aI (by simp),fun r hr=>k (.ref r) _ ((s1.trans s2).upd' ht |>.upd' hr) ⟨r,t,rfl,aC,?_⟩⟩⟩⟩
    rw[aJ (aH (aC (H:=H2) (a:=t) (o:=HO.tup (aX (qD c sd)))) hr)]
    exact aC
theorem Hz{f:Addr}{fd:FuncData}(D:Df K mg "road_back" At ["n","road"] f fd)(T:Txt P w K mg LC LD LE LF LG)(c_zf1:Cl P w K mg base "step_back" ["step"] 11 Dl):Cl P w K mg base "road_back" ["n","road"] 12 Cw:=by
 refine D.cl (D.F.ok HC (fun vs H Q E h=>?_) (fun cdv A outer s H vs Q E hr h=>?_))
 ·obtain⟨n,p,ss,rfl,_⟩:=h
  rfl
 ·obtain⟨n,p,ss,rfl,h1,h4,⟨⟨vs,ep,hE⟩,hok⟩,hl6,k⟩:=h
  refine⟨_,(aE (aM (bG (bJ (K:=K) rfl) (by rfl) T.b_tuple boot_tuple (aA (bL (sc0:=aF At) (N:=["n","road"]) (ix:=[]) (by decide +kernel) rfl rfl rfl (D_ (K:=K) rfl (by rfl) T.b_reversed (aA (pv 1) aB)) (fun _ _ _=>bF) (fun _ _ _=>(pC c_zf1 hr (aA (pv 0) aB)))) aB)))),?_⟩
  have hvl:=hE.1
  refine⟨_,rfl,p,vs,rfl,SqT.of ep,by omega,fun Dd hD=>wJ (K:=K) (a:=p) (xs:=vs) (fun i H2=>Same H H2∧∃ us,H2 Dd=some (.lst us)∧us.length=i∧Each (StB H2) us ((ss.reverse.take i).map (Stp.bk n))) ⟨Same.new hD,[],aC,rfl,Each.nil⟩ (fun i H2 _ h=>SqT.of (h.1 _ _ ep)) ?_ ?_⟩
  ·rintro i v H2 hv ⟨s2,us,eD,hul,hEu⟩
   obtain⟨s,hs,hst⟩:=hE.rev.get hv
   have hsm:s∈ss:=List.mem_reverse.mp (List.mem_of_getElem? hs)
   have hi:i<vs.length:=by have:=(List.getElem?_eq_some_iff.mp hv).1;rw[List.length_reverse] at this;exact this
   refine⟨_,rfl,n,v,s,rfl,h1,h4,hst.tups (Tups.same s2),hok s hsm,fun u H3 s3 hu=>⟨us,s3 _ _ eD,aW (by omega),(s2.trans s3).upd hD,us++[u],aC,by rw[List.length_append,hul];rfl,?_⟩⟩
   have tD:Tups H3 (upd H3 Dd (.lst (us++[u]))):=Tups.set (s3 _ _ eD)
   have et:ss.reverse.take (i+1)=ss.reverse.take i++[s]:=by rw[List.take_add_one,hs];rfl
   rw[et,List.map_append]
   exact(hEu.imp fun a b x=>x.tups ((Tups.same s3).trans tD)).snoc (hu.tups tD)
  ·rintro H2 ⟨s2,us,eD,hul,hEu⟩
   rw[List.take_of_length_le (by rw[List.length_reverse];omega)] at hEu
   refine⟨Dd,_,rfl,.inl ⟨SqL.of eD,fun q hq=>k q _ (s2.upd' hq) ⟨⟨us,aC,hEu.imp fun a b x=>x.tups (Tups.same (Same.new hq))⟩,fun s hs=>?_⟩⟩⟩
   obtain⟨s0,h0,rfl⟩:=List.mem_map.mp hs
   exact Stp.okB h1 h4 (hok s0 (List.mem_reverse.mp h0))
theorem GU{f:Addr}{fd:FuncData}(D:Df K mg "step_told" Co ["n","step"] f fd)(T:Txt P w K mg LC LD LE LF LG)(c_z2:Cl P w K mg base "change_told" ["n","change"] 3 iX):Cl P w K mg base "step_told" ["n","step"] 4 pF:=by
 refine D.cl (D.F.ok He (fun vs H Q E h=>?_) (fun cdv A outer s H vs Q E hr h=>?_))
 ·obtain⟨n,v,st,rfl,_⟩:=h
  rfl
 ·obtain⟨n,v,st,rfl,n1,n4,⟨p,rfl,h⟩,k⟩:=h
  refine⟨_,(aD (bQ (aP dA (aR (aZ (K:=K) rfl) (pv 1) aG (fun _ _=>rfl)) (qK (z:=Str.ofString "exchange") (by rfl) T.m_EXCHANGE) (aS _)) (aE (aM (aR (aZ (K:=K) rfl) (pv 1) aG (fun _ _=>rfl)))) bA)
   (aE (aM (pC c_z2 hr (aA (pv 0) (aA (cG (oM (K:=K) rfl) (pv 1) (cC aG) cT) aB)))))),?_⟩
  rcases h with ⟨c,sd,q,e1,e2,g,rfl⟩ | ⟨q,e1,e2,g,g2⟩
  ·refine⟨_,rfl,p,_,0,_,rfl,rfl,SqT.of e1,rfl,rfl,_,rfl,?_⟩
   rw[decide_eq_false (fun z=>absurd (V.str.inj z) (by decide))]
   refine eQ ⟨_,rfl,_,rfl,_,rfl,p,_,rfl,SqT.of e1,(by show ¬ ((1:Nat)=0∧(3:Nat)=3);decide),fun r hr=>⟨n,r,c,sd,rfl,n1,n4,⟨q,aC,by rw[aJ (aH e2 hr)];exact e2⟩,aK g.let',fun d hd=>aK (g.side d hd),fun t H2 ht s2 et=>k t H2 ((Same.new hr).trans s2) et⟩⟩
  ·refine⟨_,rfl,p,_,0,_,rfl,rfl,SqT.of e1,rfl,rfl,_,rfl,?_⟩
   rw[decide_eq_true rfl]
   exact kP ⟨_,rfl,p,_,1,_,rfl,rfl,SqT.of e1,rfl,k q H (Same.refl H) e2⟩
theorem JO{f:Addr}{fd:FuncData}(D:Df K mg "words_along" Hy ["n","words","road"] f fd)(T:Txt P w K mg LC LD LE LF LG)(c_zk1:Cl P w K mg base "told_then" ["one","other"] 5 (CY K))(c_zj1:Cl P w K mg base "step_told" ["n","step"] 4 pF):Cl P w K mg base "words_along" ["n","words","road"] 6 Af:=by
 refine D.cl (D.F.ok sc_z0 (fun vs H Q E h=>?_) (fun cdv A outer s H vs Q E hr h=>?_))
 ·obtain⟨n,t,p,sts,rfl,_⟩:=h
  rfl
 ·obtain⟨n,t,p,sts,rfl,n1,n4,et,⟨vs,ep,hst⟩,hl6,k⟩:=h
  refine⟨_,(aD (aL (i:=3) sc_z0.nd rfl (Or.inl rfl) (pv 1))
   (aD (dC PassesOwn.never rfl (cS (K:=K) rfl (pv 2)) (bE (i:=4) sc_z0.nd rfl (Or.inl rfl)) (aE (aL (i:=3) sc_z0.nd rfl (Or.inl rfl) (pC c_zk1 hr (aA (pv 3) (aA (pC c_zj1 hr (aA (pv 0) (aA (pv 4) aB))) aB))))))
   (aE (aM (pv 3))))),?_⟩
  have hlen:=hst.len
  have hgood:=hst.good n1 n4
  refine⟨_,rfl,_,rfl,p,rfl,⟨_,SqT.of ep⟩,lU (K:=K) (a:=p) (xs:=vs) (fun i σ H2=>∃ (t1:Addr) (v3:Option V),σ=[some (.int (n:Nat)),some (.ref t),some (.ref p),some (.ref t1),v3]∧Same H H2∧H2 t1=some (.tup (bV (gJ n (sts.take i))))) ⟨t,none,rfl,Same.refl H,et⟩ (fun i σ H2 _ ⟨_,_,_,s,_⟩=>SqT.of (s _ _ ep)) ?_ ?_⟩
  ·rintro i v _ H2 hv ⟨t,v3,rfl,s2,et⟩
   obtain⟨st,hsi,ok⟩:=hst.get hv
   have hi:i<sts.length:=(List.getElem?_eq_some_iff.mp hsi).1
   obtain⟨r1,o1⟩:=A7 n1 n4 hgood i (by omega)
   obtain⟨r2,o2⟩:=hgood st (List.mem_of_getElem? hsi)
   have p3:=FB (show i≤5 by omega)
   refine⟨_,rfl,_,rfl,_,rfl,n,v,st,rfl,n1,n4,ok.tups (Tups.same s2),fun u H3 s3 eu=>⟨t,u,gJ n (sts.take i),st,n,3 ^ i,3,rfl,SqT.of (s3 _ _ et),SqT.of eu,r1,r2,o1,n1,n4,by omega,by decide,by omega,fun w H4 hw s4 ew=>⟨w,_,rfl,(s2.trans s3).trans s4,by rw[wZ hsi];exact ew⟩⟩⟩
  ·rintro _ H2 ⟨t,v3,rfl,s2,et⟩
   rw[hlen,List.take_length] at et
   exact⟨_,rfl,k t H2 s2 et⟩
theorem FZ{f:Addr}{fd:FuncData}(D:Df K mg "road_told" CH ["n","road"] f fd)(T:Txt P w K mg LC LD LE LF LG)(c_zi1:Cl P w K mg base "told_same" ["n"] 2 gB)(c_z0:Cl P w K mg base "words_along" ["n","words","road"] 6 Af):Cl P w K mg base "road_told" ["n","road"] 7 oV:=by
 refine D.cl (D.F.ok GK (fun vs H Q E h=>?_) (fun cdv A outer s H vs Q E hr h=>?_))
 ·obtain⟨n,p,sts,rfl,_⟩:=h
  rfl
 ·obtain⟨n,p,sts,rfl,n1,n4,hrd,hl6,k⟩:=h
  refine⟨_,(aE (aM (pC c_z0 hr (aA (pv 0) (aA (pC c_zi1 hr (aA (pv 0) aB)) (aA (pv 1) aB)))))),?_⟩
  exact⟨_,rfl,_,rfl,n,rfl,n1,n4,fun t H1 ht s1 et=>⟨_,rfl,n,t,p,sts,rfl,n1,n4,et,hrd.tups (Tups.same s1),hl6,fun w H2 s2 ew=>k w H2 (s1.trans s2) ew⟩⟩
theorem Kf{f:Addr}{fd:FuncData}(D:Df K mg "_law_step_told" HY ["_law_n","_law_step"] f fd)(T:Txt P w K mg LC LD LE LF LG)(c_zf:Cl P w K mg base "_law_change_told" ["_law_n","_law_change"] 2 iX):Cl P w K mg base "_law_step_told" ["_law_n","_law_step"] 3 pF:=by
 refine D.cl (D.F.ok Jn (fun vs H Q E h=>?_) (fun cdv A outer s H vs Q E hr h=>?_))
 ·obtain⟨n,v,st,rfl,_⟩:=h
  rfl
 ·obtain⟨n,v,st,rfl,n1,n4,⟨p,rfl,h⟩,k⟩:=h
  refine⟨_,(aD (bQ (aP dA (aR (aZ (K:=K) rfl) (pv 1) aG (fun _ _=>rfl)) cD (aS _)) (aE (aM (pC c_zf hr (aA (pv 0) (aA (cG (oM (K:=K) rfl) (pv 1) (cC aG) cT) aB))))) bA)
   (aE (aM (aR (aZ (K:=K) rfl) (pv 1) aG (fun _ _=>rfl))))),?_⟩
  rcases h with ⟨c,sd,q,e1,e2,g,rfl⟩ | ⟨q,e1,e2,g,g2⟩
  ·refine⟨_,rfl,p,_,0,_,rfl,rfl,SqT.of e1,rfl,rfl,_,rfl,?_⟩
   rw[decide_eq_true rfl]
   refine kP ⟨_,rfl,_,rfl,_,rfl,p,_,rfl,SqT.of e1,(by show ¬ ((1:Nat)=0∧(3:Nat)=3);decide),fun r hr=>⟨n,r,c,sd,rfl,n1,n4,⟨q,aC,by rw[aJ (aH e2 hr)];exact e2⟩,aK g.let',fun d hd=>aK (g.side d hd),fun t H2 ht s2 et=>k t H2 ((Same.new hr).trans s2) et⟩⟩
  ·refine⟨_,rfl,p,_,0,_,rfl,rfl,SqT.of e1,rfl,rfl,_,rfl,?_⟩
   rw[decide_eq_false (fun z=>absurd (V.str.inj z) (by decide))]
   exact eQ ⟨_,rfl,p,_,1,_,rfl,rfl,SqT.of e1,rfl,k q H (Same.refl H) e2⟩
theorem Jk{f:Addr}{fd:FuncData}(D:Df K mg "_law_drawn_step" GM ["_law_flow_here","_law_n"] f fd)(T:Txt P w K mg LC LD LE LF LG)(c_zu1:Cl P w K mg base "_law_pick" ["_law_flow_here","_law_many"] 1 iM)(c_zd:Cl P w K mg base "_law_drawn_change" ["_law_flow_here","_law_n"] 2 qI)(c_zy:Cl P w K mg base "_law_exchange" ["_law_flow_here","_law_n"] 2 Ak):Cl P w K mg base "_law_drawn_step" ["_law_flow_here","_law_n"] 3 An:=by
 refine D.cl (D.F.ok JG (fun vs H Q E h=>?_) (fun cdv A outer s H vs Q E hr h=>?_))
 ·obtain⟨fl,sc,n,rfl,_⟩:=h
  rfl
 ·obtain⟨fl,sc,n,rfl,hf,h1,h4,k⟩:=h
  refine⟨_,(aD (bQ (aP dA (pC c_zu1 hr (aA (pv 0) (aA aG aB))) aG (aS _)) (aE (aM (bY (aA cD (aA (pC c_zy hr (aA (pv 0) (aA (pv 1) aB))) aB))))) bA)
   (aE (aM (aY (Dw (K:=K) rfl) (bY (aA cD aB)) (pC c_zd hr (aA (pv 0) (aA (pv 1) aB))))))),?_⟩
  refine⟨_,rfl,fl,sc,3,rfl,hf,by decide,by decide,fun e H1 e0 e1 f1 k1=>⟨rfl,_,rfl,cJ (fun q=>?_) (fun q=>?_)⟩⟩
  ·refine⟨_,rfl,_,rfl,fl,sc,n,rfl,f1,h1,h4,fun p cs H2 hp hex hrt hro ep f2 k2=>⟨aI (by simp),fun t ht=>?_⟩⟩
   have htf:t≠fl:=f2.ne ht
   rw[rH] at ep
   exact k (.ref t) (.ex cs) _ ⟨t,p,rfl,aC,by rw[aJ (aH ep ht)];exact ep⟩ hex (f2.upd ht) ((k1.trans k2).upd ((k1.trans k2).free ht htf))
  ·refine⟨aI (by simp),fun t ht=>⟨_,rfl,_,rfl,fl,sc,n,rfl,f1.upd ht,h1,h4,fun p c sd H2 hp hg h8 ⟨q,ep,eq⟩ f2 k2=>?_⟩⟩
   have htf:t≠fl:=f1.ne ht
   have et:=jG (f1.upd ht) k2 (aC (H:=H1) (a:=t) (o:=HO.tup [.str (Str.ofString "change")]))
   refine⟨t,p,_,_,rfl,rfl,SqT.of et,SqT.of ep,by simp,aI (by simp),(fun z=>by cases z),fun _ r hr=>?_⟩
   have hrf:r≠fl:=f2.ne hr
   have k12:Kp fl H H2:=(k1.upd (k1.free ht htf)).trans k2
   exact k (.ref r) (.ch c sd) _ ⟨r,q,rfl,aC,by rw[aJ (aH eq hr)];exact eq⟩ ⟨hg,h8⟩ (f2.upd hr) (k12.upd (k12.free hr hrf))
theorem JF{f:Addr}{fd:FuncData}(D:Df K mg "rows_along" Go ["n","rings","road"] f fd)(T:Txt P w K mg LC LD LE LF LG)(c_z8:Cl P w K mg base "row_retold" ["retelling","rings"] 6 (C_ K))(c_zj1:Cl P w K mg base "step_told" ["n","step"] 4 pF):Cl P w K mg base "rows_along" ["n","rings","road"] 7 vJ:=by
 refine D.cl (D.F.ok sc_z6 (fun vs H Q E h=>?_) (fun cdv A outer s H vs Q E hr h=>?_))
 ·obtain⟨n,a,p,rs,ss,rfl,_⟩:=h
  rfl
 ·obtain⟨n,a,p,rs,ss,rfl,h1,h4,ea,hok,hR,hl6,k⟩:=h
  refine⟨_,(aD (aL (i:=3) sc_z6.nd rfl (Or.inl rfl) (dG aB))
   (aD (aL (i:=4) sc_z6.nd rfl (Or.inl rfl) (pv 1))
   (aD (dC PassesOwn.never rfl (cS (K:=K) rfl (pv 2)) (bE (i:=5) sc_z6.nd rfl (Or.inl rfl)) (aD (aL (i:=4) sc_z6.nd rfl (Or.inl rfl) (pC c_z8 hr (aA (pC c_zj1 hr (aA (pv 0) (aA (pv 5) aB))) (aA (pv 4) aB))))
   (aE (cB (cY (K:=K) rfl PySem.F.plainAttrs_list PySem.F.slot_list_append PySem.F.type_list_append cW (pv 3) (aA (pv 4) aB))))))
   (aE (aM (pv 3)))))),?_⟩
  obtain⟨⟨vs,ep,hE⟩,hso⟩:=id hR
  have hvl:=hE.1
  refine⟨aI (by simp),fun l hl=>?_⟩
  refine⟨_,rfl,_,rfl,p,rfl,⟨_,SqT.of (Same.new hl _ _ ep)⟩,lU (K:=K) (a:=p) (xs:=vs) (fun i σ H2=>∃ (b:Addr) (v5:Option V) (us:List V) (qs:List (List (List Nat))),σ=[some (.int (n:Nat)),some (.ref a),some (.ref p),some (.ref l),some (.ref b),v5]∧Same H H2∧H2 l=some (.lst us)∧qs.length=i∧Each (RwB H2) us qs∧Al rs ((ss.map (Stp.tl n)).take i) qs∧H2 b=some (.tup (bV (dH rs qs)))∧(dH rs qs).length≤4∧∀ x∈dH rs qs,OfN n x∧x.length≤48 * 3 ^ i) ⟨a,none,[],[],rfl,Same.new hl,aC,rfl,Each.nil,trivial,Same.new hl _ _ ea,hok.few,fun x hx=>by have:=hok.le x hx;simpa using this⟩ (fun i σ H2 _ ⟨_,_,_,_,_,s,_⟩=>SqT.of (s _ _ ep)) ?_ ?_⟩
  ·rintro i v _ H2 hv ⟨b,v5,us,qs,rfl,s2,el,hql,hU,al,eb,hb4,hbl⟩
   obtain⟨s,hs,hst⟩:=hE.get hv
   have hi:i<vs.length:=(List.getElem?_eq_some_iff.mp hv).1
   have hsm:=List.mem_of_getElem? hs
   have hst2:=(hst.tups (Tups.same s2)).ok (hso s hsm)
   obtain⟨rt,ro⟩:=hst2.rt h1 h4
   have p3:=FB (show i≤5 by omega)
   refine⟨_,rfl,_,rfl,n,v,_,rfl,h1,h4,hst2,fun t H3 s3 et=>?_⟩
   refine⟨_,rfl,t,b,_,_,n,48 * 3 ^ i,rfl,SqT.of et,SqT.of (s3 _ _ eb),rt,h1,h4,by omega,hbl,by omega,fun q nq H4 hq s4 hrow eq=>?_⟩
   have el4:=s4 _ _ (s3 _ _ el)
   have tl:Tups H4 (upd H4 l (.lst (us++[.ref q]))):=Tups.set el4
   refine⟨_,rfl,.inl ⟨rfl,_,SqL.of el4⟩,_,rfl,l,_,_,rfl,rfl,el4,?_,q,_,us++[.ref q],qs++[nq],rfl,((s2.trans s3).trans s4).upd hl,aC,by rw[List.length_append,hql];rfl,?_,?_,?_,?_,?_⟩
   ·rw[hU.1];exact aW (by omega)
   ·exact(hU.imp fun x y z=>(z.tups (Tups.same (s3.trans s4))).tups tl).snoc ⟨q,rfl,tl _ _ eq⟩
   ·have et':(ss.map (Stp.tl n)).take (i+1)=(ss.map (Stp.tl n)).take i++[s.tl n]:=by rw[List.take_add_one,List.getElem?_map,hs];rfl
    rw[et']
    exact al.snoc hrow
   ·rw[eC];exact tl _ _ eq
   ·rw[eC,hrow.1];exact hb4
   ·rw[eC]
    intro x hx
    refine⟨(Ds h1 h4 ro hrow x hx).ofn,?_⟩
    have:=F5 rt hrow (fun y hy=>(hbl y hy).2) x hx
    rw[Nat.pow_succ]
    omega
  ·rintro _ H2 ⟨b,v5,us,qs,rfl,s2,el,hql,hU,al,eb,hb4,hbl⟩
   rw[List.take_of_length_le (by rw[List.length_map];omega)] at al
   exact⟨_,rfl,k l us qs H2 hl s2 el hU al⟩
theorem ID{f:Addr}{fd:FuncData}(D:Df K mg "_law_walked" H_ ["_law_flow_here","_law_n","_law_rings"] f fd)(T:Txt P w K mg LC LD LE LF LG)(c_zu1:Cl P w K mg base "_law_pick" ["_law_flow_here","_law_many"] 1 iM)(c_zc:Cl P w K mg base "_law_rings_retold" ["_law_retelling","_law_rings"] 4 (qJ K))(c_z9:Cl P w K mg base "_law_length" ["_law_rings"] 1 (gO K))(c_zj:Cl P w K mg base "_law_drawn_step" ["_law_flow_here","_law_n"] 3 An)(c_zr:Cl P w K mg base "_law_step_told" ["_law_n","_law_step"] 3 pF):Cl P w K mg base "_law_walked" ["_law_flow_here","_law_n","_law_rings"] 5 wG:=by
 refine D.cl (D.F.ok sc_z7 (fun vs H Q E h=>?_) (fun cdv A outer s H vs Q E hr h=>?_))
 ·obtain⟨fl,sc,n,a,rs,rfl,_⟩:=h
  rfl
 ·obtain⟨fl,sc,n,a,rs,rfl,hf,h1,h4,ea,hok,k⟩:=h
  refine⟨_,(aD (aL (i:=3) sc_z7.nd rfl (Or.inl rfl) (bY aB))
   (aD (aL (i:=4) sc_z7.nd rfl (Or.inl rfl) (dG aB))
   (aD (aL (i:=5) sc_z7.nd rfl (Or.inl rfl) (pv 2))
   (aD (dC PassesOwn.never rfl (eG (by rfl) T.b_range (aA (pC c_zu1 hr (aA (pv 0) (aA aG aB))) aB)) (bE (i:=6) sc_z7.nd rfl (Or.inl rfl)) (aD (aL (i:=7) sc_z7.nd rfl (Or.inl rfl) (pC c_zj hr (aA (pv 0) (aA (pv 1) aB))))
   (aD (aL (i:=8) sc_z7.nd rfl (Or.inl rfl) (pC c_zc hr (aA (pC c_zr hr (aA (pv 1) (aA (pv 7) aB))) (aA (pv 5) aB))))
   (aE (bQ (aP Ft (pC c_z9 hr (aA (pv 8) aB)) aG (aS _)) (aD (aL (i:=3) sc_z7.nd rfl (Or.inl rfl) (aY El (pv 3) (bY (aA (pv 7) aB))))
   (aD (cB (cY (K:=K) rfl PySem.F.plainAttrs_list PySem.F.slot_list_append PySem.F.type_list_append cW (pv 4) (aA (pv 8) aB)))
   (aE (aL (i:=5) sc_z7.nd rfl (Or.inl rfl) (pv 8))))) bA)))))
   (aE (aM (bY (aA (pv 3) (aA (pv 4) aB))))))))),?_⟩
  refine⟨aI (by simp),fun p0 hp0=>⟨aI (by simp),fun l hl=>?_⟩⟩
  have f0:=hf.upd (o:=HO.tup []) hp0
  have hlf:l≠fl:=f0.ne hl
  have hls:l≠sc:=f0.ne2 hl
  have k0:Kp fl H (upd H p0 (.tup [])):=(Kp.refl fl H).upd hp0
  have hl0:H l=none:=k0.free hl hlf
  have e0:upd (upd H p0 (.tup [])) l (.lst []) p0=some (.tup []):=by rw[aJ (aH (aC (H:=H) (a:=p0) (o:=HO.tup [])) hl),aC]
  have ea0:upd (upd H p0 (.tup [])) l (.lst []) a=some (.tup (bV rs)):=(Same.new hp0).upd' hl _ _ ea
  have f1:=f0.upd (o:=HO.lst []) hl
  have k1:Kp fl H (upd (upd H p0 (.tup [])) l (.lst [])):=k0.upd hl0
  have el0:upd (upd H p0 (.tup [])) l (.lst []) l=some (.lst []):=aC
  generalize upd (upd H p0 (.tup [])) l (.lst [])=H1 at e0 ea0 f1 k1 el0
  refine⟨_,rfl,_,rfl,fl,sc,7,rfl,f1,by decide,by decide,fun e H2 z0 z1 f2 k2=>⟨e,rfl,by omega,by omega,jT (lo:=0) (n:=e.toNat) (fun i σ H3=>∃ (p b:Addr) (v6 v7 v8:Option V) (ss:List Stp) (us:List V) (qs:List (List (List Nat))),σ=[some (.ref fl),some (.int (n:Nat)),some (.ref a),some (.ref p),some (.ref l),some (.ref b),v6,v7,v8]∧IsFl H3 fl sc∧Kp fl H H3∧RdB n H3 p ss∧ss.length≤i∧H3 l=some (.lst us)∧Each (RwB H3) us qs∧Al rs (ss.map (Stp.tl n)) qs∧(∀ q∈qs,RowOk n q)∧H3 b=some (.tup (bV (dH rs qs)))∧RowOk n (dH rs qs)) ?_ ?_ ?_⟩⟩
  ·exact⟨p0,a,none,none,none,[],[],[],rfl,f2,k1.trans k2,⟨⟨[],jG f1 k2 e0,Each.nil⟩,fun s hs=>nomatch hs⟩,Nat.le_refl _,k2 _ _ el0 hlf,Each.nil,trivial,(fun q hq=>nomatch hq),jG f1 k2 ea0,hok⟩
  ·rintro i _ H3 hi ⟨p,b,v6,v7,v8,ss,us,qs,rfl,f3,k3,hR,hsl,el,hU,al,hQ,eb,hbk⟩
   refine⟨_,rfl,_,rfl,fl,sc,n,rfl,f3,h1,h4,fun v s H4 hv hs f4 k4=>?_⟩
   have t34:=Tups.kp f3 k4
   have hst:=hv.ok hs
   obtain⟨rt,ro⟩:=hst.rt h1 h4
   refine⟨_,rfl,_,rfl,n,v,_,rfl,h1,h4,hst,fun t H5 s5 et=>?_⟩
   have bl:=hbk.le
   have bf:=hbk.few
   refine⟨_,rfl,t,b,_,_,n,rfl,SqT.of et,SqT.of (s5 _ _ (t34 _ _ eb)),rt,ro,h1,h4,by omega,fun x hx=>⟨(bl x hx).1,by have:=(bl x hx).2;omega⟩,fun q nq H6 hq s6 hrow hqs eq=>?_⟩
   refine⟨_,rfl,q,nq,rfl,SqT.of eq,by rw[hrow.1];omega,fun x hx=>by have:=(hqs x hx).2;omega,fun H7 s7=>⟨_,_,rfl,rfl,_,rfl,cJ (fun z=>?_) (fun z=>?_)⟩⟩
   all_goals
    have s47:Same H4 H7:=(s5.trans s6).trans s7
    have t37:Tups H3 H7:=t34.trans (Tups.same s47)
    have el7:=s47 _ _ (k4 _ _ el hlf)
    have f7:=f4.same s47
    have k7:Kp fl H H7:=(k3.trans k4).trans s47.kp
    have hR7:=hR.tups t37
    have hU7:=hU.imp fun x y w=>w.tups t37
   ·have z':=of_decide_eq_true z
    have hnk:RowOk n nq:=⟨by rw[hrow.1];exact bf,fun x hx=>(hqs x hx).1,by omega⟩
    obtain⟨⟨vs,ep,hE⟩,hso⟩:=hR7
    have hvl:=hE.1
    refine⟨_,rfl,_,rfl,aI (by simp),fun t1 ht1=>?_⟩
    have s8:Same H7 (upd H7 t1 (.tup [v])):=Same.new ht1
    have e8:upd H7 t1 (.tup [v]) t1=some (.tup [v]):=aC
    generalize upd H7 t1 (.tup [v])=H8 at s8 e8
    refine⟨p,t1,_,_,rfl,rfl,s8 _ _ ep,e8,by simp,aI (by simp;omega),fun p2 H9 s9 ep2=>?_⟩
    have s79:=s8.trans s9
    have el9:=s79 _ _ el7
    have tl:Tups H9 (upd H9 l (.lst (us++[.ref q]))):=Tups.set el9
    have t7:Tups H7 (upd H9 l (.lst (us++[.ref q]))):=(Tups.same s79).trans tl
    have hul:=hU.1
    have hal:=al.len
    rw[List.length_map] at hal
    refine⟨_,rfl,.inl ⟨rfl,_,SqL.of el9⟩,_,rfl,l,_,_,rfl,rfl,el9,aW (by omega),_,rfl,p2,q,_,_,_,ss++[s],us++[.ref q],qs++[nq],rfl,(f7.same s79).set hlf hls,(k7.trans s79.kp).upd hl0,⟨⟨vs++[v],tl _ _ ep2,(hE.imp fun x y w=>w.tups t7).snoc ((hv.tups (Tups.same s47)).tups t7)⟩,fun y hy=>?_⟩,by rw[List.length_append];exact Nat.succ_le_succ hsl,aC,(hU7.imp fun x y w=>w.tups t7).snoc ⟨q,rfl,t7 _ _ (s7 _ _ eq)⟩,by rw[List.map_append];exact al.snoc hrow,fun y hy=>?_,by rw[eC];exact t7 _ _ (s7 _ _ eq),by rw[eC];exact hnk⟩
    ·rcases List.mem_append.mp hy with w | w
     ·exact hso y w
     ·rw[List.mem_singleton.mp w];exact hs
    ·rcases List.mem_append.mp hy with w | w
     ·exact hQ y w
     ·rw[List.mem_singleton.mp w];exact hnk
   ·exact⟨p,b,_,_,_,ss,us,qs,rfl,f7,k7,hR7,by omega,el7,hU7,al,hQ,t37 _ _ eb,hbk⟩
  ·rintro _ H3 ⟨p,b,v6,v7,v8,ss,us,qs,rfl,f3,k3,hR,hsl,el,hU,al,hQ,eb,hbk⟩
   refine⟨_,rfl,_,rfl,aI (by simp),fun t ht=>?_⟩
   have s4:Same H3 (upd H3 t (.tup [.ref p,.ref l])):=Same.new ht
   have htf:t≠fl:=f3.ne ht
   exact k t p l ss us qs _ aC (hR.tups (Tups.same s4)) (by omega) (s4 _ _ el) (hU.imp fun x y w=>w.tups (Tups.same s4)) al hQ (f3.upd ht) (k3.upd (k3.free ht htf))
theorem Js{f:Addr}{fd:FuncData}(D:Df K mg "_law_lengths_right" F_ ["_law_n","_law_road","_law_rows"] f fd)(T:Txt P w K mg LC LD LE LF LG)(c_zt:Cl P w K mg base "length_behind" ["n","rings","change"] 4 (wD K))(c_zh1:Cl P w K mg base "_law_alike" ["_law_found","_law_due"] 4 (Cj K 3))(c_z9:Cl P w K mg base "_law_length" ["_law_rings"] 1 (gO K)):Cl P w K mg base "_law_lengths_right" ["_law_n","_law_road","_law_rows"] 5 zV:=by
 refine D.cl (D.F.ok sc_za (fun vs H Q E h=>?_) (fun cdv A outer s H vs Q E hr h=>?_))
 ·obtain⟨n,p,l,rs,ss,us,qs,rfl,_⟩:=h
  rfl
 ·obtain⟨n,p,l,rs,ss,us,qs,rfl,h1,h4,hR,hl6,el,hU,al,hok,k⟩:=h
  refine⟨_,(aD (dC PassesOwn.never rfl (CB (K:=K) rfl (by rfl) T.b_enumerate (aA (pv 1) aB)) (kH (K:=K) rfl rfl (cO (bE (i:=3) sc_za.nd rfl (Or.inl rfl)) (cO (bE (i:=4) sc_za.nd rfl (Or.inl rfl)) iK))) (aD (aL (i:=5) sc_za.nd rfl (Or.inl rfl) (pC c_z9 hr (aA (aR (aU (K:=K) rfl) (pv 2) (aY cV (pv 3) aG) (fun _ _=>rfl)) aB)))
   (aE (bQ (pw_and (aP dA (aR (aZ (K:=K) rfl) (pv 4) aG (fun _ _=>rfl)) cD (aS _)) (pw_and1 (oW (eX (pC c_zh1 hr (aA (pC c_zt hr (aA (pv 0) (aA (aR (aU (K:=K) rfl) (pv 2) (pv 3) (fun _ _=>rfl)) (aA (cG (oM (K:=K) rfl) (pv 4) (cC aG) cT) aB)))) (aA (pv 5) aB))))))).pt (aE (aM iQ)) bA))))
   (aE (aM iQ))),?_⟩
  obtain⟨⟨vs,ep,hE⟩,hso⟩:=id hR
  have hvl:=hE.1
  refine⟨_,rfl,p,rfl,⟨_,SqT.of ep⟩,AN (K:=K) (a:=p) (xs:=vs) (fun i σ H2=>∃ v3 v4 v5:Option V,σ=[some (.int (n:Nat)),some (.ref p),some (.ref l),v3,v4,v5]∧Same H H2) ⟨none,none,none,rfl,Same.refl H⟩ (fun i σ H2 _ ⟨_,_,_,_,s⟩=>SqT.of (s _ _ ep)) ?_ ?_⟩
  ·rintro i v q _ H2 hv hq2 ⟨v3,v4,v5,rfl,s2⟩
   obtain⟨s,hs,hst⟩:=hE.get hv
   have hsm:=List.mem_of_getElem? hs
   have hi:i<vs.length:=(List.getElem?_eq_some_iff.mp hv).1
   obtain⟨r,nq,g1,g2,hrow⟩:=al.get (i:=i) (st:=s.tl n) (by rw[List.getElem?_map,hs];rfl)
   have hrk:=hok r (List.mem_of_getElem? g1)
   have hqk:=hok nq (List.mem_cons_of_mem _ (List.mem_of_getElem? g2))
   have g2':(rs::qs)[i+1]?=some nq:=by simpa using g2
   have iu:i+1<us.length:=by rw[hU.1];exact(List.getElem?_eq_some_iff.mp g2').1
   obtain⟨b0,hb0,eb0⟩:=hU.2 i _ r (List.getElem?_eq_getElem (show i<us.length by omega)) g1
   obtain⟨b1,hb1,eb1⟩:=hU.2 (i+1) _ nq (List.getElem?_eq_getElem iu) g2'
   have u0:us[i]?=some (.ref b0):=by rw[List.getElem?_eq_getElem (show i<us.length by omega),hb0]
   have u1:us[i+1]?=some (.ref b1):=by rw[List.getElem?_eq_getElem iu,hb1]
   have s3:Same H (upd H2 q (.tup [.int (i:Nat),v])):=s2.upd' hq2
   refine⟨q,_,rfl,.inr (SqT.of aC),rfl,_,_,rfl,_,_,rfl,rfl,?_⟩
   generalize upd H2 q (.tup [.int (i:Nat),v])=H3 at s3
   refine⟨_,rfl,_,rfl,_,_,rfl,rfl,l,us,_,.ref b1,rfl,rfl,SqL.of (s3 _ _ el),gG (by omega) (by rw[show (((i:Nat):Int)+1).toNat=i+1 by omega];exact u1),b1,nq,rfl,SqT.of (s3 _ _ eb1),by have:=hqk.few;omega,fun x hx=>by have:=(hqk.le x hx).2;omega,fun H4 s4=>?_⟩
   have s34:=s3.trans s4
   obtain⟨p1,q1,rfl,hst'⟩:=hst
   cases s with
   | ex cs =>
    obtain⟨e1,e2⟩:=hst'
    refine⟨_,rfl,p1,_,0,_,rfl,rfl,SqT.of (s34 _ _ e1),rfl,rfl,_,rfl,?_⟩
    rw[decide_eq_false (fun z=>absurd (V.str.inj z) (by decide))]
    exact eQ (eQ ⟨_,_,_,rfl,s34⟩)
   | ch c sd =>
    obtain⟨e1,e2⟩:=hst'
    have ok:=hso _ hsm
    have gs:=GoodB.goodS ok.1 ok.2
    have hln:=AB h1 h4 gs hrk.rg hrow
    refine⟨_,rfl,p1,_,0,_,rfl,rfl,SqT.of (s34 _ _ e1),rfl,rfl,_,rfl,?_⟩
    rw[decide_eq_true rfl]
    refine kP ⟨_,rfl,_,rfl,_,rfl,l,us,_,.ref b0,rfl,rfl,SqL.of (s34 _ _ el),gG (by omega) (by rw[Int.toNat_natCast];exact u0),_,rfl,_,rfl,p1,_,rfl,SqT.of (s34 _ _ e1),(by show ¬ ((1:Nat)=0∧(3:Nat)=3);decide),fun x hx=>⟨n,b0,x,r,c,sd,rfl,?_⟩⟩
    have s5:Same H (upd H4 x (.tup [.str (S [c]),.ref q1])):=s34.upd' hx
    have ex5:upd H4 x (.tup [.str (S [c]),.ref q1]) x=some (.tup [.str (S [c]),.ref q1]):=aC
    refine⟨SqT.of (s5 _ _ eb0),by have:=hrk.few;omega,fun y hy=>(hrk.rg y hy).ofn.all,by have:=hrk.tot;omega,⟨q1,ex5,s5 _ _ e2⟩,aK ok.1.let',fun H6 s6=>?_⟩
    rw[hln]
    refine⟨_,rfl,_,_,rfl,.flat rfl,fun H7 s7=>⟨_,rfl,?_⟩⟩
    exact eQ ⟨_,_,_,rfl,(s5.trans s6).trans s7⟩
  ·rintro _ H2 ⟨v3,v4,v5,rfl,s2⟩
   exact k H2 s2
theorem FL{f:Addr}{fd:FuncData}(D:Df K mg "law" wE ["_law_script"] f fd)(T:Txt P w K mg LC LD LE LF LG)(c_z4:Cl P w K mg base "ring_retold" ["retelling","ring"] 5 (gY K))(c_zl1:Cl P w K mg base "road_told" ["n","road"] 7 oV)(c_zg1:Cl P w K mg base "road_back" ["n","road"] 12 Cw)(c_z6:Cl P w K mg base "rows_along" ["n","rings","road"] 7 vJ)(c_zp1:Cl P w K mg base "_law_flow" ["_law_script"] 1 (BX K))(c_zu1:Cl P w K mg base "_law_pick" ["_law_flow_here","_law_many"] 1 iM)(c_zh1:Cl P w K mg base "_law_alike" ["_law_found","_law_due"] 4 (Cj K 3))(c_zz:Cl P w K mg base "_law_any_row" ["_law_flow_here","_law_n","_law_most"] 6 vA)(c_z7:Cl P w K mg base "_law_walked" ["_law_flow_here","_law_n","_law_rings"] 5 wG)(c_za:Cl P w K mg base "_law_lengths_right" ["_law_n","_law_road","_law_rows"] 5 zV):FnOk P w K mg base xZ 13 f fd ["_law_script"] (Aj K):=by
 refine D.F.ok sc_law (fun vs H Q E h=>?_) (fun cdv A outer s H vs Q E hr h=>?_)
 ·obtain⟨a,ns,rfl,_⟩:=h
  rfl
 ·obtain⟨a,ns,rfl,hs,hl,k⟩:=h
  refine⟨_,(aD (aL (i:=1) sc_law.nd rfl (Or.inl rfl) (pC c_zp1 hr (aA (pv 0) aB)))
   (aD (aL (i:=2) sc_law.nd rfl (Or.inl rfl) (aY cV aG (pC c_zu1 hr (aA (pv 1) (aA aG aB)))))
   (aD (aL (i:=3) sc_law.nd rfl (Or.inl rfl) (pC c_zz hr (aA (pv 1) (aA (pv 2) (aA aG aB)))))
   (aD (gF (pC c_z7 hr (aA (pv 1) (aA (pv 2) (aA (pv 3) aB)))) (kH (K:=K) rfl rfl (cO (bE (i:=4) sc_law.nd rfl (Or.inl rfl)) (cO (bE (i:=5) sc_law.nd rfl (Or.inl rfl)) iK))))
   (aD (aL (i:=6) sc_law.nd rfl (Or.inl rfl) (pC c_z6 hr (aA (pv 2) (aA (pv 3) (aA (pv 4) aB)))))
   (aD (bQ (pw_or (oW (eX (pC c_zh1 hr (aA (pv 6) (aA (pv 5) aB))))) (pw_or1 (oW (eX (pC c_za hr (aA (pv 2) (aA (pv 4) (aA (aY xN (dG (aA (pv 3) aB)) (pv 5)) aB)))))))).pt (aE (aM iQ)) bA)
   (aD (aL (i:=7) sc_law.nd rfl (Or.inr rfl) (pC c_zl1 hr (aA (pv 2) (aA (pv 4) aB))))
   (aD (aL (i:=8) sc_law.nd rfl (Or.inl rfl) (aR (aU (K:=K) rfl) (aY xN (dG (aA (pv 3) aB)) (pv 5)) (pJ kJ aG) (fun _ _=>rfl)))
   (aD (bQ (oW (eX (pC c_zh1 hr (aA (bG (bJ (K:=K) rfl) (by rfl) T.b_tuple boot_tuple (aA (bL (sc0:=aF wE) (N:=["_law_script","_law_flow_here","_law_n","_law_rings","_law_road","_law_due","_law_found","_law_told","_law_last","_law_back_here"]) (ix:=[7]) (by decide +kernel) rfl rfl rfl (cS (K:=K) rfl (pv 3)) (fun _ _ _=>bF) (fun _ _ _=>(pC c_z4 hr (aA (pv 1) (aA (pv 0) aB))))) aB)) (aA (pv 8) aB))))) (aE (aM iQ)) bA)
   (aD (aL (i:=9) sc_law.nd rfl (Or.inl rfl) (pC c_zg1 hr (aA (pv 2) (aA (pv 4) aB))))
   (aD (bQ (oW (eX (pC c_zh1 hr (aA (pC c_z6 hr (aA (pv 2) (aA (pv 8) (aA (pv 9) aB)))) (aA (qZ (Ck (K:=K) rfl) (cG (CS (K:=K) rfl) (aY xN (dG (aA (pv 3) aB)) (pv 5)) cT (cC (aO (bH (K:=K) rfl) (by rfl) T.b_len PySem.boot_len (aA (pv 5) aB)))) cT cT (cC (pJ kJ aG))) aB))))) (aE (aM iQ)) bA)
   (aD (cB (eY (K:=K) rfl PySem.F.plainAttrs_list PySem.F.slot_list_clear PySem.F.type_list_clear DW (pv 6)))
   (aE (aM (qM (pC c_zh1 hr (aA (pC c_z6 hr (aA (pv 2) (aA (pv 3) (aA (pv 4) aB)))) (aA (pv 5) aB))) (qP (dM (G2 (K:=K) rfl hr.units) (pC c_z6 hr (aA (pv 2) (aA (pv 3) (aA (bY aB) aB)))) (dG aB) (aS _)))))))))))))))))),?_⟩
  refine⟨_,rfl,a,ns,rfl,hs,hl,fun fl sc H1 hfl s1 f1=>?_⟩
  refine⟨_,rfl,fl,sc,4,rfl,f1,by decide,by decide,fun d H2 d0 d1 f2 k2=>⟨_,_,rfl,rfl,?_⟩⟩
  obtain⟨n,hn⟩:∃ n:Nat,1+d=(n:Int):=⟨(1+d).toNat,by omega⟩
  have hd:(fun i j:Int=>V.int (i+j)) 1 d=V.int (n:Nat):=by rw[← hn]
  rw[hd]
  have n1:1≤n:=by omega
  have n4:n≤4:=by omega
  refine⟨_,rfl,_,rfl,fl,sc,n,24,rfl,f2,n1,n4,by decide,by decide,fun b rs H3 hb hrl hrg hrt f3 k3 e3=>?_⟩
  have hrk:RowOk n rs:=⟨hrl,hrg,by omega⟩
  refine⟨_,rfl,_,rfl,_,rfl,fl,sc,n,b,rs,rfl,f3,n1,n4,e3,hrk,fun t p l ss us qs H4 et hR hl6 el hU al hqk f4 k4=>?_⟩
  have eb4:=jG f3 k4 e3
  refine⟨t,_,rfl,.inr (SqT.of et),rfl,_,_,rfl,_,_,rfl,rfl,?_⟩
  have hall:∀ q∈rs::qs,RowOk n q:=fun q hq=>(List.mem_cons.mp hq).elim (fun e=>e ▸ hrk) (hqk q)
  have hUa:∀ H',Tups H4 H'→Each (RwB H') (.ref b::us) (rs::qs):=fun H' tt=>by
   refine⟨by rw[List.length_cons,List.length_cons,hU.1],fun i x y hx hy=>?_⟩
   cases i with
   | zero=>cases hx;cases hy;exact⟨b,rfl,tt _ _ eb4⟩
   | succ i=>exact(hU.2 i x y (by simpa using hx) (by simpa using hy)).tups tt
  have hql:qs.length=ss.length:=by rw[al.len,List.length_map]
  have hul:=hU.1
  have hso:=hR.2
  have inv:=yY n1 n4 hso
  have hgA:=inv.good
  refine⟨_,rfl,_,rfl,_,rfl,n,b,p,rs,ss,rfl,n1,n4,eb4,hrk,hR,hl6,fun lf uf qf H5 hlf s5 ef hF alf=>?_⟩
  have eqf:qf=qs:=alf.inj (fun st hst=>(hgA.1 st hst).1) al
  subst eqf
  have nlf:l≠lf:=aH el hlf
  refine⟨_,rfl,_,rfl,_,_,rfl,uA ef (s5 _ _ el) hF (hU.imp fun x y z=>z.tups (Tups.same s5)) (by omega) (fun q hq=>by have:=(hqk q hq).few;omega),fun H6 s6=>⟨_,rfl,?_⟩⟩
  refine eQ ?_
  have s46:=s5.trans s6
  refine⟨_,rfl,_,rfl,_,rfl,aI (by simp),fun l1 hl1=>⟨_,rfl,l1,l,_,_,rfl,rfl,aC,by rw[aJ (aH (s46 _ _ el) hl1)];exact s46 _ _ el,aI (by simp;omega),fun L hL=>?_⟩⟩
  have s7:Same H6 (upd (upd H6 l1 (.lst [.ref b])) L (.lst ([.ref b]++us))):=(Same.new hl1).upd' hL
  have eL:upd (upd H6 l1 (.lst [.ref b])) L (.lst ([.ref b]++us)) L=some (.lst (.ref b::us)):=aC
  generalize upd (upd H6 l1 (.lst [.ref b])) L (.lst ([.ref b]++us))=H7 at s7 eL
  have s47:=s46.trans s7
  refine⟨n,p,L,rs,ss,_,qf,rfl,n1,n4,hR.tups (Tups.same s47),hl6,eL,hUa _ (Tups.same s47),al,hall,fun H8 s8=>⟨_,rfl,?_⟩⟩
  refine eQ ?_
  have s48:=s47.trans s8
  have rA:=DL n1 n4 hgA.1
  rw[List.length_map,Nat.one_mul] at rA
  have p3:=Kv hl6
  refine⟨_,rfl,_,rfl,n,p,_,rfl,n1,n4,(hR.tups (Tups.same s48)).road,by rw[List.length_map];exact hl6,fun tt H9 s9 ett=>?_⟩
  have s49:=s48.trans s9
  -- the last row
  refine⟨_,rfl,aI (by simp),fun l3 hl3=>⟨_,rfl,l3,l,_,_,rfl,rfl,aC,by rw[aJ (aH (s49 _ _ el) hl3)];exact s49 _ _ el,aI (by simp;omega),fun L3 hL3=>?_⟩⟩
  have s10:Same H9 (upd (upd H9 l3 (.lst [.ref b])) L3 (.lst ([.ref b]++us))):=(Same.new hl3).upd' hL3
  have eL3:upd (upd H9 l3 (.lst [.ref b])) L3 (.lst ([.ref b]++us)) L3=some (.lst (.ref b::us)):=aC
  obtain⟨ys,y,ey,c,rfl,ec⟩:=rK (hUa H4 fun _ _ z=>z)
  have ga:tR (V.ref b::us) (-1)=some (.ref c):=by rw[ey];exact gP _ _
  refine⟨_,rfl,L3,_,_,.ref c,rfl,rfl,SqL.of eL3,ga,?_⟩
  generalize upd (upd H9 l3 (.lst [.ref b])) L3 (.lst ([.ref b]++us))=H10 at s10 eL3
  have s410:=s49.trans s10
  have hlk:=zZ hall
  have eb10:=s410 _ _ eb4
  -- told by the road at once
  refine⟨_,rfl,b,rfl,⟨_,SqT.of eb10⟩,fun Dd hD=>cI (K:=K) (a:=b) (xs:=bV rs) (fun i H11=>Same H10 H11∧∃ zs:List (List Nat),zs.length=i∧(∀ (j:Nat) (x q:List Nat),rs[j]?=some x→zs[j]?=some q→RingR (retl (gJ n (ss.map (Stp.tl n))) x) q)∧H11 Dd=some (.lst (bV zs))) ⟨Same.new hD,[],rfl,(fun j x q _ h=>by simp at h),aC⟩ (fun i H11 _ h=>SqT.of (h.1 _ _ eb10)) ?_ ?_⟩
  ·rintro i v H11 hv ⟨s11,zs,hzl,hrow,e11⟩
   obtain⟨x,hx,rfl⟩:=dZ hv
   have hi:i<rs.length:=(List.getElem?_eq_some_iff.mp hx).1
   obtain⟨hxo,hxl⟩:=hrk.le x (List.mem_of_getElem? hx)
   have hxm:x.length * 3 ^ ss.length≤48 * 729:=Nat.mul_le_mul hxl p3
   refine⟨_,rfl,_,rfl,tt,_,n,3 ^ ss.length,x,rfl,SqT.of (s11 _ _ (s10 _ _ ett)),rA.1,n1,n4,by omega,hxo,by omega,by omega,fun r H12 hr s12=>⟨_,s12 _ _ e11,?_,(s11.trans s12).upd hD,zs++[r],?_,?_,?_⟩⟩
   ·rw[bI];exact aW (by omega)
   ·rw[List.length_append,hzl];rfl
   ·intro j x' q hx' hq'
    by_cases hj:j<zs.length
    ·rw[List.getElem?_append_left hj] at hq'
     exact hrow j x' q hx' hq'
    ·have ej:j=i:=by
      have:=(List.getElem?_eq_some_iff.mp hq').1
      rw[List.length_append,List.length_singleton] at this
      omega
     subst ej
     rw[hx] at hx'
     cases hx'
     have eq':q=r:=by
      rw[← hzl] at hq'
      simpa using hq'.symm
     rw[eq'];exact hr
   ·rw[aC];unfold bV;rw[List.map_append];rfl
  rintro H11 ⟨s11,zs,hzl,hrow,e11⟩
  rw[bI] at hzl
  have hz:zs=dH rs qf:=RowR.inj rA.1 ⟨hzl,hrow⟩ (Al.whole n1 n4 (gC n1 n4) (D4 n1 n4 hrg) (fun st hst=>(hgA.1 st hst).1) al)
  subst hz
  refine⟨Dd,_,rfl,.inl ⟨SqL.of e11,fun tz htz=>?_⟩⟩
  have s12:Same H11 (upd H11 tz (.tup (bV (dH rs qf)))):=Same.new htz
  have e12:upd H11 tz (.tup (bV (dH rs qf))) tz=some (.tup (bV (dH rs qf))):=aC
  generalize upd H11 tz (.tup (bV (dH rs qf)))=H12 at s12 e12
  have s412:=(s410.trans s11).trans s12
  refine⟨_,rfl,_,_,rfl,BH e12 (s412 _ _ ec) (by have:=hlk.few;omega),fun H13 s13=>⟨_,rfl,?_⟩⟩
  refine eQ ?_
  have s413:=s412.trans s13
  -- all the way back
  refine⟨_,rfl,_,rfl,n,p,ss,rfl,n1,n4,hR.tups (Tups.same s413),hl6,fun q H14 s14 hB=>?_⟩
  have s414:=s413.trans s14
  refine⟨_,rfl,_,rfl,_,rfl,n,c,q,_,_,rfl,n1,n4,s414 _ _ ec,hlk,hB,by rw[List.length_map,List.length_reverse];exact hl6,fun lb ub zb H15 hlb s15 eB hUb alb=>?_⟩
  have eR:(ss.reverse.map (Stp.bk n)).map (Stp.tl n)=(ss.map fun s=>(s.bk n).tl n).reverse:=by
   rw[List.map_map,List.map_reverse];rfl
  rw[eR] at alb
  have ez:=Al.back n1 n4 inv hrg al alb
  subst ez
  have s415:=s414.trans s15
  refine⟨_,rfl,aI (by simp),fun l5 hl5=>⟨_,rfl,l5,l,_,_,rfl,rfl,aC,by rw[aJ (aH (s415 _ _ el) hl5)];exact s415 _ _ el,aI (by simp;omega),fun L5 hL5=>?_⟩⟩
  have s16:Same H15 (upd (upd H15 l5 (.lst [.ref b])) L5 (.lst ([.ref b]++us))):=(Same.new hl5).upd' hL5
  have eL5:upd (upd H15 l5 (.lst [.ref b])) L5 (.lst ([.ref b]++us)) L5=some (.lst (.ref b::us)):=aC
  generalize upd (upd H15 l5 (.lst [.ref b])) L5 (.lst ([.ref b]++us))=H16 at s16 eL5
  have s416:=s415.trans s16
  refine⟨_,rfl,l,_,rfl,.inl (SqL.of (s416 _ _ el)),_,rfl,L5,_,rfl,SqL.of eL5,fun x1 hx1=>⟨1,rfl,_,rfl,x1,_,rfl,SqL.of aC,rfl,rfl,rfl,fun x2 hx2=>?_⟩⟩
  have s17:Same H16 (upd (upd H16 x1 (.lst (iL (.ref b::us) none (some ((us.length:Nat):Int))))) x2 (.lst (iL (.ref b::us) none (some ((us.length:Nat):Int))).reverse)):=(Same.new hx1).upd' hx2
  have ex2:upd (upd H16 x1 (.lst (iL (.ref b::us) none (some ((us.length:Nat):Int))))) x2 (.lst (iL (.ref b::us) none (some ((us.length:Nat):Int))).reverse) x2=some (.lst ((V.ref b::us).take us.length).reverse):=by rw[aC,AV]
  generalize upd (upd H16 x1 (.lst (iL (.ref b::us) none (some ((us.length:Nat):Int))))) x2 (.lst (iL (.ref b::us) none (some ((us.length:Nat):Int))).reverse)=H17 at s17 ex2
  have s417:=s416.trans s17
  have s1517:=s16.trans s17
  have hdl:(rs::qf).take us.length=(rs::qf).dropLast:=by rw[List.dropLast_eq_take,List.length_cons,hul];rfl
  have hU17:=((hUa H17 (Tups.same s417)).take us.length).rev
  rw[hdl] at hU17
  refine⟨_,_,rfl,uA (s1517 _ _ eB) ex2 (hUb.imp fun x y z=>z.tups (Tups.same s1517)) hU17 (by rw[List.length_reverse,List.length_dropLast,List.length_cons];omega) (fun z hz=>?_),fun H18 s18=>⟨_,rfl,?_⟩⟩
  ·have hz':=List.mem_reverse.mp hz
   rw[← hdl] at hz'
   have:=(hall z (List.mem_of_mem_take hz')).few
   omega
  refine eQ ?_
  have s418:=s417.trans s18
  have ef18:H18 lf=some (.lst uf):=s18 _ _ (s17 _ _ (s16 _ _ (s15 _ _ (s14 _ _ (s13 _ _ (s12 _ _ (s11 _ _ (s10 _ _ (s9 _ _ (s8 _ _ (s7 _ _ (s6 _ _ ef))))))))))))
  refine⟨_,rfl,.inl ⟨rfl,_,SqL.of ef18⟩,lf,uf,rfl,rfl,ef18,?_⟩
  have tc:Tups H18 (upd H18 lf (.lst [])):=Tups.set ef18
  have tc4:Tups H4 (upd H18 lf (.lst [])):=(Tups.same s418).trans tc
  have el19:upd H18 lf (.lst []) l=some (.lst us):=by rw[aJ nlf];exact s418 _ _ el
  generalize upd H18 lf (.lst [])=H19 at tc tc4 el19
  refine⟨_,rfl,_,rfl,_,rfl,n,b,p,rs,ss,rfl,n1,n4,tc4 _ _ eb4,hrk,hR.tups tc4,hl6,fun lg ug qg H20 hlg s20 eg hG alg=>?_⟩
  have eqg:qg=qf:=alg.inj (fun st hst=>(hgA.1 st hst).1) al
  subst eqg
  refine⟨_,rfl,_,_,rfl,uA eg (s20 _ _ el19) hG (hU.imp fun x y z=>z.tups (tc4.trans (Tups.same s20))) (by omega) (fun q hq=>by have:=(hqk q hq).few;omega),fun H21 s21=>⟨_,rfl,?_⟩⟩
  refine kP ?_
  have t421:=tc4.trans (Tups.same (s20.trans s21))
  refine⟨_,rfl,_,rfl,aI (by simp),fun e he=>?_⟩
  have ee:upd H21 e (.tup []) e=some (.tup []):=aC
  have t422:Tups H4 (upd H21 e (.tup [])):=t421.trans (Tups.same (Same.new he))
  generalize upd H21 e (.tup [])=H22 at ee t422
  refine⟨n,b,e,rs,[],rfl,n1,n4,t422 _ _ eb4,hrk,⟨⟨[],ee,Each.nil⟩,fun s hs=>nomatch hs⟩,by decide,fun lh uh qh H23 hlh s23 eh hH alh=>?_⟩
  have hq0:qh=[]:=List.length_eq_zero_iff.mp alh.len
  subst hq0
  have hu0:uh=[]:=List.length_eq_zero_iff.mp hH.1
  subst hu0
  refine⟨aI (by simp),fun l9 hl9=>⟨0,lh,l9,[],[],by decide,rfl,rfl,.inl ⟨by rw[aJ (aH eh hl9)];exact eh,aC⟩,rfl,(fun i x y hx=>by simp at hx),?_⟩⟩
  exact k _
end
theorem all_mk{l:PySem.W.OpenLaw}{w:World}{K:PySem.W.Frag}{h:Heap}{mg:Str→Option Value}{fa:Addr}(X:K.In h)(G:h.Ns mainGlobals mg)(hfa:mg "law"=some (.ref fa))
  {f_67 LC LD LE LF LG:Addr}
  {od_67 an_67:Option Addr} {sl_67:Array (Option Value)} {oc_67 kV_67 dc_67 pm_67 cd_67 ct_67:Value}
  (d_0:DI K "letters_of" BD)
  (d_1:DI K "first_letters" GV)
  (d_2:DI K "contrary" DE)
  (d_3:DI K "rank_of" By)
  (d_4:DI K "laid_out" DV)
  (d_5:DI K "turned_back" Fk)
  (d_6:DI K "joined" Dc)
  (d_7:DJ K LG "__init__" "Weave.__init__" F9)
  (d_8:DJ K LG "end_of" "Weave.end_of" GB)
  (d_9:DJ K LG "head_of" "Weave.head_of" G4)
  (d_10:DJ K LG "goal_of" "Weave.goal_of" Ib)
  (d_11:DJ K LG "new_place" "Weave.new_place" HB)
  (d_12:DJ K LG "lay_way" "Weave.lay_way" Hm)
  (d_13:DJ K LG "lay_word" "Weave.lay_word" GH)
  (d_14:DJ K LG "put_under" "Weave.put_under" Hs)
  (d_15:DJ K LG "fold" "Weave.fold" BW)
  (d_16:DJ K LG "round_told" "Weave.round_told" FM)
  (d_17:DI K "numbers_of_heads" Hn)
  (d_18:DI K "place_told" vE)
  (d_19:DI K "web_of" Ai)
  (d_20:DI K "look_alphabet" Gh)
  (d_21:DI K "leading_back" EA)
  (d_22:DI K "ends_off" DM)
  (d_23:DI K "least_begin" EY)
  (d_24:DI K "ring_of" Dr)
  (d_25:DI K "row_length" zF)
  (d_26:DI K "words_by_letter" G9)
  (d_27:DI K "retold" yU)
  (d_28:DI K "ring_retold" FP)
  (d_29:DI K "row_retold" Ei)
  (d_30:DI K "told_then" zQ)
  (d_31:DI K "told_same" BI)
  (d_32:DI K "ties_leaving" EO)
  (d_33:DI K "tied_pair" DC)
  (d_34:DI K "ties_of" Cd)
  (d_35:DI K "count_of" zP)
  (d_36:DI K "letter_changed" Gb)
  (d_37:DI K "change_told" EV)
  (d_38:DI K "length_behind" Ga)
  (d_39:DI K "step_told" Co)
  (d_40:DI K "words_along" Hy)
  (d_41:DI K "road_told" CH)
  (d_42:DI K "step_back" Av)
  (d_43:DI K "road_back" At)
  (d_44:DI K "rows_along" Go)
  (d_45:DI K "_law_flow" C5)
  (d_46:DI K "_law_pick" DU)
  (d_47:DI K "_law_alike" sB)
  (d_48:DI K "_law_letters" Ho)
  (d_49:DI K "_law_contrary" Gy)
  (d_50:DI K "_law_key" yX)
  (d_51:DI K "_law_back" zK)
  (d_52:DI K "_law_laid" Cc)
  (d_53:DI K "_law_word" Ad)
  (d_54:DI K "_law_ring" yS)
  (d_55:DI K "_law_retold" CQ)
  (d_56:DI K "_law_rings_retold" EZ)
  (d_57:DI K "_law_length" E6)
  (d_58:DI K "_law_drawn_change" FX)
  (d_59:DI K "_law_change_told" G5)
  (d_60:DI K "_law_row" zA)
  (d_61:DI K "_law_exchange" GA)
  (d_62:DI K "_law_any_row" Gq)
  (d_63:DI K "_law_drawn_step" GM)
  (d_64:DI K "_law_step_told" HY)
  (d_65:DI K "_law_walked" H_)
  (d_66:DI K "_law_lengths_right" F_)
  (na_67:PySem.W.nsIn K mainGlobals "law"=some (some (.ref f_67))) (nl_67:K.lookup f_67=some ⟨oc_67,od_67,.func (Jv "law" wE kV_67 dc_67 pm_67 an_67 cd_67 ct_67),sl_67⟩) (nc_67:PySem.W.codeIn K cd_67 "law"=true) (nk_67:PySem.W.keepIn K (.ref f_67)=true)
  (nb_all:PySem.W.nsIn K mainGlobals "all"=some none)
  (nb_bool:PySem.W.nsIn K mainGlobals "bool"=some none)
  (nb_enumerate:PySem.W.nsIn K mainGlobals "enumerate"=some none)
  (nb_int:PySem.W.nsIn K mainGlobals "int"=some none)
  (nb_isinstance:PySem.W.nsIn K mainGlobals "isinstance"=some none)
  (nb_len:PySem.W.nsIn K mainGlobals "len"=some none)
  (nb_list:PySem.W.nsIn K mainGlobals "list"=some none)
  (nb_max:PySem.W.nsIn K mainGlobals "max"=some none)
  (nb_min:PySem.W.nsIn K mainGlobals "min"=some none)
  (nb_range:PySem.W.nsIn K mainGlobals "range"=some none)
  (nb_reversed:PySem.W.nsIn K mainGlobals "reversed"=some none)
  (nb_sum:PySem.W.nsIn K mainGlobals "sum"=some none)
  (nb_tuple:PySem.W.nsIn K mainGlobals "tuple"=some none)
  (nb_zip:PySem.W.nsIn K mainGlobals "zip"=some none)
  (oa_Weave:PySem.W.nsIn K mainGlobals "Weave"=some (some (.ref LG)))
  (ob_Weave:PySem.W.plainGet K LG Str.empty=true)
  (oe_Weave:PySem.W.hasDictIn K LG=true)
  (of_Weave:PySem.W.plainOver K LG=true)
  (og_Weave:PySem.W.findIn K (.ref LG) "__setattr__"=some (some (.builtin "object.__setattr__")))
  (oh_Weave:PySem.W.makesIn K LG=true)
  (oi_Weave:PySem.W.keepIn K (.ref LG)=true)
  (on_Weave_heads:PySem.W.findIn K (.ref LG) "heads"=some none)
  (on_Weave_turns:PySem.W.findIn K (.ref LG) "turns"=some none)
  (on_Weave_ways:PySem.W.findIn K (.ref LG) "ways"=some none)
  (on_Weave_alike:PySem.W.findIn K (.ref LG) "alike"=some none)
  (nm_CONTRARIES:PySem.W.nsIn K mainGlobals "CONTRARIES"=some (some (.ref LC)))
  (nt_CONTRARIES:KTD.tabLook KTD.flatLooks (fun b=>K.lookup b) LC conTab_rows=true) (nh_CONTRARIES:KTD.hashesOf (fun b=>K.lookup b) LC=conTab_rows.map fun p=>(PySem.strKind l.prog w).hash p.1)
  {t_EXCHANGE:Tok} (nm_EXCHANGE:PySem.W.nsIn K mainGlobals "EXCHANGE"=some (some (.str (Str.ofString "exchange") t_EXCHANGE)))
  (nm_LETTERS:PySem.W.nsIn K mainGlobals "LETTERS"=some (some (.ref LE)))
  {i_LETTERS:Array Value} {n_LETTERS:Nat} (nt_LETTERS:K.lookup LE=some ⟨.type "tuple",none,.seq i_LETTERS n_LETTERS,#[]⟩) (nv_LETTERS:Vals letV i_LETTERS.toList)
  (nm_RANKS:PySem.W.nsIn K mainGlobals "RANKS"=some (some (.ref LF)))
  (nt_RANKS:KTD.tabLook KTD.flatLooks (fun b=>K.lookup b) LF rankTab_rows=true) (nh_RANKS:KTD.hashesOf (fun b=>K.lookup b) LF=rankTab_rows.map fun p=>(PySem.strKind l.prog w).hash p.1)
  : ∃ fd:FuncData,(∀ (s:Shared) (v:Value),BindsTo s fd ⟨[v],[]⟩ [("_law_script",v)])∧∀ base:Heap,K.In base→base.Ns mainGlobals mg→FnOk l.prog w K mg base xZ 40 fa fd ["_law_script"] (Aj K):=by
 have e:=hfa.symm.trans (PySem.W.mg_of X G na_67)
 have e2:f_67=fa:=by cases e;rfl
 subst e2
 have T:Txt l.prog w K mg LC LD LE LF LG:=⟨PySem.W.mg_of X G oa_Weave,⟨⟨ob_Weave,oe_Weave,of_Weave,og_Weave⟩,oh_Weave,oi_Weave⟩,on_Weave_heads,on_Weave_turns,on_Weave_ways,on_Weave_alike,PySem.W.mg_none_of X G nb_all,PySem.W.mg_none_of X G nb_bool,PySem.W.mg_none_of X G nb_enumerate,PySem.W.mg_none_of X G nb_int,PySem.W.mg_none_of X G nb_isinstance,PySem.W.mg_none_of X G nb_len,PySem.W.mg_none_of X G nb_list,PySem.W.mg_none_of X G nb_max,PySem.W.mg_none_of X G nb_min,PySem.W.mg_none_of X G nb_range,PySem.W.mg_none_of X G nb_reversed,PySem.W.mg_none_of X G nb_sum,PySem.W.mg_none_of X G nb_tuple,PySem.W.mg_none_of X G nb_zip,PySem.W.mg_of X G nm_CONTRARIES,fun h x=>PySem.W.kt_tab_in l.prog w x nt_CONTRARIES (by decide +kernel) nh_CONTRARIES,⟨_,PySem.W.mg_of X G nm_EXCHANGE⟩,PySem.W.mg_of X G nm_LETTERS,fun H=>.inr ⟨_,_,_,nt_LETTERS,rfl,rfl,En nv_LETTERS (by decide),nv_LETTERS⟩,PySem.W.mg_of X G nm_RANKS,fun h x=>PySem.W.kt_tab_in l.prog w x nt_RANKS (by decide +kernel) nh_RANKS⟩
 obtain⟨_,_,D_0⟩:=eP (ps:=["n"]) d_0 X G fun _ _ _ _ _ _ u h=>match u,h with | [_],_=>rfl
 obtain⟨_,_,D_1⟩:=eP (ps:=["n"]) d_1 X G fun _ _ _ _ _ _ u h=>match u,h with | [_],_=>rfl
 obtain⟨_,_,D_2⟩:=eP (ps:=["letter"]) d_2 X G fun _ _ _ _ _ _ u h=>match u,h with | [_],_=>rfl
 obtain⟨_,_,D_3⟩:=eP (ps:=["letter"]) d_3 X G fun _ _ _ _ _ _ u h=>match u,h with | [_],_=>rfl
 obtain⟨_,_,D_4⟩:=eP (ps:=["text"]) d_4 X G fun _ _ _ _ _ _ u h=>match u,h with | [_],_=>rfl
 obtain⟨_,_,D_5⟩:=eP (ps:=["word"]) d_5 X G fun _ _ _ _ _ _ u h=>match u,h with | [_],_=>rfl
 obtain⟨_,_,D_6⟩:=eP (ps:=["one","other"]) d_6 X G fun _ _ _ _ _ _ u h=>match u,h with | [_,_],_=>rfl
 obtain⟨_,_,D_7⟩:=DY (ps:=["self"]) d_7 fun _ _ _ _ _ _ u h=>match u,h with | [_],_=>rfl
 obtain⟨_,_,D_8⟩:=DY (ps:=["self","place","told"]) d_8 fun _ _ _ _ _ _ u h=>match u,h with | [_,_,_],_=>rfl
 obtain⟨_,_,D_9⟩:=DY (ps:=["self","place"]) d_9 fun _ _ _ _ _ _ u h=>match u,h with | [_,_],_=>rfl
 obtain⟨_,_,D_10⟩:=DY (ps:=["self","head","letter"]) d_10 fun _ _ _ _ _ _ u h=>match u,h with | [_,_,_],_=>rfl
 obtain⟨_,_,D_11⟩:=DY (ps:=["self"]) d_11 fun _ _ _ _ _ _ u h=>match u,h with | [_],_=>rfl
 obtain⟨_,_,D_12⟩:=DY (ps:=["self","place","letter","goal","told"]) d_12 fun _ _ _ _ _ _ u h=>match u,h with | [_,_,_,_,_],_=>rfl
 obtain⟨_,_,D_13⟩:=DY (ps:=["self","word","told"]) d_13 fun _ _ _ _ _ _ u h=>match u,h with | [_,_,_],_=>rfl
 obtain⟨_,_,D_14⟩:=DY (ps:=["self","head","above","turn"]) d_14 fun _ _ _ _ _ _ u h=>match u,h with | [_,_,_,_],_=>rfl
 obtain⟨_,_,D_15⟩:=DY (ps:=["self"]) d_15 fun _ _ _ _ _ _ u h=>match u,h with | [_],_=>rfl
 obtain⟨_,_,D_16⟩:=DY (ps:=["self","letter"]) d_16 fun _ _ _ _ _ _ u h=>match u,h with | [_,_],_=>rfl
 obtain⟨_,_,D_17⟩:=eP (ps:=["n","weave"]) d_17 X G fun _ _ _ _ _ _ u h=>match u,h with | [_,_],_=>rfl
 obtain⟨_,_,D_18⟩:=eP (ps:=["n","weave","numbers","head"]) d_18 X G fun _ _ _ _ _ _ u h=>match u,h with | [_,_,_,_],_=>rfl
 obtain⟨_,_,D_19⟩:=eP (ps:=["n","words"]) d_19 X G fun _ _ _ _ _ _ u h=>match u,h with | [_,_],_=>rfl
 obtain⟨_,_,D_20⟩:=eP (ps:=["retelling"]) d_20 X G fun _ _ _ _ _ _ u h=>match u,h with | [_],_=>rfl
 obtain⟨_,_,D_21⟩:=eP (ps:=["retelling"]) d_21 X G fun _ _ _ _ _ _ u h=>match u,h with | [_],_=>rfl
 obtain⟨_,_,D_22⟩:=eP (ps:=["word"]) d_22 X G fun _ _ _ _ _ _ u h=>match u,h with | [_],_=>rfl
 obtain⟨_,_,D_23⟩:=eP (ps:=["word"]) d_23 X G fun _ _ _ _ _ _ u h=>match u,h with | [_],_=>rfl
 obtain⟨_,_,D_24⟩:=eP (ps:=["word"]) d_24 X G fun _ _ _ _ _ _ u h=>match u,h with | [_],_=>rfl
 obtain⟨_,_,D_25⟩:=eP (ps:=["rings"]) d_25 X G fun _ _ _ _ _ _ u h=>match u,h with | [_],_=>rfl
 obtain⟨_,_,D_26⟩:=eP (ps:=["retelling"]) d_26 X G fun _ _ _ _ _ _ u h=>match u,h with | [_],_=>rfl
 obtain⟨_,_,D_27⟩:=eP (ps:=["retelling","word"]) d_27 X G fun _ _ _ _ _ _ u h=>match u,h with | [_,_],_=>rfl
 obtain⟨_,_,D_28⟩:=eP (ps:=["retelling","ring"]) d_28 X G fun _ _ _ _ _ _ u h=>match u,h with | [_,_],_=>rfl
 obtain⟨_,_,D_29⟩:=eP (ps:=["retelling","rings"]) d_29 X G fun _ _ _ _ _ _ u h=>match u,h with | [_,_],_=>rfl
 obtain⟨_,_,D_30⟩:=eP (ps:=["one","other"]) d_30 X G fun _ _ _ _ _ _ u h=>match u,h with | [_,_],_=>rfl
 obtain⟨_,_,D_31⟩:=eP (ps:=["n"]) d_31 X G fun _ _ _ _ _ _ u h=>match u,h with | [_],_=>rfl
 obtain⟨_,_,D_32⟩:=eP (ps:=["ties","side"]) d_32 X G fun _ _ _ _ _ _ u h=>match u,h with | [_,_],_=>rfl
 obtain⟨_,_,D_33⟩:=eP (ps:=["one","other"]) d_33 X G fun _ _ _ _ _ _ u h=>match u,h with | [_,_],_=>rfl
 obtain⟨_,_,D_34⟩:=eP (ps:=["rings"]) d_34 X G fun _ _ _ _ _ _ u h=>match u,h with | [_],_=>rfl
 obtain⟨_,_,D_35⟩:=eP (ps:=["rings","letter"]) d_35 X G fun _ _ _ _ _ _ u h=>match u,h with | [_,_],_=>rfl
 obtain⟨_,_,D_36⟩:=eP (ps:=["letter","by","side"]) d_36 X G fun _ _ _ _ _ _ u h=>match u,h with | [_,_,_],_=>rfl
 obtain⟨_,_,D_37⟩:=eP (ps:=["n","change"]) d_37 X G fun _ _ _ _ _ _ u h=>match u,h with | [_,_],_=>rfl
 obtain⟨_,_,D_38⟩:=eP (ps:=["n","rings","change"]) d_38 X G fun _ _ _ _ _ _ u h=>match u,h with | [_,_,_],_=>rfl
 obtain⟨_,_,D_39⟩:=eP (ps:=["n","step"]) d_39 X G fun _ _ _ _ _ _ u h=>match u,h with | [_,_],_=>rfl
 obtain⟨_,_,D_40⟩:=eP (ps:=["n","words","road"]) d_40 X G fun _ _ _ _ _ _ u h=>match u,h with | [_,_,_],_=>rfl
 obtain⟨_,_,D_41⟩:=eP (ps:=["n","road"]) d_41 X G fun _ _ _ _ _ _ u h=>match u,h with | [_,_],_=>rfl
 obtain⟨_,_,D_42⟩:=eP (ps:=["step"]) d_42 X G fun _ _ _ _ _ _ u h=>match u,h with | [_],_=>rfl
 obtain⟨_,_,D_43⟩:=eP (ps:=["n","road"]) d_43 X G fun _ _ _ _ _ _ u h=>match u,h with | [_,_],_=>rfl
 obtain⟨_,_,D_44⟩:=eP (ps:=["n","rings","road"]) d_44 X G fun _ _ _ _ _ _ u h=>match u,h with | [_,_,_],_=>rfl
 obtain⟨_,_,D_45⟩:=eP (ps:=["_law_script"]) d_45 X G fun _ _ _ _ _ _ u h=>match u,h with | [_],_=>rfl
 obtain⟨_,_,D_46⟩:=eP (ps:=["_law_flow_here","_law_many"]) d_46 X G fun _ _ _ _ _ _ u h=>match u,h with | [_,_],_=>rfl
 obtain⟨_,_,D_47⟩:=eP (ps:=["_law_found","_law_due"]) d_47 X G fun _ _ _ _ _ _ u h=>match u,h with | [_,_],_=>rfl
 obtain⟨_,_,D_48⟩:=eP (ps:=["_law_n"]) d_48 X G fun _ _ _ _ _ _ u h=>match u,h with | [_],_=>rfl
 obtain⟨_,_,D_49⟩:=eP (ps:=["_law_letter"]) d_49 X G fun _ _ _ _ _ _ u h=>match u,h with | [_],_=>rfl
 obtain⟨_,_,D_50⟩:=eP (ps:=["_law_word_here"]) d_50 X G fun _ _ _ _ _ _ u h=>match u,h with | [_],_=>rfl
 obtain⟨_,_,D_51⟩:=eP (ps:=["_law_word_here"]) d_51 X G fun _ _ _ _ _ _ u h=>match u,h with | [_],_=>rfl
 obtain⟨_,_,D_52⟩:=eP (ps:=["_law_text"]) d_52 X G fun _ _ _ _ _ _ u h=>match u,h with | [_],_=>rfl
 obtain⟨_,_,D_53⟩:=eP (ps:=["_law_flow_here","_law_n","_law_most"]) d_53 X G fun _ _ _ _ _ _ u h=>match u,h with | [_,_,_],_=>rfl
 obtain⟨_,_,D_54⟩:=eP (ps:=["_law_word_here"]) d_54 X G fun _ _ _ _ _ _ u h=>match u,h with | [_],_=>rfl
 obtain⟨_,_,D_55⟩:=eP (ps:=["_law_retelling","_law_word_here"]) d_55 X G fun _ _ _ _ _ _ u h=>match u,h with | [_,_],_=>rfl
 obtain⟨_,_,D_56⟩:=eP (ps:=["_law_retelling","_law_rings"]) d_56 X G fun _ _ _ _ _ _ u h=>match u,h with | [_,_],_=>rfl
 obtain⟨_,_,D_57⟩:=eP (ps:=["_law_rings"]) d_57 X G fun _ _ _ _ _ _ u h=>match u,h with | [_],_=>rfl
 obtain⟨_,_,D_58⟩:=eP (ps:=["_law_flow_here","_law_n"]) d_58 X G fun _ _ _ _ _ _ u h=>match u,h with | [_,_],_=>rfl
 obtain⟨_,_,D_59⟩:=eP (ps:=["_law_n","_law_change"]) d_59 X G fun _ _ _ _ _ _ u h=>match u,h with | [_,_],_=>rfl
 obtain⟨_,_,D_60⟩:=eP (ps:=["_law_flow_here","_law_n","_law_many","_law_most"]) d_60 X G fun _ _ _ _ _ _ u h=>match u,h with | [_,_,_,_],_=>rfl
 obtain⟨_,_,D_61⟩:=eP (ps:=["_law_flow_here","_law_n"]) d_61 X G fun _ _ _ _ _ _ u h=>match u,h with | [_,_],_=>rfl
 obtain⟨_,_,D_62⟩:=eP (ps:=["_law_flow_here","_law_n","_law_most"]) d_62 X G fun _ _ _ _ _ _ u h=>match u,h with | [_,_,_],_=>rfl
 obtain⟨_,_,D_63⟩:=eP (ps:=["_law_flow_here","_law_n"]) d_63 X G fun _ _ _ _ _ _ u h=>match u,h with | [_,_],_=>rfl
 obtain⟨_,_,D_64⟩:=eP (ps:=["_law_n","_law_step"]) d_64 X G fun _ _ _ _ _ _ u h=>match u,h with | [_,_],_=>rfl
 obtain⟨_,_,D_65⟩:=eP (ps:=["_law_flow_here","_law_n","_law_rings"]) d_65 X G fun _ _ _ _ _ _ u h=>match u,h with | [_,_,_],_=>rfl
 obtain⟨_,_,D_66⟩:=eP (ps:=["_law_n","_law_road","_law_rows"]) d_66 X G fun _ _ _ _ _ _ u h=>match u,h with | [_,_,_],_=>rfl
 have D_67:=Lm (ps:=["_law_script"]) nl_67 nc_67 nk_67 (PySem.W.mg_of X G na_67) (fun _ _ _ _ _ _ u h=>match u,h with | [_],_=>rfl)
 refine⟨Jv "law" wE kV_67 dc_67 pm_67 an_67 cd_67 ct_67,fun s v=>.of_eq rfl,fun base _ _=>?_⟩
 have c_zp1:=Ia (base:=base) D_45 T
 have c_zu1:=Hh (base:=base) D_46 T
 have c_zu:=Jm (base:=base) D_49 T
 have c_z5:=Jq (base:=base) D_48 T
 have c_zr1:=FN (base:=base) D_52 T c_zu
 have c_zo1:=Hg (base:=base) D_53 T c_zu1 c_z5 c_zu
 have c_zt1:=GI (base:=base) D_51 T c_zu
 have c_zq1:=GF (base:=base) D_2 T
 have c_zw1:=FU (base:=base) D_4 T c_zq1
 have c_z1:=IP (base:=base) D_5 T c_zq1
 have c_z31:=Hl (base:=base) D_6 T c_zw1
 have c_zh1:=FY (base:=base) D_47 T
 have c_zh1_X:=kT (base:=base) D_47 T c_zh1
 have c_zh1_Y:=kT (base:=base) D_47 T c_zh1_X
 have c_zh1_Z:=kT (base:=base) D_47 T c_zh1_Y
 have c_zh1_W:=kT (base:=base) D_47 T c_zh1_Z
 have c_z11:=Hb (base:=base) D_50 T
 have c_zs1:=HJ (base:=base) D_54 T c_zu c_z11
 have c_ze1:=F7 (base:=base) D_55 T c_zt1 c_zr1
 have c_zd:=Jt (base:=base) D_58 T c_zu1 c_z5 c_zu
 have c_zf:=JJ (base:=base) D_59 T c_zu
 have c_zx1:=HK (base:=base) D_3 T
 have c_zn1:=Hf (base:=base) D_22 T c_zq1
 have c_z3:=J1 (base:=base) D_23 T c_zx1
 have c_zz1:=HL (base:=base) D_24 T c_zn1 c_z3
 have c_za1:=HI (base:=base) D_0 T
 have c_zp:=Ke (base:=base) D_1 T
 have c_zi1:=GE (base:=base) D_31 T c_zp
 have c_zi:=IH (base:=base) D_26 T c_zp c_zq1 c_z1
 have c_z21:=GD (base:=base) D_27 T c_zw1 c_zi
 have c_zk1:=GP (base:=base) D_30 T c_z21
 have c_z4:=Iu (base:=base) D_28 T c_zz1 c_z21
 have c_zk:=Ip (base:=base) D_36 T c_zq1
 have c_z2:=JI (base:=base) D_37 T c_zp c_zk
 have c_zm1:=Hx (base:=base) D_33 T c_zx1
 have c_z01:=HX (base:=base) D_34 T c_zq1 c_zm1
 have c_zv1:=Gk (base:=base) D_35 T c_zq1
 have c_zc:=J4 (base:=base) D_56 T c_zs1 c_ze1
 have c_z9:=IX (base:=base) D_57 T
 have c_zy1:=Hi (base:=base) D_60 T c_zu1 c_zo1 c_zs1 c_zc c_z9 c_zd c_zf
 have c_zd1:=GW (base:=base) D_25 T
 have c_z8:=Kd (base:=base) D_29 T c_z4
 have c_zv:=Iz (base:=base) D_32 T
 have c_zt:=IG (base:=base) D_38 T c_zd1 c_zv c_z01 c_zv1
 have c_zz:=Iw (base:=base) D_62 T c_zu1 c_zo1 c_zs1 c_zy1
 have c_zy:=Im (base:=base) D_61 T c_zu1
 have c_zl:=IB (base:=base) D_7 T
 have c_zx:=II (base:=base) D_8 T c_z31
 have c_zo:=JN (base:=base) D_9 T c_zx
 have c_zq:=JZ (base:=base) D_10 T c_zo
 have c_zs:=JP (base:=base) D_12 T c_z1 c_z31
 have c_zh:=Jb (base:=base) D_11 T
 have c_zg:=JL (base:=base) D_14 T
 have c_zb1:=G1 (base:=base) D_15 T c_z1 c_z31 c_zx c_zg
 have c_zb:=Kh (base:=base) D_16 T c_zw1 c_z1 c_zx
 have c_zm:=JT (base:=base) D_13 T c_zq1 c_z1 c_zh c_zs
 have c_ze:=IE (base:=base) D_17 T c_za1 c_zo c_zq
 have c_zc1:=FV (base:=base) D_18 T c_zp c_zq
 have c_z41:=HS (base:=base) D_19 T c_zl c_zm c_zb1 c_ze c_zc1
 have c_zn:=JD (base:=base) D_20 T c_z41
 have c_zw:=Iv (base:=base) D_21 T c_zp c_zl c_zm c_zb1 c_zb c_zn
 have c_zf1:=G3 (base:=base) D_42 T c_zq1 c_zw
 have c_zg1:=Hz (base:=base) D_43 T c_zf1
 have c_zj1:=GU (base:=base) D_39 T c_z2
 have c_z0:=JO (base:=base) D_40 T c_zk1 c_zj1
 have c_zl1:=FZ (base:=base) D_41 T c_zi1 c_z0
 have c_zr:=Kf (base:=base) D_64 T c_zf
 have c_zj:=Jk (base:=base) D_63 T c_zu1 c_zd c_zy
 have c_z6:=JF (base:=base) D_44 T c_z8 c_zj1
 have c_z7:=ID (base:=base) D_65 T c_zu1 c_zc c_z9 c_zj c_zr
 have c_za:=Js (base:=base) D_66 T c_zt c_zh1_Z c_z9
 exact FnOk.mono (k:=40) (FL D_67 T c_z4 c_zl1 c_zg1 c_z6 c_zp1 c_zu1 c_zh1_Z c_zz c_z7 c_za) (by decide)
theorem walk{l:PySem.W.OpenLaw}{q:Program}{loose:List Str}{XP:(Str→Option Value)→Heap→Prop}{YP:World→Heap→Prop}{d:DefRec}{K:Params→PySem.W.Frag}(hn:l.most=some 63)(hdf:d.params.defaults=[])
  (hY:∀ (w:World) (h:Heap),YP w h→(K w.params).In h)
  (F:∀ (w:World) (mg:Str→Option Value) (fa:Addr) (h:Heap),(K w.params).In h→h.Ns mainGlobals mg→mg d.name=some (.ref fa) →
   ∃ fd:FuncData,(∀ (s:Shared) (u:Value),BindsTo s fd ⟨[u],[]⟩ [("_law_script",u)])∧∀ base:Heap,(K w.params).In base→base.Ns mainGlobals mg→FnOk l.prog w (K w.params) mg base xZ 40 fa fd ["_law_script"] (Aj (K w.params))) :
  PySem.W.WalkO q loose XP YP l.row.toRowW d [] (fun f vs=>PySem.call f vs) :=
 L2.walk_of (n:=63) (k:=40) (x:="_law_script") (CX:=fun _=>xZ) (sp:=fun w=>Aj (K w.params)) hn (by decide) hdf ⟨rfl,by decide,by decide⟩ hY F (fun _ _ a ns hl _ hS=>⟨a,ns,rfl,hS,hl,fun _=>rfl⟩) fun _ _ _ _ _ z=>z
end Lw
def PySem.W.Fast.tw11170663365000497475:Nat:=0
def PySem.W.Fast.tw18123372028807232340:Nat:=0
def PySem.W.Fast.tw13561458638947772558:Nat:=0
def PySem.W.Fast.tw9782569772772299191:Nat:=0
def PySem.W.Fast.tw17977976590880808810:Nat:=0
def PySem.W.Fast.tw11417720582879219507:Nat:=0
def PySem.W.Fast.tw16236936672131873241:Nat:=0
def PySem.W.Fast.tw6339886264008128681:Nat:=0
def PySem.W.Fast.tw4392601884328907289:Nat:=0
def PySem.W.Fast.tw17821276919928413692:Nat:=0
def PySem.W.Fast.tw9743599252095259890:Nat:=0
def PySem.W.Fast.tw12230514888387329353:Nat:=0
def PySem.W.Fast.tw6413201746253718422:Nat:=0
def PySem.W.Fast.tw1907099994116870754:Nat:=0
def PySem.W.Fast.tw4449297422493017738:Nat:=0
def PySem.W.Fast.tw3280678296888168724:Nat:=0
def PySem.W.Fast.tw16896261731629762265:Nat:=0
def PySem.W.Fast.tw698534529219453576:Nat:=0
def PySem.W.Fast.tw9566155897312977064:Nat:=0
def PySem.W.Fast.tw17122377111932123672:Nat:=0
def PySem.W.Fast.tw15499844611146659816:Nat:=0
def PySem.W.Fast.tw1406238659207660250:Nat:=0
def PySem.W.Fast.tw13494496836019630705:Nat:=0
def PySem.W.Fast.tw13404493295084191057:Nat:=0
def PySem.W.Fast.tw10910259574317118027:Nat:=0
def PySem.W.Fast.tw97190728079711204:Nat:=0
def PySem.W.Fast.tw6771183202908938548:Nat:=0
def PySem.W.Fast.tw1697779760759050460:Nat:=0
def PySem.W.Fast.tw7114177975517617217:Nat:=0
def PySem.W.Fast.tw8658781957271237493:Nat:=0
def PySem.W.Fast.tw9220198803368801135:Nat:=0
def PySem.W.Fast.tw16942159659853126186:Nat:=0
def PySem.W.Fast.tw5305045147447394553:Nat:=0
def PySem.W.Fast.tw2936619957152204492:Nat:=0
def PySem.W.Fast.tw11174143787540364513:Nat:=0
def PySem.W.Fast.tw11895430314836650732:Nat:=0
def PySem.W.Fast.tw13014956083549242400:Nat:=0
def PySem.W.Fast.tw15587378928932806644:Nat:=0
def PySem.W.Fast.tw5781529769764029452:Nat:=0
def PySem.W.Fast.tw11603433109448734441:Nat:=0
def PySem.W.Fast.tw3176963747483730364:Nat:=0
def PySem.W.Fast.tw2301411282778889294:Nat:=0
def PySem.W.Fast.tw17654584571166137531:Nat:=0
def PySem.W.Fast.tw1710795605531454866:Nat:=0
def PySem.W.Fast.tw8108186946848316976:Nat:=0
def PySem.W.Fast.tw11590581461740124936:Nat:=0
def PySem.W.Fast.tw14803057093410810562:Nat:=0
def PySem.W.Fast.tw12631231315832151292:Nat:=0
def PySem.W.Fast.tw15219728350806961492:Nat:=0
def PySem.W.Fast.tw12086043700272028192:Nat:=0
def PySem.W.Fast.tw379990087325470244:Nat:=0
def PySem.W.Fast.tw2666278378016561243:Nat:=0
def PySem.W.Fast.tw10449546307732128137:Nat:=0
def PySem.W.Fast.tw117728110160945932:Nat:=0
def PySem.W.Fast.tw9131770855168331242:Nat:=0
def PySem.W.Fast.tw10435097866676196786:Nat:=0
def PySem.W.Fast.tw14815823640750251194:Nat:=0
def PySem.W.Fast.tw11837762910902947859:Nat:=0
def PySem.W.Fast.tw12097917192875889140:Nat:=0
def PySem.W.Fast.tw1866766701718144149:Nat:=0
def PySem.W.Fast.tw6004883566221355331:Nat:=0
def PySem.W.Fast.tw17631598563676602392:Nat:=0
def PySem.W.Fast.tw10177152919058484647:Nat:=0
def PySem.W.Fast.tw6935456668520536127:Nat:=0
def PySem.W.Fast.tw2697231983403078673:Nat:=0
def PySem.W.Fast.tw16293855392998457849:Nat:=0
def PySem.W.Fast.tw16474033284876477129:Nat:=0
def PySem.W.Fast.tw18203847237046146249:Nat:=0
def PySem.W.Fast.tw12254146712119649537:Nat:=0
def PySem.W.Fast.tw6189961411110075860:Nat:=0
def PySem.W.Fast.tw4227631022514393452:Nat:=0
def PySem.W.Fast.tw10621560742278689911:Nat:=0
def PySem.W.Fast.tw7780266604960553428:Nat:=0
def PySem.W.Fast.tw11985700173054918909:Nat:=0
def PySem.W.Fast.tw16707703285443697316:Nat:=0
def PySem.W.Fast.tw11690557303214079147:Nat:=0
def PySem.W.Fast.tw13112317861671436875:Nat:=0
def PySem.W.Fast.tw6568159482057696819:Nat:=0
def PySem.W.Fast.tw12178890331460325933:Nat:=0
def PySem.W.Fast.tw4877711488884184415:Nat:=0
def PySem.W.Fast.tw12576623050775361433:Nat:=0
def PySem.W.Fast.tw17205068791153671942:Nat:=0
def PySem.W.Fast.tw9086937574247590324:Nat:=0
def PySem.W.Fast.tw9351950154505877930:Nat:=0
def PySem.W.Fast.tw9736331912795391726:Nat:=0
def PySem.W.Fast.tw15661633183340875754:Nat:=0
def PySem.W.Fast.tw13014970607680378524:Nat:=0
def PySem.W.Fast.tw3974581458033725573:Nat:=0
open PySem PySem.W PyProof.Rows
set_option maxRecDepth 100000 in
set_option maxHeartbeats 0 in
theorem PySem.Challenge.cw_newletters_k33_whole_rows_along_roads_holds : PySem.Challenge.rw_newletters_k33_whole_rows_along_roads.Holds := by
 w_on;o_law;k_head;(case hw=>w_witness2)
 k_fill
 refine Lw.walk (l:=PySem.Challenge.rw_newletters_k33_whole_rows_along_roads) rfl rfl (fun w h Y=>PySem.W.kIn_of Y) ?F
 case F =>
  intro w mg fa h KX G hmg
  refine' Lw.all_mk (LD:=(0:Nat)) KX G hmg ?d_0 ?d_1 ?d_2 ?d_3 ?d_4 ?d_5 ?d_6 ?d_7 ?d_8 ?d_9 ?d_10 ?d_11 ?d_12 ?d_13 ?d_14 ?d_15 ?d_16 ?d_17 ?d_18 ?d_19 ?d_20 ?d_21 ?d_22 ?d_23 ?d_24 ?d_25 ?d_26 ?d_27 ?d_28 ?d_29 ?d_30 ?d_31 ?d_32 ?d_33 ?d_34 ?d_35 ?d_36 ?d_37 ?d_38 ?d_39 ?d_40 ?d_41 ?d_42 ?d_43 ?d_44 ?d_45 ?d_46 ?d_47 ?d_48 ?d_49 ?d_50 ?d_51 ?d_52 ?d_53 ?d_54 ?d_55 ?d_56 ?d_57 ?d_58 ?d_59 ?d_60 ?d_61 ?d_62 ?d_63 ?d_64 ?d_65 ?d_66 ?na_67 ?nl_67 ?nc_67 ?nk_67 ?nb_all ?nb_bool ?nb_enumerate ?nb_int ?nb_isinstance ?nb_len ?nb_list ?nb_max ?nb_min ?nb_range ?nb_reversed ?nb_sum ?nb_tuple ?nb_zip ?oa_Weave ?ob_Weave ?oe_Weave ?of_Weave ?og_Weave ?oh_Weave ?oi_Weave ?on_Weave_heads ?on_Weave_turns ?on_Weave_ways ?on_Weave_alike ?nm_CONTRARIES ?nt_CONTRARIES ?nh_CONTRARIES ?nm_EXCHANGE ?nm_LETTERS ?nt_LETTERS ?nv_LETTERS ?nm_RANKS ?nt_RANKS ?nh_RANKS
  (case oa_Weave=>k_is)
  (case d_0 | d_1 | d_2 | d_3 | d_4 | d_5 | d_6 | d_17 | d_18 | d_19 | d_20 | d_21 | d_22 | d_23 | d_24 | d_25 | d_26 | d_27 | d_28 | d_29 | d_30 | d_31 | d_32 | d_33 | d_34 | d_35 | d_36 | d_37 | d_38 | d_39 | d_40 | d_41 | d_42 | d_43 | d_44 | d_45 | d_46 | d_47 | d_48 | d_49 | d_50 | d_51 | d_52 | d_53 | d_54 | d_55 | d_56 | d_57 | d_58 | d_59 | d_60 | d_61 | d_62 | d_63 | d_64 | d_65 | d_66=>exact⟨_,_,_,_,_,_,_,_,_,_,by k_is,by k_is,by k_is,by k_is⟩)
  (case d_7 | d_8 | d_9 | d_10 | d_11 | d_12 | d_13 | d_14 | d_15 | d_16=>exact⟨_,_,_,_,_,_,_,_,_,_,by k_is,by k_is,by k_is,by k_is,by k_is⟩)
  (case na_67 | nl_67 | nc_67 | nk_67 | nb_all | nb_bool | nb_enumerate | nb_int | nb_isinstance | nb_len | nb_list | nb_max | nb_min | nb_range | nb_reversed | nb_sum | nb_tuple | nb_zip | ob_Weave | oe_Weave | of_Weave | og_Weave | oh_Weave | oi_Weave | on_Weave_heads | on_Weave_turns | on_Weave_ways | on_Weave_alike | nm_CONTRARIES | nm_EXCHANGE | nm_LETTERS | nt_LETTERS | nm_RANKS=>k_is)
  (case nt_CONTRARIES=>kernel_rfl)
  (case nh_CONTRARIES=>kernel_rfl)
  (case nv_LETTERS=>exact .cons ⟨_,rfl⟩ (.cons ⟨_,rfl⟩ (.cons ⟨_,rfl⟩ (.cons ⟨_,rfl⟩ (.cons ⟨_,rfl⟩ (.cons ⟨_,rfl⟩ (.cons ⟨_,rfl⟩ (.cons ⟨_,rfl⟩ .nil))))))))
  (case nt_RANKS=>kernel_rfl)
  (case nh_RANKS=>kernel_rfl)
