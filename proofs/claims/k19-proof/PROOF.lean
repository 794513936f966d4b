import PyProof.Rows.All
import Wide.All
import OpenK.AllK
import Wide.FinOn
import Lean
import PyProof.EqAt
import PyProof.EqKinds
import PyProof.TupleCall
import KE.KMinKey
import KE.KSortTup
import KE.KLam
import KE.KNestM
import KE.KItemsList
import PyProof.SeqI2
import PyProof.SeqI3
import PySem.Challenge.RW_newletters_k19_whole_there_and_back
set_option Elab.async false
set_option maxHeartbeats 4000000
set_option maxRecDepth 100000
set_option linter.all false
namespace L2
open PySem PySem.Spec PyProof.Rows
abbrev cM:=Sum Int Str
def pW:cM→Value→Bool
 | .inl k,v=>Value.isInt k v
 | .inr x,v=>Value.isStrOf x v
def Iq(w:World):cM→Int
 | .inl k=>hashInt k
 | .inr x=>hashStr w x
theorem cI:∀ {k:cM} {v:Value},pW k v=true→(∃ i t,k=Sum.inl i∧v=Value.int i t)∨(∃ x t,k=Sum.inr x∧v=Value.str x t)
 | .inl i,v,h=>by
  obtain⟨t,e⟩:=Value.isInt_shape (k:=i) (v:=v) h
  exact .inl ⟨i,t,rfl,e⟩
 | .inr x,v,h=>by
  obtain⟨t,e⟩:=Value.isStrOf_shape (x:=x) (v:=v) h
  exact .inr ⟨x,t,rfl,e⟩
theorem zF(i:Int)(t:Tok):pW (.inl i) (.int i t)=true:=by simp[pW,Value.isInt]
theorem Ad(x:Str)(t:Tok):pW (.inr x) (.str x t)=true:=by simp[pW,Value.isStrOf]
theorem Fj(a b:Int):decide ((Sum.inl a:cM)=Sum.inl b)=(a == b):=by
 by_cases e:a=b
 ·subst e;simp
 ·have h:¬ (Sum.inl a:cM)=Sum.inl b:=fun q=>e (Sum.inl.inj q)
  rw[decide_eq_false h]
  exact(beq_eq_false_iff_ne.mpr e).symm
theorem DY(a b:Str):decide ((Sum.inr a:cM)=Sum.inr b)=decide (a=b):=by
 by_cases e:a=b
 ·subst e;simp
 ·have h:¬ (Sum.inr a:cM)=Sum.inr b:=fun q=>e (Sum.inr.inj q)
  rw[decide_eq_false h,decide_eq_false e]
theorem EK(a:Int)(b:Str):decide ((Sum.inl a:cM)=Sum.inr b)=false:=decide_eq_false (fun q=>nomatch q)
theorem Eg(a:Str)(b:Int):decide ((Sum.inr a:cM)=Sum.inl b)=false:=decide_eq_false (fun q=>nomatch q)
def bQ(prog:Program)(w:World):PySem.KeyKind prog w cM where
 is:=pW
 hash:=Iq w
 inj:=fun v a b ha hb=>by
  rcases cI ha with ⟨i,t,rfl,rfl⟩ | ⟨x,t,rfl,rfl⟩
  ·rcases cI hb with ⟨j,u,rfl,e⟩ | ⟨y,u,rfl,e⟩
   ·injection e with e1 _;rw[e1]
   ·exact nomatch e
  ·rcases cI hb with ⟨j,u,rfl,e⟩ | ⟨y,u,rfl,e⟩
   ·exact nomatch e
   ·injection e with e1 _;rw[e1]
 byValue:=fun k v h=>by
  rcases cI h with ⟨i,t,rfl,rfl⟩ | ⟨x,t,rfl,rfl⟩ <;> rfl
 pyHash:=fun hv h=>by
  rcases cI hv with ⟨i,t,rfl,rfl⟩ | ⟨x,t,rfl,rfl⟩
  ·exact wpAny_pyHash_int h
  ·exact wpAny_pyHash_str h
 eqBool:=fun hu hv h=>by
  rcases cI hu with ⟨i,t,rfl,rfl⟩ | ⟨x,t,rfl,rfl⟩
  ·rcases cI hv with ⟨j,u,rfl,rfl⟩ | ⟨y,u,rfl,rfl⟩
   ·rw[Fj] at h;exact wpAny_eqBool_int h
   ·rw[EK] at h;exact SeqAt.EqAt.int_str i t y u _ _ _ _ h
  ·rcases cI hv with ⟨j,u,rfl,rfl⟩ | ⟨y,u,rfl,rfl⟩
   ·rw[Eg] at h;exact SeqAt.EqAt.str_int x t j u _ _ _ _ h
   ·rw[DY] at h;exact wpAny_eqBool_str h
 «strs»:=fun k x t v h=>by
  rcases cI h with ⟨i,u,rfl,e⟩ | ⟨y,u,rfl,e⟩
  ·exact nomatch e
  ·injection e with e1 _
   subst e1
   cases v <;> rfl
theorem vI(prog:Program)(w:World)(i:Int)(t:Tok):(bQ prog w).is (.inl i) (.int i t)=true:=zF i t
theorem vE(prog:Program)(w:World)(x:Str)(t:Tok):(bQ prog w).is (.inr x) (.str x t)=true:=Ad x t
inductive V where
 | non | bl (b:Bool) | int (i:Int) | str (x:Str) | byt (b:Array UInt8) | flt (b:UInt64) | ref (a:Addr) | ty (n:String)
 deriving DecidableEq
def RelV:V→Value→Prop
 | .non,u=>u=Value.none
 | .bl b,u=>u=Value.bool b
 | .int i,u=>∃ t,u=Value.int i t
 | .str x,u=>∃ t,u=Value.str x t
 | .byt b,u=>∃ t,u=Value.bytes b t
 | .flt b,u=>∃ t,u=Value.float b t
 | .ref a,u=>u=Value.ref a
 | .ty n,u=>u=Value.type n
abbrev Vals:List V→List Value→Prop:=Paired RelV
theorem Vals.length{xs:List V}{us:List Value}(r:Vals xs us):xs.length=us.length:=Paired.length r
theorem Vals.get:∀ {xs:List V} {us:List Value} {i:Nat} {x:V},Vals xs us→xs[i]?=some x→∃ u,us[i]?=some u∧RelV x u
 | _,_,_,_,.nil,e=>by simp at e
 | _,_,0,_,.cons r _,e=>by simp at e;subst e;exact⟨_,rfl,r⟩
 | _,_,i+1,x,.cons _ t,e=>by
  obtain⟨u,h1,h2⟩:=Vals.get (i:=i) (x:=x) t (by simpa using e)
  exact⟨u,by simpa using h1,h2⟩
theorem Vals.set{x:V}{u:Value}(r:RelV x u):∀ {xs:List V} {us:List Value} (i:Nat),Vals xs us→Vals (xs.set i x) (us.set i u)
 | _,_,_,.nil=>.nil
 | _,_,0,.cons _ t=>.cons r t
 | _,_,i+1,.cons q t=>.cons q (Vals.set r i t)
theorem Vals.append:∀ {xs ys:List V} {us ws:List Value},Vals xs us→Vals ys ws→Vals (xs++ys) (us++ws)
 | _,_,_,_,.nil,s=>s
 | _,_,_,_,.cons r t,s=>.cons r (Vals.append t s)
theorem Vals.take:∀ {xs:List V} {us:List Value} (n:Nat),Vals xs us→Vals (xs.take n) (us.take n)
 | _,_,0,_=>.nil
 | _,_,_+1,.nil=>.nil
 | _,_,n+1,.cons r t=>.cons r (Vals.take n t)
theorem Vals.drop:∀ {xs:List V} {us:List Value} (n:Nat),Vals xs us→Vals (xs.drop n) (us.drop n)
 | _,_,0,r=>r
 | _,_,_+1,.nil=>.nil
 | _,_,n+1,.cons _ t=>Vals.drop n t
def RelO:Option V→Option Value→Prop
 | some v,some u=>RelV v u
 | none,none=>True
 | _,_=>False
def KV{κ:Type}:List (κ×V)→List (κ×Value)→Prop:=Paired fun (p:κ×V) (q:κ×Value)=>p.1=q.1∧RelV p.2 q.2
def kV:cM→V
 | .inl i=>.int i
 | .inr x=>.str x
inductive HO where
 | lst (xs:List V)
 | tup (xs:List V)
 | dK (kvs:List (cM×V)) | dT (kvs:List (List cM×V))
 | set (S:Int→Bool) (n:Nat)
 | ins (C dx:Addr) (fs:List (Str×V))
 | own (x:Addr)
 | xd (fs:List (Str×V))
 | met (f x:Addr)
 | rng (lo hi:Int)
 | frz (o:Obj) (u:HO)
 | tbl (ps:Array Value)
 | ext (φ:Heap→Prop)
abbrev Hp:=Addr→Option HO
def upd(H:Hp)(a:Addr)(o:HO):Hp:=fun b=>if b=a then some o else H b
theorem aC{H:Hp}{a:Addr}{o:HO}:upd H a o a=some o:=by unfold upd;rw[if_pos rfl]
theorem aE{H:Hp}{a b:Addr}{o:HO}(h:b≠a):upd H a o b=H b:=by unfold upd;rw[if_neg h]
theorem dB{H:Hp}{a b:Addr}{o u:HO}(h:H a=some o)(h':H b=some u)(d:o≠u):a≠b:=by
 intro e;subst e;rw[h] at h';exact d (Option.some.inj h')
theorem aH{H:Hp}{a b:Addr}{o:HO}(h:H a=some o)(h':H b=none):a≠b:=by
 intro e;subst e;rw[h] at h';cases h'
def NoD(h:Heap)(a:Addr):Prop:=∃ o,h.get? a=some o∧o.dict=none
theorem NoD.new(h:Heap)(items:Array Value):NoD (h.push { cls:=.type "tuple",data:=.seq items }) h.objs.size:=⟨_,Heap.get?_push_size _ rfl,rfl⟩
section
variable (P:Program)(w:World)
def ObjOk(H:Hp)(h:Heap)(a:Addr):HO→Prop
 | .lst xs=>xs.length≤sizeLine∧∃ (its:List Value) (n:Nat),Vals xs its∧h.get? a=some { cls:=.type "list",data:=.seq its.toArray n }
 | .tup xs=>xs.length≤sizeLine∧∃ its:List Value,Vals xs its∧IsTup h a its.toArray∧NoD h a
 | .dK kvs=>kvs.length≤sizeLine∧(a == sysModules)=false∧∃ vs,KV kvs vs∧h.DictOf (bQ P w) a vs
 | .dT kvs=>kvs.length≤sizeLine∧(a == sysModules)=false∧∃ xs:List (List cM×Addr×Value),
   Paired (fun (p:List cM×V) (q:List cM×Addr×Value)=>p.1=q.1∧H q.2.1=some (.tup (p.1.map kV))∧RelV p.2 q.2.2) kvs xs ∧
   ∃ o es ep,h.get? a=some o∧o.ExactDict∧o.data=.dict es ep∧es.toList=xs.map (entryOfKey (tupleKind (bQ P w)))∧(xs.map (·.1)).Nodup
 | .set S n=>h.SetOf (intKind P w) a S n
 | .ins C dx fs=>H dx=some (.own a)∧fs.length≤1000∧dx≠a∧h.get? a=some (PySem.W.instObj C dx) ∧
   ∃ mA,h.Ns1 dx mA∧(∀ f,RelO (fs.lookup f) (mA f))∧PySem.Within mA (fs.map (·.1))
 | .own _=>∃ o,h.get? a=some o
 | .xd fs=>∃ mA,h.Ns1 a mA∧∀ f,RelO (fs.lookup f) (mA f)
 | .rng lo hi=>∃ t u v,h.get? a=some { cls:=.type "range",data:=.fields #[.int lo t,.int hi u,.int 1 v] }
 | .frz o u=>h.get? a=some o∧ObjOk H h a u
 | .tbl ps=>h.get? a=some { cls:=.none,data:=.fields ps }
 | .met f x=>h.get? a=some (PySem.W.methodObj (.ref f) (.ref x))
 | .ext φ=>φ h∧(∃ o,h.get? a=some o)∧∀ h1 h2:Heap,φ h1→(∀ o,h1.get? a=some o→h2.get? a=some o)→φ h2
def HOk(H:Hp)(h:Heap):Prop:=∀ a o,H a=some o→ObjOk P w H h a o
end
section
variable {P:Program}{w:World}{H H':Hp}{h h':Heap}{a:Addr}{o:HO}
theorem ObjOk.lt(x:ObjOk P w H h a o):a<h.objs.size:=by
 cases o with
 | lst xs=>obtain⟨_,_,_,_,e⟩:=x;exact Heap.lt_size e
 | tup xs=>obtain⟨_,_,_,p⟩:=x;exact p.1.lt
 | dK kvs=>obtain⟨_,_,_,_,o,_,_,e,_⟩:=x;exact Heap.lt_size e
 | dT kvs=>obtain⟨_,_,_,_,o,_,_,e,_⟩:=x;exact Heap.lt_size e
 | set S n=>obtain⟨o,_,_,_,e,_⟩:=x;exact Heap.lt_size e
 | ins C dx fs=>obtain⟨_,_,_,e,_⟩:=x;exact Heap.lt_size e
 | own y=>obtain⟨_,e⟩:=x;exact Heap.lt_size e
 | xd fs=>obtain⟨_,⟨_,_,_,e,_⟩,_⟩:=x;exact Heap.lt_size e
 | rng lo hi=>obtain⟨_,_,_,e⟩:=x;exact Heap.lt_size e
 | frz ob u=>obtain⟨e,_⟩:=x;exact Heap.lt_size e
 | tbl ps=>exact Heap.lt_size (show h.get? a=some _ from x)
 | met f y=>exact Heap.lt_size (show h.get? a=some _ from x)
 | ext φ=>obtain⟨_,⟨_,e⟩,_⟩:=x;exact Heap.lt_size e
theorem Paired.mapP{α β:Type}{F G:α→β→Prop}:∀ {l₁:List α} {l₂:List β},Paired F l₁ l₂→(∀ a b,F a b→G a b)→Paired G l₁ l₂
 | _,_,.nil,_=>.nil
 | _,_,.cons r t,f=>.cons (f _ _ r) (Paired.mapP t f)
theorem ObjOk.stay(x:ObjOk P w H h a o)(k:∀ b u,(b=a∨H b=some (.own a))→h.get? b=some u→h'.get? b=some u)
  (ho:∀ b,H b=some (.own a)→H' b=some (.own a)) (ht:∀ b xs,H b=some (.tup xs)→H' b=some (.tup xs)):ObjOk P w H' h' a o:=by
 induction o with
 | lst xs=>obtain⟨z,its,n,r,e⟩:=x;exact⟨z,its,n,r,k _ _ (.inl rfl) e⟩
 | tup xs=>obtain⟨z,its,r,⟨ob,e,c⟩,od,e2,c2⟩:=x;exact⟨z,its,r,⟨ob,k _ _ (.inl rfl) e,c⟩,od,k _ _ (.inl rfl) e2,c2⟩
 | dK kvs=>obtain⟨z,y,vs,r,ob,es,ep,e,c⟩:=x;exact⟨z,y,vs,r,ob,es,ep,k _ _ (.inl rfl) e,c⟩
 | dT kvs =>
  obtain⟨z,y,xs,r,ob,es,ep,e,c⟩:=x
  exact⟨z,y,xs,Paired.mapP r fun p q z=>⟨z.1,ht _ _ z.2.1,z.2.2⟩,ob,es,ep,k _ _ (.inl rfl) e,c⟩
 | set S n=>obtain⟨ob,es,ep,t,e,c⟩:=x;exact⟨ob,es,ep,t,k _ _ (.inl rfl) e,c⟩
 | ins C dx fs =>
  obtain⟨d,z,ne,e,mA,⟨od,es,ep,e2,c⟩,r⟩:=x
  exact⟨ho _ d,z,ne,k _ _ (.inl rfl) e,mA,⟨od,es,ep,k _ _ (.inr d) e2,c⟩,r⟩
 | own y=>obtain⟨ob,e⟩:=x;exact⟨ob,k _ _ (.inl rfl) e⟩
 | xd fs=>obtain⟨mA,⟨od,es,ep,e,c⟩,r⟩:=x;exact⟨mA,⟨od,es,ep,k _ _ (.inl rfl) e,c⟩,r⟩
 | rng lo hi=>obtain⟨t,u,v,e⟩:=x;exact⟨t,u,v,k _ _ (.inl rfl) e⟩
 | frz ob u ih=>obtain⟨e,q⟩:=x;exact⟨k _ _ (.inl rfl) e,ih q⟩
 | tbl ps =>
  have e:h.get? a=some { cls:=.none,data:=.fields ps }:=x
  show h'.get? a=some { cls:=.none,data:=.fields ps }
  exact k a _ (.inl rfl) e
 | met f y =>
  have e:h.get? a=some (PySem.W.methodObj (.ref f) (.ref y)):=x
  show h'.get? a=some (PySem.W.methodObj (.ref f) (.ref y))
  exact k a _ (.inl rfl) e
 | ext φ=>obtain⟨p,⟨o,e⟩,st⟩:=x;exact⟨st _ _ p fun o q=>k _ _ (.inl rfl) q,⟨o,k _ _ (.inl rfl) e⟩,st⟩
theorem HOk.lt(x:HOk P w H h)(e:H a=some o):a<h.objs.size:=(x a o e).lt
theorem HOk.fresh(x:HOk P w H h)(e:h.objs.size≤a):H a=none:=by
 cases q:H a with
 | none=>rfl
 | some u=>exact absurd (Nat.lt_of_lt_of_le (x.lt q) e) (Nat.lt_irrefl _)
theorem HOk.kept(x:HOk P w H h)(k:∀ b u,h.get? b=some u→h'.get? b=some u):HOk P w H h':=fun a o e =>
 (x a o e).stay (fun b u _ q=>k b u q) (fun _ q=>q) fun _ _ q=>q
theorem HOk.laid(x:HOk P w H h)(k:∀ b u,h.get? b=some u→h'.get? b=some u)(hp:h.objs.size≤a)(new:ObjOk P w (upd H a o) h' a o):HOk P w (upd H a o) h':=fun b u e=>by
 have hn:=x.fresh hp
 by_cases hb:b=a
 ·subst hb;rw[aC] at e;cases e;exact new
 ·rw[aE hb] at e
  exact(x b u e).stay (fun c v _ q=>k c v q) (fun c q=>by rw[aE (aH q hn)];exact q) fun c xs q=>by rw[aE (aH q hn)];exact q
end
def Rd(H:Hp)(a:Addr)(u:HO):Prop:=H a=some u∨∃ o,H a=some (.frz o u)
theorem Rd.ok{P:Program}{w:World}{H:Hp}{h:Heap}{a:Addr}{u:HO}(r:Rd H a u)(x:HOk P w H h):ObjOk P w H h a u:=by
 rcases r with r | ⟨o,r⟩
 ·exact x a u r
 ·obtain⟨_,q⟩:=x a _ r
  exact q
def Gi:Option HO→Prop
 | some (.lst _)=>True
 | some (.dK _)=>True
 | some (.dT _)=>True
 | some (.set _ _)=>True
 | some (.ins _ _ _)=>True
 | some (.ext _)=>True
 | _=>False
section
variable {P:Program}{w:World}{H:Hp}{h h':Heap}{x e:Addr}{o':HO}
theorem HOk.write(ok:HOk P w H h)(mu:Gi (H x))(he:e=x∨H e=some (.own x))(k:∀ b u,b≠e→h.get? b=some u→h'.get? b=some u)(heo:∃ u,h'.get? e=some u)
  (new:ObjOk P w (upd H x o') h' x o'):HOk P w (upd H x o') h':=fun b u q=>by
 have nown:∀ c y,H c=some (.own y)→c≠x:=fun c y r z=>by subst z;rw[r] at mu;exact mu
 have ntup:∀ c xs,H c=some (.tup xs)→c≠x:=fun c xs r z=>by subst z;rw[r] at mu;exact mu
 by_cases hb:b=x
 ·subst hb;rw[aC] at q;cases q;exact new
 ·rw[aE hb] at q
  by_cases hbe:b=e
  ·have q':H b=some (.own x):=by
    rcases he with z | z
    ·exact absurd (hbe.trans z) hb
    ·rw[hbe];exact z
   rw[q] at q';cases q'
   obtain⟨v,hv⟩:=heo
   exact⟨v,by rw[hbe];exact hv⟩
  ·refine(ok b u q).stay (fun c v hc r=>k c v ?_ r) (fun c r=>by rw[aE (nown c b r)];exact r) fun c xs r=>by rw[aE (ntup c xs r)];exact r
   rcases hc with rfl | hc
   ·exact hbe
   ·rintro rfl
    rcases he with z | z
    ·exact nown c b hc z
    ·rw[hc] at z;cases z;exact hb rfl
end
structure Un(fs ex:List Addr)(H H':Hp)(h h':Heap):Prop where
 keep:∀ b o,h.get? b=some o→H b=none→b ∉ fs→b ∉ ex→h'.get? b=some o
 slot:∀ b o,h.get? b=some o→H b=none→b∈fs→b ∉ ex→∃ sl,h'.get? b=some { o with slots:=sl }
 free:∀ b o,h.get? b=some o→H b=none→b ∉ ex→H' b=none
 there:∀ b o,h.get? b=some o→b ∉ ex→∃ o',h'.get? b=some o'
 tups:∀ b xs,H b=some (.tup xs)→H' b=some (.tup xs)
 frzs:∀ b o u,H b=some (.frz o u)→H' b=some (.frz o u)
 tbls:∀ b ps,H b=some (.tbl ps)→∃ more,H' b=some (.tbl (ps++more))
section
variable {fs fs' ex ex':List Addr}{H H1 H2:Hp}{h h1 h2 h':Heap}{a x e:Addr}{o:HO}
theorem Un.any(u:Un fs ex H H1 h h1){b:Addr}{ob:Obj}(q:h.get? b=some ob)(n:H b=none)(hx:b ∉ ex):∃ sl,h1.get? b=some { ob with slots:=sl }:=by
 by_cases hb:b∈fs
 ·exact u.slot b ob q n hb hx
 ·exact⟨ob.slots,u.keep b ob q n hb hx⟩
theorem Un.kept(k:∀ b u,h.get? b=some u→h'.get? b=some u):Un fs ex H H h h' :=
 ⟨fun b ob q _ _ _=>k b ob q,fun b ob q _ _ _=>⟨ob.slots,k b ob q⟩,fun _ _ _ n _=>n,fun b ob q _=>⟨ob,k b ob q⟩,fun _ _ q=>q,fun _ _ _ q=>q,fun _ ps q=>⟨#[],by rw[q];simp⟩⟩
theorem Un.refl:Un fs ex H H h h:=Un.kept fun _ _ q=>q
theorem Un.laid(k:∀ b u,h.get? b=some u→h'.get? b=some u)(hp:h.objs.size≤a)(hn:H a=none):Un fs ex H (upd H a o) h h' where
 keep:=fun b u q _ _ _=>k b u q
 slot:=fun b u q _ _ _=>⟨u.slots,k b u q⟩
 free:=fun b u q n _=>by rw[aE (Nat.ne_of_lt (Nat.lt_of_lt_of_le (Heap.lt_size q) hp))];exact n
 there:=fun b u q _=>⟨u,k b u q⟩
 tups:=fun b xs q=>by rw[aE (aH q hn)];exact q
 frzs:=fun b u xs q=>by rw[aE (aH q hn)];exact q
 tbls:=fun b ps q=>⟨#[],by rw[aE (aH q hn),q];simp⟩
theorem Un.write(mu:Gi (H x))(he:e=x∨H e=some (.own x))(k:∀ b u,b≠e→h.get? b=some u→h'.get? b=some u)(heo:∃ u,h'.get? e=some u):Un fs ex H (upd H x o) h h':=by
 have hx:∀ b,H b=none→b≠x:=fun b n z=>by subst z;rw[n] at mu;exact mu
 have hb:∀ b,H b=none→b≠e:=fun b n z=>by
  subst z
  rcases he with r | r
  ·exact hx b n r
  ·rw[n] at r;cases r
 have hm:∀ b u,H b=some u→¬ Gi (some u)→b≠x:=fun b u q nm z=>by subst z;rw[q] at mu;exact nm mu
 refine⟨fun b u q n _ _=>k b u (hb b n) q,fun b u q n _ _=>⟨u.slots,k b u (hb b n) q⟩,fun b u q n _=>by rw[aE (hx b n)];exact n,fun b u q _=>?_,
  fun b xs q=>by rw[aE (hm b _ q fun z=>z)];exact q,fun b u xs q=>by rw[aE (hm b _ q fun z=>z)];exact q,fun b ps q=>⟨#[],by rw[aE (hm b _ q fun z=>z),q];simp⟩⟩
 by_cases hbe:b=e
 ·subst hbe;exact heo
 ·exact⟨u,k b u hbe q⟩
end
def HM(h:Heap)(H:Hp):List Addr:=(List.range h.objs.size).filter fun a=>(H a).isSome
def sL(h:Heap)(H:Hp):Heap:=PySem.W.hideAll h (HM h H)
theorem Aj(h:Heap)(H:Hp):(sL h H).objs.size=h.objs.size:=PySem.W.hideAll_size _ _
theorem AD{h:Heap}{H:Hp}{b:Addr}{o:Obj}(e:h.get? b=some o)(n:H b=none):(sL h H).get? b=some o :=
 PySem.W.hideAll_get _ e fun hm=>by
  have q:(H b).isSome=true:=(List.mem_filter.mp hm).2
  rw[n] at q;simp at q
theorem Dn{h:Heap}{H:Hp}{b:Addr}{o:Obj}(e:(sL h H).get? b=some o):h.get? b=some o∧H b=none:=by
 have e':h.get? b=some o:=PySem.W.of_hideAll (HM h H) e
 refine⟨e',?_⟩
 cases q:H b with
 | none=>rfl
 | some x =>
  have hm:b∈HM h H:=List.mem_filter.mpr ⟨List.mem_range.mpr (Heap.lt_size e'),by simp[q]⟩
  have z:(sL h H).get? b=none:=PySem.W.hideAll_none (HM h H) hm
  rw[z] at e;cases e
structure Mod(K:PySem.W.Frag)(mg:Str→Option Value)(base:Heap):Prop where
 kin:K.In base
 glob:base.Ns mainGlobals mg
 blt:∃ mb,base.Ns builtinsNs mb∧∀ x:Str,x≠"__name__"→mb x=bootBuiltins x
 nolimit:base.NoLimit
structure Cx where
 prog:Program
 w:World
 K:PySem.W.Frag
 mg:Str→Option Value
 base:Heap
 A:Around
 N:List Str
 s₀:Shared
 H₀:Hp
 env:Env
 outer:List Env
 stack:List Env
 ex:List Addr
 fn:Str→Bool
 calm:Bool
 pn:List (Addr×Obj)
 xe:Value→Shared→Prop
def Az(l:List Env):List Addr:=l.filterMap (·.frame)
abbrev Cx.fs(X:Cx):List Addr:=Az X.outer
def GD(sc:Scope)(x:Str):Prop:=sc.names.lookup x=some .local∨sc.names.lookup x=some .cell∨sc.names.lookup x=some .free
def Ha(sc:Scope)(x:Str):Prop:=sc.names.lookup x=some .local∨sc.names.lookup x=some .cell
def IB(env:Env)(h:Heap)(m:Str→Option Value)(x:Str)(u:Value):Prop :=
 (env.kindOf x=some .local∧m x=some u)∨((env.kindOf x=some .cell∨env.kindOf x=some .free)∧∃ c,env.cells.lookup x=some c∧h.IsCell c (some u))
structure Cx.Ok(X:Cx):Prop where
 mod:Mod X.K X.mg X.base
 kind:X.env.scope.kind=.function
 glob:X.env.globals=mainGlobals
 blt:X.env.builtins=builtinsNs
 above:X.s₀.heap.objs.size≤X.env.locals
 inj:∀ x y c,X.env.cells.lookup x=some c→X.env.cells.lookup y=some c→x=y
 has:∀ x,(X.env.kindOf x=some .cell∨X.env.kindOf x=some .free)→∃ c,X.env.cells.lookup x=some c
 cab:∀ x c,X.fn x=true→X.env.cells.lookup x=some c→X.s₀.heap.objs.size≤c
 hd:X.calm=true→X.A.handled=none
 frames:X.A.frames=some X.stack
 stk:X.stack=X.outer∨(X.stack=X.env::X.outer∧X.env.frame=some X.env.locals)
 exf:∀ b∈X.ex,b≠X.env.locals∧∀ x c,X.env.cells.lookup x=some c→c≠b
 bs:∀ b o,X.base.get? b=some o→X.s₀.heap.get? b=some o∧X.H₀ b=none
 bsz:X.base.objs.size≤X.s₀.heap.objs.size
 noex:∀ b o,X.base.get? b=some o→b ∉ X.ex
 exfs:∀ b∈X.ex,b ∉ X.fs
 funs:X.s₀.heap.FunFrames X.base X.outer
 frf:∀ b∈X.fs,X.H₀ b=none
structure Inv(X:Cx)(pins:List (Addr×Obj))(σ:List (Option V))(H:Hp)(s:Shared):Prop where
 ok:X.Ok
 os:s.os=X.s₀.os
 bare:AllBare s.gens
 base:Un X.fs X.ex X.H₀ H X.s₀.heap s.heap
 loc:∃ m,s.heap.Ns X.env.locals m∧∀ (i:Nat) (x:Str) (v:V),X.N[i]?=some x→σ[i]?=some (some v)→GD X.env.scope x→∃ u,RelV v u∧IB X.env s.heap m x u
 cell:∀ x c,X.env.cells.lookup x=some c→∃ v,s.heap.IsCell c v
 free:H X.env.locals=none
 freeC:∀ x c,X.env.cells.lookup x=some c→H c=none
 pin:∀ p∈X.pn++pins,s.heap.get? p.1=some p.2∧H p.1=none∧p.1≠X.env.locals∧p.1 ∉ X.fs∧∀ v,p.2.data≠.cell v
 hok:HOk X.prog X.w H s.heap
 len:σ.length=X.N.length
section
variable {X:Cx}{pins:List (Addr×Obj)}{σ:List (Option V)}{H H':Hp}{s:Shared}{h':Heap}
theorem Cx.Ok.nofr(ok:X.Ok){b:Addr}{o:Obj}(e:X.base.get? b=some o):b ∉ X.fs:=fun hb=>by
 have:=(ok.funs.mem hb).1
 rw[e] at this;cases this
theorem Inv.bs(I:Inv X pins σ H s):∀ b o,X.base.get? b=some o→s.heap.get? b=some o∧H b=none:=fun b o e =>
 ⟨I.base.keep b o (I.ok.bs b o e).1 (I.ok.bs b o e).2 (I.ok.nofr e) (I.ok.noex b o e),I.base.free b o (I.ok.bs b o e).1 (I.ok.bs b o e).2 (I.ok.noex b o e)⟩
theorem Inv.bk(I:Inv X pins σ H s):∀ b o,X.base.get? b=some o→s.heap.get? b=some o:=fun b o e=>(I.bs b o e).1
theorem Inv.mod(I:Inv X pins σ H s):Mod X.K X.mg X.base:=I.ok.mod
theorem Inv.kIn(I:Inv X pins σ H s):X.K.In s.heap:=I.ok.mod.kin.keeps I.bk
theorem Inv.lt(I:Inv X pins σ H s):X.env.locals<s.heap.objs.size:=let ⟨_,hn,_⟩:=I.loc;hn.lt
theorem Inv.sz(I:Inv X pins σ H s):X.s₀.heap.objs.size≤s.heap.objs.size:=Nat.le_trans I.ok.above (Nat.le_of_lt I.lt)
theorem Inv.nofs(I:Inv X pins σ H s){a:Addr}(h:s.heap.objs.size≤a):a ∉ X.fs:=fun hb=>by
 obtain⟨_,o,ho,_⟩:=I.ok.funs.mem hb
 exact absurd (Nat.lt_of_lt_of_le (Heap.lt_size ho) (Nat.le_trans I.sz h)) (Nat.lt_irrefl _)
theorem Inv.cne(I:Inv X pins σ H s):∀ x c,X.env.cells.lookup x=some c→c≠X.env.locals:=fun x c e z=>by
 obtain⟨v,o,ho,hd⟩:=I.cell x c e
 obtain⟨m,⟨o',es,ep,ho',hd',_⟩,_⟩:=I.loc
 rw[z,ho'] at ho;cases ho;rw[hd'] at hd;cases hd
theorem Inv.funs(I:Inv X pins σ H s):s.heap.FunFrames X.base X.outer:=by
 have all:∀ (l:List Env),(∀ b∈Az l,b∈X.fs)→X.s₀.heap.FunFrames X.base l→s.heap.FunFrames X.base l:=by
  intro l
  induction l with
  | nil=>intro _ _;trivial
  | cons env r ih =>
   intro hs hl
   obtain⟨hk,⟨L,o,hf,hn,ho,hd⟩,hr⟩:=hl
   have hL:L∈X.fs:=hs L (by unfold Az;rw[List.filterMap_cons,hf];exact List.mem_cons_self)
   obtain⟨sl,e⟩:=I.base.slot L o ho (I.ok.frf L hL) hL fun z=>I.ok.exfs L z hL
   exact⟨hk,⟨L,_,hf,hn,e,hd⟩,ih (fun b hb=>hs b (by unfold Az;rw[List.filterMap_cons,hf];exact List.mem_cons_of_mem _ hb)) hr⟩
 exact all X.outer (fun _ hb=>hb) I.ok.funs
theorem Inv.stack(I:Inv X pins σ H s):s.heap.FunFrames X.base X.stack:=by
 rcases I.ok.stk with e | ⟨e,hf⟩
 ·rw[e];exact I.funs
 ·rw[e]
  obtain⟨m,hn,_⟩:=I.loc
  refine .cons (by rw[I.ok.kind];decide) hf hn ?_ I.funs
  exact Heap.get?_none_of_le (Nat.le_trans I.ok.bsz I.ok.above)
theorem Inv.stkSub(I:Inv X pins σ H s):∀ b∈Az X.stack,b∈X.env.locals::X.fs:=fun b hb=>by
 rcases I.ok.stk with e | ⟨e,hf⟩
 ·rw[e] at hb;exact List.mem_cons_of_mem _ hb
 ·rw[e] at hb
  unfold Az at hb
  rw[List.filterMap_cons,hf] at hb
  exact hb
theorem Inv.stkFree(I:Inv X pins σ H s):∀ b∈Az X.stack,H b=none:=fun b hb=>by
 rcases List.mem_cons.mp (I.stkSub b hb) with e | hb
 ·rw[e];exact I.free
 ·obtain⟨_,o,ho,_⟩:=I.ok.funs.mem hb
  exact I.base.free b o ho (I.ok.frf b hb) fun z=>I.ok.exfs b z hb
theorem Inv.step{g':Array GenState}{t':Nat}{d':Drawn}{ch:List Addr}(I:Inv X pins σ H s)
  (hch:∀ b∈ch,(b∈X.ex∨X.s₀.heap.objs.size≤b)∧b≠X.env.locals∧(∀ x c,X.env.cells.lookup x=some c→c≠b)∧∀ p∈X.pn++pins,p.1≠b)
  (keep:∀ b o,b≠X.env.locals→b ∉ X.fs→b ∉ ch→s.heap.get? b=some o→H b=none→h'.get? b=some o)
  (slot:∀ b o,b≠X.env.locals→b∈X.fs→b ∉ ch→s.heap.get? b=some o→H b=none→∃ sl,h'.get? b=some { o with slots:=sl }) (free:∀ b o,b ∉ ch→s.heap.get? b=some o→H b=none→H' b=none)
  (there:∀ b o,b ∉ ch→s.heap.get? b=some o→∃ o',h'.get? b=some o')
  (tups:∀ b xs,H b=some (.tup xs)→H' b=some (.tup xs)) (frzs:∀ b o u,H b=some (.frz o u)→H' b=some (.frz o u)) (tbls:∀ b ps,H b=some (.tbl ps)→∃ more,H' b=some (.tbl (ps++more)))
  (ns:∀ m,s.heap.Ns X.env.locals m→h'.Ns X.env.locals m) (hok:HOk X.prog X.w H' h') (hg:AllBare g') :
  Inv X pins σ H' { s with heap:=h',gens:=g',drawn:=d',toks:=t' }:=by
 have neL:∀ b o,X.s₀.heap.get? b=some o→b≠X.env.locals:=fun b o e=>Nat.ne_of_lt (Nat.lt_of_lt_of_le (Heap.lt_size e) I.ok.above)
 have neC:∀ b o,X.s₀.heap.get? b=some o→b ∉ X.ex→b ∉ ch:=fun b o e hx hb=>by
  rcases(hch b hb).1 with z | z
  ·exact hx z
  ·exact absurd (Nat.lt_of_lt_of_le (Heap.lt_size e) z) (Nat.lt_irrefl _)
 have cellK:∀ x c,X.env.cells.lookup x=some c→∀ v,s.heap.IsCell c v→h'.IsCell c v:=fun x c e v ⟨o,ho,hd⟩=>by
  have nch:c ∉ ch:=fun z=>(hch c z).2.2.1 x c e rfl
  by_cases hc:c∈X.fs
  ·obtain⟨sl,q⟩:=slot c o (I.cne x c e) hc nch ho (I.freeC x c e)
   exact⟨_,q,hd⟩
  ·exact⟨o,keep c o (I.cne x c e) hc nch ho (I.freeC x c e),hd⟩
 refine⟨I.ok,I.os,hg,⟨fun b o e n hb hx=>?_,fun b o e n hb hx=>?_,fun b o e n hx=>?_,fun b o e hx=>?_,fun b xs e=>tups b xs (I.base.tups b xs e),fun b o xs e=>frzs b o xs (I.base.frzs b o xs e),fun b ps e=>?_⟩,?_,fun x c e=>?_,?_,fun x c e=>?_,fun p hp=>?_,hok,I.len⟩
 ·exact keep b o (neL b o e) hb (neC b o e hx) (I.base.keep b o e n hb hx) (I.base.free b o e n hx)
 ·obtain⟨sl,e1⟩:=I.base.slot b o e n hb hx
  obtain⟨sl',e2⟩:=slot b _ (neL b o e) hb (neC b o e hx) e1 (I.base.free b o e n hx)
  exact⟨sl',e2⟩
 ·obtain⟨o',e1⟩:=I.base.there b o e hx
  exact free b o' (neC b o e hx) e1 (I.base.free b o e n hx)
 ·obtain⟨o',e1⟩:=I.base.there b o e hx
  exact there b o' (neC b o e hx) e1
 ·obtain⟨m1,e1⟩:=I.base.tbls b ps e
  obtain⟨m2,e2⟩:=tbls b _ e1
  exact⟨m1++m2,by rw[e2,Array.append_assoc]⟩
 ·obtain⟨m,hn,hl⟩:=I.loc
  refine⟨m,ns m hn,fun i x v e1 e2 e3=>?_⟩
  obtain⟨u,r,l⟩:=hl i x v e1 e2 e3
  refine⟨u,r,?_⟩
  rcases l with l | ⟨k,c,e,z⟩
  ·exact .inl l
  ·exact .inr ⟨k,c,e,cellK x c e _ z⟩
 ·obtain⟨v,z⟩:=I.cell x c e
  exact⟨v,cellK x c e v z⟩
 ·obtain⟨m,⟨o,_,_,ho,_⟩,_⟩:=I.loc
  exact free _ o (fun z=>(hch _ z).2.1 rfl) ho I.free
 ·obtain⟨v,o,ho,hd⟩:=I.cell x c e
  exact free c o (fun z=>(hch c z).2.2.1 x c e rfl) ho (I.freeC x c e)
 ·obtain⟨e,n,ne,nf,d⟩:=I.pin p hp
  have nch:p.1 ∉ ch:=fun z=>(hch p.1 z).2.2.2 p hp rfl
  exact⟨keep p.1 p.2 ne nf nch e n,free p.1 p.2 nch e n,ne,nf,d⟩
theorem Inv.un{t':Nat}(I:Inv X pins σ H s)(u:Un X.fs [] H H' s.heap h')(hok:HOk X.prog X.w H' h'):Inv X pins σ H' { s with heap:=h',toks:=t' }:=by
 obtain⟨m,⟨o,es,ep,ho,r⟩,_⟩:=id I.loc
 obtain⟨sl,hL⟩:=u.any ho I.free (by simp)
 exact I.step (g':=s.gens) (d':=s.drawn) (ch:=[]) (fun _ z=>nomatch z) (fun b o _ hb _ e n=>u.keep b o e n hb (by simp)) (fun b o _ hb _ e n=>u.slot b o e n hb (by simp)) (fun b o _ e n=>u.free b o e n (by simp)) (fun b o _ e=>u.there b o e (by simp)) u.tups u.frzs u.tbls (fun m' hm=>by
  obtain⟨o',es',ep',ho',r'⟩:=hm
  rw[ho] at ho';cases ho'
  exact⟨_,es',ep',hL,r'⟩) hok I.bare
theorem Inv.call{g':Array GenState}{t':Nat}{d':Drawn}{ch:List Addr}(I:Inv X pins σ H s)(u:Un (Az X.stack) ch H H' s.heap h')(hok:HOk X.prog X.w H' h')(hg:AllBare g')
  (hch:∀ b∈ch,(b∈X.ex∨X.s₀.heap.objs.size≤b)∧b≠X.env.locals∧(∀ x c,X.env.cells.lookup x=some c→c≠b)∧∀ p∈X.pn++pins,p.1≠b) :
  Inv X pins σ H' { s with heap:=h',gens:=g',drawn:=d',toks:=t' }:=by
 obtain⟨m,⟨o,es,ep,ho,r⟩,_⟩:=id I.loc
 obtain⟨sl,hL⟩:=u.any ho I.free fun z=>(hch _ z).2.1 rfl
 exact I.step (ch:=ch) hch (fun b o hL hb hc e n=>u.keep b o e n (fun z=>(List.mem_cons.mp (I.stkSub b z)).elim hL hb) hc) (fun b o _ _ hc e n=>u.any e n hc) (fun b o hc e n=>u.free b o e n hc) (fun b o hc e=>u.there b o e hc) u.tups u.frzs u.tbls (fun m' hm=>by
  obtain⟨o',es',ep',ho',r'⟩:=hm
  rw[ho] at ho';cases ho'
  exact⟨_,es',ep',hL,r'⟩) hok hg
theorem Inv.turned{t':Nat}{it:Addr}(I:Inv X pins σ H s)(k:∀ b o,b≠it→s.heap.get? b=some o→h'.get? b=some o)(hn:H it=none)(hL:it≠X.env.locals)
  (h1:it∈X.ex∨X.s₀.heap.objs.size≤it) (h2:∀ x c,X.env.cells.lookup x=some c→c≠it) (h3:∀ p∈X.pn++pins,p.1≠it):Inv X pins σ H { s with heap:=h',toks:=t' }:=by
 have nit:∀ b u,H b=some u→b≠it:=fun b u e z=>by rw[z,hn] at e;cases e
 refine I.step (g':=s.gens) (d':=s.drawn) (ch:=[it]) (fun b hb=>?_) (fun b o _ _ hc e _=>k b o (fun z=>hc (by simp[z])) e) (fun b o _ _ hc e _=>⟨o.slots,k b o (fun z=>hc (by simp[z])) e⟩) (fun _ _ _ _ n=>n)
  (fun b o hc e=>⟨o,k b o (fun z=>hc (by simp[z])) e⟩) (fun _ _ e=>e) (fun _ _ _ e=>e) (fun b ps e=>⟨#[],by rw[e];simp⟩) (fun m hm=>?_) (fun b u e=>?_) I.bare
 ·have e:b=it:=by simpa using hb
  subst e
  exact⟨h1,hL,h2,h3⟩
 ·obtain⟨o,es,ep,ho,r⟩:=hm
  exact⟨o,es,ep,k _ o (Ne.symm hL) ho,r⟩
 ·refine(I.hok b u e).stay (fun c v hc q=>k c v ?_ q) (fun _ q=>q) fun _ _ q=>q
  rcases hc with z | z
  ·rw[z];exact nit b u e
  ·exact nit c _ z
theorem Inv.tok(I:Inv X pins σ H s)(t:Nat):Inv X pins σ H { s with toks:=t }:=I.un (h':=s.heap) (t':=t) Un.refl I.hok
theorem Inv.kept{t':Nat}(I:Inv X pins σ H s)(k:∀ b u,s.heap.get? b=some u→h'.get? b=some u):Inv X pins σ H { s with heap:=h',toks:=t' }:=I.un (Un.kept k) (I.hok.kept k)
theorem Inv.laid{a:Addr}{o:HO}{t':Nat}(I:Inv X pins σ H s)(k:∀ b u,s.heap.get? b=some u→h'.get? b=some u)(hp:s.heap.objs.size≤a)(new:ObjOk X.prog X.w (upd H a o) h' a o) :
  Inv X pins σ (upd H a o) { s with heap:=h',toks:=t' }:=I.un (Un.laid k hp (I.hok.fresh hp)) (I.hok.laid k hp new)
theorem Inv.write{x e:Addr}{o:HO}{t':Nat}(I:Inv X pins σ H s)(mu:Gi (H x))(he:e=x∨H e=some (.own x))(k:∀ b u,b≠e→s.heap.get? b=some u→h'.get? b=some u)(heo:∃ u,h'.get? e=some u)
  (new:ObjOk X.prog X.w (upd H x o) h' x o):Inv X pins σ (upd H x o) { s with heap:=h',toks:=t' }:=I.un (Un.write mu he k heo) (I.hok.write mu he k heo new)
theorem Inv.pins_of{pins':List (Addr×Obj)}(I:Inv X pins σ H s)(h:∀ p∈pins',s.heap.get? p.1=some p.2∧H p.1=none∧p.1≠X.env.locals∧p.1 ∉ X.fs∧∀ v,p.2.data≠.cell v):Inv X pins' σ H s :=
 ⟨I.ok,I.os,I.bare,I.base,I.loc,I.cell,I.free,I.freeC,fun p hp=>(List.mem_append.mp hp).elim (fun z=>I.pin p (List.mem_append_left _ z)) (h p),I.hok,I.len⟩
theorem tV{N:List Str}(hN:N.Nodup){i j:Nat}{x:Str}(a:N[i]?=some x)(b:N[j]?=some x):i=j:=by
 obtain⟨h1,e1⟩:=List.getElem?_eq_some_iff.mp a
 obtain⟨h2,e2⟩:=List.getElem?_eq_some_iff.mp b
 exact(List.getElem_inj hN).mp (e1.trans e2.symm)
theorem qO{M:Model}{A:Around}{E:Value→Shared→Prop}{i:Nat}{x:Str}{v:V}{u:Value}{Q:Unit→Shared→Prop}(I:Inv X pins σ H s)(hN:X.N.Nodup)(hi:X.N[i]?=some x)(hx:Ha X.env.scope x)(r:RelV v u)
  (h:∀ s',Inv X pins (σ.set i (some v)) H s'→(∃ a,Heap.SameBut a s.heap s'.heap∧(a=X.env.locals∨X.env.cells.lookup x=some a))→Q () s') (hf:X.fn x=true∨X.env.scope.names.lookup x=some .local:=by first | exact .inl rfl | exact .inr rfl | assumption):wpAny M A (storeName X.env x u) Q E s:=by
 obtain⟨m,hn,hl⟩:=id I.loc
 have hcls:(X.env.scope.kind == .class || (X.env.scope.kind == .module && X.env.locals != X.env.globals))=false:=by rw[I.ok.kind];rfl
 have hiσ:i<σ.length:=by rw[I.len];exact(List.getElem?_eq_some_iff.mp hi).1
 have cne:=I.cne
 have tracked:∀ {a:Addr} {h':Heap},(∃ o,s.heap.get? a=some o∧H a=none)→Heap.SameBut a s.heap h'→HOk X.prog X.w H h':=fun {a h'} ha hs b ob e=>by
  obtain⟨_,_,hfree⟩:=ha
  refine(I.hok b ob e).stay (fun c w' hc q=>(hs.2 c ?_).trans q) (fun _ q=>q) fun _ _ q=>q
  rintro rfl
  rcases hc with rfl | hc
  ·rw[hfree] at e;cases e
  ·rw[hfree] at hc;cases hc
 rcases hx with hk | hk
 ·refine wpAny_storeName_local hk hn (fun h' hn' hs=>?_) hcls
  obtain⟨oL,_,_,hoL,_⟩:=id hn
  refine h _ ⟨I.ok,I.os,I.bare,⟨fun b o e n hb hx=>?_,fun b o e n hb hx=>?_,I.base.free,fun b o e hx=>?_,I.base.tups,I.base.frzs,I.base.tbls⟩,⟨_,hn',fun j y v' e1 e2 e3=>?_⟩,fun y c e=>?_,I.free,I.freeC,fun p hp=>?_,tracked ⟨oL,hoL,I.free⟩ hs,by simpa using I.len⟩ ⟨_,hs,.inl rfl⟩
  ·exact(hs.2 b (Nat.ne_of_lt (Nat.lt_of_lt_of_le (Heap.lt_size e) I.ok.above))).trans (I.base.keep b o e n hb hx)
  ·obtain⟨sl,e1⟩:=I.base.slot b o e n hb hx
   exact⟨sl,(hs.2 b (Nat.ne_of_lt (Nat.lt_of_lt_of_le (Heap.lt_size e) I.ok.above))).trans e1⟩
  ·obtain⟨o',e1⟩:=I.base.there b o e hx
   exact⟨o',(hs.2 b (Nat.ne_of_lt (Nat.lt_of_lt_of_le (Heap.lt_size e) I.ok.above))).trans e1⟩
  ·by_cases hj:j=i
   ·subst hj
    rw[hi] at e1;cases e1
    rw[List.getElem?_set_self hiσ] at e2
    cases e2
    exact⟨u,r,.inl ⟨hk,by simp⟩⟩
   ·rw[List.getElem?_set_ne (Ne.symm hj)] at e2
    obtain⟨u',r',q⟩:=hl j y v' e1 e2 e3
    refine⟨u',r',?_⟩
    rcases q with ⟨k,e⟩ | ⟨k,c,e,z⟩
    ·refine .inl ⟨k,?_⟩
     have:y≠x:=fun e=>hj (tV hN e1 (e ▸ hi))
     simp[this,e]
    ·exact .inr ⟨k,c,e,z.sameBut hs (cne y c e)⟩
  ·obtain⟨w',z⟩:=I.cell y c e
   exact⟨w',z.sameBut hs (cne y c e)⟩
  ·obtain⟨e,n,ne,nf,d⟩:=I.pin p hp
   exact⟨(hs.2 p.1 ne).trans e,n,ne,nf,d⟩
 ·have hfn:X.fn x=true:=by
   rcases hf with z | z
   ·exact z
   ·rw[z] at hk;cases hk
  obtain⟨c,hc⟩:=I.ok.has x (.inl hk)
  obtain⟨w',z⟩:=I.cell x c hc
  refine wpAny_storeName_cell I.ok.kind hk hc z (fun h' hc' hs=>?_)
  obtain⟨oc,hoc,hocd⟩:=id z
  refine h { s with heap:=h' } ⟨I.ok,I.os,I.bare,⟨fun b o e n hb hx=>?_,fun b o e n hb hx=>?_,I.base.free,fun b o e hx=>?_,I.base.tups,I.base.frzs,I.base.tbls⟩,⟨m,hn.sameBut hs (Ne.symm (cne x c hc)),fun j y v' e1 e2 e3=>?_⟩,fun y c' e=>?_,I.free,I.freeC,fun p hp=>?_,tracked ⟨oc,hoc,I.freeC x c hc⟩ hs,by simpa using I.len⟩ ⟨c,hs,.inr hc⟩
  ·exact(hs.2 b (Nat.ne_of_lt (Nat.lt_of_lt_of_le (Heap.lt_size e) (I.ok.cab x c hfn hc)))).trans (I.base.keep b o e n hb hx)
  ·obtain⟨sl,e1⟩:=I.base.slot b o e n hb hx
   exact⟨sl,(hs.2 b (Nat.ne_of_lt (Nat.lt_of_lt_of_le (Heap.lt_size e) (I.ok.cab x c hfn hc)))).trans e1⟩
  ·obtain⟨o',e1⟩:=I.base.there b o e hx
   exact⟨o',(hs.2 b (Nat.ne_of_lt (Nat.lt_of_lt_of_le (Heap.lt_size e) (I.ok.cab x c hfn hc)))).trans e1⟩
  ·by_cases hj:j=i
   ·subst hj
    rw[hi] at e1;cases e1
    rw[List.getElem?_set_self hiσ] at e2
    cases e2
    exact⟨u,r,.inr ⟨.inl hk,c,hc,hc'⟩⟩
   ·rw[List.getElem?_set_ne (Ne.symm hj)] at e2
    obtain⟨u',r',q⟩:=hl j y v' e1 e2 e3
    refine⟨u',r',?_⟩
    rcases q with q | ⟨k,c',e,z'⟩
    ·exact .inl q
    ·refine .inr ⟨k,c',e,z'.sameBut hs ?_⟩
     rintro rfl
     exact hj (tV hN e1 (I.ok.inj _ _ _ e hc ▸ hi))
  ·by_cases hcc:c'=c
   ·subst hcc;exact⟨_,hc'⟩
   ·obtain⟨w2,z2⟩:=I.cell y c' e
    exact⟨w2,z2.sameBut hs hcc⟩
  ·obtain⟨e,n,ne,nf,d⟩:=I.pin p hp
   refine⟨(hs.2 p.1 ?_).trans e,n,ne,nf,d⟩
   intro q
   rw[q,hoc] at e
   have q':oc=p.2:=Option.some.inj e
   exact d w' (by rw[← q'];exact hocd)
theorem gL{M:Model}{A:Around}{E:Value→Shared→Prop}{i:Nat}{x:Str}{v:V}{u:Value}{Q:Unit→Shared→Prop}(I:Inv X pins σ H s)(hN:X.N.Nodup)(hi:X.N[i]?=some x)(hx:Ha X.env.scope x)(r:RelV v u)
  (h:∀ s',Inv X pins (σ.set i (some v)) H s'→Q () s') (hf:X.fn x=true∨X.env.scope.names.lookup x=some .local:=by first | exact .inl rfl | exact .inr rfl | assumption):wpAny M A (storeName X.env x u) Q E s :=
 qO I hN hi hx r (fun s' I' _=>h s' I') hf
theorem Inv.call'{s':Shared}{ch:List Addr}(I:Inv X pins σ H s)(ho:s'.os=s.os)(u:Un (Az X.stack) ch H H' s.heap s'.heap)(hok:HOk X.prog X.w H' s'.heap)(hg:AllBare s'.gens)
  (hch:∀ b∈ch,(b∈X.ex∨X.s₀.heap.objs.size≤b)∧b≠X.env.locals∧(∀ x c,X.env.cells.lookup x=some c→c≠b)∧∀ p∈X.pn++pins,p.1≠b):Inv X pins σ H' s':=by
 obtain⟨h',g',d',t',o'⟩:=s'
 have e:o'=s.os:=ho
 subst e
 exact I.call (g':=g') (t':=t') (d':=d') u hok hg hch
end
abbrev XK:=Value→Option Addr→Hp→Prop
abbrev St:=List (Option V)
abbrev VK:=V→Hp→Prop
abbrev TE:=St→Hp→VK→Prop
abbrev TT:=St→Hp→(Bool→Hp→Prop)→Prop
abbrev TA:=St→Hp→(List V→Hp→Prop)→Prop
structure Ends where
 nx:St→Hp→Prop
 rt:VK
 bk:St→Hp→Prop:=fun _ _=>False
 ct:St→Hp→Prop:=fun _ _=>False
abbrev TS:=Ends→St→Hp→Prop
def EP(X:Cx)(pins:List (Addr×Obj))(σ:St)(Q:VK)(u:Value)(s':Shared):Prop:=∃ v H',Inv X pins σ H' s'∧RelV v u∧Q v H'
def TP(X:Cx)(pins:List (Addr×Obj))(σ:St)(Q:Bool→Hp→Prop)(b:Bool)(s':Shared):Prop:=∃ H',Inv X pins σ H' s'∧Q b H'
def AP(X:Cx)(pins:List (Addr×Obj))(σ:St)(Q:List V→Hp→Prop)(us:List Value)(s':Shared):Prop:=∃ vs H',Inv X pins σ H' s'∧Vals vs us∧Q vs H'
def SP(X:Cx)(pins:List (Addr×Obj))(D:Ends)(f:Flow)(s':Shared):Prop :=
 match f with
 | .next=>∃ σ' H',Inv X pins σ' H' s'∧D.nx σ' H'
 | .brk=>∃ σ' H',Inv X pins σ' H' s'∧D.bk σ' H'
 | .cont=>∃ σ' H',Inv X pins σ' H' s'∧D.ct σ' H'
 | .ret u=>∃ v σ' H',Inv X pins σ' H' s'∧RelV v u∧D.rt v H'
def PE(X:Cx)(e:Expr)(t:TE):Prop :=
 ∀ (pins:List (Addr×Obj)) (s:Shared) (σ:St) (H:Hp) (Q:VK),Inv X pins σ H s→t σ H Q→wpAny (model X.prog X.w) X.A (eval e X.env) (EP X pins σ Q) X.xe s
def PT(X:Cx)(e:Expr)(t:TT):Prop :=
 ∀ (pins:List (Addr×Obj)) (s:Shared) (σ:St) (H:Hp) (Q:Bool→Hp→Prop),Inv X pins σ H s→t σ H Q→wpAny (model X.prog X.w) X.A (isTrue e X.env (eval e X.env)) (TP X pins σ Q) X.xe s
def PW(X:Cx)(e:Expr)(t:TT):Prop :=
 ∀ (whole:Sem Value) (pins:List (Addr×Obj)) (s:Shared) (σ:St) (H:Hp) (Q:Bool→Hp→Prop),Inv X pins σ H s→t σ H Q→wpAny (model X.prog X.w) X.A (isTrue e X.env whole) (TP X pins σ Q) X.xe s
theorem PW.pt{X:Cx}{e:Expr}{t:TT}(h:PW X e t):PT X e t:=h _
def PA(X:Cx)(es:List Expr)(t:TA):Prop :=
 ∀ (pos:Pos) (pins:List (Addr×Obj)) (s:Shared) (σ:St) (H:Hp) (Q:List V→Hp→Prop),Inv X pins σ H s→t σ H Q→wpAny (model X.prog X.w) X.A (spliced (backTo pos (starEach es X.env))) (AP X pins σ Q) X.xe s
def PS(X:Cx)(st:Stmt)(t:TS):Prop :=
 ∀ (pins:List (Addr×Obj)) (s:Shared) (σ:St) (H:Hp) (D:Ends),Inv X pins σ H s→t D σ H→wpAny (model X.prog X.w) X.A (exec st X.env) (SP X pins D) X.xe s
def PSs(X:Cx)(st:List Stmt)(t:TS):Prop :=
 ∀ (pins:List (Addr×Obj)) (s:Shared) (σ:St) (H:Hp) (D:Ends),Inv X pins σ H s→t D σ H→wpAny (model X.prog X.w) X.A (execs st X.env) (SP X pins D) X.xe s
theorem bZ{α:Type}{t:Sem α}{Q Q':α→Shared→Prop}{M:Model}{A:Around}{E:Value→Shared→Prop}{s:Shared}(h:wpAny M A t Q E s)(hQ:∀ a s,Q a s→Q' a s):wpAny M A t Q' E s:=wpAny_mono h hQ fun _ _ x=>x
section
variable {X:Cx}
theorem Jh{a b:Expr}{ta tb:TE}(ha:PE X a ta)(hb:PE X b tb){pins:List (Addr×Obj)}{s:Shared}{σ:St}{H:Hp}{R:V→V→Hp→Prop}(I:Inv X pins σ H s)(h:ta σ H fun x H1=>tb σ H1 fun y H2=>R x y H2)
  {α:Type} {Q:α→Shared→Prop} {f:Value→Value→Sem α}
  (hf:∀ v u s2 x y H2,Inv X pins σ H2 s2→RelV x v→RelV y u→R x y H2→wpAny (model X.prog X.w) X.A (f v u) Q X.xe s2) :
  wpAny (model X.prog X.w) X.A (eval a X.env) (fun v s₁=>wpAny (model X.prog X.w) X.A (eval b X.env) (fun u s₂=>wpAny (model X.prog X.w) X.A (f v u) Q X.xe s₂) X.xe s₁) X.xe s:=by
 refine bZ (ha pins s σ H _ I h) fun v s1 ⟨x,H1,I1,r1,q1⟩=>?_
 refine bZ (hb pins s1 σ H1 _ I1 q1) fun u s2 ⟨y,H2,I2,r2,q2⟩=>?_
 exact hf v u s2 x y H2 I2 r1 r2 q2
def C4(i:Nat):TE:=fun σ H Q=>∃ v,σ[i]?=some (some v)∧Q v H
def tC(v:V):TE:=fun _ H Q=>Q v H
theorem ED{i:Nat}{x:Str}{pos:Pos}(hN:X.N[i]?=some x)(hv:GD X.env.scope x)(hd:(x == ("__debug__":Str))=false:=by decide)(hcd:(x == ("__classdict__":Str))=false:=by decide):PE X (.Name x pos) (C4 i):=by
 intro pins s σ H Q I h
 obtain⟨v,e,h⟩:=h
 obtain⟨m,hn,hl⟩:=I.loc
 obtain⟨u,r,l⟩:=hl i x v hN e hv
 have fin:EP X pins σ Q u s:=⟨v,H,I,r,h⟩
 rcases l with ⟨hk,hm⟩ | ⟨hk,c,hc,hcell⟩
 ·exact wpAny_Name (wpAny_loadName_local I.ok.kind hk hn hm fin) hd
 ·rcases hk with hk | hk
  ·exact wpAny_Name (wpAny_loadName_cell I.ok.kind hk hc hcell fin) hd
  ·exact wpAny_Name (wpAny_loadName_free I.ok.kind hk hc hcell fin hcd) hd
theorem aI{i j pos}:PE X (.Constant (.int i) j pos) (tC (.int i)):=fun _ _ _ H _ I h=>wpAny_Constant_int ⟨.int i,H,I.tok _,⟨_,rfl⟩,h⟩
theorem qE{b j pos}:PE X (.Constant (.bool b) j pos) (tC (.bl b)):=fun _ _ _ H _ I h=>Constant_bool ⟨.bl b,H,I,rfl,h⟩
theorem oS{j pos}:PE X (.Constant .none j pos) (tC .non):=fun _ _ _ H _ I h=>Constant_none ⟨.non,H,I,rfl,h⟩
theorem cE{x j pos}:PE X (.Constant (.str x) j pos) (tC (.str x)):=fun _ _ _ H _ I h=>Calls.Constant_str ⟨.str x,H,I.tok _,⟨_,rfl⟩,h⟩
def Gl(X:Cx)(x:Str):Prop:=X.env.kindOf x=some .globalImplicit
theorem sX{E:Value→Shared→Prop}{pins:List (Addr×Obj)}{s:Shared}{σ:St}{H:Hp}{x:Str}{u:Value}{pos:Pos}{Q:Value→Shared→Prop}(I:Inv X pins σ H s)(hg:Gl X x)(hm:X.mg x=some u)(h:Q u s)
  (hd:(x == ("__debug__":Str))=false:=by decide):wpAny (model X.prog X.w) X.A (eval (.Name x pos) X.env) Q E s :=
 Calls.Name_function_global I.ok.kind hg (Calls.loadGlobal_global (by rw[I.ok.glob];exact I.mod.glob.keeps I.bk) hm h) hd
theorem hJ{E:Value→Shared→Prop}{pins:List (Addr×Obj)}{s:Shared}{σ:St}{H:Hp}{x:Str}{u:Value}{pos:Pos}{Q:Value→Shared→Prop}(I:Inv X pins σ H s)(hg:Gl X x)(hm:X.mg x=none)(hv:bootBuiltins x=some u)(h:Q u s)
  (hn:x≠"__name__":=by decide) (hd:(x == ("__debug__":Str))=false:=by decide):wpAny (model X.prog X.w) X.A (eval (.Name x pos) X.env) Q E s:=by
 obtain⟨mb,h1,h2⟩:=I.mod.blt
 exact Calls.Name_function_global I.ok.kind hg (Calls.loadGlobal_builtin (by rw[I.ok.glob];exact I.mod.glob.keeps I.bk) hm (by rw[I.ok.blt];exact h1.keeps I.bk) ((h2 x hn).trans hv) h) hd
theorem mN{x:Str}{v:V}{u:Value}{pos:Pos}(hg:Gl X x)(hm:X.mg x=some u)(r:RelV v u)(hd:(x == ("__debug__":Str))=false:=by decide):PE X (.Name x pos) (tC v) :=
 fun _ _ _ H _ I h=>sX I hg hm ⟨v,H,I,r,h⟩ hd
variable {a b:Expr}{ta tb:TE}{pos:Pos}
def PC(X:Cx)(op:CmpOp)(a b:Expr)(t:TE):Prop :=
 ∀ (pins:List (Addr×Obj)) (s:Shared) (σ:St) (H:Hp) (Q:VK),Inv X pins σ H s→t σ H Q →
  wpAny (model X.prog X.w) X.A (eval a X.env) (fun v s₁=>wpAny (model X.prog X.w) X.A (eval b X.env) (fun u s₂=>wpAny (model X.prog X.w) X.A (compareOp op v u) (EP X pins σ Q) X.xe s₂) X.xe s₁) X.xe s
def tB(t:TE):TT:=fun σ H Q=>t σ H fun x H1=>∃ c,x=.bl c∧Q c H1
theorem Eh{op:CmpOp}{t:TE}(h:PC X op a b t)(h1:behindInMarks op b=false:=by first | exact nobehind _ (by decide) (by decide) | rfl):PT X (.Compare a [op] [b] pos) (tB t):=by
 intro pins s σ H Q I hw
 refine wpAny_isTrue_Compare1 (bZ (h pins s σ H _ I hw) fun v s1 h1=>bZ h1 fun u s2 h2=>bZ h2 fun c s3 ⟨x,H1,I1,r1,q1⟩=>?_) h1
 obtain⟨d,rfl,q⟩:=q1
 cases r1
 exact wpAny_truthy_bool ⟨H1,I1,q⟩
theorem rN{e:Expr}{t:TE}(h:PE X e t)(he:∀ whole,isTrue e X.env whole=(do let v ← whole;standAt e.pos;holding [v] (truthy v)):=by intro _;rfl):PT X e (tB t):=by
 intro pins s σ H Q I hw
 refine isTrue_plain (bZ (h pins s σ H _ I hw) fun v s1 ⟨x,H1,I1,r1,q1⟩=>?_) (he _)
 obtain⟨d,rfl,q⟩:=q1
 cases r1
 exact wpAny_truthy_bool ⟨H1,I1,q⟩
variable {tA tB':TT}{rest:List Expr}
def Iy(t u:TT):TT:=fun σ H Q=>t σ H fun c H1=>if c=true then u σ H1 Q else Q false H1
def IP(t u:TT):TT:=fun σ H Q=>t σ H fun c H1=>if c=true then Q true H1 else u σ H1 Q
theorem pw_and1(ha:PT X a tA):PW X (.BoolOp .And [a] pos) tA:=by
 intro wh pins s σ H Q I h
 refine isTrue_and (bZ (ha pins s σ H Q I h) fun c s1 e=>?_)
 cases c with
 | true=>exact isTrue_and_nil e
 | false=>exact e
theorem pw_or1(ha:PT X a tA):PW X (.BoolOp .Or [a] pos) tA:=by
 intro wh pins s σ H Q I h
 refine isTrue_or (bZ (ha pins s σ H Q I h) fun c s1 e=>?_)
 cases c with
 | false=>exact isTrue_or_nil e
 | true=>exact e
theorem pw_and(ha:PT X a tA)(hb:PW X (.BoolOp .And (b::rest) pos) tB'):PW X (.BoolOp .And (a::b::rest) pos) (Iy tA tB'):=by
 intro wh pins s σ H Q I h
 refine isTrue_and (bZ (ha pins s σ H _ I h) fun c s1 ⟨H1,I1,q1⟩=>?_)
 cases c with
 | true=>exact hb wh pins s1 σ H1 Q I1 q1
 | false=>exact⟨H1,I1,q1⟩
theorem pw_or(ha:PT X a tA)(hb:PW X (.BoolOp .Or (b::rest) pos) tB'):PW X (.BoolOp .Or (a::b::rest) pos) (IP tA tB'):=by
 intro wh pins s σ H Q I h
 refine isTrue_or (bZ (ha pins s σ H _ I h) fun c s1 ⟨H1,I1,q1⟩=>?_)
 cases c with
 | true=>exact⟨H1,I1,q1⟩
 | false=>exact hb wh pins s1 σ H1 Q I1 q1
def IQ(t:TT)(ta tb:TE):TE:=fun σ H Q=>t σ H fun c H1=>if c=true then ta σ H1 Q else tb σ H1 Q
theorem kH{c:Expr}(hc:PT X c tA)(ha:PE X a ta)(hb:PE X b tb):PE X (.IfExp c a b pos) (IQ tA ta tb):=by
 intro pins s σ H Q I h
 refine wpAny_IfExp (bZ (hc pins s σ H _ I h) fun d s1 ⟨H1,I1,q1⟩=>?_)
 cases d with
 | true=>exact ha pins s1 σ H1 Q I1 q1
 | false=>exact hb pins s1 σ H1 Q I1 q1
end
def SqL(K:PySem.W.Frag)(H:Hp)(a:Addr)(xs:List V):Prop :=
 Rd H a (.lst xs) ∨
  ∃ (o:Obj) (its:Array Value) (n:Nat),K.lookup a=some o∧o.cls=.type "list"∧o.dict=none∧o.data=.seq its n∧its.size≤sizeLine∧Vals xs its.toList
def SqT(K:PySem.W.Frag)(H:Hp)(a:Addr)(xs:List V):Prop :=
 Rd H a (.tup xs) ∨
  ∃ (o:Obj) (its:Array Value) (n:Nat),K.lookup a=some o∧o.cls=.type "tuple"∧o.data=.seq its n∧its.size≤sizeLine∧Vals xs its.toList
def Ib:Value→Option V
 | .none=>some .non
 | .bool b=>some (.bl b)
 | .int i _=>some (.int i)
 | .str x _=>some (.str x)
 | .bytes b _=>some (.byt b)
 | .float b _=>some (.flt b)
 | .ref a=>some (.ref a)
 | .type n=>some (.ty n)
 | _=>none
theorem RelV.abs{x:V}{u:Value}(r:RelV x u):Ib u=some x:=by
 cases x with
 | non=>cases r;rfl
 | bl _=>cases r;rfl
 | int _=>obtain⟨t,rfl⟩:=r;rfl
 | str _=>obtain⟨t,rfl⟩:=r;rfl
 | byt _=>obtain⟨t,rfl⟩:=r;rfl
 | flt _=>obtain⟨t,rfl⟩:=r;rfl
 | ref _=>cases r;rfl
 | ty _=>cases r;rfl
theorem RelV.inj{x y:V}{u:Value}(r:RelV x u)(q:RelV y u):x=y:=Option.some.inj (r.abs.symm.trans q.abs)
theorem Vals.inj:∀ {xs ys:List V} {us:List Value},Vals xs us→Vals ys us→xs=ys
 | _,_,_,.nil,.nil=>rfl
 | _,_,_,.cons r t,.cons r' t'=>by rw[r.inj r',Vals.inj t t']
section
variable {X:Cx}{pins:List (Addr×Obj)}{σ:St}{H:Hp}{s:Shared}{a:Addr}{xs ys:List V}
theorem SqL.of{K:PySem.W.Frag}(h:H a=some (.lst xs)):SqL K H a xs:=.inl (.inl h)
theorem SqT.of{K:PySem.W.Frag}(h:H a=some (.tup xs)):SqT K H a xs:=.inl (.inl h)
theorem Inv.list(I:Inv X pins σ H s)(h:SqL X.K H a xs):∃ its:List Value,Vals xs its∧PlainL s.heap a its.toArray∧xs.length≤sizeLine:=by
 rcases h with h | ⟨o,its,n,hk,hc,hd,hs,hz,r⟩
 ·obtain⟨z,its,n,r,e⟩:=h.ok I.hok
  exact⟨its,r,⟨_,n,e,rfl,rfl,rfl⟩,z⟩
 ·refine⟨its.toList,r,⟨o,n,I.kIn a o hk,hc,hd,by simpa using hs⟩,?_⟩
  have e:=r.length
  simp only [Array.length_toList] at e
  omega
theorem Inv.tuple(I:Inv X pins σ H s)(h:SqT X.K H a xs):∃ its:List Value,Vals xs its∧IsTup s.heap a its.toArray∧xs.length≤sizeLine:=by
 rcases h with h | ⟨o,its,n,hk,hc,hs,hz,r⟩
 ·obtain⟨z,its,r,p,_⟩:=h.ok I.hok
  exact⟨its,r,p,z⟩
 ·refine⟨its.toList,r,⟨o,I.kIn a o hk,hc,n,by simpa using hs⟩,?_⟩
  have e:=r.length
  simp only [Array.length_toList] at e
  omega
theorem Inv.list_inj(I:Inv X pins σ H s)(h:SqL X.K H a xs)(h':SqL X.K H a ys):xs=ys:=by
 obtain⟨its,r,⟨o,n,e,_,_,d⟩,_⟩:=I.list h
 obtain⟨its',r',⟨o',n',e',_,_,d'⟩,_⟩:=I.list h'
 rw[e] at e';cases e'
 rw[d] at d'
 injection d' with d1 _
 have:its=its':=by simpa using congrArg Array.toList d1
 subst this
 exact r.inj r'
theorem Inv.tuple_inj(I:Inv X pins σ H s)(h:SqT X.K H a xs)(h':SqT X.K H a ys):xs=ys:=by
 obtain⟨its,r,⟨o,e,_,n,d⟩,_⟩:=I.tuple h
 obtain⟨its',r',⟨o',e',_,n',d'⟩,_⟩:=I.tuple h'
 rw[e] at e';cases e'
 rw[d] at d'
 injection d' with d1 _
 have:its=its':=by simpa using congrArg Array.toList d1
 subst this
 exact r.inj r'
end
abbrev Cx.wish(X:Cx)(E:Value→Shared→Prop):Cx:={ X with xe:=E }
abbrev Cx.nox(X:Cx):Cx:=X.wish fun _ _=>False
theorem Cx.Ok.wish{X:Cx}(ok:X.Ok)(E:Value→Shared→Prop):(X.wish E).Ok :=
 ⟨ok.mod,ok.kind,ok.glob,ok.blt,ok.above,ok.inj,ok.has,ok.cab,ok.hd,ok.frames,ok.stk,ok.exf,ok.bs,ok.bsz,ok.noex,ok.exfs,ok.funs,ok.frf⟩
theorem Cx.Ok.unwish{X:Cx}{E:Value→Shared→Prop}(ok:(X.wish E).Ok):X.Ok :=
 ⟨ok.mod,ok.kind,ok.glob,ok.blt,ok.above,ok.inj,ok.has,ok.cab,ok.hd,ok.frames,ok.stk,ok.exf,ok.bs,ok.bsz,ok.noex,ok.exfs,ok.funs,ok.frf⟩
section
variable {X:Cx}{pins:List (Addr×Obj)}{σ:St}{H:Hp}{s:Shared}{E:Value→Shared→Prop}
theorem Inv.wish(I:Inv X pins σ H s)(E:Value→Shared→Prop):Inv (X.wish E) pins σ H s:=⟨I.ok.wish E,I.os,I.bare,I.base,I.loc,I.cell,I.free,I.freeC,I.pin,I.hok,I.len⟩
theorem Inv.unwish(I:Inv (X.wish E) pins σ H s):Inv X pins σ H s:=⟨I.ok.unwish,I.os,I.bare,I.base,I.loc,I.cell,I.free,I.freeC,I.pin,I.hok,I.len⟩
theorem SP.unwish{D:Ends}{f:Flow}{s':Shared}(h:SP (X.wish E) pins D f s'):SP X pins D f s':=by
 cases f with
 | next=>obtain⟨σ',H',I,q⟩:=h;exact⟨σ',H',I.unwish,q⟩
 | brk=>obtain⟨σ',H',I,q⟩:=h;exact⟨σ',H',I.unwish,q⟩
 | cont=>obtain⟨σ',H',I,q⟩:=h;exact⟨σ',H',I.unwish,q⟩
 | ret u=>obtain⟨v,σ',H',I,r,q⟩:=h;exact⟨v,σ',H',I.unwish,r,q⟩
theorem PSs.nox{st:List Stmt}{t:TS}(h:PSs X.nox st t):PSs X st t:=fun pins s σ H D I hw =>
 wpAny_mono (h pins s σ H D (I.wish _) hw) (fun _ _ q=>q.unwish) fun _ _ z=>False.elim z
end
section
variable {X:Cx}{st:Stmt}{rest:List Stmt}{t u:TS}{e:Expr}{te:TE}{pos:Pos}
def DM:TS:=fun D σ H=>D.nx σ H
def vZ(t u:TS):TS:=fun D σ H=>t { D with nx:=u D } σ H
theorem cU:PSs X [] DM:=fun _ _ σ H _ I h=>wpAny_execs_nil ⟨σ,H,I,h⟩
theorem aD(h1:PS X st t)(h2:PSs X rest u):PSs X (st::rest) (vZ t u):=by
 intro pins s σ H D I h
 refine wpAny_execs_cons (bZ (h1 pins s σ H { D with nx:=u D } I h) fun f s1 q=>?_)
 cases f with
 | next =>
  obtain⟨σ',H',I',q⟩:=q
  exact h2 pins s1 σ' H' D I' q
 | ret v=>exact q
 | brk=>exact q
 | cont=>exact q
theorem aG(h1:PS X st t):PSs X [st] t:=by
 intro pins s σ H D I h
 refine wpAny_execs_cons (bZ (h1 pins s σ H D I h) fun f s1 q=>?_)
 cases f with
 | next=>exact wpAny_execs_nil q
 | ret v=>exact q
 | brk=>exact q
 | cont=>exact q
theorem Inv.quiet{pins:List (Addr×Obj)}{σ:St}{H:Hp}{s:Shared}(I:Inv X pins σ H s):interactive X.env=false:=by simp[interactive,I.ok.kind]
def GL(te:TE):TS:=fun D σ H=>te σ H fun _ H1=>D.nx σ H1
theorem bU(he:PE X e te)(hs:swapsWith e none pos.line X.env=pure false:=by rfl):PS X (.Expr e pos) (GL te):=by
 intro pins s σ H D I h
 exact wpAny_Expr_any (bZ (he pins s σ H _ I h) fun v s1 ⟨x,H1,I1,r1,q1⟩=>⟨σ,H1,I1,q1⟩) I.quiet hs
def Ir(te:TE):TS:=fun D σ H=>te σ H D.rt
theorem aS(he:PE X e te):PS X (.Return (some e) pos) (Ir te):=by
 intro pins s σ H D I h
 exact wpAny_Return_some (bZ (he pins s σ H _ I h) fun v s1 ⟨x,H1,I1,r1,q1⟩=>⟨x,σ,H1,I1,r1,q1⟩)
def IA(c:TT)(t u:TS):TS:=fun D σ H=>c σ H fun b H1=>if b=true then t D σ H1 else u D σ H1
theorem eG{c:Expr}{a b:List Stmt}{tc:TT}(hc:PT X c tc)(ha:PSs X a t)(hb:PSs X b u):PS X (.If c a b pos) (IA tc t u):=by
 intro pins s σ H D I h
 refine wpAny_If (bZ (hc pins s σ H _ I h) fun d s1 ⟨H1,I1,q1⟩=>?_)
 cases d with
 | true=>exact ha pins s1 σ H1 D I1 q1
 | false=>exact hb pins s1 σ H1 D I1 q1
def EE:TS:=fun _ _ _=>False
theorem zL{sts:List Stmt}:PSs X sts EE:=fun _ _ _ _ _ _ h=>h.elim
end
abbrev TG:=V→St→Hp→(St→Hp→Prop)→Prop
abbrev Ej:=List V→St→Hp→(St→Hp→Prop)→Prop
def PG(X:Cx)(target:Expr)(t:TG):Prop :=
 ∀ (pins:List (Addr×Obj)) (s:Shared) (σ:St) (H:Hp) (v:V) (u:Value) (Q:St→Hp→Prop),Inv X pins σ H s→RelV v u→t v σ H Q →
  wpAny (model X.prog X.w) X.A (assign target X.env u) (fun _ s'=>∃ σ' H',Inv X pins σ' H' s'∧Q σ' H') X.xe s
def Hv(X:Cx)(ts:List Expr)(t:Ej):Prop :=
 ∀ (pins:List (Addr×Obj)) (s:Shared) (σ:St) (H:Hp) (vs:List V) (us:List Value) (Q:St→Hp→Prop),Inv X pins σ H s→Vals vs us→t vs σ H Q →
  wpAny (model X.prog X.w) X.A (assignInOrder ((assignEach ts X.env).map (·.2)) us) (fun _ s'=>∃ σ' H',Inv X pins σ' H' s'∧Q σ' H') X.xe s
abbrev Fe:=V→V→V→Hp→(Hp→Prop)→Prop
def Gp(X:Cx)(t:Fe):Prop :=
 ∀ (pins:List (Addr×Obj)) (s:Shared) (σ:St) (H:Hp) (o i v:V) (ov iv u:Value) (Q:Hp→Prop),Inv X pins σ H s→RelV o ov→RelV i iv→RelV v u→t o i v H Q →
  wpAny (model X.prog X.w) X.A (setItem ov iv u) (fun _ s'=>∃ H',Inv X pins σ H' s'∧Q H') X.xe s
abbrev HI:=V→V→Hp→VK→Prop
def ID(X:Cx)(op:Operator)(t:HI):Prop :=
 ∀ (pins:List (Addr×Obj)) (s:Shared) (σ:St) (H:Hp) (x y:V) (v u:Value) (Q:VK),Inv X pins σ H s→RelV x v→RelV y u→t x y H Q →
  wpAny (model X.prog X.w) X.A (inplaceOp op v u) (EP X pins σ Q) X.xe s
section
variable {X:Cx}{pos:Pos}
def Dx(i:Nat):TG:=fun v σ H Q=>Q (σ.set i (some v)) H
theorem bF{i:Nat}{x:Str}(hN:X.N.Nodup)(hi:X.N[i]?=some x)(hx:Ha X.env.scope x)(hf:X.fn x=true∨X.env.scope.names.lookup x=some .local:=by first | exact .inl rfl | exact .inr rfl | assumption):PG X (.Name x pos) (Dx i):=by
 intro pins s σ H v u Q I r h
 exact wpAny_assign_Name (gL I hN hi hx r (fun s' I'=>⟨_,H,I',h⟩) hf)
def Ii:Ej:=fun vs σ H Q=>vs=[]∧Q σ H
def F5(t:TG)(u:Ej):Ej:=fun vs σ H Q=>∃ v r,vs=v::r∧t v σ H fun σ' H'=>u r σ' H' Q
theorem gB:Hv X [] Ii:=by
 intro pins s σ H vs us Q I r h
 obtain⟨e,h⟩:=h
 subst e
 cases r
 exact assignInOrder_nil ⟨σ,H,I,h⟩
theorem cF{e:Expr}{es:List Expr}{t:TG}{u:Ej}(h1:PG X e t)(h2:Hv X es u)
  (hs:(assignEach (e::es) X.env).map (·.2)=assign e X.env::(assignEach es X.env).map (·.2):=by rfl):Hv X (e::es) (F5 t u):=by
 intro pins s σ H vs us Q I r h
 obtain⟨v,vr,e1,h⟩:=h
 subst e1
 cases r with
 | cons r rr =>
  rw[hs]
  refine assignInOrder_cons (bZ (h1 pins s σ H _ _ _ I r h) fun _ s1 ⟨σ1,H1,I1,q1⟩=>?_)
  exact h2 pins s1 σ1 H1 _ _ Q I1 rr q1
def Ie(to ti:TE)(t:Fe):TG:=fun v σ H Q=>to σ H fun o H1=>ti σ H1 fun i H2=>t o i v H2 fun H3=>Q σ H3
theorem gE{o i:Expr}{to ti:TE}{t:Fe}(ho:PE X o to)(hi:PE X i ti)(hs:Gp X t)
  (ha:∀ v,assign (.Subscript o i pos) X.env v=(do
   let ov ← holding [v] (eval o X.env)
   let iv ← holding [v,ov] (eval i X.env)
   standAt pos
   holding [v,ov,iv] (setItem ov iv v)
   release [v,ov,iv] []):=by intro _;rfl):PG X (.Subscript o i pos) (Ie to ti t):=by
 intro pins s σ H v u Q I r h
 rw[ha]
 refine wpAny_bind (wpAny_holding (bZ (ho pins s σ H _ I h) fun ov s1 ⟨x,H1,I1,r1,q1⟩=>?_))
 refine wpAny_bind (wpAny_holding (bZ (hi pins s1 σ H1 _ I1 q1) fun iv s2 ⟨y,H2,I2,r2,q2⟩=>?_))
 refine wpAny_bind (wpAny_standAt (wpAny_bind (wpAny_holding (bZ (hs pins s2 σ H2 x y v ov iv u _ I2 r1 r2 r q2) fun _ s3 ⟨H3,I3,q3⟩=>?_))))
 exact wpAny_release ⟨σ,H3,I3,q3⟩
def Hh(te:TE)(g:TG):TS:=fun D σ H=>te σ H fun x H1=>g x σ H1 D.nx
theorem eK{tg e:Expr}{te:TE}{g:TG}(he:PE X e te)(hg:PG X tg g)(hs:swapsWithSole [tg] e pos.line X.env=pure false:=by rfl)(hw:swappedStores [tg] e X.env=pure none:=by rfl)
  (h1:(assignEach [tg] X.env).map (·.2)=[assign tg X.env]:=by rfl):PS X (.Assign [tg] e pos) (Hh te g):=by
 intro pins s σ H D I h
 refine wpAny_Assign_stores (bZ (he pins s σ H _ I h) fun v s1 ⟨x,H1,I1,r1,q1⟩=>?_) hs hw
 rw[h1]
 exact bZ (hg pins s1 σ H1 x v _ I1 r1 q1) fun _ s2 q=>q
theorem aM{i:Nat}{x:Str}{e:Expr}{te:TE}{pos':Pos}(hN:X.N.Nodup)(hi:X.N[i]?=some x)(hx:Ha X.env.scope x)(he:PE X e te)(hs:swapsWith e (some (.Name x pos')) pos.line X.env=pure false:=by rfl)(hf:X.fn x=true∨X.env.scope.names.lookup x=some .local:=by first | exact .inl rfl | exact .inr rfl | assumption) :
  PS X (.Assign [.Name x pos'] e pos) (Hh te (Dx i)):=by
 intro pins s σ H D I h
 refine wpAny_Assign_Name (bZ (he pins s σ H _ I h) fun v s1 ⟨y,H1,I1,r1,q1⟩=>?_) hs
 exact gL I1 hN hi hx r1 (fun s2 I2=>⟨_,H1,I2,q1⟩) hf
def Ic(i j:Nat)(ta:TA):TS:=fun D σ H=>ta σ H fun vs H1=>∃ v w,vs=[v,w]∧D.nx ((σ.set i (some v)).set j (some w)) H1
theorem sU{i j:Nat}{x y:Str}{a b:Expr}{ta:TA}{px py pt:Pos}{kt k2 pt2}(hc:X.calm=true)(hN:X.N.Nodup)(hi:X.N[i]?=some x)(hj:X.N[j]?=some y)(hij:i≠j)
  (hx:X.env.scope.names.lookup x=some .local) (hy:X.env.scope.names.lookup y=some .local) (ha:PA X [a,b] ta)
  (hw:swappedStores [.Tuple [.Name x px,.Name y py] kt pt] (.Tuple [a,b] k2 pt2) X.env=pure (some [x,y]))
  (hs:swapsWithSole [.Tuple [.Name x px,.Name y py] kt pt] (.Tuple [a,b] k2 pt2) pos.line X.env=pure false:=by rfl) :
  PS X (.Assign [.Tuple [.Name x px,.Name y py] kt pt] (.Tuple [a,b] k2 pt2) pos) (Ic i j ta):=by
 intro pins s σ H D I h
 rw[exec_Assign_arm]
 refine wpAny_bind (wpAny_standAt ?_)
 rw[hs]
 refine wpAny_bind (wpAny_pure ?_)
 rw[if_neg (by decide)]
 refine wpAny_bind (Tuple_ (bZ (ha _ pins s σ H _ I h) fun us s1 ⟨vs,H1,I1,r1,q1⟩=>?_))
 obtain⟨v,w,e1,q1⟩:=q1
 subst e1
 obtain⟨u1,u2,rfl,rv,rw'⟩:∃ u1 u2,us=[u1,u2]∧RelV v u1∧RelV w u2:=by
  cases r1 with
  | cons p q =>
   cases q with
   | cons p' q' =>
    cases q'
    exact⟨_,_,rfl,p,p'⟩
 refine wpAny_newObj_type ?_ (by show 2≤sizeLine;decide)
 have I2:Inv X pins σ H1 { s1 with heap:=s1.heap.push { cls:=.type "tuple",data:=.seq [u1,u2].toArray } }:=I1.kept (t':=s1.toks) fun b o e=>Heap.get?_push_of_some _ e
 rw[hw]
 refine wpAny_bind (wpAny_pure ?_)
 show wpAny (model X.prog X.w) X.A (do rule "assign.swapped-stores";let items ← unpackItems (.ref s1.heap.objs.size) 2 none;assignInOrder [fun v=>bindName X.env y v,fun v=>bindName X.env x v] items.reverse;pure Flow.next) _ _ _
 refine wpAny_bind (wpAny_rule (wpAny_bind (unpackItems_tuple (items:=#[u1,u2]) (I.ok.hd hc) (IsTup.new s1.heap _) fun h' hx'=>?_)))
 have I3:=I2.kept (h':=h') (t':=s1.toks) fun b o e=>hx' b o (Nat.ne_of_lt (Heap.lt_size e)) e
 show wpAny _ _ (assignInOrder [fun v=>bindName X.env y v,fun v=>bindName X.env x v] [u2,u1] >>= fun _=>pure Flow.next) _ _ _
 refine wpAny_bind (assignInOrder_cons (wpAny_bindName (gL I3 hN hj (.inl hy) rw' (fun s2 I4=>?_) (.inr hy))))
 refine assignInOrder_cons (wpAny_bindName (gL I4 hN hi (.inl hx) rv (fun s3 I5=>assignInOrder_nil (wpAny_pure ?_)) (.inr hx)))
 rw[List.set_comm _ _ (Ne.symm hij)] at I5
 exact⟨_,H1,I5,q1⟩
def HS(i:Nat)(te:TE)(ti:HI):TS:=fun D σ H=>∃ x,σ[i]?=some (some x)∧te σ H fun y H1=>ti x y H1 fun z H2=>D.nx (σ.set i (some z)) H2
theorem Fp{i:Nat}{x:Str}{e:Expr}{te:TE}{op:Operator}{ti:HI}{pos':Pos}(hN:X.N.Nodup)(hi:X.N[i]?=some x)(hx:Ha X.env.scope x)(he:PE X e te)(ho:ID X op ti)(hf:X.fn x=true∨X.env.scope.names.lookup x=some .local:=by first | exact .inl rfl | exact .inr rfl | assumption) :
  PS X (.AugAssign (.Name x pos') op e pos) (HS i te ti):=by
 intro pins s σ H D I h
 obtain⟨v,e1,h⟩:=h
 obtain⟨m,hn,hl⟩:=I.loc
 have vis:GD X.env.scope x:=by rcases hx with k | k;exact .inl k;exact .inr (.inl k)
 obtain⟨u,r,l⟩:=hl i x v hi e1 vis
 refine wpAny_AugAssign_Name ?_
 have go:wpAny (model X.prog X.w) X.A (eval e X.env) (fun w s₂=>wpAny (model X.prog X.w) X.A (inplaceOp op u w) (fun r s₃=>wpAny (model X.prog X.w) X.A (storeName X.env x r) (fun _=>SP X pins D .next) X.xe s₃) X.xe s₂) X.xe s:=by
  refine bZ (he pins s σ H _ I h) fun w s1 ⟨y,H1,I1,r1,q1⟩=>?_
  refine bZ (ho pins s1 σ H1 v y u w _ I1 r r1 q1) fun z s2 ⟨zv,H2,I2,r2,q2⟩=>?_
  exact gL I2 hN hi hx r2 (fun s3 I3=>⟨_,H2,I3,q2⟩) hf
 rcases l with ⟨hk,hm⟩ | ⟨hk,c,hc,hcell⟩
 ·exact wpAny_loadName_local I.ok.kind hk hn hm go
 ·rcases hk with hk | hk
  ·exact wpAny_loadName_cell I.ok.kind hk hc hcell go
  ·rcases hx with k | k
   ·have:X.env.scope.names.lookup x=some .free:=hk
    rw[k] at this;cases this
   ·have:X.env.scope.names.lookup x=some .free:=hk
    rw[k] at this;cases this
def Jb(f:Int→Int→Int):HI:=fun x y H Q=>∃ i j,x=.int i∧y=.int j∧Q (.int (f i j)) H
theorem D3:ID X .Add (Jb fun i j=>i+j):=by
 intro pins s σ H x y v u Q I r1 r2 h
 obtain⟨i,j,e1,e2,q⟩:=h
 subst e1;subst e2
 obtain⟨t,rfl⟩:=r1
 obtain⟨t',rfl⟩:=r2
 exact iadd_int ⟨.int _,H,I.tok _,⟨_,rfl⟩,q⟩
end
section
variable {X:Cx}{pos:Pos}
def Eb(c:TT)(tb:TS):TS:=fun D σ H=>∃ W:Nat→St→Hp→Prop,(∃ m,W m σ H)∧∀ m σ H,W m σ H →
 c σ H fun b H1=>if b=true then ∃ N:St→Hp→Prop,(∀ σ' H',N σ' H'→∃ m',m' < m∧W m' σ' H')∧tb { D with nx:=N,ct:=N,bk:=D.nx } σ H1 else D.nx σ H1
theorem nU{c:Expr}{body:List Stmt}{tc:TT}{tb:TS}(hp:PassesOwn (model X.prog X.w) X.A X.env X.xe)(hc:PT X c tc)(hb:PSs X body tb):PS X (.While c body [] pos) (Eb tc tb):=by
 intro pins s σ H D I h
 obtain⟨W,⟨m0,w0⟩,turn⟩:=h
 refine wpAny_While (codeAny_whileLoop (fun n s'=>∃ σ' H',Inv X pins σ' H' s'∧W n σ' H') ?_ m0 ⟨σ,H,I,w0⟩)
 rintro n s1 ⟨σ1,H1,I1,w1⟩
 refine wpAny_passesOwn hp (bZ (hc pins s1 σ1 H1 _ I1 (turn n σ1 H1 w1)) fun b s2 ⟨H2,I2,q2⟩=>?_)
 cases b with
 | true =>
  obtain⟨N,hN,q2⟩:=q2
  rw[if_pos rfl]
  refine wpAny_passesOwn hp (bZ (hb pins s2 σ1 H2 _ I2 q2) fun f s3 q3=>?_)
  cases f with
  | next =>
   obtain⟨σ3,H3,I3,n3⟩:=q3
   obtain⟨m',hm,w3⟩:=hN σ3 H3 n3
   exact⟨m',hm,σ3,H3,I3,w3⟩
  | cont =>
   obtain⟨σ3,H3,I3,n3⟩:=q3
   obtain⟨m',hm,w3⟩:=hN σ3 H3 n3
   exact⟨m',hm,σ3,H3,I3,w3⟩
  | brk=>exact q3
  | ret v=>exact q3
 | false =>
  rw[if_neg Bool.false_ne_true]
  exact wpAny_execs_nil ⟨σ1,H2,I2,q2⟩
end
structure It where
 go:Nat→Hp→Prop
 yld:Nat→Hp→V→Hp→Prop
 stop:Nat→Hp→Prop
def gD(X:Cx)(pins:List (Addr×Obj))(H:Hp)(b:Addr):Prop :=
 H b=none∧b≠X.env.locals∧b ∉ X.fs∧(b∈X.ex∨X.s₀.heap.objs.size≤b)∧(∀ x c,X.env.cells.lookup x=some c→c≠b)∧∀ p∈X.pn++pins,p.1≠b
theorem Inv.fpOk{X:Cx}{pins:List (Addr×Obj)}{σ:St}{H H':Hp}{s:Shared}{b:Addr}(I:Inv X pins σ H s)(hb:s.heap.objs.size≤b)(hn:H' b=none):gD X pins H' b:=by
 refine⟨hn,Nat.ne_of_gt (Nat.lt_of_lt_of_le I.lt hb),I.nofs hb,.inr (Nat.le_trans I.sz hb),fun x c e z=>?_,fun p hp z=>?_⟩
 ·obtain⟨v,q⟩:=I.cell x c e
  exact absurd (Nat.lt_of_lt_of_le q.lt (by rw[z];exact hb)) (Nat.lt_irrefl _)
 ·exact absurd (Nat.lt_of_lt_of_le (Heap.lt_size (I.pin p hp).1) (by rw[z];exact hb)) (Nat.lt_irrefl _)
structure Turn(P:Program)(w:World)(K:PySem.W.Frag)(tg:Expr)(J:It)(fp:List Addr)(it:Addr)(tn:Nat→Heap→Prop):Prop where
 mem:it∈fp
 obj:∀ i h,tn i h→∀ b∈fp,∃ o,h.get? b=some o∧∀ v,o.data≠.cell v
 keep:∀ i h h',tn i h→(∀ b∈fp,∀ o,h.get? b=some o→h'.get? b=some o)→tn i h'
 item:∀ (X:Cx),X.prog=P→X.w=w→X.K=K→X.calm=true→∀ (i:Nat) (pins:List (Addr×Obj)) (s:Shared) (σ:St) (H:Hp) (E:Value→Shared→Prop),Inv X pins σ H s→(∀ b∈fp,gD X pins H b)→tn i s.heap→J.go i H →
  wpAny (model P w) X.A (pyNext (.ref it)) (fun r s1=>∃ u,r=some u ∧
   wpAny (model P w) X.A (letOwnedTupleGo tg (.ref it) u) (fun _ s2=>∃ x H',Inv X pins σ H' s2∧RelV x u∧J.yld i H x H'∧tn (i+1) s2.heap∧∀ b∈fp,H' b=none) E s1) E s
 done:∀ (X:Cx),X.prog=P→X.w=w→X.K=K→X.calm=true→∀ (i:Nat) (pins:List (Addr×Obj)) (s:Shared) (σ:St) (H:Hp) (E:Value→Shared→Prop),Inv X pins σ H s→(∀ b∈fp,gD X pins H b)→tn i s.heap→J.stop i H →
  wpAny (model P w) X.A (pyNext (.ref it)) (fun r s1=>r=none∧Inv X pins σ H s1) E s
 self:∀ (A:Around) (i:Nat) (s:Shared) (Q:Value→Shared→Prop) (E:Value→Shared→Prop),tn i s.heap→Q (.ref it) s→wpAny (model P w) A (pyIter (.ref it)) Q E s
abbrev TI:=St→Hp→(It→Hp→Prop)→Prop
def IK(X:Cx)(pins:List (Addr×Obj))(σ:St)(tg:Expr)(R:It→Hp→Prop)(itv:Value)(s2:Shared):Prop :=
 ∃ (it:Addr) (fp:List Addr) (tn:Nat→Heap→Prop) (J:It) (H':Hp),itv=.ref it∧Inv X pins σ H' s2∧Turn X.prog X.w X.K tg J fp it tn∧tn 0 s2.heap∧(∀ b∈fp,gD X pins H' b)∧R J H'
def PI(X:Cx)(tg iter:Expr)(wi:TI):Prop :=
 ∀ (pins:List (Addr×Obj)) (s:Shared) (σ:St) (H:Hp) (R:It→Hp→Prop),Inv X pins σ H s→wi σ H R →
  wpAny (model X.prog X.w) X.A (eval iter X.env) (fun v s1=>wpAny (model X.prog X.w) X.A (pyIter v) (IK X pins σ tg R) X.xe s1) X.xe s
theorem pZ{M:Model}{A:Around}{E:Value→Shared→Prop}{s:Shared}{tg:Expr}{it:Addr}{u:Value}{o:Obj}{n:String}{vs:Array Value}{Q:Unit→Shared→Prop}(ho:s.heap.get? it=some o)(hc:o.cls=.type n)(hd:o.data=.fields vs)
  (hn:["enumerate","zip","dict_itemiterator","dict_reverseitemiterator","odict_iterator","itertools.zip_longest","itertools.pairwise"].contains n=false) (hQ:Q () s):wpAny M A (letOwnedTupleGo tg (.ref it) u) Q E s:=by
 unfold letOwnedTupleGo
 cases tg <;> first
  | exact wpAny_pure hQ
  | (cases u <;> first
    | exact wpAny_pure hQ
    | (refine wpAny_bind (wpAny_load ho ?_)
       rw[hc,hd]
       show wpAny M A (if (["enumerate","zip","dict_itemiterator","dict_reverseitemiterator","odict_iterator","itertools.zip_longest","itertools.pairwise"].contains n && vs[0]? == some (rawInt _))=true then _ else _) Q E s
       rw[if_neg (by intro h;rw[hn,Bool.false_and] at h;cases h)]
       exact wpAny_pure hQ))
def FH(K:PySem.W.Frag)(a:Addr):It :=
 ⟨fun i H=>∃ xs x,SqL K H a xs∧xs[i]?=some x,fun i H x H'=>H'=H∧∀ xs,SqL K H a xs→xs[i]?=some x,fun i H=>∃ xs,SqL K H a xs∧xs.length≤i⟩
def FB(K:PySem.W.Frag)(a:Addr):It :=
 ⟨fun i H=>∃ xs x,SqT K H a xs∧xs[i]?=some x,fun i H x H'=>H'=H∧∀ xs,SqT K H a xs→xs[i]?=some x,fun i H=>∃ xs,SqT K H a xs∧xs.length≤i⟩
def FF(lo:Int)(n:Nat):It:=⟨fun i _=>i<n,fun i H x H'=>H'=H∧x=.int (lo+i),fun i _=>n≤i⟩
theorem Av{P:Program}{w:World}{K:PySem.W.Frag}{tg:Expr}(a it:Addr):Turn P w K tg (FH K a) [it] it (fun i h=>h.IsListIter it a i) where
 mem:=by simp
 obj:=fun i h st b hb=>by
  have e:b=it:=by simpa using hb
  subst e
  obtain⟨o,e,c,d⟩:=st
  exact⟨o,e,fun v z=>by rw[d] at z;cases z⟩
 keep:=fun i h h' st k=>st.at fun o e=>k it (by simp) o e
 item:=by
  intro X hP hw hK hc i pins s σ H E I hf st hg
  subst hP hw hK
  obtain⟨xs,x,hq,hx⟩:=hg
  obtain⟨its,rv,p,hz⟩:=I.list hq
  obtain⟨u,hu,ru⟩:=rv.get hx
  obtain⟨f0,f1,f2,f3,f4,f5⟩:=hf it (by simp)
  refine wpAny_pyNext_list_item st p.isList (x:=u) (by simpa using hu) fun h' st' sb=>?_
  have I1:Inv X pins σ H { s with heap:=h' }:=I.turned (t':=s.toks) (fun b o hb e=>(sb.2 b hb).trans e) f0 f1 f3 f4 f5
  obtain⟨o,e,c,d⟩:=id st'
  exact⟨u,rfl,pZ (s:={ s with heap:=h' }) e c d (by decide) ⟨x,H,I1,ru,⟨rfl,fun ys hy=>by rw[I.list_inj hy hq];exact hx⟩,st',fun b hb=>(hf b hb).1⟩⟩
 done:=by
  intro X hP hw hK hc i pins s σ H E I hf st hg
  subst hP hw hK
  obtain⟨xs,hq,hx⟩:=hg
  obtain⟨its,rv,p,hz⟩:=I.list hq
  obtain⟨f0,f1,f2,f3,f4,f5⟩:=hf it (by simp)
  have hl:=rv.length
  exact wpAny_pyNext_list_end (I.ok.hd hc) st p.isList (by simp;omega) fun h' eb=>⟨rfl,I.turned (t':=s.toks) (fun b o hb e=>eb b o hb e) f0 f1 f3 f4 f5⟩
 self:=fun _ _ _ _ _ st h=>wpAny_pyIter_listiter st h
theorem vT{P:Program}{w:World}{K:PySem.W.Frag}{tg:Expr}(a it:Addr):Turn P w K tg (FB K a) [it] it (fun i h=>h.IsTupleIter it a i) where
 mem:=by simp
 obj:=fun i h st b hb=>by
  have e:b=it:=by simpa using hb
  subst e
  obtain⟨o,e,c,d⟩:=st
  exact⟨o,e,fun v z=>by rw[d] at z;cases z⟩
 keep:=fun i h h' st k=>st.at fun o e=>k it (by simp) o e
 item:=by
  intro X hP hw hK hc i pins s σ H E I hf st hg
  subst hP hw hK
  obtain⟨xs,x,hq,hx⟩:=hg
  obtain⟨its,rv,p,hz⟩:=I.tuple hq
  obtain⟨u,hu,ru⟩:=rv.get hx
  obtain⟨f0,f1,f2,f3,f4,f5⟩:=hf it (by simp)
  refine wpAny_pyNext_tuple_item st (show s.heap.IsTuple a its.toArray from p) (x:=u) (by simpa using hu) fun h' st' sb=>?_
  have I1:Inv X pins σ H { s with heap:=h' }:=I.turned (t':=s.toks) (fun b o hb e=>(sb.2 b hb).trans e) f0 f1 f3 f4 f5
  obtain⟨o,e,c,d⟩:=id st'
  exact⟨u,rfl,pZ (s:={ s with heap:=h' }) e c d (by decide) ⟨x,H,I1,ru,⟨rfl,fun ys hy=>by rw[I.tuple_inj hy hq];exact hx⟩,st',fun b hb=>(hf b hb).1⟩⟩
 done:=by
  intro X hP hw hK hc i pins s σ H E I hf st hg
  subst hP hw hK
  obtain⟨xs,hq,hx⟩:=hg
  obtain⟨its,rv,p,hz⟩:=I.tuple hq
  obtain⟨f0,f1,f2,f3,f4,f5⟩:=hf it (by simp)
  have hl:=rv.length
  exact wpAny_pyNext_tuple_end (I.ok.hd hc) st (show s.heap.IsTuple a its.toArray from p) (by simp;omega) fun h' eb=>⟨rfl,I.turned (t':=s.toks) (fun b o hb e=>eb b o hb e) f0 f1 f3 f4 f5⟩
 self:=fun _ _ _ _ _ st h=>wpAny_pyIter_tupleiter st h
theorem xF{P:Program}{w:World}{K:PySem.W.Frag}{tg:Expr}(it:Addr)(lo:Int)(n:Nat):Turn P w K tg (FF lo n) [it] it (fun i h=>IsRangeIter h it (lo+(i:Nat) * 1) ((n:Int) - (i:Nat)) 1) where
 mem:=by simp
 obj:=fun i h st b hb=>by
  have e:b=it:=by simpa using hb
  subst e
  exact⟨_,st,fun v z=>by
   have z':Data.fields _=Data.cell v:=z
   cases z'⟩
 keep:=fun i h h' st k=>k it (by simp) _ st
 item:=by
  intro X hP hw hK hc i pins s σ H E I hf st hg
  subst hP hw hK
  obtain⟨f0,f1,f2,f3,f4,f5⟩:=hf it (by simp)
  have W:=Walks.range (prog:=X.prog) (w:=X.w) (I.ok.hd hc) it lo 1 n
  refine W.item i s _ _ hg st fun v h' tk hv st' kk=>?_
  obtain⟨t,rfl⟩:=hv
  have I1:Inv X pins σ H { s with heap:=h',toks:=tk }:=I.turned (fun b o hb e=>kk b o (by simpa using hb) e) f0 f1 f3 f4 f5
  refine⟨_,rfl,pZ (s:={ s with heap:=h',toks:=tk }) (n:="range_iterator") st' rfl rfl (by decide) ⟨.int (lo+i),H,I1,⟨t,?_⟩,⟨rfl,rfl⟩,st',fun b hb=>(hf b hb).1⟩⟩
  rw[Int.mul_one]
 done:=by
  intro X hP hw hK hc i pins s σ H E I hf st hg
  subst hP hw hK
  obtain⟨f0,f1,f2,f3,f4,f5⟩:=hf it (by simp)
  exact wpAny_pyNext_range_end (I.ok.hd hc) st (by have:n≤i:=hg;omega) fun h' eb=>⟨rfl,I.turned (t':=s.toks) (fun b o hb e=>eb b o hb e) f0 f1 f3 f4 f5⟩
 self:=fun _ _ _ _ _ st h=>wpAny_pyIter_rangeiter st h
section
variable {X:Cx}{tg:Expr}
def DR(K:PySem.W.Frag)(tl:TE):TI:=fun σ H R=>tl σ H fun x H1=>∃ a,x=.ref a∧(∃ xs,SqL K H1 a xs)∧R (FH K a) H1
def F8(K:PySem.W.Frag)(tl:TE):TI:=fun σ H R=>tl σ H fun x H1=>∃ a,x=.ref a∧(∃ xs,SqT K H1 a xs)∧R (FB K a) H1
theorem C_{l:Expr}{tl:TE}(hl:PE X l tl):PI X tg l (DR X.K tl):=by
 intro pins s σ H R I h
 refine bZ (hl pins s σ H _ I h) fun v s1 ⟨x,H1,I1,r1,q1⟩=>?_
 obtain⟨a,e,⟨xs,hq⟩,q⟩:=q1
 subst e
 cases r1
 obtain⟨its,rv,p,hz⟩:=I1.list hq
 refine wpAny_pyIter_list p.isList ?_
 refine⟨s1.heap.objs.size,[s1.heap.objs.size],_,_,H1,rfl,I1.kept (t':=s1.toks) fun b o e=>Heap.get?_push_of_some _ e,Av a _,⟨_,Heap.get?_push_size _ rfl,rfl,rfl⟩,fun b hb=>?_,q⟩
 have e:b=s1.heap.objs.size:=by simpa using hb
 subst e
 exact I1.fpOk (Nat.le_refl _) (I1.hok.fresh (Nat.le_refl _))
theorem EY{l:Expr}{tl:TE}(hl:PE X l tl):PI X tg l (F8 X.K tl):=by
 intro pins s σ H R I h
 refine bZ (hl pins s σ H _ I h) fun v s1 ⟨x,H1,I1,r1,q1⟩=>?_
 obtain⟨a,e,⟨xs,hq⟩,q⟩:=q1
 subst e
 cases r1
 obtain⟨its,rv,p,hz⟩:=I1.tuple hq
 refine wpAny_pyIter_tuple (show s1.heap.IsTuple a its.toArray from p) ?_
 refine⟨s1.heap.objs.size,[s1.heap.objs.size],_,_,H1,rfl,I1.kept (t':=s1.toks) fun b o e=>Heap.get?_push_of_some _ e,vT a _,⟨_,Heap.get?_push_size _ rfl,rfl,rfl⟩,fun b hb=>?_,q⟩
 have e:b=s1.heap.objs.size:=by simpa using hb
 subst e
 exact I1.fpOk (Nat.le_refl _) (I1.hok.fresh (Nat.le_refl _))
theorem BX{pins:List (Addr×Obj)}{σ:St}{H:Hp}{s:Shared}{R:It→Hp→Prop}{E:Value→Shared→Prop}{lo hi:Int}{t u v:Tok}{tk:Nat}(I:Inv X pins σ H s)(h1:-(2 ^ 62)≤lo)(h2:lo<2 ^ 62)(h3:-(2 ^ 62)≤hi)(h4:hi<2 ^ 62)
  (q:R (FF lo (hi - lo).toNat) H):wpAny (model X.prog X.w) X.A (pyIter (.ref s.heap.objs.size)) (IK X pins σ tg R) E { s with heap:=s.heap.push { cls:=.type "range",data:=.fields #[.int lo t,.int hi u,.int 1 v] },toks:=tk }:=by
 refine wpAny_pyIter_range (IsRange.new ..) (small_one h1 h2 h3 h4) ?_
 have I1:Inv X pins σ H { s with heap:=s.heap.push { cls:=.type "range",data:=.fields #[.int lo t,.int hi u,.int 1 v] },toks:=tk }:=I.kept fun b o e=>Heap.get?_push_of_some _ e
 refine⟨(s.heap.push { cls:=.type "range",data:=.fields #[.int lo t,.int hi u,.int 1 v] }).objs.size,[(s.heap.push { cls:=.type "range",data:=.fields #[.int lo t,.int hi u,.int 1 v] }).objs.size],_,_,H,rfl,
  I1.kept (t':=tk) fun b o e=>Heap.get?_push_of_some _ e,xF _ lo (hi - lo).toNat,?_,fun b hb=>?_,q⟩
 ·have e1:lo+((0:Nat):Int) * 1=lo:=by simp
  have e2:(((hi - lo).toNat:Nat):Int) - ((0:Nat):Int)=Builtin.Range.rangeSize lo hi 1:=by rw[rangeSize_one];split <;> omega
  show IsRangeIter _ _ (lo+((0:Nat):Int) * 1) ((((hi - lo).toNat:Nat):Int) - ((0:Nat):Int)) 1
  rw[e1,e2]
  exact Heap.get?_push_size _ rfl
 ·have e:b=(s.heap.push { cls:=.type "range",data:=.fields #[.int lo t,.int hi u,.int 1 v] }).objs.size:=by simpa using hb
  subst e
  exact I1.fpOk (Nat.le_refl _) (I1.hok.fresh (Nat.le_refl _))
def Gc(ta:TA):TI:=fun σ H R=>ta σ H fun vs H1=>∃ j:Int,vs=[.int j]∧-(2 ^ 62)≤j∧j<2 ^ 62∧R (FF 0 j.toNat) H1
theorem lG{a:Expr}{ta:TA}{p pos:Pos}(hg:Gl X "range")(hm:X.mg "range"=none)(ha:PA X [a] ta)(hs:starEach [a] X.env=[(false,eval a X.env)]:=by rfl):PI X tg (.Call (.Name "range" p) [a] [] pos) (Gc ta):=by
 intro pins s σ H R I h
 refine Call_ (hJ I hg hm boot_range (PyProof.Rows.callWith_type1 (bZ (ha pos pins s σ H _ I h) fun us s1 ⟨vs,H1,I1,r1,q1⟩=>?_) hs rfl))
 obtain⟨j,e,q1,q2,q⟩:=q1
 subst e
 cases r1 with
 | cons r rr =>
  cases rr
  obtain⟨t,rfl⟩:=r
  exact call_range_1 (BX I1 (by omega) (by omega) q1 q2 (by simpa using q))
def Io(wi:TI)(g:TG)(tb:TS):TS:=fun D σ H=>wi σ H fun J H1=>∃ W:Nat→Nat→St→Hp→Prop,(∃ m,W 0 m σ H1)∧∀ i m σ H,W i m σ H →
 (J.stop i H∧D.nx σ H)∨(J.go i H∧∃ N:St→Hp→Prop,(∀ σ' H',N σ' H'→∃ m',m' < m∧W (i+1) m' σ' H')∧∀ x H',J.yld i H x H'→g x σ H' fun σ2 H2=>tb { D with nx:=N,ct:=N,bk:=D.nx } σ2 H2)
def jI(fp:List Addr)(h:Heap):List (Addr×Obj):=fp.filterMap fun b=>(h.get? b).map fun o=>(b,o)
theorem gS{fp:List Addr}{h:Heap}{b:Addr}{o:Obj}(hb:b∈fp)(e:h.get? b=some o):(b,o)∈jI fp h:=List.mem_filterMap.mpr ⟨b,hb,by rw[e];rfl⟩
theorem zW{fp:List Addr}{h:Heap}{p:Addr×Obj}(hp:p∈jI fp h):p.1∈fp∧h.get? p.1=some p.2:=by
 obtain⟨b,hb,e⟩:=List.mem_filterMap.mp hp
 cases q:h.get? b with
 | none=>rw[q] at e;cases e
 | some o =>
  rw[q] at e
  have e':(b,o)=p:=Option.some.inj e
  subst e'
  exact⟨hb,q⟩
theorem Inv.pinned{pins:List (Addr×Obj)}{σ:St}{H:Hp}{s:Shared}{fp:List Addr}(I:Inv X pins σ H s)(hf:∀ b∈fp,gD X pins H b)(ho:∀ b∈fp,∃ o,s.heap.get? b=some o∧∀ v,o.data≠.cell v):Inv X (pins++jI fp s.heap) σ H s :=
 I.pins_of fun p hp=>(List.mem_append.mp hp).elim (fun z=>I.pin p (List.mem_append_right _ z)) fun z=>by
  obtain⟨hb,e⟩:=zW z
  obtain⟨f0,f1,f2,_⟩:=hf p.1 hb
  obtain⟨o,e',d⟩:=ho p.1 hb
  rw[e] at e';cases e'
  exact⟨e,f0,f1,f2,d⟩
theorem Inv.unpinned{pins pl:List (Addr×Obj)}{σ:St}{H:Hp}{s:Shared}(I:Inv X (pins++pl) σ H s):Inv X pins σ H s:=I.pins_of fun p hp=>I.pin p (List.mem_append_right _ (List.mem_append_left _ hp))
theorem dO{iter:Expr}{body:List Stmt}{wi:TI}{g:TG}{tb:TS}{pos:Pos}(hp:PassesOwn (model X.prog X.w) X.A X.env X.xe)(hc:X.calm=true)(hi:PI X tg iter wi)(hg:PG X tg g)(hb:PSs X body tb)
  (hs:∀ x,foldedSetIterable iter X.env x=pure x:=by intro _;rfl):PS X (.For tg iter body [] pos) (Io wi g tb):=by
 intro pins s σ H D I h
 refine wpAny_For (bZ (hi pins s σ H _ I h) fun v s1 h1=>bZ h1 fun itv s2 h2=>?_) hs
 obtain⟨it,fp,tn,J,H2,e,I2,T,st2,f2,W,⟨m0,w0⟩,turn⟩:=h2
 subst e
 -- what stays true of the iterator's objects through the loop
 have stat:∀ {H':Hp},(∀ b∈fp,H' b=none)→∀ b∈fp,gD X pins H' b:=fun hn b hb=>⟨hn b hb,(f2 b hb).2⟩
 refine codeAny_forLoop_any (fun n s'=>∃ i σ' H',Inv X pins σ' H' s'∧tn i s'.heap∧(∀ b∈fp,H' b=none)∧W i n σ' H') ?_ m0 ⟨0,σ,H2,I2,st2,fun b hb=>(f2 b hb).1,w0⟩
 rintro n s3 ⟨i,σ3,H3,I3,st3,fr3,w3⟩
 rcases turn i n σ3 H3 w3 with ⟨stop,qn⟩ | ⟨go,N,hN,step⟩
 ·refine wpAny_passesOwn hp (bZ (T.done X rfl rfl rfl hc i pins s3 σ3 H3 X.xe I3 (stat fr3) st3 stop) fun r s4 ⟨hr,I4⟩=>?_)
  subst hr
  exact wpAny_execs_nil ⟨σ3,H3,I4,qn⟩
 ·refine wpAny_passesOwn hp (bZ (T.item X rfl rfl rfl hc i pins s3 σ3 H3 X.xe I3 (stat fr3) st3 go) fun r s4 ⟨u,hr,h4⟩=>?_)
  subst hr
  refine wpAny_passesOwn hp (bZ h4 fun _ s5 ⟨x,H5,I5,r5,y5,st5,fr5⟩=>?_)
  have I5':=I5.pinned (stat fr5) (T.obj _ _ st5)
  refine wpAny_passesOwn hp (bZ (hg _ s5 σ3 H5 x u _ I5' r5 (step x H5 y5)) fun _ s6 ⟨σ6,H6,I6,q6⟩=>?_)
  refine wpAny_passesOwn hp (bZ (hb _ s6 σ6 H6 _ I6 q6) fun f s7 q7=>?_)
  have again:∀ {σ7:St} {H7:Hp},Inv X (pins++jI fp s5.heap) σ7 H7 s7→N σ7 H7→∃ m,m<n∧∃ i σ' H',Inv X pins σ' H' s7∧tn i s7.heap∧(∀ b∈fp,H' b=none)∧W i m σ' H':=fun {σ7 H7} I7 n7=>by
   obtain⟨m',hm,w7⟩:=hN σ7 H7 n7
   refine⟨m',hm,i+1,σ7,H7,I7.unpinned,T.keep _ _ _ st5 fun b hb o e=>(I7.pin (b,o) (List.mem_append_right _ (List.mem_append_right _ (gS hb e)))).1,fun b hb=>?_,w7⟩
   obtain⟨o,e,d⟩:=T.obj _ _ st5 b hb
   exact(I7.pin (b,o) (List.mem_append_right _ (List.mem_append_right _ (gS hb e)))).2.1
  cases f with
  | next=>obtain⟨σ7,H7,I7,n7⟩:=q7;exact again I7 n7
  | cont=>obtain⟨σ7,H7,I7,n7⟩:=q7;exact again I7 n7
  | brk=>obtain⟨σ7,H7,I7,q7⟩:=q7;exact⟨σ7,H7,I7.unpinned,q7⟩
  | ret v=>obtain⟨x7,σ7,H7,I7,r7,q7⟩:=q7;exact⟨x7,σ7,H7,I7.unpinned,r7,q7⟩
end
theorem uX{K:PySem.W.Frag}{a:Addr}{xs:List V}{g:TG}{tb:TS}{D:Ends}{σ:St}{H:Hp}(Pv:Nat→St→Hp→Prop)(h0:Pv 0 σ H)(hl:∀ i σ H,i≤xs.length→Pv i σ H→SqL K H a xs)
  (hs:∀ i x σ H,xs[i]?=some x→Pv i σ H→g x σ H fun σ2 H2=>tb { D with nx:=Pv (i+1),ct:=Pv (i+1),bk:=D.nx } σ2 H2) (hd:∀ σ H,Pv xs.length σ H→D.nx σ H) :
  ∃ W:Nat→Nat→St→Hp→Prop,(∃ m,W 0 m σ H)∧∀ i m σ H,W i m σ H →
   ((FH K a).stop i H∧D.nx σ H)∨((FH K a).go i H∧∃ N:St→Hp→Prop,(∀ σ' H',N σ' H'→∃ m',m' < m∧W (i+1) m' σ' H')∧∀ x H',(FH K a).yld i H x H'→g x σ H' fun σ2 H2=>tb { D with nx:=N,ct:=N,bk:=D.nx } σ2 H2):=by
 refine⟨fun i m σ H=>m=xs.length - i∧i≤xs.length∧Pv i σ H,⟨xs.length,by simp,Nat.zero_le _,h0⟩,?_⟩
 rintro i m σ H ⟨rfl,hi,p⟩
 have q:=hl i σ H hi p
 by_cases hlt:i<xs.length
 ·refine .inr ⟨⟨xs,xs[i],q,by simp[hlt]⟩,Pv (i+1),fun σ' H' p'=>⟨xs.length - (i+1),by omega,rfl,hlt,p'⟩,fun x H' y=>?_⟩
  obtain⟨e,y⟩:=y
  subst e
  exact hs i x σ _ (y xs q) p
 ·have e:i=xs.length:=by omega
  subst e
  exact .inl ⟨⟨xs,q,Nat.le_refl _⟩,hd σ H p⟩
theorem yX{K:PySem.W.Frag}{a:Addr}{xs:List V}{g:TG}{tb:TS}{D:Ends}{σ:St}{H:Hp}(Pv:Nat→St→Hp→Prop)(h0:Pv 0 σ H)(hl:∀ i σ H,i≤xs.length→Pv i σ H→SqT K H a xs)
  (hs:∀ i x σ H,xs[i]?=some x→Pv i σ H→g x σ H fun σ2 H2=>tb { D with nx:=Pv (i+1),ct:=Pv (i+1),bk:=D.nx } σ2 H2) (hd:∀ σ H,Pv xs.length σ H→D.nx σ H) :
  ∃ W:Nat→Nat→St→Hp→Prop,(∃ m,W 0 m σ H)∧∀ i m σ H,W i m σ H →
   ((FB K a).stop i H∧D.nx σ H)∨((FB K a).go i H∧∃ N:St→Hp→Prop,(∀ σ' H',N σ' H'→∃ m',m' < m∧W (i+1) m' σ' H')∧∀ x H',(FB K a).yld i H x H'→g x σ H' fun σ2 H2=>tb { D with nx:=N,ct:=N,bk:=D.nx } σ2 H2):=by
 refine⟨fun i m σ H=>m=xs.length - i∧i≤xs.length∧Pv i σ H,⟨xs.length,by simp,Nat.zero_le _,h0⟩,?_⟩
 rintro i m σ H ⟨rfl,hi,p⟩
 have q:=hl i σ H hi p
 by_cases hlt:i<xs.length
 ·refine .inr ⟨⟨xs,xs[i],q,by simp[hlt]⟩,Pv (i+1),fun σ' H' p'=>⟨xs.length - (i+1),by omega,rfl,hlt,p'⟩,fun x H' y=>?_⟩
  obtain⟨e,y⟩:=y
  subst e
  exact hs i x σ _ (y xs q) p
 ·have e:i=xs.length:=by omega
  subst e
  exact .inl ⟨⟨xs,q,Nat.le_refl _⟩,hd σ H p⟩
theorem lX{lo:Int}{n:Nat}{g:TG}{tb:TS}{D:Ends}{σ:St}{H:Hp}(Pv:Nat→St→Hp→Prop)(h0:Pv 0 σ H)
  (hs:∀ i σ H,i<n→Pv i σ H→g (.int (lo+i)) σ H fun σ2 H2=>tb { D with nx:=Pv (i+1),ct:=Pv (i+1),bk:=D.nx } σ2 H2) (hd:∀ σ H,Pv n σ H→D.nx σ H) :
  ∃ W:Nat→Nat→St→Hp→Prop,(∃ m,W 0 m σ H)∧∀ i m σ H,W i m σ H →
   ((FF lo n).stop i H∧D.nx σ H)∨((FF lo n).go i H∧∃ N:St→Hp→Prop,(∀ σ' H',N σ' H'→∃ m',m' < m∧W (i+1) m' σ' H')∧∀ x H',(FF lo n).yld i H x H'→g x σ H' fun σ2 H2=>tb { D with nx:=N,ct:=N,bk:=D.nx } σ2 H2):=by
 refine⟨fun i m σ H=>m=n - i∧i≤n∧Pv i σ H,⟨n,by simp,Nat.zero_le _,h0⟩,?_⟩
 rintro i m σ H ⟨rfl,hi,p⟩
 by_cases hlt:i<n
 ·refine .inr ⟨hlt,Pv (i+1),fun σ' H' p'=>⟨n - (i+1),by omega,rfl,hlt,p'⟩,fun x H' y=>?_⟩
  obtain⟨e,y⟩:=y
  subst e y
  exact hs i σ _ hlt p
 ·have e:i=n:=by omega
  subst e
  exact .inl ⟨Nat.le_refl _,hd σ H p⟩
abbrev R2:=V→V→Hp→VK→Prop
def jA(X:Cx)(f:Value→Value→Sem Value)(r:R2):Prop :=
 ∀ (pins:List (Addr×Obj)) (s:Shared) (σ:St) (H:Hp) (x y:V) (v u:Value) (Q:VK),Inv X pins σ H s→RelV x v→RelV y u→r x y H Q →
  wpAny (model X.prog X.w) X.A (f v u) (EP X pins σ Q) X.xe s
def HN(X:Cx)(f:Value→Sem Value)(r:V→Hp→VK→Prop):Prop :=
 ∀ (pins:List (Addr×Obj)) (s:Shared) (σ:St) (H:Hp) (x:V) (v:Value) (Q:VK),Inv X pins σ H s→RelV x v→r x H Q →
  wpAny (model X.prog X.w) X.A (f v) (EP X pins σ Q) X.xe s
def fX(X:Cx)(f:Value)(r:List V→Hp→VK→Prop):Prop :=
 ∀ (pins:List (Addr×Obj)) (s:Shared) (σ:St) (H:Hp) (xs:List V) (us:List Value) (Q:VK),Inv X pins σ H s→Vals xs us→r xs H Q →
  wpAny (model X.prog X.w) X.A (call f us) (EP X pins σ Q) X.xe s
def HL(r:R2)(ta tb:TE):TE:=fun σ H Q=>ta σ H fun x H1=>tb σ H1 fun y H2=>r x y H2 Q
def Jg(r:V→Hp→VK→Prop)(ta:TE):TE:=fun σ H Q=>ta σ H fun x H1=>r x H1 Q
def rI(C:Int→Int→Prop)(g:Int→Int→V):R2:=fun x y H Q=>∃ i j,x=.int i∧y=.int j∧C i j∧Q (g i j) H
def DC(g:Int→Int→V):R2:=fun x y H Q=>∃ i j,x=.int i∧y=.int j∧Q (g i j) H
def rU(g:Int→V):V→Hp→VK→Prop:=fun x H Q=>∃ i,x=.int i∧Q (g i) H
section
variable {X:Cx}{a b c:Expr}{ta tb tc:TE}{pos:Pos}
theorem Ex(ha:PE X a ta)(hb:PE X b tb){pins:List (Addr×Obj)}{s:Shared}{σ:St}{H:Hp}{R:V→V→Hp→Prop}(I:Inv X pins σ H s)
  (h:ta σ H fun x H1=>tb σ H1 fun y H2=>R x y H2) {Q:Value→Shared→Prop} {f:Value→Value→Sem Value}
  (hf:∀ v u s2 x y H2,Inv X pins σ H2 s2→RelV x v→RelV y u→R x y H2→wpAny (model X.prog X.w) X.A (f v u) Q X.xe s2) :
  wpAny (model X.prog X.w) X.A (eval a X.env) (fun v s₁=>wpAny (model X.prog X.w) X.A (eval b X.env) (fun u s₂=>wpAny (model X.prog X.w) X.A (f v u) Q X.xe s₂) X.xe s₁) X.xe s:=by
 refine bZ (ha pins s σ H _ I h) fun v s1 ⟨x,H1,I1,r1,q1⟩=>?_
 refine bZ (hb pins s1 σ H1 _ I1 q1) fun u s2 ⟨y,H2,I2,r2,q2⟩=>?_
 exact hf v u s2 x y H2 I2 r1 r2 q2
theorem bE{op:Operator}{r:R2}(ho:jA X (binaryOp op) r)(ha:PE X a ta)(hb:PE X b tb):PE X (.BinOp a op b pos) (HL r ta tb):=by
 intro pins s σ H Q I h
 exact wpAny_BinOp (Ex ha hb I h fun v u s2 x y H2 I2 rx ry q=>ho pins s2 σ H2 x y v u Q I2 rx ry q)
theorem Bv{op:UnaryOp}{r:V→Hp→VK→Prop}(ho:HN X (unaryOp op) r)(ha:PE X a ta):PE X (.UnaryOp op a pos) (Jg r ta):=by
 intro pins s σ H Q I h
 exact UnaryOp_ (bZ (ha pins s σ H _ I h) fun v s1 ⟨x,H1,I1,r1,q1⟩=>ho pins s1 σ H1 x v Q I1 r1 q1)
theorem HE{f:Value→Value→Sem Value}{C:Int→Int→Prop}{g:Int→Int→Int}
  (rule:∀ (i j:Int) (t u:Tok) (s:Shared) (Q:Value→Shared→Prop) (E:Value→Shared→Prop),C i j→Q (.int (g i j) s.toks) { s with toks:=s.toks+1 }→wpAny (model X.prog X.w) X.A (f (.int i t) (.int j u)) Q E s) :
  jA X f (rI C fun i j=>.int (g i j)):=by
 intro pins s σ H x y v u Q I rx ry h
 obtain⟨i,j,rfl,rfl,hc,q⟩:=h
 obtain⟨t,rfl⟩:=rx
 obtain⟨t',rfl⟩:=ry
 exact rule i j t t' s _ _ hc ⟨.int (g i j),H,I.tok _,⟨_,rfl⟩,q⟩
theorem Gw{f:Value→Value→Sem Value}{g:Int→Int→Int}
  (rule:∀ (i j:Int) (t u:Tok) (s:Shared) (Q:Value→Shared→Prop) (E:Value→Shared→Prop),Q (.int (g i j) s.toks) { s with toks:=s.toks+1 }→wpAny (model X.prog X.w) X.A (f (.int i t) (.int j u)) Q E s) :
  jA X f (DC fun i j=>.int (g i j)):=by
 intro pins s σ H x y v u Q I rx ry h
 obtain⟨i,j,rfl,rfl,q⟩:=h
 obtain⟨t,rfl⟩:=rx
 obtain⟨t',rfl⟩:=ry
 exact rule i j t t' s _ _ ⟨.int (g i j),H,I.tok _,⟨_,rfl⟩,q⟩
theorem Ct{f:Value→Value→Sem Value}{g:Int→Int→Bool}
  (rule:∀ (i j:Int) (t u:Tok) (s:Shared) (Q:Value→Shared→Prop) (E:Value→Shared→Prop),Q (.bool (g i j)) s→wpAny (model X.prog X.w) X.A (f (.int i t) (.int j u)) Q E s) :
  jA X f (DC fun i j=>.bl (g i j)):=by
 intro pins s σ H x y v u Q I rx ry h
 obtain⟨i,j,rfl,rfl,q⟩:=h
 obtain⟨t,rfl⟩:=rx
 obtain⟨t',rfl⟩:=ry
 exact rule i j t t' s _ _ ⟨.bl (g i j),H,I,rfl,q⟩
def Ig(i j:Int):Prop:=0<j∧j<1073741824
def Iz(i j:Int):Prop:=0≤j∧j≤1000000∧i.natAbs<2 ^ 64
def CMul(i j:Int):Prop:=(-(2 ^ 64)<i∧i<2 ^ 64)∨(-(2 ^ 64)<j∧j<2 ^ 64)
theorem CMul.ok{i j:Int}(h:CMul i j):IntMulOk i j:=by
 rcases h with ⟨h1,h2⟩ | ⟨h1,h2⟩
 ·exact .of_left (intBits_le_64 h1 h2)
 ·exact .of_right (intBits_le_64 h1 h2)
theorem fQ:jA X (binaryOp .Add) (DC fun i j=>.int (i+j)):=Gw fun _ _ _ _ _ _ _ q=>add_int q
theorem Fu:jA X (binaryOp .Sub) (DC fun i j=>.int (i - j)):=Gw fun _ _ _ _ _ _ _ q=>sub_int q
theorem jH:jA X (binaryOp .Mult) (rI CMul fun i j=>.int (i * j)):=HE fun _ _ _ _ _ _ _ hc q=>mul_int q hc.ok
theorem sC:jA X (binaryOp .FloorDiv) (rI Ig fun i j=>.int (i / j)):=HE fun i j _ _ _ _ _ hc q=>by
 have h1:(0:Int)<j:=hc.1
 have h2:j<1073741824:=hc.2
 exact floordiv_int (by omega) (by rw[Int.fdiv_eq_ediv_of_nonneg i (by omega)];exact q) (.inl (PyProof.noPylong_small (by omega)))
theorem jP:jA X (binaryOp .Mod) (rI (fun _ j=>0<j) fun i j=>.int (i % j)):=HE fun i j _ _ _ _ _ hc q=>by
 have h1:(0:Int)<j:=hc
 exact mod_int' (by omega) (by rw[Int.fmod_eq_emod_of_nonneg i (by omega)];exact q)
theorem Fn:jA X (binaryOp .Pow) (rI Iz fun i j=>.int (i ^ j.toNat)):=HE fun _ _ _ _ _ _ _ hc q=>pow_int_small hc.1 hc.2.1 hc.2.2 q
theorem IT{f:Value→Sem Value}{g:Int→Int}
  (rule:∀ (i:Int) (t:Tok) (s:Shared) (Q:Value→Shared→Prop) (E:Value→Shared→Prop),Q (.int (g i) s.toks) { s with toks:=s.toks+1 }→wpAny (model X.prog X.w) X.A (f (.int i t)) Q E s) :
  HN X f (rU fun i=>.int (g i)):=by
 intro pins s σ H x v Q I rx h
 obtain⟨i,rfl,q⟩:=h
 obtain⟨t,rfl⟩:=rx
 exact rule i t s _ _ ⟨.int (g i),H,I.tok _,⟨_,rfl⟩,q⟩
theorem vQ:HN X (unaryOp .USub) (rU fun i=>.int (-i)):=IT fun _ _ _ _ _ q=>neg_int q
end
def Gr:V→V→Bool
 | .non,.non=>true | .non,.int _=>true | .int _,.non=>true | .non,.bl _=>true | .bl _,.non=>true | .non,.str _=>true | .str _,.non=>true
 | .int _,.int _=>true | .bl _,.bl _=>true | .str _,.str _=>true | .byt _,.byt _=>true
 | .int _,.str _=>true | .str _,.int _=>true | .bl _,.str _=>true | .str _,.bl _=>true
 | _,_=>false
def IU:R2:=fun x y H Q=>Gr x y=true∧Q (.bl (decide (x=y))) H
def IV:R2:=fun x y H Q=>Gr x y=true∧Q (.bl (!decide (x=y))) H
theorem yA{i j:Int}:decide (V.int i=V.int j)=(i == j):=by
 rw[Bool.eq_iff_iff]
 simp
theorem AO{i j:Bool}:decide (V.bl i=V.bl j)=(i == j):=by
 rw[Bool.eq_iff_iff]
 simp
theorem yN{i j:Str}:decide (V.str i=V.str j)=(i == j):=by
 rw[Bool.eq_iff_iff]
 simp
theorem yL{i j:Array UInt8}:decide (V.byt i=V.byt j)=(i.toList == j.toList):=by
 rw[Bool.eq_iff_iff]
 cases i
 cases j
 simp
section
variable {X:Cx}{a b c:Expr}{ta tb tc:TE}{pos:Pos}
theorem bJ{pins:List (Addr×Obj)}{σ:St}{H:Hp}{s:Shared}{Q:VK}{k k':Bool}(I:Inv X pins σ H s)(q:Q (.bl k) H)(e:k=k'):EP X pins σ Q (.bool k') s:=by
 subst e
 exact⟨.bl k,H,I,rfl,q⟩
theorem nC:jA X (compareOp .Eq) IU:=by
 intro pins s σ H x y v u Q I rx ry h
 obtain⟨hs,q⟩:=h
 cases x with
 | non =>
  cases rx
  cases y with
  | non=>cases ry;exact PySem.EqNone.eq_none_none (bJ I q (by simp))
  | bl j=>cases ry;exact PySem.EqNone.eq_none_bool (bJ I q (by simp))
  | int j=>obtain⟨t',rfl⟩:=ry;exact PySem.EqNone.eq_none_int (bJ I q (by simp))
  | str j=>obtain⟨t',rfl⟩:=ry;exact PySem.EqNone.eq_none_str (bJ I q (by simp))
  | _=>exact absurd (show false=true from hs) Bool.false_ne_true
 | bl i =>
  cases rx
  cases y with
  | non=>cases ry;exact PySem.EqNone.eq_bool_none (bJ I q (by simp))
  | bl j=>cases ry;exact eq_bool (bJ I q AO)
  | str j=>obtain⟨t',rfl⟩:=ry;exact PySem.EqMixed.eq_bool_str (bJ I q (by simp))
  | _=>exact absurd (show false=true from hs) Bool.false_ne_true
 | int i =>
  obtain⟨t,rfl⟩:=rx
  cases y with
  | non=>cases ry;exact PySem.EqNone.eq_int_none (bJ I q (by simp))
  | int j=>obtain⟨t',rfl⟩:=ry;exact eq_int (bJ I q yA)
  | str j=>obtain⟨t',rfl⟩:=ry;exact PySem.EqMixed.eq_int_str (bJ I q (by simp))
  | _=>exact absurd (show false=true from hs) Bool.false_ne_true
 | str i =>
  obtain⟨t,rfl⟩:=rx
  cases y with
  | non=>cases ry;exact PySem.EqNone.eq_str_none (bJ I q (by simp))
  | bl j=>cases ry;exact PySem.EqMixed.eq_str_bool (bJ I q (by simp))
  | int j=>obtain⟨t',rfl⟩:=ry;exact PySem.EqMixed.eq_str_int (bJ I q (by simp))
  | str j=>obtain⟨t',rfl⟩:=ry;exact eq_str (bJ I q yN)
  | _=>exact absurd (show false=true from hs) Bool.false_ne_true
 | byt i =>
  obtain⟨t,rfl⟩:=rx
  cases y with
  | byt j=>obtain⟨t',rfl⟩:=ry;exact PySem.W.eq_bytes (bJ I q yL)
  | _=>exact absurd (show false=true from hs) Bool.false_ne_true
 | _=>cases y <;> exact absurd (show false=true from hs) Bool.false_ne_true
theorem mH:jA X (compareOp .NotEq) IV:=by
 intro pins s σ H x y v u Q I rx ry h
 obtain⟨hs,q⟩:=h
 cases x with
 | non =>
  cases rx
  cases y with
  | non=>cases ry;exact PySem.EqNone.ne_none_none (bJ I q (by simp))
  | bl j=>cases ry;exact PySem.EqNone.ne_none_bool (bJ I q (by simp))
  | int j=>obtain⟨t',rfl⟩:=ry;exact PySem.EqNone.ne_none_int (bJ I q (by simp))
  | str j=>obtain⟨t',rfl⟩:=ry;exact PySem.EqNone.ne_none_str (bJ I q (by simp))
  | _=>exact absurd (show false=true from hs) Bool.false_ne_true
 | bl i =>
  cases rx
  cases y with
  | non=>cases ry;exact PySem.EqNone.ne_bool_none (bJ I q (by simp))
  | bl j=>cases ry;exact ne_bool (bJ I q (congrArg not AO))
  | str j=>obtain⟨t',rfl⟩:=ry;exact PySem.EqMixed.ne_bool_str (bJ I q (by simp))
  | _=>exact absurd (show false=true from hs) Bool.false_ne_true
 | int i =>
  obtain⟨t,rfl⟩:=rx
  cases y with
  | non=>cases ry;exact PySem.EqNone.ne_int_none (bJ I q (by simp))
  | int j=>obtain⟨t',rfl⟩:=ry;exact ne_int (bJ I q (congrArg not yA))
  | str j=>obtain⟨t',rfl⟩:=ry;exact PySem.EqMixed.ne_int_str (bJ I q (by simp))
  | _=>exact absurd (show false=true from hs) Bool.false_ne_true
 | str i =>
  obtain⟨t,rfl⟩:=rx
  cases y with
  | non=>cases ry;exact PySem.EqNone.ne_str_none (bJ I q (by simp))
  | bl j=>cases ry;exact PySem.EqMixed.ne_str_bool (bJ I q (by simp))
  | int j=>obtain⟨t',rfl⟩:=ry;exact PySem.EqMixed.ne_str_int (bJ I q (by simp))
  | str j=>obtain⟨t',rfl⟩:=ry;exact ne_str (bJ I q (congrArg not yN))
  | _=>exact absurd (show false=true from hs) Bool.false_ne_true
 | byt i =>
  obtain⟨t,rfl⟩:=rx
  cases y with
  | byt j=>obtain⟨t',rfl⟩:=ry;exact PySem.W.ne_bytes (bJ I q (congrArg not yL))
  | _=>exact absurd (show false=true from hs) Bool.false_ne_true
 | _=>cases y <;> exact absurd (show false=true from hs) Bool.false_ne_true
theorem DS:jA X (compareOp .Lt) (DC fun i j=>.bl (decide (i<j))):=Ct fun _ _ _ _ _ _ _ q=>lt_int q
theorem DL:jA X (compareOp .LtE) (DC fun i j=>.bl (decide (i≤j))):=Ct fun _ _ _ _ _ _ _ q=>le_int q
theorem xP:jA X (compareOp .Gt) (DC fun i j=>.bl (decide (j<i))):=Ct fun _ _ _ _ _ _ _ q=>gt_int q
theorem FQ:jA X (compareOp .GtE) (DC fun i j=>.bl (decide (j≤i))):=Ct fun _ _ _ _ _ _ _ q=>ge_int q
theorem AS:jA X (compareOp .Is) (fun x y H Q=>y=.non∧Q (.bl (decide (x=.non))) H):=by
 intro pins s σ H x y v u Q I rx ry h
 obtain⟨rfl,q⟩:=h
 cases ry
 refine is_none_gen (bJ I q ?_)
 cases x <;> first
  | (cases rx;rfl)
  | (obtain⟨t,rfl⟩:=rx;rfl)
theorem CU:jA X (compareOp .IsNot) (fun x y H Q=>y=.non∧Q (.bl (!decide (x=.non))) H):=by
 intro pins s σ H x y v u Q I rx ry h
 obtain⟨rfl,q⟩:=h
 cases ry
 refine isnot_none_gen (bJ I q ?_)
 cases x <;> first
  | (cases rx;rfl)
  | (obtain⟨t,rfl⟩:=rx;rfl)
theorem bC(b:Expr){op:CmpOp}(h:op≠.In:=by decide)(h2:op≠.NotIn:=by decide):behindInMarks op b=false:=by
 have e1:(op == CmpOp.In)=false:=by cases op <;> first | rfl | exact absurd rfl h
 have e2:(op == CmpOp.NotIn)=false:=by cases op <;> first | rfl | exact absurd rfl h2
 cases b <;> simp[behindInMarks,e1,e2]
theorem mV{op:CmpOp}{r:R2}(ho:jA X (compareOp op) r)(ha:PE X a ta)(hb:PE X b tb)(hm:behindInMarks op b=false):PE X (.Compare a [op] [b] pos) (HL r ta tb):=by
 intro pins s σ H Q I h
 exact wpAny_Compare1 (Ex ha hb I h fun v u s2 x y H2 I2 rx ry q=>ho pins s2 σ H2 x y v u Q I2 rx ry q) hm
def GF(t:TE):TT:=fun σ H Q=>t σ H fun x H'=>∃ k,x=.bl k∧Q k H'
theorem aY{op:CmpOp}{r:R2}(ho:jA X (compareOp op) r)(ha:PE X a ta)(hb:PE X b tb)(hm:behindInMarks op b=false):PT X (.Compare a [op] [b] pos) (GF (HL r ta tb)):=by
 intro pins s σ H Q I h
 refine wpAny_isTrue_Compare1 (bZ (ha pins s σ H _ I h) fun v s1 ⟨x,H1,I1,r1,q1⟩=>bZ (hb pins s1 σ H1 _ I1 q1) fun u s2 ⟨y,H2,I2,r2,q2⟩ =>
  bZ (ho pins s2 σ H2 x y v u _ I2 r1 r2 q2) fun c s3 ⟨z,H3,I3,r3,k,e,q3⟩=>?_) hm
 subst e
 cases r3
 exact wpAny_truthy_bool ⟨H3,I3,q3⟩
theorem lU:(sizeLine:Nat)<2 ^ 63:=by rw[sizeLine_eq];decide
theorem cK:jA X (binaryOp .Add) (fun x y H Q=>∃ i j,x=.str i∧y=.str j∧i.length+j.length≤sizeLine∧Q (.str (i++j)) H):=by
 intro pins s σ H x y v u Q I rx ry h
 obtain⟨i,j,rfl,rfl,hz,q⟩:=h
 obtain⟨t,rfl⟩:=rx
 obtain⟨t',rfl⟩:=ry
 exact add_str (fun t' tk=>⟨.str (i++j),H,I.tok _,⟨_,rfl⟩,q⟩) hz
theorem kP{x:V}{us:List Value}(r:Vals [x] us):∃ u,us=[u]∧RelV x u:=by
 cases r with
 | cons r1 r2=>cases r2;exact⟨_,rfl,r1⟩
theorem DO{x y:V}{us:List Value}(r:Vals [x,y] us):∃ u w',us=[u,w']∧RelV x u∧RelV y w':=by
 cases r with
 | cons r1 r2 =>
  cases r2 with
  | cons r3 r4=>cases r4;exact⟨_,_,rfl,r1,r3⟩
theorem lV:fX X (.type "int") (fun xs H Q=>(∃ i,xs=[.int i]∧Q (.int i) H)∨∃ k,xs=[.bl k]∧Q (.int (if k then 1 else 0)) H):=by
 intro pins s σ H xs us Q I r h
 rcases h with ⟨i,rfl,q⟩ | ⟨k,rfl,q⟩
 ·obtain⟨u,rfl,t,rfl⟩:=kP r
  exact call_int_int ⟨.int i,H,I,⟨_,rfl⟩,q⟩
 ·obtain⟨u,rfl,r1⟩:=kP r
  cases r1
  exact call_int_bool ⟨.int (if k then 1 else 0),H,I.tok _,⟨_,rfl⟩,q⟩
end
structure ObjM(h:Heap)(x dx C:Addr)(mA:Str→Option Value):Prop where
 obj:h.get? x=some (PySem.W.instObj C dx)
 ns:h.Ns1 dx mA
 ne:dx≠x
theorem yZ{h:Heap}{dx:Addr}{mA:Str→Option Value}(n:h.Ns1 dx mA):∃ od,h.get? dx=some od∧∀ name,PySem.W.lookIn name od=some (mA name):=by
 obtain⟨o,es,ep,ho,hd,hk,_,hm⟩:=n
 refine⟨o,ho,fun name=>?_⟩
 have e:=hm name
 unfold nsFind findBy at e
 rw[← Array.find?_toList] at e
 unfold PySem.W.lookIn
 rw[hd]
 dsimp only
 split
 ·rename_i y q
  rw[q] at e
  exact congrArg some e
 ·rename_i q
  rw[q] at e
  have a:es.toList.any (·.refKey)=false:=by
   rw[List.any_eq_false]
   intro y hy
   obtain⟨z,t,hkey⟩:=hk y (Array.mem_toList_iff.mp hy)
   simp[DictEntry.refKey,hkey]
  have a':¬ es.toList.any (·.refKey)=true:=by rw[a];exact Bool.false_ne_true
  rw[if_neg a']
  exact congrArg some e
theorem ObjM.look{h:Heap}{x dx C:Addr}{mA:Str→Option Value}(I:ObjM h x dx C mA):∃ od,PySem.W.InstAt h x (PySem.W.instObj C dx) C (some od)∧∀ name,PySem.W.lookIn name od=some (mA name) :=
 let ⟨od,ho,hl⟩:=yZ I.ns
 ⟨od,⟨I.obj,rfl,rfl,ho⟩,hl⟩
section
variable {prog:Program}{w:World}{A:Around}{E:Value→Shared→Prop}{s:Shared}{K:PySem.W.Frag}{x dx C f:Addr}{mA:Str→Option Value}{name:Str}{v:Value}
theorem CC{expr:Bool}{Q:Value→Shared→Prop}(X:K.In s.heap)(I:ObjM s.heap x dx C mA)(hg:PySem.W.plainGet K C name=true)(hh:PySem.W.hasDictIn K C=true)
  (ha:PySem.W.findIn K (.ref C) name=some none) (hv:mA name=some v) (hv':PySem.W.handedIn v=true) (h:Q v { s with toks:=s.toks+1 }) :
  wpAny (model prog w) A (getAttr (.ref x) name expr) Q E s:=by
 obtain⟨od,J,hl⟩:=I.look
 exact PySem.W.get_value X J (PySem.W.plainGet_of hg).1 (PySem.W.findObj_own hh ha rfl (by rw[hl,hv])) hv' h
theorem BJ{pl:Sem Bool}{Q:Value×List Value→Shared→Prop}(X:K.In s.heap)(I:ObjM s.heap x dx C mA)(hg:PySem.W.plainGet K C name=true)
  (hf:PySem.W.findIn K (.ref C) name=some (some (.ref f))) (ht:PySem.W.isFn K (.ref f)=true) (hv:mA name=none) (h:Q (.ref f,[.ref x]) s) :
  wpAny (model prog w) A (getMethod (.ref x) name pl) Q E s:=by
 obtain⟨od,J,hl⟩:=I.look
 exact PySem.W.method_fn X J (PySem.W.plainGet_of hg).1 (PySem.W.plainGet_of hg).2 hf (beq_iff_eq.mp ht) (by show (PySem.W.lookIn name od).map (·.isSome)=some false;rw[hl,hv];rfl) h
theorem C3{ns:List Str}{Q:Unit→Shared→Prop}(X:K.In s.heap)(I:ObjM s.heap x dx C mA)
  (hs:PySem.W.findIn K (.ref C) "__setattr__"=some (some (.builtin "object.__setattr__"))) (hp:PySem.W.plainOver K C=true) (ht:PySem.W.takerIn K C name=some none) (hh:PySem.W.hasDictIn K C=true)
  (hw:PySem.Within mA ns) (hsz:ns.length≤sizeLine)
  (h:∀ h',ObjM h' x dx C (fun y=>if y=name then some v else mA y)→Heap.SameBut dx s.heap h'→Q () { s with heap:=h',toks:=s.toks+2 }) :
  wpAny (model prog w) A (setAttr (.ref x) name v) Q E s:=by
 obtain⟨od,J,hl⟩:=I.look
 refine PySem.W.set_plain X J hs (PySem.W.osa_open (s:={ s with toks:=s.toks+1 }) (r:=none) X J hp ht fun b=>?_)
 obtain⟨cd,hc,hd'⟩:=PySem.W.any_some hh
 have hx:s.heap.get? x=some ⟨.ref C,some dx,.plain,#[]⟩:=I.obj
 refine wpAny_bind (wpAny_pure (wpAny_bind (wpAny_bind (wpAny_loadPart hx (wpAny_bind (PySem.W.Looks.here (s:={ s with toks:=s.toks+1 }) (PySem.W.looks_clsIn X hc) ?_))))))
 rw[hd']
 refine wpAny_pure (a:=some dx) (wpAny_bind (wpAny_pure (wpAny_bind ?_)))
 refine wpAny_nsSet1 (s:={ s with toks:=s.toks+1 }) I.ns fun h' hn2 hs2=>?_
 obtain⟨oD,esD,epD,hoD,hdD,hcD⟩:=hn2.count (PySem.Within.cons name v hw)
 refine wpAny_bind (wpAny_lookBehind hoD (by rw[hdD];exact pastItsLine_dict (Nat.le_trans hcD (by rw[List.length_cons];omega))) ?_)
 exact wpAny_pure (h _ ⟨(hs2.2 _ (Ne.symm I.ne)).trans I.obj,hn2,I.ne⟩ hs2)
theorem AW{R:Result→Shared→Prop}{vs:List Value}{kw:List (Str×Value)}(X:K.In s.heap)(hm:PySem.W.makesIn K C=true)
  (hi:PySem.W.findIn K (.ref C) "__init__"=some (some (.ref f))) (hf:PySem.W.typeIn K (.ref f)=some (.type "function"))
  (h:codeAny (model prog w) (A.under (.builtin "type.__call__" ⟨.ref C::vs,kw⟩)) (.call (.ref f) ⟨.ref (s.heap.objs.size+1)::vs,kw⟩) (PySem.W.InitBack (s.heap.objs.size+1) R)
   { s with heap:=(s.heap.push PySem.W.emptyDict).push (PySem.W.instObj C s.heap.objs.size) }) :
  codeAny (model prog w) A (.call (.ref C) ⟨vs,kw⟩) R s:=by
 obtain⟨hh,g,d,t,os⟩:=s
 exact PySem.W.make_core (PySem.W.makes_of X hm) (PySem.W.looks_findIn X hi) (fun self=>PySem.W.bind_fn X self hf) (.inl rfl) h
end
def eX(f:Str)(v:V):List (Str×V)→List (Str×V)
 | []=>[(f,v)]
 | (g,x)::r=>if g=f then (g,v)::r else (g,x)::eX f v r
theorem aZ(f g:Str)(v:V):∀ fs:List (Str×V),(eX f v fs).lookup g=if g=f then some v else fs.lookup g
 | []=>by
  show List.lookup g [(f,v)]=_
  by_cases h:g=f
  ·have hb:(g == f)=true:=beq_iff_eq.mpr h
   simp only [List.lookup,hb,if_pos h]
  ·have hb:(g == f)=false:=beq_eq_false_iff_ne.mpr h
   simp only [List.lookup,hb,if_neg h]
 | (k,x)::r=>by
  have ih:=aZ f g v r
  rw[show eX f v ((k,x)::r)=(if k=f then (k,v)::r else (k,x)::eX f v r) from rfl]
  by_cases hk:k=f
  ·rw[if_pos hk]
   by_cases h:g=k
   ·have hb:(g == k)=true:=beq_iff_eq.mpr h
    simp only [List.lookup,hb,if_pos (h.trans hk)]
   ·have hb:(g == k)=false:=beq_eq_false_iff_ne.mpr h
    simp only [List.lookup,hb,if_neg (fun e:g=f=>h (e.trans hk.symm))]
  ·rw[if_neg hk]
   by_cases h:g=k
   ·have hb:(g == k)=true:=beq_iff_eq.mpr h
    simp only [List.lookup,hb,if_neg (fun e:g=f=>hk (h.symm.trans e))]
   ·have hb:(g == k)=false:=beq_eq_false_iff_ne.mpr h
    simp only [List.lookup,hb]
    exact ih
theorem lI(f:Str)(v:V):∀ fs:List (Str×V),f∈(eX f v fs).map (·.1)∧∀ g,g∈fs.map (·.1)→g∈(eX f v fs).map (·.1)
 | []=>⟨by simp[eX],fun g h=>by simp at h⟩
 | (k,x)::r=>by
  obtain⟨i1,i2⟩:=lI f v r
  rw[show eX f v ((k,x)::r)=(if k=f then (k,v)::r else (k,x)::eX f v r) from rfl]
  by_cases hk:k=f
  ·rw[if_pos hk]
   subst hk
   exact⟨by simp,fun g h=>by simpa using h⟩
  ·rw[if_neg hk]
   refine⟨?_,fun g h=>?_⟩
   ·rw[List.map_cons]
    exact List.mem_cons_of_mem _ i1
   ·rw[List.map_cons] at h ⊢
    rcases List.mem_cons.mp h with e | e
    ·exact List.mem_cons.mpr (.inl e)
    ·exact List.mem_cons_of_mem _ (i2 g e)
theorem mI(f:Str)(v:V):∀ fs:List (Str×V),(eX f v fs).length≤fs.length+1
 | []=>by simp[eX]
 | (k,x)::r=>by
  have ih:=mI f v r
  rw[show eX f v ((k,x)::r)=(if k=f then (k,v)::r else (k,x)::eX f v r) from rfl]
  by_cases hk:k=f
  ·rw[if_pos hk,List.length_cons,List.length_cons];omega
  ·rw[if_neg hk,List.length_cons,List.length_cons];omega
theorem RelO.some_of{v:V}{o:Option Value}(r:RelO (some v) o):∃ u,o=some u∧RelV v u:=by
 cases o with
 | none=>exact(show False from r).elim
 | some u=>exact⟨u,rfl,r⟩
theorem RelO.none_of{o:Option Value}(r:RelO none o):o=none:=by
 cases o with
 | none=>rfl
 | some u=>exact(show False from r).elim
theorem Ax{v:V}{u:Value}(r:RelV v u):PySem.W.handedIn u=true:=by
 cases v with
 | non=>cases (show u=Value.none from r);rfl
 | bl b=>cases (show u=Value.bool b from r);rfl
 | int i=>obtain⟨t,e⟩:=(show ∃ t,u=Value.int i t from r);cases e;rfl
 | str x=>obtain⟨t,e⟩:=(show ∃ t,u=Value.str x t from r);cases e;rfl
 | byt b=>obtain⟨t,e⟩:=(show ∃ t,u=Value.bytes b t from r);cases e;rfl
 | flt b=>obtain⟨t,e⟩:=(show ∃ t,u=Value.float b t from r);cases e;rfl
 | ref a=>cases (show u=Value.ref a from r);rfl
 | ty n=>cases (show u=Value.type n from r);rfl
section
variable {P:Program}{w:World}{H H':Hp}{h h':Heap}{a C dx:Addr}{fs fs':List (Str×V)}
theorem sJ(hok:HOk P w H h)(e:H a=some (.ins C dx fs)):∃ mA,ObjM h a dx C mA∧(∀ f,RelO (fs.lookup f) (mA f))∧PySem.Within mA (fs.map (·.1))∧fs.length≤1000∧H dx=some (.own a):=by
 obtain⟨d,z,ne,ob,mA,n,r,q⟩:=(show ObjOk P w H h a (.ins C dx fs) from hok a _ e)
 exact⟨mA,⟨ob,n,ne⟩,r,q,z,d⟩
end
structure Cls(K:PySem.W.Frag)(C:Addr):Prop where
 pg:PySem.W.plainGet K C Str.empty=true
 hd:PySem.W.hasDictIn K C=true
 po:PySem.W.plainOver K C=true
 sa:PySem.W.findIn K (.ref C) "__setattr__"=some (some (.builtin "object.__setattr__"))
theorem Cls.get{K:PySem.W.Frag}{C:Addr}(c:Cls K C)(f:Str):PySem.W.plainGet K C f=true:=c.pg
def NoAttr(K:PySem.W.Frag)(C:Addr)(f:Str):Prop:=PySem.W.findIn K (.ref C) f=some none
theorem NoAttr.taker{K:PySem.W.Frag}{C:Addr}{f:Str}(n:NoAttr K C f):PySem.W.takerIn K C f=some none:=by
 unfold PySem.W.takerIn
 rw[show PySem.W.findIn K (.ref C) f=some none from n]
 rfl
structure Meth(K:PySem.W.Frag)(C:Addr)(m:Str)(f:Addr):Prop where
 at_:PySem.W.findIn K (.ref C) m=some (some (.ref f))
 fn:PySem.W.isFn K (.ref f)=true
 kp:PySem.W.keepIn K (.ref f)=true
section
variable {X:Cx}{pins:List (Addr×Obj)}{σ:St}{H:Hp}{s:Shared}{a C dx:Addr}{fs:List (Str×V)}{f:Str}{v:V}{A:Around}{E:Value→Shared→Prop}
theorem wT{b:Bool}{Q:Value→Shared→Prop}(I:Inv X pins σ H s)(e:H a=some (.ins C dx fs))(c:Cls X.K C)(n:NoAttr X.K C f)(l:fs.lookup f=some v)
  (h:∀ u s',Inv X pins σ H s'→RelV v u→Q u s'):wpAny (model X.prog X.w) A (getAttr (.ref a) f b) Q E s:=by
 obtain⟨mA,O,r,_,_,_⟩:=sJ I.hok e
 obtain⟨u,hu,ru⟩:=RelO.some_of (v:=v) (o:=mA f) (by rw[← l];exact r f)
 exact CC I.kIn O (c.get f) c.hd n hu (Ax ru) (h u _ (I.tok _) ru)
theorem jJ{m:Str}{g:Addr}{pl:Sem Bool}{Q:Value×List Value→Shared→Prop}(I:Inv X pins σ H s)(e:H a=some (.ins C dx fs))(c:Cls X.K C)(k:Meth X.K C m g)(l:fs.lookup m=none)
  (h:Q (.ref g,[.ref a]) s):wpAny (model X.prog X.w) A (getMethod (.ref a) m pl) Q E s:=by
 obtain⟨mA,O,r,_,_,_⟩:=sJ I.hok e
 have hn:mA m=none:=RelO.none_of (by rw[← l];exact r m)
 exact BJ I.kIn O (c.get m) k.at_ k.fn hn h
theorem vM{y:V}{u:Value}{Q:Unit→Shared→Prop}(I:Inv X pins σ H s)(e:H a=some (.ins C dx fs))(c:Cls X.K C)(n:NoAttr X.K C f)(hl:fs.length<1000)(ry:RelV y u)
  (h:∀ s',Inv X pins σ (upd H a (.ins C dx (eX f y fs))) s'→Q () s'):wpAny (model X.prog X.w) A (setAttr (.ref a) f u) Q E s:=by
 obtain⟨mA,O,r,wi,_,ho⟩:=sJ I.hok e
 have hz:(fs.map (·.1)).length≤sizeLine:=by rw[List.length_map,sizeLine_eq];omega
 refine C3 I.kIn O c.sa c.po n.taker c.hd wi hz fun h' O' sb=>h _ ?_
 have hd:∃ o,h'.get? dx=some o:=let ⟨o,_,_,e',_⟩:=O'.ns;⟨o,e'⟩
 refine I.write (x:=a) (e:=dx) (by rw[e];exact True.intro) (.inr ho) (fun b q hb z=>(sb.2 b hb).trans z) hd ?_
 refine⟨by rw[aE O.ne];exact ho,?_,O.ne,O'.obj,_,O'.ns,fun g=>?_,fun g hg=>?_⟩
 ·have:=mI f y fs;omega
 ·show RelO ((eX f y fs).lookup g) (if g=f then some u else mA g)
  rw[aZ]
  by_cases q:g=f
  ·rw[if_pos q,if_pos q];exact ry
  ·rw[if_neg q,if_neg q];exact r g
 ·by_cases q:g=f
  ·rw[q];exact(lI f y fs).1
  ·refine(lI f y fs).2 g (wi g fun z=>hg ?_)
   show (if g=f then some u else mA g)=none
   rw[if_neg q];exact z
theorem Inv.made(I:Inv X pins σ H s):Inv X pins σ (upd (upd H s.heap.objs.size (.own (s.heap.objs.size+1))) (s.heap.objs.size+1) (.ins C s.heap.objs.size []))
  { s with heap:=(s.heap.push PySem.W.emptyDict).push (PySem.W.instObj C s.heap.objs.size) }:=by
 have e1:(s.heap.push PySem.W.emptyDict).get? s.heap.objs.size=some PySem.W.emptyDict:=Heap.get?_push_size s.heap rfl
 have e2:((s.heap.push PySem.W.emptyDict).push (PySem.W.instObj C s.heap.objs.size)).get? (s.heap.objs.size+1)=some (PySem.W.instObj C s.heap.objs.size):=by
  have:=Heap.get?_push_size (s.heap.push PySem.W.emptyDict) (o:=PySem.W.instObj C s.heap.objs.size) rfl
  rwa [Heap.size_push] at this
 have e3:(s.heap.push PySem.W.emptyDict).Ns s.heap.objs.size (fun _=>none):=⟨PySem.W.emptyDict,#[],_,e1,rfl,(fun e he=>absurd he (by simp)),fun _=>rfl⟩
 have I1:=I.laid (a:=s.heap.objs.size) (o:=.own (s.heap.objs.size+1)) (h':=s.heap.push PySem.W.emptyDict) (t':=s.toks) (fun b u q=>Heap.get?_push_of_some _ q) (Nat.le_refl _) ⟨_,e1⟩
 refine I1.laid (a:=s.heap.objs.size+1) (o:=.ins C s.heap.objs.size []) (t':=s.toks) (fun b u q=>Heap.get?_push_of_some _ q) (Nat.le_of_eq (Heap.size_push _ _)) ?_
 have ne:s.heap.objs.size≠s.heap.objs.size+1:=Nat.ne_of_lt (Nat.lt_succ_self _)
 refine⟨by rw[aE ne,aC],Nat.zero_le _,ne,e2,fun _=>none,(Heap.Ns1.of_empty e3).at fun o q=>Heap.get?_push_of_some _ q,fun _=>True.intro,fun y hy=>absurd rfl hy⟩
theorem CF{prog:Program}{w:World}{env:Env}{e:Expr}{f:Str}{pos:Pos}{s:Shared}{Q:Value→Shared→Prop}(hb:attributeBase e f env (eval e env)=eval e env)
  (h:wpAny (model prog w) A (eval e env) (fun o s₁=>wpAny (model prog w) A (getAttr o f true) Q E s₁) E s):wpAny (model prog w) A (eval (.Attribute e f pos) env) Q E s :=
 Attribute_any_ h (by rw[arm_eval_Attribute,hb])
end
def Hd(K:PySem.W.Frag)(ta:TE)(f:Str):TE:=fun σ H Q=>ta σ H fun x H1=>∃ a C dx fs v,x=.ref a∧H1 a=some (.ins C dx fs)∧Cls K C∧NoAttr K C f∧fs.lookup f=some v∧Q v H1
def GZ(K:PySem.W.Frag)(ta tv:TE)(f:Str):TS:=fun D σ H=>tv σ H fun y H1=>ta σ H1 fun x H2=>∃ a C dx fs,x=.ref a∧H2 a=some (.ins C dx fs)∧Cls K C∧NoAttr K C f∧fs.length<1000 ∧
 D.nx σ (upd H2 a (.ins C dx (eX f y fs)))
section
variable {X:Cx}{o e value:Expr}{f:Str}{pos pos' tpos:Pos}{ta tv:TE}
theorem E1(he:PE X e ta)(hb:attributeBase e f X.env (eval e X.env)=eval e X.env):PE X (.Attribute e f pos) (Hd X.K ta f):=by
 intro pins s σ H Q I h
 refine CF hb (bZ (he pins s σ H _ I h) fun u s1 ⟨x,H1,I1,rx,a,C,dx,fs,v,ex,ea,c,n,l,q⟩=>?_)
 subst ex
 obtain rfl:u=Value.ref a:=rx
 exact wT I1 ea c n l fun u' s2 I2 ru=>⟨v,H1,I2,ru,q⟩
theorem E_(ha:PE X o ta)(hv:PE X value tv)(hs:swapsWith value (some (.Attribute o f pos')) pos.line X.env=pure false):PS X (.Assign [.Attribute o f pos'] value pos) (GZ X.K ta tv f):=by
 intro pins s σ H D I h
 refine plainObj_wpAny_Assign_Attribute (bZ (hv pins s σ H _ I h) fun u s1 ⟨y,H1,I1,ry,q⟩=>bZ (ha pins s1 σ H1 _ I1 q) fun ov s2 ⟨x,H2,I2,rx,a,C,dx,fs,ex,ea,c,n,l,q2⟩=>?_) hs
 subst ex
 obtain rfl:ov=Value.ref a:=rx
 exact vM I2 ea c n l ry fun s3 I3=>⟨σ,_,I3,q2⟩
theorem DT{pl:Sem Bool}{m:Str}{apos:Pos}{args:List Expr}{pins:List (Addr×Obj)}{s:Shared}{σ:St}{H:Hp}{Q:Value→Shared→Prop}{te:TE}(he:PE X e te)(I:Inv X pins σ H s)
  (h:te σ H fun x H1=>∃ a C dx fs g,x=.ref a∧H1 a=some (.ins C dx fs)∧Cls X.K C∧Meth X.K C m g∧fs.lookup m=none ∧
   ∀ s1,Inv X pins σ H1 s1→wpAny (model X.prog X.w) X.A (callWith pos (.ref g) [.ref a] (backTo pos (starEach args X.env)) (backToKw pos (keywordEach [] X.env))) Q X.xe s1)
  (ht:eval (.Call (.Attribute e m apos) args [] pos) X.env=(do
   let ov ← eval e X.env
   standAt apos.atName
   let (f,first) ← holding [ov] (getMethod ov m pl)
   callWith pos f first (backTo pos (starEach args X.env)) (backToKw pos (keywordEach [] X.env)))) :
  wpAny (model X.prog X.w) X.A (eval (.Call (.Attribute e m apos) args [] pos) X.env) Q X.xe s:=by
 refine PySem.W.methodCall_KW (pl:=pl) (bZ (he pins s σ H _ I h) fun u s1 ⟨x,H1,I1,rx,a,C,dx,fs,g,ex,ea,c,k,l,q⟩=>?_) ht
 subst ex
 obtain rfl:u=Value.ref a:=rx
 exact jJ I1 ea c k l (q s1 I1)
end
structure Room(k:Nat)(A:Around):Prop where
 hd:A.handled=none
 dp:A.depth+3 * k+5<recursionLimit
 un:A.units+16 * k+200<cLine
theorem Room.mono{j k:Nat}{A:Around}(r:Room k A)(h:j≤k):Room j A:=⟨r.hd,by have:=r.dp;omega,by have:=r.un;omega⟩
theorem Room.deeper{k:Nat}{A:Around}(r:Room (k+1) A)(env:Env):Room k (A.deeper env) :=
 ⟨r.hd,by have:=r.dp;show A.depth+1+3 * k+5<_;omega,by have:=r.un;show A.units+3+16 * k+200<_;omega⟩
theorem Room.in1{k:Nat}{A:Around}(r:Room (k+1) A):Room k A.in1 :=
 ⟨r.hd,by have:=r.dp;show A.depth+3 * k+5<_;omega,by have:=r.un;show A.units+1+16 * k+200<_;omega⟩
theorem vW{A:Around}{C:Addr}{us:List Value}{kw:List (Str×Value)}:(A.under (.builtin "type.__call__" ⟨.ref C::us,kw⟩)).depth=A.depth+1:=by
 first | rfl | simp[Around.under,Code.weight,Code.isCreation,Code.isGuard,Code.isCaller,Code.frames,Code.isFrame,guardIds]
theorem vN{A:Around}{C:Addr}{us:List Value}{kw:List (Str×Value)}:(A.under (.builtin "type.__call__" ⟨.ref C::us,kw⟩)).units=A.units+1:=by
 first | rfl | simp[Around.under,Code.cUnits,Code.frames,Code.isFrame]
theorem Room.make{k:Nat}{A:Around}(r:Room (k+1) A)(C:Addr)(us:List Value)(kw:List (Str×Value)):Room k (A.under (.builtin "type.__call__" ⟨.ref C::us,kw⟩)) :=
 ⟨r.hd,by have:=r.dp;rw[vW];omega,by have:=r.un;rw[vN];omega⟩
theorem Room.depth{k:Nat}{A:Around}(r:Room k A):A.depth<recursionLimit:=by have:=r.dp;omega
theorem Room.units{k:Nat}{A:Around}(r:Room k A):A.units+64<cLine:=by have:=r.un;omega
theorem Room.units0{k:Nat}{A:Around}(r:Room k A):A.units<cLine:=by have:=r.un;omega
def A0:TA:=fun _ H Q=>Q [] H
def AT(ta:TE)(tr:TA):TA:=fun σ H Q=>ta σ H fun x H1=>tr σ H1 fun xs H2=>Q (x::xs) H2
section
variable {X:Cx}{e:Expr}{es:List Expr}{te:TE}{t:TA}{pos:Pos}
theorem aB:PA X [] A0:=fun _ _ _ _ H Q I h=>Calls.spliced_nil ⟨[],H,I,.nil,h⟩
theorem aA(ha:PE X e te)(hr:PA X es t)(hs:starEach (e::es) X.env=(false,eval e X.env)::starEach es X.env:=by rfl):PA X (e::es) (AT te t):=by
 intro pos pins s σ H Q I h
 rw[hs]
 show wpAny _ _ (spliced ((false,eval e X.env)::backTo pos (starEach es X.env))) _ _ s
 refine Calls.spliced_cons (bZ (ha pins s σ H _ I h) fun u s1 ⟨x,H1,I1,r1,q1⟩=>?_)
 exact bZ (hr pos pins s1 σ H1 _ I1 q1) fun us s2 ⟨xs,H2,I2,r2,q2⟩=>⟨x::xs,H2,I2,.cons r1 r2,q2⟩
def HY(t:TA):TE:=fun σ H Q=>t σ H fun xs H1=>xs.length≤sizeLine∧∀ p,H1 p=none→Q (.ref p) (upd H1 p (.tup xs))
def HQ(t:TA):TE:=fun σ H Q=>t σ H fun xs H1=>xs.length≤sizeLine∧∀ p,H1 p=none→Q (.ref p) (upd H1 p (.lst xs))
theorem eO{x1}(h:PA X es t):PE X (.Tuple es x1 pos) (HY t):=by
 intro pins s σ H Q I hq
 refine wpAny_Tuple_spliced (bZ (h pos pins s σ H _ I hq) fun us s1 ⟨xs,H1,I1,r,z,q⟩=>⟨by rw[← r.length];exact z,?_⟩)
 have hf:H1 s1.heap.objs.size=none:=I1.hok.fresh (Nat.le_refl _)
 refine⟨.ref s1.heap.objs.size,upd H1 s1.heap.objs.size (.tup xs),I1.laid (t':=s1.toks) (fun b u e=>Heap.get?_push_of_some _ e) (Nat.le_refl _) ?_,rfl,q _ hf⟩
 exact⟨z,us,r,⟨_,Heap.get?_push_size _ rfl,rfl,_,rfl⟩,NoD.new _ _⟩
theorem dW(h:PA X es t):PE X (.List es pos) (HQ t):=by
 intro pins s σ H Q I hq
 refine wpAny_List_spliced (bZ (h pos pins s σ H _ I hq) fun us s1 ⟨xs,H1,I1,r,z,q⟩=>⟨by rw[← r.length];exact z,?_⟩)
 have hf:H1 s1.heap.objs.size=none:=I1.hok.fresh (Nat.le_refl _)
 refine⟨.ref s1.heap.objs.size,upd H1 s1.heap.objs.size (.lst xs),I1.laid (t':=s1.toks) (fun b u e=>Heap.get?_push_of_some _ e) (Nat.le_refl _) ?_,rfl,q _ hf⟩
 exact⟨z,us,0,r,Heap.get?_push_size _ rfl⟩
end
abbrev Sp:=List V→Hp→VK→XK→Prop
abbrev AA:=List Env→Hp→Shared→XK→Value→Shared→Prop
structure Env0(P:Program)(w:World)(K:PySem.W.Frag)(mg:Str→Option Value)(base:Heap)(A:Around)(outer:List Env)(s:Shared)(H:Hp):Prop where
 frames:A.frames=some outer
 mod:Mod K mg base
 bs:∀ b o,base.get? b=some o→s.heap.get? b=some o∧H b=none
 bsz:base.objs.size≤s.heap.objs.size
 funs:s.heap.FunFrames base outer
 frf:∀ b∈Az outer,H b=none
 hok:HOk P w H s.heap
 bare:AllBare s.gens
def CE(outer:List Env)(P:Program)(w:World)(H:Hp)(s:Shared)(Q:VK)(u:Value)(s':Shared):Prop :=
 ∃ v H',s'.os=s.os∧AllBare s'.gens∧Un (Az outer) [] H H' s.heap s'.heap∧HOk P w H' s'.heap∧RelV v u∧Q v H'
def CR(CX:AA)(outer:List Env)(P:Program)(w:World)(H:Hp)(s:Shared)(Q:VK)(E:XK)(r:Result)(s':Shared):Prop :=
 match r with
 | .ok (.ret u)=>CE outer P w H s Q u s'
 | .ok _=>False
 | .error e=>CX outer H s E e s'
structure FnOk(P:Program)(w:World)(K:PySem.W.Frag)(mg:Str→Option Value)(base:Heap)(CX:AA)(k:Nat)(f:Addr)(fd:FuncData)(ps:List Str)(sp:Sp):Prop where
 len:∀ vs H Q E,sp vs H Q E→vs.length=ps.length
 run:∀ (A:Around) (outer:List Env) (s:Shared) (H:Hp) (args:Args) (us:List Value) (vs:List V) (Q:VK) (E:XK),Room k A→Env0 P w K mg base A outer s H→BindsTo s fd args (ps.zip us)→Vals vs us→sp vs H Q E →
  codeAny (model P w) A (.call (.ref f) args) (CR CX outer P w H s Q E) s
theorem FnOk.mono{P:Program}{w:World}{K:PySem.W.Frag}{mg:Str→Option Value}{base:Heap}{CX:AA}{j k:Nat}{f:Addr}{fd:FuncData}{ps:List Str}{sp:Sp}(F:FnOk P w K mg base CX j f fd ps sp)(h:j≤k) :
  FnOk P w K mg base CX k f fd ps sp:=⟨F.len,fun A outer s H args us vs Q E hr=>F.run A outer s H args us vs Q E (hr.mono h)⟩
theorem Env0.make{P:Program}{w:World}{K:PySem.W.Frag}{mg:Str→Option Value}{base:Heap}{A:Around}{outer:List Env}{s:Shared}{H:Hp}(e:Env0 P w K mg base A outer s H)(C:Addr)(us:List Value)(kw:List (Str×Value)) :
  Env0 P w K mg base (A.under (.builtin "type.__call__" ⟨.ref C::us,kw⟩)) outer s H:=⟨by first | exact e.frames | (simpa [Around.under,Code.envs,Code.isFrame,pushEnvs] using e.frames),e.mod,e.bs,e.bsz,e.funs,e.frf,e.hok,e.bare⟩
section
variable {X:Cx}{pins:List (Addr×Obj)}{σ:St}{H:Hp}{s s':Shared}
theorem Inv.env0(I:Inv X pins σ H s):Env0 X.prog X.w X.K X.mg X.base X.A X.stack s H :=
 ⟨I.ok.frames,I.ok.mod,I.bs,Nat.le_trans I.ok.bsz I.sz,I.stack,I.stkFree,I.hok,I.bare⟩
theorem Inv.after{Q:VK}{u:Value}(I:Inv X pins σ H s)(h:CE X.stack X.prog X.w H s Q u s'):EP X pins σ Q u s':=by
 obtain⟨v,H',os,bare,un,hok,r,q⟩:=h
 obtain⟨hh,g,d,t,os'⟩:=s'
 obtain rfl:os'=s.os:=os
 exact⟨v,H',I.call (h':=hh) (g':=g) (d':=d) (t':=t) (ch:=[]) un hok bare (fun b z=>absurd z (by simp)),r,q⟩
end
def DH(sp:Sp)(dvs:List V)(E:XK)(t:TA):TE:=fun σ H Q=>t σ H fun vs H1=>sp (vs++dvs) H1 Q E
def DG(C:Addr)(m:Str)(sp:Sp)(dvs:List V)(E:XK)(ta:TE)(t:TA):TE:=fun σ H Q=>ta σ H fun x H1=>∃ a dx fs,x=.ref a∧H1 a=some (.ins C dx fs)∧fs.lookup m=none ∧
 t σ H1 fun vs H2=>sp (x::(vs++dvs)) H2 Q E
def Gv(C:Addr)(sp:Sp)(dvs:List V)(E:XK)(t:TA):TE:=fun σ H Q=>t σ H fun vs H1=>∀ x dx,H1 x=none→H1 dx=none→dx≠x →
 sp (.ref x::(vs++dvs)) (upd (upd H1 dx (.own x)) x (.ins C dx [])) (fun v H2=>v=.non∧Q (.ref x) H2) E
def Binds(K:PySem.W.Frag)(fd:FuncData)(ps:List Str)(ds:List Value):Prop :=
 ∀ (s:Shared) (us:List Value),K.In s.heap→(us++ds).length=ps.length→BindsTo s fd ⟨us,[]⟩ (ps.zip (us++ds))
theorem Binds.all{K:PySem.W.Frag}{fd:FuncData}{ps:List Str}(h:∀ us:List Value,us.length=ps.length→bindArgs fd ⟨us,[]⟩=pure (ps.zip us)):Binds K fd ps []:=fun s us _ hl=>by
 rw[List.append_nil] at hl ⊢
 exact .of_eq (h us hl)
def jN(CX:AA)(X:Cx)(E:XK):Prop:=∀ (pins:List (Addr×Obj)) (σ:St) (H:Hp) (s:Shared) (e:Value) (s':Shared),Inv X pins σ H s→CX X.stack H s E e s'→X.xe e s'
section
variable {X:Cx}{CX:AA}{k:Nat}{f C:Addr}{fd:FuncData}{ps:List Str}{sp:Sp}{dvs:List V}{ds:List Value}{E:XK}{x m:Str}{p pos apos:Pos}{e o:Expr}{es:List Expr}{ta:TE}{t:TA}
theorem tG{pins:List (Addr×Obj)}{σ:St}{H:Hp}{s:Shared}{Q:VK}{us:List Value}{vs:List V}(F:FnOk X.prog X.w X.K X.mg X.base CX k f fd ps sp)(hr:Room k X.A)(hb:Binds X.K fd ps ds)(hd:Vals dvs ds)(hx:jN CX X E)
  (I:Inv X pins σ H s) (r:Vals vs us) (h:sp (vs++dvs) H Q E):wpAny (model X.prog X.w) X.A (call (.ref f) us) (EP X pins σ Q) X.xe s:=by
 have r2:Vals (vs++dvs) (us++ds):=r.append hd
 have hl:(us++ds).length=ps.length:=by rw[← r2.length];exact F.len _ _ _ _ h
 refine wpAny_call (codeAny_mono (F.run X.A X.stack s H ⟨us,[]⟩ (us++ds) (vs++dvs) Q E hr I.env0 (hb s us I.kIn hl) r2 h) fun r s' hq=>?_)
 cases r with
 | error e=>exact hx pins σ H s e s' I hq
 | ok fl =>
  cases fl with
  | ret u=>exact I.after hq
  | next=>exact False.elim hq
  | brk=>exact False.elim hq
  | cont=>exact False.elim hq
theorem CI(F:FnOk X.prog X.w X.K X.mg X.base CX k f fd ps sp)(hr:Room k X.A)(hg:Gl X x)(hm:X.mg x=some (.ref f))(hk:PySem.W.keepIn X.K (.ref f)=true)(hb:Binds X.K fd ps ds)(hd:Vals dvs ds)(hx:jN CX X E)
  (ha:PA X (e::es) t) (hdb:(x == ("__debug__":Str))=false:=by decide) (he:starEach (e::es) X.env=(false,eval e X.env)::starEach es X.env:=by rfl) (hpl:(backTo pos (starEach es X.env)).any (·.1)=false:=by rfl) :
  PE X (.Call (.Name x p) (e::es) [] pos) (DH sp dvs E t):=by
 intro pins s σ H Q I h
 refine wpAny_Call_Name_kw (sX I hg hm ?_ hdb)
 refine PySem.W.callWith_K (h₀:=X.base) I.ok.mod.kin hk (bZ (ha pos pins s σ H _ I h) fun us s1 ⟨vs,H1,I1,r,q⟩=>⟨I1.kIn,?_⟩) he hpl
 exact tG F hr hb hd hx I1 r q
theorem cV{pl:Sem Bool}(he:PE X o ta)(c:Cls X.K C)(hm:Meth X.K C m f)(F:FnOk X.prog X.w X.K X.mg X.base CX k f fd ps sp)(hr:Room k X.A)(hb:Binds X.K fd ps ds)(hd:Vals dvs ds)(hx:jN CX X E)(ha:PA X (e::es) t)
  (hst:starEach (e::es) X.env=(false,eval e X.env)::starEach es X.env:=by rfl) (hpl:(backTo pos (starEach es X.env)).any (·.1)=false:=by rfl)
  (ht:eval (.Call (.Attribute o m apos) (e::es) [] pos) X.env=(do
   let ov ← eval o X.env
   standAt apos.atName
   let (f,first) ← holding [ov] (getMethod ov m pl)
   callWith pos f first (backTo pos (starEach (e::es) X.env)) (backToKw pos (keywordEach [] X.env))):=by rfl) :
  PE X (.Call (.Attribute o m apos) (e::es) [] pos) (DG C m sp dvs E ta t):=by
 intro pins s σ H Q I h
 refine PySem.W.methodCall_KW (pl:=pl) (bZ (he pins s σ H _ I h) fun u s1 ⟨x,H1,I1,rx,a,dx,fs,ex,ea,l,q⟩=>?_) ht
 subst ex
 obtain rfl:u=Value.ref a:=rx
 refine jJ I1 ea c hm l ?_
 refine PySem.W.callWith_K (first:=[.ref a]) (h₀:=X.base) I.ok.mod.kin hm.kp (bZ (ha pos pins s1 σ H1 _ I1 q) fun us s2 ⟨vs,H2,I2,r,q2⟩=>⟨I2.kIn,?_⟩) hst hpl
 exact tG (us:=.ref a::us) (vs:=.ref a::vs) F hr hb hd hx I2 (.cons rfl r) q2
theorem oH{pl:Sem Bool}(he:PE X o ta)(c:Cls X.K C)(hm:Meth X.K C m f)(F:FnOk X.prog X.w X.K X.mg X.base CX k f fd ps sp)(hr:Room k X.A)(hb:Binds X.K fd ps ds)(hd:Vals dvs ds)(hx:jN CX X E)
  (ht:eval (.Call (.Attribute o m apos) [] [] pos) X.env=(do
   let ov ← eval o X.env
   standAt apos.atName
   let (f,first) ← holding [ov] (getMethod ov m pl)
   callWith pos f first (backTo pos (starEach [] X.env)) (backToKw pos (keywordEach [] X.env))):=by rfl) :
  PE X (.Call (.Attribute o m apos) [] [] pos) (DG C m sp dvs E ta A0):=by
 intro pins s σ H Q I h
 refine PySem.W.methodCall_KW (pl:=pl) (bZ (he pins s σ H _ I h) fun u s1 ⟨x,H1,I1,rx,a,dx,fs,ex,ea,l,q⟩=>?_) ht
 subst ex
 obtain rfl:u=Value.ref a:=rx
 refine jJ I1 ea c hm l ?_
 exact PySem.W.callWith_K0 (first:=[.ref a]) I1.kIn hm.kp (tG (us:=[.ref a]) (vs:=[.ref a]) F hr hb hd hx I1 (.cons rfl .nil) q)
structure Mk(K:PySem.W.Frag)(C f:Addr):Prop where
 makes:PySem.W.makesIn K C=true
 init:PySem.W.findIn K (.ref C) "__init__"=some (some (.ref f))
 fn:PySem.W.isFn K (.ref f)=true
 kp:PySem.W.keepIn K (.ref C)=true
theorem Bh{pins:List (Addr×Obj)}{σ:St}{H:Hp}{s:Shared}{Q:VK}{us:List Value}{vs:List V}(M:Mk X.K C f)(F:FnOk X.prog X.w X.K X.mg X.base CX k f fd ps sp)(hr:Room (k+1) X.A)(hb:Binds X.K fd ps ds)(hd:Vals dvs ds)
  (hx:jN CX X E) (I:Inv X pins σ H s) (r:Vals vs us)
  (h:∀ x dx,H x=none→H dx=none→dx≠x→sp (.ref x::(vs++dvs)) (upd (upd H dx (.own x)) x (.ins C dx [])) (fun v H2=>v=.non∧Q (.ref x) H2) E) :
  wpAny (model X.prog X.w) X.A (call (.ref C) us) (EP X pins σ Q) X.xe s:=by
 have hq:=h (s.heap.objs.size+1) s.heap.objs.size (I.hok.fresh (Nat.le_succ _)) (I.hok.fresh (Nat.le_refl _)) (Nat.ne_of_lt (Nat.lt_succ_self _))
 have I2:=Inv.made (C:=C) I
 have r2:Vals (V.ref (s.heap.objs.size+1)::(vs++dvs)) (Value.ref (s.heap.objs.size+1)::(us++ds)):=.cons rfl (r.append hd)
 have hl:(Value.ref (s.heap.objs.size+1)::us++ds).length=ps.length:=by
  have e:=r2.length
  rw[F.len _ _ _ _ hq] at e
  exact e.symm
 refine wpAny_call (AW (f:=f) I.kIn M.makes M.init (beq_iff_eq.mp M.fn) (codeAny_mono (F.run _ X.stack _ _ ⟨Value.ref (s.heap.objs.size+1)::us,[]⟩ (Value.ref (s.heap.objs.size+1)::(us++ds)) _ _ E (hr.make C us [])
  (I2.env0.make C us []) (hb _ (Value.ref (s.heap.objs.size+1)::us) I2.kIn hl) r2 hq) fun r s' hq'=>?_))
 cases r with
 | error e=>exact hx pins σ _ _ e s' I2 hq'
 | ok fl =>
  cases fl with
  | ret u =>
   obtain⟨v,H',I3,rv,ev,q3⟩:=I2.after hq'
   subst ev
   exact⟨rv,⟨V.ref (s.heap.objs.size+1),H',I3,rfl,q3⟩⟩
  | next=>exact False.elim hq'
  | brk=>exact False.elim hq'
  | cont=>exact False.elim hq'
theorem uW(M:Mk X.K C f)(F:FnOk X.prog X.w X.K X.mg X.base CX k f fd ps sp)(hr:Room (k+1) X.A)(hg:Gl X x)(hm:X.mg x=some (.ref C))(hb:Binds X.K fd ps ds)(hd:Vals dvs ds)(hx:jN CX X E)
  (hdb:(x == ("__debug__":Str))=false:=by decide):PE X (.Call (.Name x p) [] [] pos) (Gv C sp dvs E A0):=by
 intro pins s σ H Q I h
 refine wpAny_Call_Name_kw (sX I hg hm ?_ hdb)
 exact PySem.W.callWith_K0 I.kIn M.kp (Bh (us:=[]) M F hr hb hd hx I .nil h)
end
def PK(X:Cx)(kws:List Keyword)(t:TA):Prop :=
 ∀ (pos:Pos) (pins:List (Addr×Obj)) (s:Shared) (σ:St) (H:Hp) (Q:List V→Hp→Prop),Inv X pins σ H s→t σ H Q→wpAny (model X.prog X.w) X.A (evalAll ((backToKw pos (keywordEach kws X.env)).map (·.2))) (AP X pins σ Q) X.xe s
section
variable {X:Cx}{CX:AA}{k:Nat}{f C:Addr}{fd:FuncData}{ps ks:List Str}{sp:Sp}{E:XK}{x m:Str}{p pos apos kpos:Pos}{e o:Expr}{es:List Expr}{kws:List Keyword}{te ta:TE}{t tk:TA}{nm:Option Str}
theorem Ec:PK X [] A0:=fun _ _ _ _ H Q I h=>wpAny_evalAll_nil ⟨[],H,I,.nil,h⟩
theorem Dk(ha:PE X e te)(hr:PK X kws t):PK X (⟨nm,e,kpos⟩::kws) (AT te t):=by
 intro pos pins s σ H Q I h
 show wpAny _ _ (evalAll ((do let v ← eval e X.env;standAt pos;pure v)::(backToKw pos (keywordEach kws X.env)).map (·.2))) _ _ s
 refine wpAny_evalAll_cons (wpAny_bind (bZ (ha pins s σ H _ I h) fun u s1 ⟨x,H1,I1,r1,q1⟩=>wpAny_bind (wpAny_standAt (wpAny_pure ?_))))
 exact bZ (hr pos pins s1 σ H1 _ I1 q1) fun us s2 ⟨xs,H2,I2,r2,q2⟩=>⟨x::xs,H2,I2,.cons r1 r2,q2⟩
variable {g:List Value→List Value→List Value}{gV:List V→List V→List V}
end
structure FnScope(N P:List Str)(sc:Scope):Prop where
 kind:sc.kind=.function
 co:sc.isCoroutine=false
 gen:sc.isGenerator=false
 nd:N.Nodup
 pre:N.take P.length=P
 par:∀ x∈P,sc.names.lookup x=some .local∨sc.names.lookup x=some .cell
 nofree:∀ y∈sc.names,y.2≠.free
theorem pS{kindOf:Str→Option NameKind}{x:Str}:∀ {binds:List (Str×Value)} {m:Str→Option Value},(∀ v,(x,v) ∉ binds)→bindL kindOf binds m x=m x
 | [],_,_=>rfl
 | (n,v)::r,m,h=>by
  unfold bindL
  rw[pS fun w hw=>h w (List.mem_cons_of_mem _ hw)]
  split
  ·have:x≠n:=by rintro rfl;exact h v List.mem_cons_self
   simp[this]
  ·rfl
theorem qT{kindOf:Str→Option NameKind}{x:Str}:∀ {binds:List (Str×Value)} {m:Str→Option Value},(∀ v,(x,v) ∉ binds)→bindC kindOf binds m x=m x
 | [],_,_=>rfl
 | (n,v)::r,m,h=>by
  unfold bindC
  rw[qT fun w hw=>h w (List.mem_cons_of_mem _ hw)]
  split
  ·rfl
  ·have:x≠n:=by rintro rfl;exact h v List.mem_cons_self
   simp[this]
theorem qH{kindOf:Str→Option NameKind}{x:Str}{v:Value}:∀ {P:List Str} {vs:List Value} {i:Nat} {m:Str→Option Value},P.Nodup→P[i]?=some x→vs[i]?=some v→kindOf x=some .local →
  bindL kindOf (P.zip vs) m x=some v
 | [],_,_,_,_,h,_,_=>by simp at h
 | _::_,[],_,_,_,_,h,_=>by simp at h
 | p::P,w::vs,0,m,nd,h1,h2,hk=>by
  simp at h1 h2;subst h1;subst h2
  show bindL kindOf ((p,w)::P.zip vs) m p=_
  unfold bindL
  rw[pS fun v hv=>(List.nodup_cons.mp nd).1 (List.of_mem_zip hv).1,if_pos hk]
  simp
 | p::P,w::vs,i+1,m,nd,h1,h2,hk=>by
  show bindL kindOf ((p,w)::P.zip vs) m x=_
  unfold bindL
  exact qH (i:=i) (List.nodup_cons.mp nd).2 (by simpa using h1) (by simpa using h2) hk
theorem qG{kindOf:Str→Option NameKind}{x:Str}{v:Value}:∀ {P:List Str} {vs:List Value} {i:Nat} {m:Str→Option Value},P.Nodup→P[i]?=some x→vs[i]?=some v→kindOf x≠some .local →
  bindC kindOf (P.zip vs) m x=some v
 | [],_,_,_,_,h,_,_=>by simp at h
 | _::_,[],_,_,_,_,h,_=>by simp at h
 | p::P,w::vs,0,m,nd,h1,h2,hk=>by
  simp at h1 h2;subst h1;subst h2
  show bindC kindOf ((p,w)::P.zip vs) m p=_
  unfold bindC
  rw[qT fun v hv=>(List.nodup_cons.mp nd).1 (List.of_mem_zip hv).1,if_neg hk]
  simp
 | p::P,w::vs,i+1,m,nd,h1,h2,hk=>by
  show bindC kindOf ((p,w)::P.zip vs) m x=_
  unfold bindC
  exact qG (i:=i) (List.nodup_cons.mp nd).2 (by simpa using h1) (by simpa using h2) hk
def mC(N:List Str)(vs:List V):St:=vs.map some++List.replicate (N.length - vs.length) none
def As(CX:AA)(P:Program)(w:World)(K:PySem.W.Frag)(mg:Str→Option Value)(base:Heap)(N:List Str)(qual:Str)(scope:Scope)(f:Addr)(cd:Value)(A:Around)(outer:List Env)(s:Shared)(H:Hp)(E:XK):Cx where
 prog:=P
 w:=w
 K:=K
 mg:=mg
 base:=base
 A:=A.deeper (envOfC qual scope s.heap.objs.size f cd)
 N:=N
 s₀:=s
 H₀:=H
 env:=envOfC qual scope s.heap.objs.size f cd
 outer:=outer
 stack:=envOfC qual scope s.heap.objs.size f cd::outer
 ex:=[]
 calm:=true
 fn:=fun _=>true
 pn:=[]
 xe:=fun e s'=>wpAny (model P w) (A.deeper (envOfC qual scope s.heap.objs.size f cd)) (leaving (envOfC qual scope s.heap.objs.size f cd) e) (fun _ s''=>CX outer H s E e s'') (fun e' s''=>CX outer H s E e' s'') s'
theorem uQ{sc:Scope}{n:Nat}{x:Str}(h:sc.names.lookup x=some .cell):∃ c,(cellsFrom n sc.names []).lookup x=some c:=by
 have q:=PySem.W.cellsFrom_some sc.names n [] (.inl h)
 exact Option.isSome_iff_exists.mp q
theorem zA{CX:AA}{P:Program}{w:World}{K:PySem.W.Frag}{mg:Str→Option Value}{base:Heap}{N ps:List Str}{qual:Str}{scope:Scope}{f:Addr}{cd:Value}{A:Around}{outer:List Env}{s s1:Shared}{H:Hp}{E:XK}{us:List Value}{vs:List V}
  (S:FnScope N ps scope) (hd:A.handled=none) (e0:Env0 P w K mg base A outer s H) (hl:vs.length=ps.length) (r:Vals vs us)
  (x:InCallC s s.heap.objs.size (bindL (envOfC qual scope s.heap.objs.size f cd).kindOf (ps.zip us) fun _=>none) (cellsFrom (s.heap.objs.size+1) scope.names []) (bindC (envOfC qual scope s.heap.objs.size f cd).kindOf (ps.zip us) fun _=>none) s1) :
  Inv (As CX P w K mg base N qual scope f cd A outer s H E) [] (mC N vs) H s1:=by
 have hpl:ps.length≤N.length:=by have:=congrArg List.length S.pre;rw[List.length_take] at this;omega
 obtain⟨h1,tk,rfl,hk⟩:=x.done
 have noA:∀ b:Addr,b ∉ (As CX P w K mg base N qual scope f cd A outer s H E).ex:=fun b z=>absurd (show b∈([]:List Addr) from z) (by simp)
 refine⟨⟨e0.mod,S.kind,rfl,rfl,Nat.le_refl _,fun y z c h1 h2=>?_,fun y hy=>?_,fun y c _ h=>?_,fun _=>hd,Around.frames_deeper e0.frames,.inr ⟨rfl,rfl⟩,fun b z=>absurd z (noA b),e0.bs,e0.bsz,fun b _ _=>noA b,fun b z=>absurd z (noA b),e0.funs,e0.frf⟩,
  rfl,e0.bare,Un.kept hk,⟨_,x.toInCall.ns,fun i y v h1 h2 h3=>?_⟩,fun y c h=>⟨_,x.cell y c h⟩,e0.hok.fresh (Nat.le_refl _),fun y c h=>?_,fun p hp=>absurd (show p∈([]:List (Addr×Obj)) from hp) (by simp),e0.hok.kept hk,?_⟩
 ·exact name_of_addr x.apart (PySem.mem_of_lookup h1) (PySem.mem_of_lookup h2)
 ·have hy:scope.names.lookup y=some .cell∨scope.names.lookup y=some .free:=hy
  rcases hy with hy | hy
  ·exact uQ hy
  ·exact absurd rfl (S.nofree _ (PySem.mem_of_lookup hy))
 ·exact Nat.le_of_lt (x.above y c (PySem.mem_of_lookup h))
 ·have hi:i<vs.length:=by
   unfold mC at h2
   by_cases hi:i<vs.length
   ·exact hi
   ·rw[List.getElem?_append_right (by simpa using hi)] at h2
    rw[List.getElem?_replicate] at h2
    split at h2 <;> cases h2
  have ha:vs[i]?=some v:=by
   unfold mC at h2
   rw[List.getElem?_append_left (by simpa using hi),List.getElem?_map] at h2
   cases e:vs[i]? with
   | none=>rw[e] at h2;cases h2
   | some a=>rw[e] at h2;cases h2;rfl
  obtain⟨u,hu,rv⟩:=r.get ha
  have hp:ps[i]?=some y:=by
   rw[← S.pre,List.getElem?_take_of_lt (by omega)];exact h1
  have ndP:ps.Nodup:=by rw[← S.pre];exact S.nd.sublist (List.take_sublist _ _)
  refine⟨u,rv,?_⟩
  rcases S.par y (List.mem_of_getElem? hp) with k | k
  ·exact .inl ⟨k,qH ndP hp hu k⟩
  ·obtain⟨c,e⟩:=uQ (n:=s.heap.objs.size+1) k
   refine .inr ⟨.inl k,c,e,?_⟩
   have q:=x.cell y c e
   rw[qG ndP hp hu (by show scope.names.lookup y≠_;rw[k];decide)] at q
   exact q
 ·exact e0.hok.fresh (Nat.le_of_lt (x.above y c (PySem.mem_of_lookup h)))
 ·unfold mC
  show _=N.length
  rw[List.length_append,List.length_map,List.length_replicate]
  omega
theorem Gh{CX:AA}{P:Program}{w:World}{K:PySem.W.Frag}{mg:Str→Option Value}{base:Heap}{k:Nat}{f:Addr}{name qual:Str}{params:Arguments}{body:List Stmt}{scope:Scope}{dV kV doc pm cdv ct oc:Value}{an od:Option Addr}
  {osl:Array (Option Value)} {N ps:List Str} {sp:Sp} (lk:K.lookup f=some ⟨oc,od,.func (PySem.W.fnOf name qual params body scope dV kV doc pm an cdv ct),osl⟩) (hcd:PySem.W.codeIn K cdv qual=true) (S:FnScope N ps scope)
  (len:∀ vs H Q E,sp vs H Q E→vs.length=ps.length)
  (hbody:∀ (A:Around) (outer:List Env) (s:Shared) (H:Hp) (vs:List V) (Q:VK) (E:XK),Room k (A.deeper (envOfC qual scope s.heap.objs.size f cdv))→sp vs H Q E →
   ∃ t,PSs (As CX P w K mg base N qual scope f cdv A outer s H E) body t∧t { nx:=fun _ H'=>Q .non H',rt:=Q } (mC N vs) H) :
  FnOk P w K mg base CX (k+1) f (PySem.W.fnOf name qual params body scope dV kV doc pm an cdv ct) ps sp:=by
 refine⟨len,fun A outer s H args us vs Q E hr e0 hb r hsp=>?_⟩
 have hl:=len _ _ _ _ hsp
 have KX:K.In s.heap:=e0.mod.kin.keeps fun b o e=>(e0.bs b o e).1
 have lim:s.heap.NoLimit:=e0.mod.nolimit.keeps fun b o e=>(e0.bs b o e).1
 have hkind:∀ y∈ps.zip us,scope.names.lookup y.1=some .local∨(scope.names.lookup y.1=some .cell∧((cellsFrom (s.heap.objs.size+1) scope.names []).lookup y.1).isSome=true):=fun ⟨n,v⟩ hy=>by
  rcases S.par n (List.of_mem_zip hy).1 with q | q
  ·exact .inl q
  ·exact .inr ⟨q,PySem.W.cellsFrom_some _ _ _ (.inl q)⟩
 refine codeAny_call_function hr.depth (KX _ _ lk) rfl S.co S.gen rfl (PySem.W.codeRec_of KX hcd) (hb _ _ _ _ ?_)
 refine wpAny_newFunctionEnv_cells S.kind hkind fun env he s1 x=>?_
 subst he
 refine⟨lim.keeps x.toInCall.keep,codeAny_func ?_⟩
 obtain⟨t,ht,hq⟩:=hbody A outer s H vs Q E (hr.deeper _) hsp
 have I:Inv (As CX P w K mg base N qual scope f cdv A outer s H E) [] (mC N vs) H s1:=zA S hr.hd e0 hl r x
 refine wpAny_mono (ht [] s1 (mC N vs) H _ I hq) (fun fl s' hs=>?_) fun e s' hs=>hs
 have fin:∀ {σ':St} {H':Hp} {v:V} {u:Value},Inv (As CX P w K mg base N qual scope f cdv A outer s H E) [] σ' H' s'→RelV v u→Q v H'→CE outer P w H s Q u s' :=
  fun {σ' H' v u} J rv q=>⟨v,H',J.os,J.bare,J.base,J.hok,rv,q⟩
 cases fl with
 | ret u =>
  obtain⟨v,σ',H',J,rv,q⟩:=hs
  exact fin J rv q
 | next =>
  obtain⟨σ',H',J,q⟩:=hs
  exact fin (v:=V.non) (u:=Value.none) J rfl q
 | brk =>
  obtain⟨_,_,_,q⟩:=hs
  exact False.elim q
 | cont =>
  obtain⟨_,_,_,q⟩:=hs
  exact False.elim q
section
variable {X:Cx}{x:Str}{p pos:Pos}{e:Expr}{es:List Expr}{t:TA}{id T:String}{r:List V→Hp→VK→Prop}
def IM(r:List V→Hp→VK→Prop)(t:TA):TE:=fun σ H Q=>t σ H fun vs H1=>r vs H1 Q
theorem bR(hc:fX X (.builtin id) r)(hg:Gl X x)(hm:X.mg x=none)(hv:bootBuiltins x=some (.builtin id))(ha:PA X (e::es) t)(hn:x≠"__name__":=by decide)(hdb:(x == ("__debug__":Str))=false:=by decide)
  (he:starEach (e::es) X.env=(false,eval e X.env)::starEach es X.env:=by rfl) (hpl:(backTo pos (starEach es X.env)).any (·.1)=false:=by rfl):PE X (.Call (.Name x p) (e::es) [] pos) (IM r t):=by
 intro pins s σ H Q I h
 refine wpAny_Call_Name_kw (hJ I hg hm hv ?_ hn hdb)
 exact PyProof.Rows.callWith_builtin1 (bZ (ha pos pins s σ H _ I h) fun us s1 ⟨vs,H1,I1,r1,q1⟩=>hc pins s1 σ H1 vs us Q I1 r1 q1) he hpl
theorem bB(hc:fX X (.type T) r)(hg:Gl X x)(hm:X.mg x=none)(hv:bootBuiltins x=some (.type T))(ha:PA X (e::es) t)(hn:x≠"__name__":=by decide)(hdb:(x == ("__debug__":Str))=false:=by decide)
  (he:starEach (e::es) X.env=(false,eval e X.env)::starEach es X.env:=by rfl) (hpl:(backTo pos (starEach es X.env)).any (·.1)=false:=by rfl):PE X (.Call (.Name x p) (e::es) [] pos) (IM r t):=by
 intro pins s σ H Q I h
 refine wpAny_Call_Name_kw (hJ I hg hm hv ?_ hn hdb)
 exact PyProof.Rows.callWith_type1 (bZ (ha pos pins s σ H _ I h) fun us s1 ⟨vs,H1,I1,r1,q1⟩=>hc pins s1 σ H1 vs us Q I1 r1 q1) he hpl
end
end L2
namespace HT
open PySem PyProof.Rows
def lexLt:List Int→List Int→Bool
 | [],[]=>false
 | [],_::_=>true
 | _::_,[]=>false
 | x::xs,y::ys=>if x=y then lexLt xs ys else decide (x<y)
theorem lexLt_cons(x y:Int)(xs ys:List Int):lexLt (x::xs) (y::ys)=if x=y then lexLt xs ys else decide (x<y):=rfl
theorem BC(A:Around)(s:Shared)(a:Int)(t:Tok)(c:Int)(u:Tok)(prog:Program)(w:World)(E:Value→Shared→Prop)(Q:Value→Shared→Prop)(h:Q (.bool (decide (a<c))) s) :
  wpAny (model prog w) A (richCompare .Lt (.int a t) (.int c u)) Q E s :=
 (PyProof.Rows.lt_int h:wpAny (model prog w) A (compareOp .Lt (.int a t) (.int c u)) Q E s)
section
variable {prog:Program}{w:World}{A:Around}{E:Value→Shared→Prop}{s:Shared}
theorem cat_tup{t b:Addr}{vs ws:List Value}{Q:Value→Shared→Prop}(ht:IsTup s.heap t vs.toArray)(hb:IsTup s.heap b ws.toArray)(hv:vs≠[])
  (h1:ws=[]→Q (.ref t) s) (h2:ws≠[]→Q (.ref s.heap.objs.size) { s with heap:=s.heap.push { cls:=.type "tuple",data:=.seq (vs++ws).toArray } })
  (hsz:vs.length+ws.length≤sizeLine):wpAny (model prog w) A (binaryOp .Add (.ref t) (.ref b)) Q E s:=by
 obtain⟨⟨cls,dd,data,sl⟩,ho,hc,n,hd⟩:=id ht
 obtain⟨⟨cls2,dd2,data2,sl2⟩,ho2,hc2,n2,hd2⟩:=id hb
 simp only at hc hd hc2 hd2
 subst hc hd hc2 hd2
 have e:vs.toArray++ws.toArray=(vs++ws).toArray:=by simp
 by_cases hw:ws=[]
 ·exact concat_meets ⟨_,ho,rfl⟩ ⟨_,ho2,rfl⟩ noFill_tuple_add seq_tuple_add PySem.F.slot_tuple_add PySem.F.entry_tuple_add (PySem.F.args_tuple_add_2 _ _)
   (tuple_addW1 t b vs.toArray ws.toArray n n2 dd dd2 sl sl2 (by simpa using hv) (by simp[hw])) ⟨ho,ho2,h1 hw⟩
 ·refine concat_meets ⟨_,ho,rfl⟩ ⟨_,ho2,rfl⟩ noFill_tuple_add seq_tuple_add PySem.F.slot_tuple_add PySem.F.entry_tuple_add (PySem.F.args_tuple_add_2 _ _)
   (tuple_addW2 t b vs.toArray ws.toArray n n2 dd dd2 sl sl2 (by simpa using hv) (by simpa using hw) (by rw[List.size_toArray,List.size_toArray];exact hsz)) ⟨ho,ho2,?_⟩
  rw[e]
  exact h2 hw
def sIx(n d:Nat):Option Int→Nat
 | none=>d
 | some v=>if v<0 then (v+(n:Int)).toNat else min v.toNat n
theorem Fl(n d:Nat)(hd:d≤n)(o:Option Int):sIx n d o≤n:=by
 cases o with
 | none=>exact hd
 | some v =>
  show (if v<0 then (v+(n:Int)).toNat else min v.toNat n)≤n
  by_cases hv:v<0
  ·rw[if_pos hv];omega
  ·rw[if_neg hv];exact Nat.min_le_right _ _
theorem xV(v:Int)(n d:Nat):(if v<0 then max (v+(n:Int)) 0 else min v (n:Int))=((sIx n d (some v):Nat):Int):=by
 show (if v<0 then max (v+(n:Int)) 0 else min v (n:Int))=(((if v<0 then (v+(n:Int)).toNat else min v.toNat n):Nat):Int)
 by_cases hv:v<0
 ·simp only [if_pos hv];omega
 ·simp only [if_neg hv];omega
theorem vP(lo hi:Option Int)(n:Nat):Builtin.Slice.sliceAdjust lo hi 1 (n:Int)=(((sIx n 0 lo:Nat):Int),((sIx n n hi:Nat):Int)):=by
 have h1:¬ ((1:Int)<0):=by omega
 unfold Builtin.Slice.sliceAdjust
 simp only [h1,if_false]
 refine Prod.ext ?_ ?_
 ·cases lo with
  | none=>rfl
  | some v=>exact xV v n 0
 ·cases hi with
  | none=>rfl
  | some v=>exact xV v n n
theorem wF(i j:Nat):Builtin.Slice.slicePlaces (i:Int) (j:Int) 1=j - i:=by
 unfold Builtin.Slice.slicePlaces
 have h1:(1:Int) > 0:=by omega
 simp only [h1,if_true,Int.ediv_one]
 split <;> omega
theorem slicePart_{v:Value}{o:Option Int}{Q:Option Int→Shared→Prop}(p:IsPart v o)(h:Q o s):wpAny (model prog w) A (Builtin.Slice.slicePartIndex v) Q E s:=by
 cases p with
 | none=>exact slicePart_none h
 | int i t=>exact slicePart_int h
theorem sliceApplied_gen{sl:Addr}{vl vu:Value}{lo hi:Option Int}{n:Nat}{Q:Int×Int×Nat→Shared→Prop}(hs:s.heap.IsSliceOf sl vl vu .none)(pl:IsPart vl lo)(pu:IsPart vu hi)
  (h:Q (((sIx n 0 lo:Nat):Int),1,sIx n n hi - sIx n 0 lo) s):wpAny (model prog w) A (Builtin.Slice.sliceApplied (.ref sl) (pure (n:Int))) Q E s:=by
 obtain⟨os,hos,hcs,hds⟩:=id hs
 unfold Builtin.Slice.sliceApplied Builtin.Slice.sliceFields
 refine wpAny_bind (wpAny_bind (wpAny_field hos hds (x:=vl) rfl (wpAny_bind (wpAny_field hos hds (x:=vu) rfl (wpAny_bind (wpAny_field hos hds (x:=.none) rfl (wpAny_pure ?_)))))))
 refine wpAny_bind (slicePart_none ?_)
 show wpAny _ _ (if ((1:Int) == 0)=true then _ else _) _ _ s
 rw[if_neg (by decide)]
 refine wpAny_bind (slicePart_ pl (wpAny_bind (slicePart_ pu (wpAny_bind (wpAny_pure ?_)))))
 show wpAny _ _ (match Builtin.Slice.sliceAdjust lo hi 1 (n:Int) with | (lo,hi)=>pure (lo,(1:Int),Builtin.Slice.slicePlaces lo hi 1)) _ _ s
 rw[vP lo hi n]
 show wpAny _ _ (pure (((sIx n 0 lo:Nat):Int),(1:Int),Builtin.Slice.slicePlaces ((sIx n 0 lo:Nat):Int) ((sIx n n hi:Nat):Int) 1)) _ _ s
 rw[wF]
 exact wpAny_pure h
theorem A4(xs:Array Value)(i k:Nat):((List.range k).filterMap fun (m:Nat)=>xs[((i:Int)+(m:Int) * 1).toNat]?).toArray=((xs.toList.drop i).take k).toArray:=by
 have e:(fun (m:Nat)=>xs[((i:Int)+(m:Int) * 1).toNat]?)=fun m=>xs[i+m]?:=by
  funext m
  have:((i:Int)+(m:Int) * 1).toNat=i+m:=by omega
  rw[this]
 rw[e]
 have:=pick_run xs i k
 rw[List.filterMap_map] at this
 have e2:((fun x=>xs[x]?) ∘ fun x=>i+x)=fun m=>xs[i+m]?:=rfl
 rw[e2] at this
 rw[this]
theorem getItem_tuple_cut{t sl:Addr}{items:Array Value}{vl vu:Value}{lo hi:Option Int}{Q:Value→Shared→Prop}(ht:IsTup s.heap t items)(hs:s.heap.IsSliceOf sl vl vu .none)(pl:IsPart vl lo)(pu:IsPart vu hi)
  (hw:¬ (sIx items.size 0 lo=0∧sIx items.size items.size hi=items.size))
  (h:Q (.ref s.heap.objs.size) { s with heap:=s.heap.push { cls:=.type "tuple",data:=.seq ((items.toList.drop (sIx items.size 0 lo)).take (sIx items.size items.size hi - sIx items.size 0 lo)).toArray } })
  (hsz:items.size≤sizeLine):wpAny (model prog w) A (getItem (.ref t) (.ref sl)) Q E s:=by
 have htake:sizeOk (.seq ((items.toList.drop (sIx items.size 0 lo)).take (sIx items.size items.size hi - sIx items.size 0 lo)).toArray):=by
  show ((items.toList.drop (sIx items.size 0 lo)).take (sIx items.size items.size hi - sIx items.size 0 lo)).toArray.size≤sizeLine
  rw[List.size_toArray,List.length_take,List.length_drop,Array.length_toList]
  omega
 have hj:sIx items.size items.size hi≤items.size:=Fl _ _ (Nat.le_refl _) hi
 obtain⟨os,hos,hcs,hds⟩:=id hs
 have hTs:s.TypeIs (.ref sl) "slice":=⟨os,hos,hcs⟩
 unfold getItem
 try with_reducible refine wpAny_holding ?_
 first | refine wpAny_bind (wpAny_pure ?_) | skip
 refine wpAny_bind (wpAny_sequenceKey ht.typeIs (by decide) ?_)
 refine wpAny_bind (wpAny_callSpecial?_slot (name:=Str.ofString "__getitem__") ht.typeIs PyProof.Rows.slot_tuple_getitem
  (wpAny_call_entry PyProof.Rows.slot_tuple_getitem ht.typeIs entry_tuple_getitem ?_ (args_tuple_getitem _ _)))
 show wpAny _ _ (Builtin.Tuple.tupleItemsOf (.ref t) >>= _) _ _ s
 refine wpAny_bind (tupleItemsOf_ ht ?_)
 refine wpAny_bind (wpAny_typeOf hTs ?_)
 rw[if_pos (by decide)]
 refine wpAny_bind (sliceApplied_gen hs pl pu ?_)
 have hno:¬ ((((sIx items.size 0 lo:Nat):Int) == 0 && (1:Int) == 1 && (sIx items.size items.size hi - sIx items.size 0 lo) == items.size)=true):=by
  intro q
  rw[Bool.and_eq_true,Bool.and_eq_true] at q
  have q1:((sIx items.size 0 lo:Nat):Int)=0:=eq_of_beq q.1.1
  have q2:sIx items.size items.size hi - sIx items.size 0 lo=items.size:=eq_of_beq q.2
  exact hw ⟨by omega,by omega⟩
 show wpAny _ _ (if (((sIx items.size 0 lo:Nat):Int) == 0 && (1:Int) == 1 && (sIx items.size items.size hi - sIx items.size 0 lo) == items.size)=true then _ else _) _ _ s
 rw[if_neg hno,A4]
 first
  | exact wpAny_bind (m:=Builtin.Tuple.tupleExact _) (wpAny_newObj_type (wpAny_pure ⟨_,rfl,wpAny_pure h⟩) htake)
  | exact wpAny_bind (m:=Builtin.Tuple.tupleExact _) (wpAny_newObj_type (wpAny_bind (wpAny_pure (wpAny_pure ⟨_,rfl,wpAny_pure h⟩))) htake)
  | exact wpAny_bind (wpAny_bind (m:=Builtin.Tuple.tupleExact _) (wpAny_newObj_type (wpAny_pure (wpAny_pure ⟨_,rfl,wpAny_pure h⟩)) htake))
  | exact wpAny_bind (wpAny_bind (m:=Builtin.Tuple.tupleExact _) (wpAny_newObj_type (wpAny_pure ⟨_,rfl,wpAny_pure h⟩) htake))
end
end HT
namespace L2
open PySem PySem.Spec PyProof.Rows
abbrev TO:=St→Hp→(Option Int→Hp→Prop)→Prop
def PO(X:Cx)(e:Option Expr)(t:TO):Prop :=
 ∀ (pins:List (Addr×Obj)) (s:Shared) (σ:St) (H:Hp) (Q:Option Int→Hp→Prop),Inv X pins σ H s→t σ H Q →
  wpAny (model X.prog X.w) X.A (evalPart e X.env) (fun u s'=>∃ o H',Inv X pins σ H' s'∧IsPart u o∧Q o H') X.xe s
def CG:TO:=fun _ H Q=>Q none H
def Go(t:TE):TO:=fun σ H Q=>t σ H fun x H1=>∃ i,x=.int i∧Q (some i) H1
theorem oQ{ns:List Int}:∀ {us:List Value},Vals (ns.map V.int) us→IntsAre us ns:=by
 induction ns with
 | nil=>intro us r;rw[List.map_nil] at r;cases r;exact .nil
 | cons n ns ih =>
  intro us r
  rw[List.map_cons] at r
  cases r with
  | cons r1 r2 =>
   obtain⟨t,e⟩:=r1
   subst e
   exact .cons n t (ih r2)
section
variable {X:Cx}{e:Expr}{te:TE}{lo hi:Option Expr}{tl th:TO}{pos p2:Pos}
theorem fV:PO X none CG:=by
 intro pins s σ H Q I h
 rw[evalPart_none]
 exact wpAny_pure ⟨none,H,I,.none,h⟩
theorem fE(h:PE X e te):PO X (some e) (Go te):=by
 intro pins s σ H Q I hw
 rw[evalPart_some]
 refine bZ (h pins s σ H _ I hw) fun u s1 ⟨x,H1,I1,r1,q1⟩=>?_
 obtain⟨i,rfl,q⟩:=q1
 obtain⟨t,rfl⟩:=r1
 exact⟨some i,H1,I1,.int i t,q⟩
def FX(X:Cx)(r:V→Option Int→Option Int→Hp→VK→Prop):Prop :=
 ∀ (pins:List (Addr×Obj)) (s:Shared) (σ:St) (H:Hp) (x:V) (v vl vu:Value) (lo hi:Option Int) (sl:Addr) (Q:VK),Inv X pins σ H s→RelV x v→s.heap.IsSliceOf sl vl vu .none→IsPart vl lo→IsPart vu hi→r x lo hi H Q →
  ∃ T id,typeLookup (.type T) "__getitem__"=pure (some (.builtin id))∧s.TypeIs v T∧wpAny (model X.prog X.w) X.A (getItem v (.ref sl)) (EP X pins σ Q) X.xe s
def IZ(r:V→Option Int→Option Int→Hp→VK→Prop)(te:TE)(tl th:TO):TE:=fun σ H Q=>te σ H fun x H1=>tl σ H1 fun l H2=>th σ H2 fun u H3=>r x l u H3 Q
theorem fM{r:V→Option Int→Option Int→Hp→VK→Prop}(hr:FX X r)(he:PE X e te)(hl:PO X lo tl)(hu:PO X hi th):PE X (.Subscript e (.Slice lo hi none p2) pos) (IZ r te tl th):=by
 intro pins s σ H Q I h
 refine Subscript_ (bZ (he pins s σ H _ I h) fun v s1 ⟨x,H1,I1,r1,q1⟩=>?_)
 refine wpAny_Slice (bZ (hl pins s1 σ H1 _ I1 q1) fun vl s2 ⟨l,H2,I2,pl,q2⟩=>bZ (hu pins s2 σ H2 _ I2 q2) fun vu s3 ⟨u,H3,I3,pu,q3⟩=>?_)
 rw[evalPart_none]
 refine wpAny_pure ?_
 have I4:Inv X pins σ H3 { s3 with heap:=s3.heap.push { cls:=.type "slice",data:=.fields #[vl,vu,.none] } }:=I3.kept (t':=s3.toks) fun b ob q=>Heap.get?_push_of_some _ q
 obtain⟨T,id,hT,ht,hg⟩:=hr pins { s3 with heap:=s3.heap.push { cls:=.type "slice",data:=.fields #[vl,vu,.none] } } σ H3 x v vl vu l u s3.heap.objs.size Q I4 r1 (Heap.IsSliceOf.new ..) pl pu q3
 show wpAny (model X.prog X.w) X.A (subscriptTail e (.Slice lo hi none p2) v (.ref s3.heap.objs.size)) (EP X pins σ Q) X.xe { s3 with heap:=s3.heap.push { cls:=.type "slice",data:=.fields #[vl,vu,.none] } }
 exact tail_any (ops:=[.ref s3.heap.objs.size,v]) ht hT hg (by with_unfolding_all rfl)
def uM(xs:List V)(lo hi:Option Int):List V:=(xs.drop (HT.sIx xs.length 0 lo)).take (HT.sIx xs.length xs.length hi - HT.sIx xs.length 0 lo)
theorem mD(xs:List V)(lo hi:Option Int):(uM xs lo hi).length≤xs.length:=by
 unfold uM
 rw[List.length_take,List.length_drop]
 omega
def Id(K:PySem.W.Frag):V→Option Int→Option Int→Hp→VK→Prop:=fun x lo hi H Q=>∃ a xs,x=.ref a∧SqT K H a xs ∧
 ¬ (HT.sIx xs.length 0 lo=0∧HT.sIx xs.length xs.length hi=xs.length)∧∀ p,H p=none→Q (.ref p) (upd H p (.tup (uM xs lo hi)))
theorem Fh:FX X (Id X.K):=by
 intro pins s σ H x v vl vu lo hi sl Q I rx hs pl pu h
 obtain⟨a,xs,rfl,hx,hw,q⟩:=h
 cases rx
 obtain⟨its,r,ht,hz⟩:=I.tuple hx
 have hlen:its.toArray.size=xs.length:=by rw[List.size_toArray];exact r.length.symm
 refine⟨"tuple",_,PyProof.Rows.slot_tuple_getitem.lookup,ht.typeIs,?_⟩
 refine HT.getItem_tuple_cut ht hs pl pu (by rw[hlen];exact hw) ?_ (by rw[hlen];exact hz)
 rw[hlen]
 refine⟨.ref s.heap.objs.size,_,I.laid (t':=s.toks) (o:=.tup (uM xs lo hi)) (fun b ob q=>Heap.get?_push_of_some _ q) (Nat.le_refl _) ?_,rfl,q _ (I.hok.fresh (Nat.le_refl _))⟩
 exact⟨Nat.le_trans (mD xs lo hi) hz,_,(r.drop (HT.sIx xs.length 0 lo)).take (HT.sIx xs.length xs.length hi - HT.sIx xs.length 0 lo),IsTup.new _ _,NoD.new _ _⟩
def DP(K:PySem.W.Frag):R2:=fun x y H Q=>∃ a b xs ys,x=.ref a∧y=.ref b∧SqT K H a xs∧SqT K H b ys∧xs≠[]∧xs.length+ys.length≤sizeLine ∧
 (ys=[]→Q (.ref a) H)∧(ys≠[]→∀ p,H p=none→Q (.ref p) (upd H p (.tup (xs++ys))))
theorem Vals.nil_iff{xs:List V}{us:List Value}(r:Vals xs us):us=[]↔xs=[]:=by
 cases r with
 | nil=>simp
 | cons _ _=>simp
theorem Di:jA X (binaryOp .Add) (DP X.K):=by
 intro pins s σ H x y v u Q I rx ry h
 obtain⟨a,b,xs,ys,rfl,rfl,ha,hb,hx,hz,q1,q2⟩:=h
 cases rx
 cases ry
 obtain⟨its,r1,p1,_⟩:=I.tuple ha
 obtain⟨its2,r2,p2,_⟩:=I.tuple hb
 refine HT.cat_tup p1 p2 (fun z=>hx (r1.nil_iff.mp z)) (fun z=>⟨.ref a,H,I,rfl,q1 (r2.nil_iff.mp z)⟩) (fun z=>?_) (by rw[← r1.length,← r2.length];exact hz)
 refine⟨.ref s.heap.objs.size,_,I.laid (t':=s.toks) (o:=.tup (xs++ys)) (fun b ob q=>Heap.get?_push_of_some _ q) (Nat.le_refl _) ?_,rfl,q2 (fun w=>z (r2.nil_iff.mpr w)) _ (I.hok.fresh (Nat.le_refl _))⟩
 exact⟨by rw[List.length_append];exact hz,_,r1.append r2,IsTup.new _ _,NoD.new _ _⟩
end
def AL(n:Nat)(i:Int):Option Nat:=if 0≤i then (if i<n then some i.toNat else none) else if -(n:Int)≤i then some (i+n).toNat else none
def vJ{α:Type}(xs:List α)(i:Int):Option α:=(AL xs.length i).bind fun j=>xs[j]?
theorem xQ{n:Nat}{i:Int}{j:Nat}(h:AL n i=some j):seqIndex? i n=some j∧j<n∧-(n:Int)≤i∧i<n:=by
 unfold AL at h
 by_cases h0:0≤i
 ·rw[if_pos h0] at h
  by_cases h1:i<n
  ·rw[if_pos h1] at h
   have e:i.toNat=j:=Option.some.inj h
   exact⟨by rw[seqIndex_of h0 h1,e],by omega,by omega,h1⟩
  ·rw[if_neg h1] at h;cases h
 ·rw[if_neg h0] at h
  by_cases h1:-(n:Int)≤i
  ·rw[if_pos h1] at h
   have e:(i+n).toNat=j:=Option.some.inj h
   exact⟨by rw[seqIndex_neg (by omega) h1,e],by omega,h1,by omega⟩
  ·rw[if_neg h1] at h;cases h
theorem tE{α:Type}{xs:List α}{i:Int}{v:α}(h:vJ xs i=some v):∃ j,seqIndex? i xs.length=some j∧xs[j]?=some v∧j<xs.length∧-(xs.length:Int)≤i∧i<xs.length:=by
 unfold vJ at h
 cases e:AL xs.length i with
 | none=>rw[e] at h;cases h
 | some j =>
  rw[e] at h
  obtain⟨h1,h2,h3,h4⟩:=xQ e
  exact⟨j,h1,h,h2,h3,h4⟩
theorem cT{α:Type}{xs:List α}{j:Nat}{v:α}(h:xs[j]?=some v):vJ xs (j:Int)=some v:=by
 have hj:j<xs.length:=(List.getElem?_eq_some_iff.mp h).1
 have e:AL xs.length (j:Int)=some j:=by
  unfold AL
  rw[if_pos (by omega),if_pos (by omega)];simp
 unfold vJ;rw[e];exact h
theorem nD{α:Type}(xs:List α)(v:α):vJ (xs++[v]) (-1)=some v:=by
 have hl:(xs++[v]).length=xs.length+1:=by simp
 have e:AL (xs++[v]).length (-1)=some xs.length:=by
  unfold AL
  rw[hl,if_neg (by decide),if_pos (by omega)]
  congr 1
  omega
 unfold vJ
 rw[e]
 show (xs++[v])[xs.length]?=some v
 simp
def Cj(b:Expr):Prop:=∀ o i,subscripted b false o i=operate [o,i] (getItem o i)
def EZ(X:Cx)(r:R2):Prop :=
 ∀ (value slice:Expr) (pins:List (Addr×Obj)) (s:Shared) (σ:St) (H:Hp) (x y:V) (v u:Value) (Q:VK),Inv X pins σ H s→RelV x v→RelV y u→r x y H Q →
  subscripted slice false v u=operate [v,u] (getItem v u)→wpAny (model X.prog X.w) X.A (subscriptTail value slice v u) (EP X pins σ Q) X.xe s
def Ai(X:Cx)(id:String)(r:V→List V→Hp→VK→Prop):Prop :=
 ∀ (pins:List (Addr×Obj)) (s:Shared) (σ:St) (H:Hp) (x:V) (xs:List V) (v:Value) (us:List Value) (Q:VK),Inv X pins σ H s→RelV x v→Vals xs us→r x xs H Q →
  wpAny (model X.prog X.w) X.A (call (.builtin id) (v::us)) (EP X pins σ Q) X.xe s
section
variable {X:Cx}{a b:Expr}{ta tb:TE}{pos:Pos}
theorem aR{r:R2}(hr:EZ X r)(ha:PE X a ta)(hb:PE X b tb)(hs:Cj b):PE X (.Subscript a b pos) (HL r ta tb):=by
 intro pins s σ H Q I h
 exact Subscript_ (Ex ha hb I h fun v u s2 x y H2 I2 rx ry q=>hr a b pins s2 σ H2 x y v u Q I2 rx ry q (hs _ _))
def GV(K:PySem.W.Frag):R2:=fun x y H Q=>∃ p xs i v,x=.ref p∧y=.int i∧SqL K H p xs∧vJ xs i=some v∧Q v H
def GA(K:PySem.W.Frag):R2:=fun x y H Q=>∃ p xs i v,x=.ref p∧y=.int i∧SqT K H p xs∧vJ xs i=some v∧Q v H
def Ih:R2:=fun x y H Q=>∃ z i c,x=.str z∧y=.int i∧z.length≤sizeLine∧vJ z.cps.toList i=some c∧Q (.str ⟨#[c]⟩) H
theorem C8:EZ X (GV X.K):=by
 intro value slice pins s σ H x y v u Q I rx ry h hs
 obtain⟨p,xs,i,z,rfl,rfl,hq,he,q⟩:=h
 cases rx
 obtain⟨t,rfl⟩:=ry
 obtain⟨its,r,pl,hz⟩:=I.list hq
 obtain⟨j,h1,h2,h3,h4,h5⟩:=tE he
 obtain⟨w,ew,rw'⟩:=r.get h2
 have hl:=r.length
 have hn:=lU
 have fin:EP X pins σ Q w s:=⟨z,H,I,rw',q⟩
 by_cases h0:0≤i
 ·have hj:i.toNat=j:=by
   rw[seqIndex_of h0 h5] at h1
   exact Option.some.inj h1
  exact item_listR pl.isList h0 (by omega) (by rw[hj];simpa using ew) fin hs
 ·have hj:(i+(its.toArray.size:Int)).toNat=j:=by
   rw[seqIndex_neg (by omega) h4] at h1
   rw[List.size_toArray,← hl]
   exact Option.some.inj h1
  exact subscriptTail_builtinR (x:=w) pl.isList.typeIs slot_list_getitem.lookup
   (wpAny_getItem_list_neg (Q:=fun r s'=>r=w∧EP X pins σ Q r s') pl.isList (by omega) (by rw[List.size_toArray] <;> omega) (by omega) (by rw[hj];simpa using ew) ⟨rfl,fin⟩) hs
theorem D9:EZ X (GA X.K):=by
 intro value slice pins s σ H x y v u Q I rx ry h hs
 obtain⟨p,xs,i,z,rfl,rfl,hq,he,q⟩:=h
 cases rx
 obtain⟨t,rfl⟩:=ry
 obtain⟨its,r,pl,hz⟩:=I.tuple hq
 obtain⟨j,h1,h2,h3,h4,h5⟩:=tE he
 obtain⟨w,ew,rw'⟩:=r.get h2
 have hl:=r.length
 have hn:=lU
 have fin:EP X pins σ Q w s:=⟨z,H,I,rw',q⟩
 exact subscriptTail_builtinR (x:=w) pl.typeIs slot_tuple_getitem.lookup
  (getItem_tuple (j:=j) (Q:=fun r s'=>r=w∧EP X pins σ Q r s') pl (by omega) (by omega) (by rw[List.size_toArray,← hl];exact h1) (by simpa using ew) ⟨rfl,fin⟩) hs
theorem wV:EZ X Ih:=by
 intro value slice pins s σ H x y v u Q I rx ry h hs
 obtain⟨z,i,c,rfl,rfl,hz,he,q⟩:=h
 obtain⟨t,rfl⟩:=rx
 obtain⟨t',rfl⟩:=ry
 obtain⟨j,h1,h2,h3,h4,h5⟩:=tE he
 have hl:z.cps.toList.length=z.length:=by simp[Str.length]
 rw[hl] at h1 h4 h5
 have hn:=lU
 exact tail_any (typeIs_str s z t) slot_str_getitem.lookup (getItem_str (c:=c) (by
  have e1:decide (i < -(2 ^ 63:Int))=false:=decide_eq_false (by omega)
  have e2:decide (i ≥ 2 ^ 63)=false:=decide_eq_false (by omega)
  rw[e1,e2,Bool.or_false]) (by rw[h1];simpa using h2) ⟨.str ⟨#[c]⟩,H,I.tok _,⟨_,rfl⟩,q⟩) hs
theorem wH(its:List Value)(n j:Nat)(u:Value):Obj.mapSeq (·.setIfInBounds j u) { cls:=.type "list",data:=.seq its.toArray n }={ cls:=.type "list",data:=.seq (its.set j u).toArray n }:=by
 simp[Obj.mapSeq]
theorem Inv.lst{pins:List (Addr×Obj)}{σ:St}{H:Hp}{s:Shared}{p:Addr}{xs:List V}(I:Inv X pins σ H s)(h:H p=some (.lst xs)) :
  ∃ (its:List Value) (n:Nat),Vals xs its∧s.heap.get? p=some { cls:=.type "list",data:=.seq its.toArray n }∧xs.length≤sizeLine:=by
 obtain⟨z,its,n,r,e⟩:=I.hok p _ h
 exact⟨its,n,r,e,z⟩
theorem Inv.lstUpd{pins:List (Addr×Obj)}{σ:St}{H:Hp}{s:Shared}{p:Addr}{xs ys:List V}{its its':List Value}{n n':Nat}{f:Obj→Obj}(I:Inv X pins σ H s)(h:H p=some (.lst xs))
  (ho:s.heap.get? p=some { cls:=.type "list",data:=.seq its.toArray n }) (hf:f { cls:=.type "list",data:=.seq its.toArray n }={ cls:=.type "list",data:=.seq its'.toArray n' }) (r:Vals ys its') (hz:ys.length≤sizeLine) (t:Nat) :
  Inv X pins σ (upd H p (.lst ys)) { s with heap:=s.heap.update p f,toks:=t }:=by
 have e:(s.heap.update p f).get? p=some { cls:=.type "list",data:=.seq its'.toArray n' }:=by
  rw[Heap.get?_update_self f ho (by rw[hf] <;> rfl),hf]
 refine I.write (x:=p) (e:=p) (by rw[h];trivial) (.inl rfl) (fun b u hb q=>(Heap.get?_update_other _ _ (Ne.symm hb)).trans q) ⟨_,e⟩ ?_
 exact⟨hz,its',n',r,e⟩
def Hk:V→V→V→Hp→(Hp→Prop)→Prop:=fun o i v H Q=>∃ p xs k j,o=.ref p∧i=.int k∧H p=some (.lst xs)∧AL xs.length k=some j∧Q (upd H p (.lst (xs.set j v)))
theorem dP:Gp X Hk:=by
 intro pins s σ H o i v ov iv u Q I ro ri rv h
 obtain⟨p,xs,k,j,rfl,rfl,hp,hj,q⟩:=h
 cases ro
 obtain⟨t,rfl⟩:=ri
 obtain⟨its,n,r,ho,hz⟩:=I.lst hp
 obtain⟨h1,h2,h3,h4⟩:=xQ hj
 have hl:=r.length
 have hn:=lU
 have I':Inv X pins σ (upd H p (.lst (xs.set j v))) { s with heap:=s.heap.update p (Obj.mapSeq (·.setIfInBounds j u)) } :=
  I.lstUpd hp ho (wH its n j u) (r.set rv j) (by rw[List.length_set];exact hz) s.toks
 by_cases h0:0≤k
 ·have hk:k.toNat=j:=by
   rw[seqIndex_of h0 h4] at h1
   exact Option.some.inj h1
  exact PySem.W.ki_setAt ho h0 (by omega) (by rw[List.size_toArray,← hl];exact h4) (by rw[hk];exact⟨_,I',q⟩)
 ·have hk:(k+(its.toArray.size:Int)).toNat=j:=by
   rw[seqIndex_neg (by omega) h3] at h1
   rw[List.size_toArray,← hl]
   exact Option.some.inj h1
  exact PySem.W.ki_setBack ho (by omega) (by rw[List.size_toArray,← hl];exact h3) (by omega) (by rw[hk];exact⟨_,I',q⟩)
theorem sA(lo hi:Option Int)(n:Nat):(sliceBounds lo hi none n).1=((HT.sIx n 0 lo:Nat):Int)∧(sliceBounds lo hi none n).2.1=((HT.sIx n n hi:Nat):Int)∧(sliceBounds lo hi none n).2.2=1:=by
 refine⟨?_,?_,rfl⟩
 ·cases lo with
  | none=>simp[sliceBounds,HT.sIx]
  | some i =>
   simp only [sliceBounds,HT.sIx,Option.getD_none,show (1:Int) > 0 by decide,if_true]
   by_cases h:i<0
   ·simp only [h,if_true] <;> omega
   ·simp only [h,if_false] <;> omega
 ·cases hi with
  | none=>simp[sliceBounds,HT.sIx]
  | some i =>
   simp only [sliceBounds,HT.sIx,Option.getD_none,show (1:Int) > 0 by decide,if_true]
   by_cases h:i<0
   ·simp only [h,if_true] <;> omega
   ·simp only [h,if_false] <;> omega
theorem pJ(its:List Value)(lo hi:Option Int):slicePick its.toArray lo hi none=((its.drop (HT.sIx its.length 0 lo)).take (HT.sIx its.length its.length hi - HT.sIx its.length 0 lo)).toArray:=by
 obtain⟨h1,h2,h3⟩:=sA lo hi its.toArray.size
 unfold slicePick
 rw[h1,h2,h3]
 simp only [sliceRange_one,pick_run,List.size_toArray] <;> rfl
def Ia(K:PySem.W.Frag):V→Option Int→Option Int→Hp→VK→Prop:=fun x lo hi H Q=>∃ a xs,x=.ref a∧SqL K H a xs∧∀ p,H p=none→Q (.ref p) (upd H p (.lst (uM xs lo hi)))
theorem HJ:FX X (Ia X.K):=by
 intro pins s σ H x v vl vu lo hi sl Q I rx hs pl pu h
 obtain⟨a,xs,rfl,hx,q⟩:=h
 cases rx
 obtain⟨its,r,ht,hz⟩:=I.list hx
 have hlen:=r.length
 refine⟨"list",_,slot_list_getitem.lookup,ht.isList.typeIs,?_⟩
 refine wpAny_getItem_list_slice ht.isList hs pl pu .none (by simp) ?_ (by rw[List.size_toArray] <;> omega)
 rw[pJ,← hlen]
 refine⟨.ref s.heap.objs.size,_,I.laid (t':=s.toks) (o:=.lst (uM xs lo hi)) (fun b ob q=>Heap.get?_push_of_some _ q) (Nat.le_refl _) ?_,rfl,q _ (I.hok.fresh (Nat.le_refl _))⟩
 exact⟨Nat.le_trans (mD xs lo hi) hz,_,0,(r.drop (HT.sIx xs.length 0 lo)).take (HT.sIx xs.length xs.length hi - HT.sIx xs.length 0 lo),Heap.get?_push_size _ rfl⟩
def fC:V→Bool
 | .non=>true
 | .bl _=>true
 | .int _=>true
 | .str _=>true
 | _=>false
def mM:V→V→Bool
 | .non,.non=>true
 | .bl a,.bl b=>a == b
 | .bl a,.int b=>(if a then 1 else 0) == b
 | .int a,.bl b=>a == (if b then 1 else 0)
 | .int a,.int b=>a == b
 | .str a,.str b=>a == b
 | _,_=>false
theorem wM{A:Around}{s:Shared}{y x:V}{u v:Value}(ry:RelV y u)(rx:RelV x v)(fy:fC y=true)(fx:fC x=true):SeqAt.EqAt A s u v (mM y x):=by
 cases y with
 | non =>
  cases ry
  cases x with
  | non=>cases rx;exact SeqAt.EqAt.same _
  | bl b=>cases rx;exact SeqAt.EqAt.none_bool b
  | int b=>obtain⟨t,rfl⟩:=rx;exact SeqAt.EqAt.none_int b t
  | str b=>obtain⟨t,rfl⟩:=rx;exact SeqAt.EqAt.none_str b t
  | _=>exact absurd (show false=true from fx) Bool.false_ne_true
 | bl a =>
  cases ry
  cases x with
  | non=>cases rx;exact SeqAt.EqAt.bool_none a
  | bl b=>cases rx;exact SeqAt.EqAt.bool_bool a b
  | int b=>obtain⟨t,rfl⟩:=rx;exact SeqAt.EqAt.bool_int a b t
  | str b=>obtain⟨t,rfl⟩:=rx;exact SeqAt.EqAt.bool_str a b t
  | _=>exact absurd (show false=true from fx) Bool.false_ne_true
 | int a =>
  obtain⟨t',rfl⟩:=ry
  cases x with
  | non=>cases rx;exact SeqAt.EqAt.int_none a t'
  | bl b=>cases rx;exact SeqAt.EqAt.int_bool a t' b
  | int b=>obtain⟨t,rfl⟩:=rx;exact SeqAt.EqAt.int_int a t' b t
  | str b=>obtain⟨t,rfl⟩:=rx;exact SeqAt.EqAt.int_str a t' b t
  | _=>exact absurd (show false=true from fx) Bool.false_ne_true
 | str a =>
  obtain⟨t',rfl⟩:=ry
  cases x with
  | non=>cases rx;exact SeqAt.EqAt.str_none a t'
  | bl b=>cases rx;exact SeqAt.EqAt.str_bool a t' b
  | int b=>obtain⟨t,rfl⟩:=rx;exact SeqAt.EqAt.str_int a t' b t
  | str b=>obtain⟨t,rfl⟩:=rx;exact SeqAt.EqAt.str_str a t' b t
  | _=>exact absurd (show false=true from fx) Bool.false_ne_true
 | _=>exact absurd (show false=true from fy) Bool.false_ne_true
def Dj(x:V)(u:Value):Bool:=match u with
 | .none=>mM .non x
 | .bool b=>mM (.bl b) x
 | .int i _=>mM (.int i) x
 | .str z _=>mM (.str z) x
 | _=>false
theorem BR{x y:V}{u:Value}(r:RelV y u)(f:fC y=true):Dj x u=mM y x:=by
 cases y with
 | non=>cases r;rfl
 | bl b=>cases r;rfl
 | int i=>obtain⟨t,rfl⟩:=r;rfl
 | str z=>obtain⟨t,rfl⟩:=r;rfl
 | _=>exact absurd (show false=true from f) Bool.false_ne_true
theorem tF{x:V}:∀ {xs:List V} {us:List Value},Vals xs us→xs.all fC=true→us.any (Dj x)=xs.any fun y=>mM y x
 | _,_,.nil,_=>rfl
 | y::xs,u::us,.cons r t,f=>by
  rw[List.all_cons,Bool.and_eq_true] at f
  rw[List.any_cons,List.any_cons,BR r f.1,tF t f.2]
theorem oU{A:Around}{s:Shared}{x:V}{v:Value}(rx:RelV x v)(fx:fC x=true):∀ {xs:List V} {us:List Value},Vals xs us→xs.all fC=true→∀ u∈us,SeqAt.EqAt A s u v (Dj x u)
 | _,_,.nil,_=>fun u hu=>by cases hu
 | y::xs,u::us,.cons r t,f=>fun u' hu=>by
  rw[List.all_cons,Bool.and_eq_true] at f
  rcases List.mem_cons.mp hu with rfl | hu
  ·rw[BR r f.1];exact wM r rx f.1 fx
  ·exact oU rx fx t f.2 u' hu
def FG(x:V)(xs:List V):Bool:=xs.any fun y=>mM y x
def II(K:PySem.W.Frag)(neg:Bool):R2:=fun x y H Q=>∃ p xs,y=.ref p∧(SqL K H p xs∨SqT K H p xs)∧fC x=true∧xs.all fC=true∧Q (.bl (if neg then !FG x xs else FG x xs)) H
theorem zV:jA X (compareOp .In) (II X.K false):=by
 intro pins s σ H x y v u Q I rx ry h
 obtain⟨p,xs,rfl,hq,fx,fs,q⟩:=h
 cases ry
 rcases hq with hq | hq
 ·obtain⟨its,r,pl,hz⟩:=I.list hq
  refine SeqAt.in_listAt (Dj x) pl.isList (fun w hw=>oU rx fx r fs w (by simpa using hw)) ⟨.bl _,H,I,rfl,?_⟩
  rw[show its.toArray.any (Dj x)=its.any (Dj x) by simp,tF r fs]
  exact q
 ·obtain⟨its,r,pl,hz⟩:=I.tuple hq
  refine SeqAt.in_tupleAt (Dj x) pl (fun w hw=>oU rx fx r fs w (by simpa using hw)) ⟨.bl _,H,I,rfl,?_⟩
  rw[show its.toArray.any (Dj x)=its.any (Dj x) by simp,tF r fs]
  exact q
theorem sY:fX X (.builtin "len") (fun xs H Q=>∃ p ys,xs=[.ref p]∧(SqL X.K H p ys∨SqT X.K H p ys)∧Q (.int ys.length) H):=by
 intro pins s σ H xs us Q I r h
 obtain⟨p,ys,rfl,hq,q⟩:=h
 obtain⟨u,rfl,rx⟩:=kP r
 cases rx
 have hn:=lU
 rcases hq with hq | hq
 ·obtain⟨its,r',pl,hz⟩:=I.list hq
  have hlen:=r'.length
  exact Calls.call_len_list pl.isList (by simp only [List.size_toArray] <;> omega) ⟨.int ys.length,H,I.tok _,⟨s.toks+1,by rw[List.size_toArray,hlen]⟩,q⟩
 ·obtain⟨its,r',pl,hz⟩:=I.tuple hq
  have hlen:=r'.length
  exact len_tuple pl (by simp only [List.size_toArray] <;> omega) ⟨.int ys.length,H,I.tok _,⟨s.toks+1,by rw[List.size_toArray,hlen]⟩,q⟩
theorem fJ:fX X (.builtin "len") (fun xs H Q=>∃ z,xs=[.str z]∧z.length≤sizeLine∧Q (.int z.length) H):=by
 intro pins s σ H xs us Q I r h
 obtain⟨z,rfl,hz,q⟩:=h
 obtain⟨u,rfl,t,rfl⟩:=kP r
 have hn:=lU
 exact len_str (by omega) ⟨.int z.length,H,I.tok _,⟨_,rfl⟩,q⟩
theorem rV:fX X (.type "list") (fun xs H Q=>∃ p ys,xs=[.ref p]∧(SqL X.K H p ys∨SqT X.K H p ys)∧∀ l,H l=none→Q (.ref l) (upd H l (.lst ys))):=by
 intro pins s σ H xs us Q I r h
 obtain⟨p,ys,rfl,hq,q⟩:=h
 obtain⟨u,rfl,rx⟩:=kP r
 cases rx
 have fin:∀ (its:List Value),Vals ys its→ys.length≤sizeLine→∀ (h':Heap) (c':Nat),(∀ b o',s.heap.get? b=some o'→h'.get? b=some o') →
   h'.get? s.heap.objs.size=some { cls:=.type "list",dict:=none,data:=.seq its.toArray c',slots:=#[] }→EP X pins σ Q (.ref s.heap.objs.size) { s with heap:=h' }:=fun its r' hz h' c' kp e =>
  ⟨.ref s.heap.objs.size,_,I.laid (t':=s.toks) kp (Nat.le_refl _) (show ObjOk X.prog X.w _ h' _ (.lst ys) from ⟨hz,its,c',r',e⟩),rfl,q _ (I.hok.fresh (Nat.le_refl _))⟩
 rcases hq with hq | hq
 ·obtain⟨its,r',pl,hz⟩:=I.list hq
  have hlen:=r'.length
  obtain⟨o,ho,hc,n,hd⟩:=pl.isList
  exact call_list_seq p (.inl rfl) ho hc hd (fun h' c' kp e=>fin its r' hz h' c' kp e) (by simp only [List.size_toArray] <;> omega)
 ·obtain⟨its,r',pl,hz⟩:=I.tuple hq
  have hlen:=r'.length
  obtain⟨o,ho,hc,n,hd⟩:=pl
  exact call_list_seq p (.inr rfl) ho hc hd (fun h' c' kp e=>fin its r' hz h' c' kp e) (by simp only [List.size_toArray] <;> omega)
theorem pL:fX X (.type "tuple") (fun xs H Q=>∃ p ys,xs=[.ref p]∧((SqL X.K H p ys∧∀ l,H l=none→Q (.ref l) (upd H l (.tup ys)))∨(SqT X.K H p ys∧Q (.ref p) H))):=by
 intro pins s σ H xs us Q I r h
 obtain⟨p,ys,rfl,h⟩:=h
 obtain⟨u,rfl,rx⟩:=kP r
 cases rx
 rcases h with ⟨hq,q⟩ | ⟨hq,q⟩
 ·obtain⟨its,r',pl,hz⟩:=I.list hq
  have hlen:=r'.length
  refine call_tuple_list pl.isList (fun h' kp=>?_) (by simp only [List.size_toArray] <;> omega)
  have I1:Inv X pins σ H { s with heap:=h' }:=I.kept (t':=s.toks) kp
  have I2:Inv X pins σ (upd H h'.objs.size (.tup ys)) { s with heap:=h'.push { cls:=.type "tuple",data:=.seq its.toArray } } :=
   I1.laid (t':=s.toks) (fun b o e=>Heap.get?_push_of_some _ e) (Nat.le_refl _) (show ObjOk X.prog X.w _ _ _ (.tup ys) from ⟨hz,its,r',IsTup.new _ _,NoD.new _ _⟩)
  exact⟨.ref h'.objs.size,_,I2,rfl,q _ (I1.hok.fresh (Nat.le_refl _))⟩
 ·obtain⟨its,r',pl,hz⟩:=I.tuple hq
  exact call_tuple_same pl ⟨.ref p,H,I,rfl,q⟩
def Ij(K:PySem.W.Frag)(T:String)(x:V)(H:Hp):Prop:=match x with
 | .str _=>T="str"
 | .int _=>T="int"
 | .ref p=>(T="list"∧∃ xs,SqL K H p xs)∨(T="tuple"∧∃ o,K.lookup p=some o∧o.cls=.type "tuple"∧o.dict=none) ∨
   (T="dict"∧((∃ kvs,H p=some (.dK kvs))∨∃ kvs,H p=some (.dT kvs)))∨(T="set"∧∃ S n,H p=some (.set S n))
 | _=>False
theorem B2{pins:List (Addr×Obj)}{σ:St}{H:Hp}{s:Shared}{T:String}{x:V}{v:Value}(I:Inv X pins σ H s)(r:RelV x v)(ty:Ij X.K T x H) :
  s.TypeIs v T∧∀ a,v=.ref a→∃ ob,s.heap.get? a=some ob∧ob.dict=none:=by
 cases x with
 | str z =>
  obtain⟨t,rfl⟩:=r
  cases (show T="str" from ty)
  exact⟨typeIs_str s z t,fun _ e=>nomatch e⟩
 | int i =>
  obtain⟨t,rfl⟩:=r
  cases (show T="int" from ty)
  exact⟨typeIs_int s i t,fun _ e=>nomatch e⟩
 | ref p =>
  cases r
  rcases ty with ⟨rfl,xs,hq⟩ | ⟨rfl,o,hk,hc,hd⟩ | ⟨rfl,hk⟩ | ⟨rfl,S,n,hk⟩
  ·obtain⟨its,_,pl,_⟩:=I.list hq
   refine⟨pl.isList.typeIs,fun a e=>?_⟩
   cases e
   obtain⟨o,n,e,c,hd,_⟩:=pl
   exact⟨o,e,hd⟩
  ·refine⟨⟨o,I.kIn p o hk,hc⟩,fun a e=>?_⟩
   cases e
   exact⟨o,I.kIn _ o hk,hd⟩
  ·have z:∃ o,s.heap.get? p=some o∧o.ExactDict:=by
    rcases hk with ⟨kvs,hk⟩ | ⟨kvs,hk⟩
    ·obtain⟨_,_,_,_,o,_,_,e,ex,_⟩:=I.hok p _ hk
     exact⟨o,e,ex⟩
    ·obtain⟨_,_,_,_,o,_,_,e,ex,_⟩:=I.hok p _ hk
     exact⟨o,e,ex⟩
   obtain⟨o,e,ex⟩:=z
   refine⟨⟨o,e,ex.1⟩,fun a e2=>?_⟩
   cases e2
   exact⟨o,e,ex.2.1⟩
  ·obtain⟨o,_,_,_,e,ex,_⟩:=I.hok p _ hk
   refine⟨⟨o,e,ex.1⟩,fun a e2=>?_⟩
   cases e2
   exact⟨o,e,ex.2.1⟩
 | _=>exact False.elim ty
def Gd(K:PySem.W.Frag)(T:String)(r:V→List V→Hp→VK→Prop)(to:TE):TE:=fun σ H Q=>to σ H fun x H1=>Ij K T x H1∧r x [] H1 Q
def IJ(K:PySem.W.Frag)(T:String)(r:V→List V→Hp→VK→Prop)(to:TE)(t:TA):TE:=fun σ H Q=>to σ H fun x H1=>Ij K T x H1∧t σ H1 fun xs H2=>r x xs H2 Q
variable {o e:Expr}{es:List Expr}{to:TE}{t:TA}{name:Str}{apos cpos:Pos}{T id:String}{r:V→List V→Hp→VK→Prop}
theorem Ey(pa:PlainAttrs T)(slot:Slot T name id)(hty:typeOf (.builtin id)=pure (.type "method_descriptor"))(hm:Ai X id r)(ho:PE X o to)
  (hbase:attributeBase o name X.env (eval o X.env)=eval o X.env:=by rfl) (hline:(apos.endLine == cpos.line)=true:=by rfl):PE X (.Call (.Attribute o name apos) [] [] cpos) (Gd X.K T r to):=by
 intro pins s σ H Q I h
 refine wpAny_Call_method0_late hbase hline (bZ (ho pins s σ H _ I h) fun v s1 ⟨x,H1,I1,r1,ty,q1⟩=>?_)
 obtain⟨h1,h2⟩:=B2 I1 r1 ty
 exact⟨T,id,pa,slot,hty,h1,h2,Calls.callWith_builtin rfl (PySem.evalArgs_none (hm pins s1 σ H1 x [] v [] Q I1 r1 .nil q1))⟩
theorem Gk(pa:PlainAttrs T)(slot:Slot T name id)(hty:typeOf (.builtin id)=pure (.type "method_descriptor"))(hm:Ai X id r)(ho:PE X o to)(ha:PA X (e::es) t)
  (hbase:attributeBase o name X.env (eval o X.env)=eval o X.env:=by rfl)
  (hfew:((backTo cpos (starEach (e::es) X.env)).all (fun x=>!x.1) && (backToKw cpos (keywordEach [] X.env)).all (fun x=>x.1.isSome)
   && decide ((e::es).length+([]:List Keyword).length+(if ([]:List Keyword).isEmpty then 0 else 1)<30))=true:=by rfl)
  (hline:(apos.endLine == cpos.line)=true:=by rfl) (hs:starEach (e::es) X.env=(false,eval e X.env)::starEach es X.env:=by rfl) (hplain:(backTo cpos (starEach es X.env)).any (·.1)=false:=by rfl) :
  PE X (.Call (.Attribute o name apos) (e::es) [] cpos) (IJ X.K T r to t):=by
 intro pins s σ H Q I h
 refine wpAny_Call_method_late hbase hfew hline rfl (bZ (ho pins s σ H _ I h) fun v s1 ⟨x,H1,I1,r1,ty,q1⟩=>?_)
 obtain⟨h1,h2⟩:=B2 I1 r1 ty
 refine⟨T,id,pa,slot,hty,h1,h2,?_⟩
 have hA:=ha cpos pins s1 σ H1 _ I1 q1
 rw[hs] at hA ⊢
 refine Calls.callWith_builtin (by show (false || (backTo cpos (starEach es X.env)).any (·.1))=false;rw[hplain] <;> rfl) (Calls.evalArgs_plain ?_)
 exact bZ hA fun us s2 ⟨vs,H2,I2,r2,q2⟩=>hm pins s2 σ H2 x vs v us Q I2 r1 r2 q2
/- xs.append(e),list.index on a module's tuple .. are Ai facts of 06m -/
end
def HD(X:Cx)(id:String)(r:V→List V→Hp→VK→Prop):Prop :=
 ∀ (pins:List (Addr×Obj)) (s:Shared) (σ:St) (H:Hp) (x:V) (xs:List V) (v:Value) (us:List Value) (Q:VK),Inv X pins σ H s→RelV x v→Vals xs us→r x xs H Q →
  wpAny (model X.prog X.w) X.A (call (.builtin id) (v::us)) (EP X pins σ Q) X.xe s
theorem Vals.one:∀ {x:V} {us:List Value},Vals [x] us→∃ u,us=[u]∧RelV x u
 | _,_,.cons r .nil=>⟨_,rfl,r⟩
theorem Vals.two:∀ {x y:V} {us:List Value},Vals [x,y] us→∃ u v,us=[u,v]∧RelV x u∧RelV y v
 | _,_,_,.cons r (.cons q .nil)=>⟨_,_,rfl,r,q⟩
theorem Vals.zero:∀ {us:List Value},Vals [] us→us=[]
 | _,.nil=>rfl
theorem Vals.dropLast{xs:List V}{us:List Value}(h:Vals xs us):Vals xs.dropLast us.dropLast:=by
 induction h with
 | nil=>exact .nil
 | cons r t ih =>
  cases t with
  | nil=>exact .nil
  | cons q t'=>exact .cons r ih
theorem Vals.eraseIdx:∀ {xs:List V} {us:List Value} (i:Nat),Vals xs us→Vals (xs.eraseIdx i) (us.eraseIdx i)
 | _,_,_,.nil=>.nil
 | _,_,0,.cons _ t=>t
 | _,_,i+1,.cons r t=>.cons r (Vals.eraseIdx i t)
theorem Vals.rep{xs:List V}{us:List Value}(h:Vals xs us):∀ k:Nat,Vals (List.replicate k xs).flatten (List.replicate k us).flatten
 | 0=>.nil
 | k+1=>by
  rw[List.replicate_succ,List.replicate_succ,List.flatten_cons,List.flatten_cons]
  exact Vals.append h (Vals.rep h k)
theorem wQ{α:Type}(l:List α):l.eraseIdx (l.length - 1)=l.dropLast:=by
 induction l with
 | nil=>rfl
 | cons a r ih =>
  cases r with
  | nil=>rfl
  | cons b r =>
   have e:(a::b::r).length - 1=((b::r).length - 1)+1:=by
    have h1:(a::b::r).length=r.length+2:=rfl
    have h2:(b::r).length=r.length+1:=rfl
    omega
   rw[e,List.eraseIdx_cons_succ,ih]
   all_goals rfl
theorem qK{α:Type}:∀ (l:List α) (i:Nat),(l.eraseIdx i).length≤l.length
 | [],_=>Nat.le_refl _
 | _::_,0=>Nat.le_succ _
 | _::r,i+1=>Nat.succ_le_succ (qK r i)
theorem foldl_rep(its:List Value):∀ (k:Nat) (acc:List Value),
  List.foldl (fun x1 x2=>x1++x2) acc.toArray (List.replicate k its.toArray)=(acc++(List.replicate k its).flatten).toArray
 | 0,acc=>by simp
 | k+1,acc=>by
  have e:acc.toArray++its.toArray=(acc++its).toArray:=by simp
  have e2:(acc++its)++(List.replicate k its).flatten=acc++(List.replicate (k+1) its).flatten:=by
   rw[List.replicate_succ,List.flatten_cons,List.append_assoc]
  rw[← e2,← foldl_rep its k (acc++its),← e,List.replicate_succ,List.foldl_cons]
section
variable {X:Cx}{pins:List (Addr×Obj)}{σ:St}{H:Hp}{s:Shared}{l b:Addr}{xs ys zs:List V}
theorem Inv.lset{its its':List Value}{n:Nat}{f:Array Value→Array Value}{t':Nat}(I:Inv X pins σ H s)(hH:H l=some (.lst xs))
  (e:s.heap.get? l=some { cls:=.type "list",data:=.seq its.toArray n }) (hf:f its.toArray=its'.toArray) (hv:Vals ys its') (hz:ys.length≤sizeLine) :
  Inv X pins σ (upd H l (.lst ys)) { s with heap:=s.heap.update l (Obj.mapSeq f),toks:=t' }:=by
 have q:=PySem.IsL.update e f
 rw[hf] at q
 refine I.write (x:=l) (e:=l) (by rw[hH];exact trivial) (.inl rfl) (fun b' u hb hu=>(Heap.get?_update_other s.heap (Obj.mapSeq f) (Ne.symm hb)).trans hu) ⟨_,q⟩ ?_
 exact⟨hz,its',_,hv,q⟩
theorem Inv.lnew{its:List Value}{t':Nat}(I:Inv X pins σ H s)(hv:Vals ys its)(hz:ys.length≤sizeLine) :
  Inv X pins σ (upd H s.heap.objs.size (.lst ys)) { s with heap:=s.heap.push { cls:=.type "list",data:=.seq its.toArray },toks:=t' } :=
 I.laid (fun _ _ q=>Heap.get?_push_of_some _ q) (Nat.le_refl _) ⟨hz,its,0,hv,Heap.get?_push_size _ rfl⟩
theorem Inv.fresh(I:Inv X pins σ H s):H s.heap.objs.size=none:=I.hok.fresh (Nat.le_refl _)
theorem Inv.lstM(I:Inv X pins σ H s)(hH:H l=some (.lst xs)):xs.length≤sizeLine∧∃ (its:List Value) (n:Nat),Vals xs its∧xs.length=its.length∧s.heap.get? l=some { cls:=.type "list",data:=.seq its.toArray n }:=by
 obtain⟨z,its,n,r,e⟩:=I.hok l _ hH
 exact⟨z,its,n,r,r.length,e⟩
theorem AQ{n:Nat}(h:n≤sizeLine):Builtin.List.listTooLong n=false:=by
 unfold Builtin.List.listTooLong
 exact decide_eq_false (by omega)
end
section
variable {X:Cx}
def CM:V→List V→Hp→VK→Prop:=fun x vs H Q=>∃ l xs y,x=.ref l∧vs=[y]∧H l=some (.lst xs)∧xs.length<sizeLine∧Q .non (upd H l (.lst (xs++[y])))
theorem cO:HD X "list.append" CM:=by
 intro pins s σ H x vs v us Q I rx rv h
 obtain⟨l,xs,y,rfl,rfl,hH,hz,q⟩:=h
 cases rx
 obtain⟨u,rfl,ru⟩:=rv.one
 obtain⟨z,its,n,r,hl,e⟩:=I.lstM hH
 refine call_meets F.slot_list_append ⟨_,e,rfl⟩ F.entry_list_append (F.args_list_append_2 _ _) (PySem.list_append l its.toArray n u (by rw[List.size_toArray];omega)) ⟨e,?_⟩
 refine⟨.non,_,I.lset (its':=its++[u]) hH e (by simp) (r.append (.cons ru .nil)) ?_,rfl,q⟩
 rw[List.length_append,List.length_singleton]
 omega
def CN:V→List V→Hp→VK→Prop:=fun x vs H Q=>∃ l b xs zs,x=.ref l∧vs=[.ref b]∧H l=some (.lst xs)∧H b=some (.lst zs)∧xs.length+zs.length≤sizeLine∧Q .non (upd H l (.lst (xs++zs)))
theorem FD:HD X "list.extend" CN:=by
 intro pins s σ H x vs v us Q I rx rv h
 obtain⟨l,b,xs,zs,rfl,rfl,hH,hB,hz,q⟩:=h
 cases rx
 obtain⟨u,rfl,ru⟩:=rv.one
 cases ru
 obtain⟨z,its,n,r,hl,e⟩:=I.lstM hH
 obtain⟨z2,its2,n2,r2,hl2,e2⟩:=I.lstM hB
 have hsz:its.toArray.size+its2.toArray.size≤sizeLine:=by rw[List.size_toArray,List.size_toArray];omega
 have hlong:¬ (!its.toArray.isEmpty && Builtin.List.listTooLong (its.toArray.size+its2.toArray.size))=true:=by
  rw[AQ hsz,Bool.and_false]
  exact Bool.false_ne_true
 refine call_meets F.slot_list_extend ⟨_,e,rfl⟩ F.entry_list_extend (F.args_list_extend_2 _ _)
  (AutoSeq1.list_extend_list_list_0 l its.toArray n b its2.toArray n2 hlong (by rw[List.size_toArray];omega) (by omega)) ⟨e,e2,?_⟩
 refine⟨.non,_,I.lset (its':=its++its2) hH e (by simp) (r.append r2) ?_,rfl,q⟩
 rw[List.length_append]
 omega
def Im:V→List V→Hp→VK→Prop:=fun x vs H Q=>∃ l xs y,x=.ref l∧vs=[]∧H l=some (.lst xs)∧xs[xs.length - 1]?=some y∧Q y (upd H l (.lst xs.dropLast))
theorem BG:HD X "list.pop" Im:=by
 intro pins s σ H x vs v us Q I rx rv h
 obtain⟨l,xs,y,rfl,rfl,hH,hy,q⟩:=h
 cases rx
 have hus:=rv.zero
 subst hus
 obtain⟨z,its,n,r,hl,e⟩:=I.lstM hH
 obtain⟨u,hu,ru⟩:=r.get hy
 have hy':its.toArray[its.toArray.size - 1]?=some u:=by
  show its.toArray[its.length - 1]?=some u
  rw[← Array.getElem?_toList,← hl]
  exact hu
 refine call_meets F.slot_list_pop ⟨_,e,rfl⟩ F.entry_list_pop (F.args_list_pop_1 _) (MeetsSeq.list_pop_last l its.toArray n u hy' (by rw[List.size_toArray];omega)) ⟨e,?_⟩
 refine⟨y,_,I.lset (its':=its.dropLast) hH e ?_ r.dropLast ?_,ru,q⟩
 ·show its.toArray.eraseIdxIfInBounds (its.toArray.size - 1)=its.dropLast.toArray
  rw[List.size_toArray,List.eraseIdxIfInBounds_toArray,wQ]
 ·rw[List.length_dropLast]
  omega
def EW:V→List V→Hp→VK→Prop:=fun x vs H Q=>∃ l xs i k y,x=.ref l∧vs=[.int i]∧H l=some (.lst xs)∧-(2 ^ 63)≤i∧i<2 ^ 63∧seqIndex? i xs.length=some k∧xs[k]?=some y∧Q y (upd H l (.lst (xs.eraseIdx k)))
theorem tI:HD X "list.pop" EW:=by
 intro pins s σ H x vs v us Q I rx rv h
 obtain⟨l,xs,i,k,y,rfl,rfl,hH,h1,h2,hk,hy,q⟩:=h
 cases rx
 obtain⟨u,rfl,ru⟩:=rv.one
 obtain⟨t,rfl⟩:=ru
 obtain⟨z,its,n,r,hl,e⟩:=I.lstM hH
 obtain⟨w,hw,rw'⟩:=r.get hy
 refine call_meets F.slot_list_pop ⟨_,e,rfl⟩ F.entry_list_pop (F.args_list_pop_2 _ _)
  (MeetsSeq.list_pop_at l its.toArray n i t k w (fitsIndex_both h1 h2) (by rw[List.size_toArray,← hl];exact hk) (by rw[← Array.getElem?_toList];exact hw) (by rw[List.size_toArray];omega)) ⟨e,?_⟩
 refine⟨y,_,I.lset (its':=its.eraseIdx k) hH e ?_ (r.eraseIdx k) ?_,rw',q⟩
 ·show its.toArray.eraseIdxIfInBounds k=(its.eraseIdx k).toArray
  rw[List.eraseIdxIfInBounds_toArray]
 ·have:=qK xs k
  omega
def Ik:R2:=fun x y H Q=>∃ l b xs zs,x=.ref l∧y=.ref b∧H l=some (.lst xs)∧H b=some (.lst zs)∧xs.length+zs.length≤sizeLine∧∀ p,H p=none→Q (.ref p) (upd H p (.lst (xs++zs)))
theorem Fq:jA X (binaryOp .Add) Ik:=by
 intro pins s σ H x y v u Q I rx ry h
 obtain⟨l,b,xs,zs,rfl,rfl,hH,hB,hz,q⟩:=h
 cases rx
 cases ry
 obtain⟨z,its,n,r,hl,e⟩:=I.lstM hH
 obtain⟨z2,its2,n2,r2,hl2,e2⟩:=I.lstM hB
 refine PySem.P.add_list e e2 ?_ (by rw[List.size_toArray,List.size_toArray];omega)
 have ea:its.toArray++its2.toArray=(its++its2).toArray:=by simp
 rw[ea]
 exact⟨.ref _,_,I.lnew (t':=s.toks) (r.append r2) (by rw[List.length_append];omega),rfl,q _ I.fresh⟩
theorem len_rep{α:Type}(xs:List α)(k:Nat):(List.replicate k xs).flatten.length=k * xs.length:=by
 induction k with
 | zero=>simp
 | succ k ih=>rw[List.replicate_succ,List.flatten_cons,List.length_append,ih,Nat.succ_mul,Nat.add_comm]
end
end L2
namespace Att
open PySem PySem.W PySem.Calls PyProof.Rows
theorem mJ{P:Params}{h:Heap}:∀ (ns:List Int) (vs:List Value),WellAll P h vs (ns.map WData.int)→IntsAre vs ns:=by
 intro ns
 induction ns with
 | nil =>
  intro vs w
  rw[List.map_nil] at w
  cases w
  exact .nil
 | cons n ns ih =>
  intro vs w
  rw[List.map_cons] at w
  cases w with
  | cons a b =>
   cases a
   exact .cons _ _ (ih _ b)
theorem Ab{l:OpenLaw}{n:Nat}(hn:l.most=some n){P:Params}{h:Heap}{args:List WData}{vals:List Value}
  (hpre:l.row.toRowW.claim.pre args=true) (hwl:WellAll P h vals args) :
  ∃ a vs ns,vals=[Value.ref a]∧args=[WData.list (ns.map WData.int)]∧h.get? a=some { cls:=.type "list",data:=.seq vs.toArray }∧IntsAre vs ns∧ns.length≤n:=by
 have hsh:WShape.hasAll [] args [.list .int]=true:=(pre_splitW hpre).1
 have hc:l.pre.holds [] { args:=args }=true:=(pre_splitW hpre).2
 obtain⟨d,r,rfl,h1,h2⟩:=hasAllW_cons hsh
 obtain rfl:=hasAllW_nil h2
 obtain⟨xs,rfl,h3⟩:=hasW_list h1
 obtain⟨ns,rfl⟩:=items_int h3
 have hlen:ns.length≤n:=by
  unfold OpenLaw.pre at hc
  have h4:(WTm.not (.lt (.lit (.int (n:Int))) (.len (.arg 0)))).holds [] { args:=[.list (ns.map .int)] }=true:=by
   have h4:=(holds_andW hc).1
   rw[hn] at h4
   exact h4
  have h5:=condW_of h4 (w_not (w_lt w_lit (w_len_list (w_arg rfl))))
  rw[List.length_map] at h5
  refine Nat.le_of_not_lt fun q=>?_
  have q':(n:Int)<((ns.length:Nat):Int):=by omega
  first
   | (rw[decide_eq_true q'] at h5;exact absurd h5 (by decide))
   | (simp at h5;omega)
 cases hwl with
 | cons w1 w2 =>
  cases w2
  cases w1 with
  | list ho hall=>exact⟨_,_,ns,rfl,rfl,ho,mJ ns _ hall,hlen⟩
theorem zM(l:OpenLaw)(args:List WData):l.row.toRowW.claim.post args (.bool true) args=true :=
 postW_of (r:=l.row.toRowW) (X:=(true == true))
  (show WShape.has [] (.bool true) .bool=true by first | rfl | decide | simp[WShape.has,WShape.arms,WShape.armsAll])
  (show (WTm.eq .res (.lit (.bool true))).value [] { args:=args,res:=some (.bool true),after:=args }=some (.bool (true == true)) from w_eq_bool (w_res rfl) w_lit) rfl
theorem attach_call{l:OpenLaw}{n:Nat}{q:Program}{loose:List Str}{XP:(Str→Option Value)→Heap→Prop}{YP:World→Heap→Prop}{d:DefRec}
  (hn:l.most=some n) (hdf:d.params.defaults=[])
  (call:∀ (w:World) (s₀ s₁:Shared) (mg mb:Str→Option Value) (fa:Addr) (o:Obj) (pm cd doc:Value) (a:Addr) (vs:List Value) (ns:List Int),
   Ground q loose [] XP w s₀ mg mb s₁.heap→YP w s₁.heap →
   s₁.heap.get? fa=some o→o.data=.func (docDef d.name d.params d.body d.scope pm cd doc)→s₁.heap.CodeRec cd d.name→mg d.name=some (.ref fa) →
   s₁.heap.get? a=some { cls:=.type "list",data:=.seq vs.toArray }→IntsAre vs ns→ns.length≤n→s₁.gens=#[] →
   codeAny (model l.prog w) callerA (.call (.ref fa) ⟨[.ref a],[]⟩) (fun r s'=>r=.ok (.ret (.bool true))∧OldK s₁.heap s'.heap∧s'.os=s₁.os∧AllBare s'.gens) s₁) :
  WalkO q loose XP YP l.row.toRowW d [] (fun f vs=>PySem.call f vs):=by
 intro w s₀ s₁ mg mb G Y fa o pm cd doc dV kV ho hd hcd hD hmg hg args vals as hpre hlay hrd hwl hlo
 obtain rfl:dV=.none:=Dflts.none hD hdf
 obtain rfl:kV=.none:=Dflts.noKw hD
 obtain⟨a,vs,ns,rfl,rfl,hobj,hints,hlen⟩:=Ab hn hpre hwl
 refine enter_call (codeAny_mono (call w s₀ s₁ mg mb fa o pm cd doc a vs ns G Y ho (fd_plain hd) hcd hmg hobj hints hlen hg) fun r s' hq=>?_)
 obtain⟨rfl,h2,h3,h4⟩:=hq
 exact⟨.inl ⟨.bool true,.bool true,[],rfl,fun _=>rfl,.bool true,zM l _,fun _=>⟨List.Pairwise.nil,fun _ hm=>(nomatch hm)⟩⟩,h2,h3,h4⟩
end Att
namespace L2
open PySem PySem.Spec PyProof.Rows
theorem pP:∀ {vs:List Value} {ns:List Int},IntsAre vs ns→Vals (ns.map V.int) vs
 | _,_,.nil=>.nil
 | _,_,.cons n t h=>.cons ⟨t,rfl⟩ (pP h)
def El(H:Hp):Prop:=∀ b,H b=none∨∃ o xs,H b=some (.frz o (.lst xs))
theorem AK{P:Program}{w:World}{K:PySem.W.Frag}{mg mb:Str→Option Value}{CX:AA}{k:Nat}{fa a:Addr}{fd:FuncData}{x:Str}{sp:Sp}{s₁:Shared}{vs:List Value}{ns:List Int}
  (KX:K.In s₁.heap) (hns:s₁.heap.Ns mainGlobals mg) (hb:s₁.heap.Ns builtinsNs mb) (hbb:∀ x:Str,x≠"__name__"→mb x=bootBuiltins x) (hlim:s₁.heap.NoLimit) (hg:s₁.gens=#[])
  (ha:s₁.heap.get? a=some { cls:=.type "list",data:=.seq vs.toArray }) (hi:IntsAre vs ns) (hl:ns.length≤sizeLine) (hr:Room k callerA)
  (F:∀ base:Heap,K.In base→base.Ns mainGlobals mg→FnOk P w K mg base CX k fa fd [x] sp) (hbind:∀ (s:Shared) (u:Value),BindsTo s fd ⟨[u],[]⟩ [(x,u)])
  (hsp:∀ H:Hp,El H→SqL K H a (ns.map V.int)→sp [.ref a] H (fun v _=>v=.bl true) fun _ _ _=>False)
  (hCX:∀ H e s',CX [] H s₁ (fun _ _ _=>False) e s'→False) :
  codeAny (model P w) callerA (.call (.ref fa) ⟨[.ref a],[]⟩) (fun r s'=>r=.ok (.ret (.bool true))∧OldK s₁.heap s'.heap∧s'.os=s₁.os∧AllBare s'.gens) s₁:=by
 have rv:=pP hi
 have lenV:=hi.length
 -- from an abstract heap in which nothing but the script may be tracked
 have core:∀ H:Hp,El H→SqL K H a (ns.map V.int)→HOk P w H s₁.heap→(∀ b,H b≠none→b=a)→(H a≠none→K.lookup a=none) →
   codeAny (model P w) callerA (.call (.ref fa) ⟨[.ref a],[]⟩) (fun r s'=>r=.ok (.ret (.bool true))∧OldK s₁.heap s'.heap∧s'.os=s₁.os∧AllBare s'.gens) s₁:=by
  intro H hO hS hok hA hK
  have base_of:∀ {b:Addr} {o:Obj},s₁.heap.get? b=some o→H b=none→(sL s₁.heap H).get? b=some o:=fun e n=>AD e n
  have noA:∀ {b:Addr} {o:Obj} {es:Array DictEntry} {ep:Nat},s₁.heap.get? b=some o→o.data=.dict es ep→H b=none:=fun {b o es ep} e d=>by
   cases q:H b with
   | none=>rfl
   | some u =>
    have e':b=a:=hA b (by rw[q];simp)
    subst e'
    rw[ha] at e;cases e
    have d':Data.seq vs.toArray _=Data.dict es ep:=d
    cases d'
  have nsK:∀ {b:Addr} {m:Str→Option Value},s₁.heap.Ns b m→(sL s₁.heap H).Ns b m:=fun {b m} ⟨o,es,ep,e,d,r⟩=>⟨o,es,ep,base_of e (noA e d),d,r⟩
  have hKb:K.In (sL s₁.heap H):=fun b o e=>base_of (KX b o e) (by
   cases q:H b with
   | none=>rfl
   | some u =>
    have e':b=a:=hA b (by rw[q];simp)
    subst e'
    rw[hK (by rw[q];simp)] at e;cases e)
  have hM:Mod K mg (sL s₁.heap H):=⟨hKb,nsK hns,⟨mb,nsK hb,hbb⟩,let ⟨mc,h1,h2⟩:=hlim;⟨mc,nsK h1,h2⟩⟩
  have e0:Env0 P w K mg (sL s₁.heap H) callerA [] s₁ H:=⟨rfl,hM,fun b o e=>Dn e,Nat.le_of_eq (Aj _ _),trivial,fun b hb=>absurd (show b∈([]:List Addr) from hb) (by simp),hok,.of_eq hg⟩
  refine codeAny_mono ((F _ hKb (nsK hns)).run callerA [] s₁ H ⟨[.ref a],[]⟩ [.ref a] [.ref a] _ _ hr e0 (hbind s₁ (.ref a)) (.cons rfl .nil) (hsp H hO hS)) fun r s' h=>?_
  cases r with
  | error e=>exact(hCX H e s' h).elim
  | ok fl =>
   cases fl with
   | next=>exact False.elim h
   | brk=>exact False.elim h
   | cont=>exact False.elim h
   | ret u =>
    obtain⟨v,H',os,bare,un,hok',r',q⟩:=h
    have q':v=.bl true:=q
    subst q'
    obtain rfl:u=Value.bool true:=r'
    refine⟨rfl,OldK.of_keep fun b o e=>?_,os,bare⟩
    cases q:H b with
    | none=>exact un.keep b o e q (by intro z;exact absurd (show b∈([]:List Addr) from z) (by simp)) (by simp)
    | some u =>
     rcases hO b with z | ⟨ob,xs,z⟩
     ·rw[q] at z;cases z
     ·have z2:=un.frzs b ob _ z
      obtain⟨e1,_⟩:=hok b _ z
      obtain⟨e2,_⟩:=hok' b _ z2
      rw[e] at e1;cases e1
      exact e2
 cases hk:K.lookup a with
 | some o =>
  -- the script is one of the module's own objects
  have e:=KX a o hk
  rw[ha] at e
  cases e
  refine core (fun _=>none) (fun _=>.inl rfl) (.inr ⟨_,vs.toArray,_,hk,rfl,rfl,rfl,by rw[List.size_toArray,lenV];exact hl,by simpa using rv⟩) (fun b u z=>by have z':(none:Option HO)=some u:=z;cases z') (fun b z=>absurd rfl z) fun z=>absurd rfl z
 | none =>
  refine core (fun b=>if b=a then some (.frz { cls:=.type "list",data:=.seq vs.toArray } (.lst (ns.map V.int))) else none) (fun b=>?_) (.inl (.inr ⟨{ cls:=.type "list",data:=.seq vs.toArray },if_pos rfl⟩)) (fun b u z=>?_) (fun b z=>?_) fun _=>hk
  ·by_cases hb:b=a
   ·exact .inr ⟨_,_,if_pos hb⟩
   ·exact .inl (if_neg hb)
  ·by_cases hb:b=a
   ·have z':=(if_pos hb).symm.trans z
    cases z'
    subst hb
    exact⟨ha,by rw[List.length_map];exact hl,vs,_,rv,ha⟩
   ·have z':=(if_neg hb).symm.trans z
    cases z'
  ·by_cases hb:b=a
   ·exact hb
   ·exact absurd (if_neg hb) z
theorem walk_of{l:PySem.W.OpenLaw}{n k:Nat}{q:Program}{loose:List Str}{XP:(Str→Option Value)→Heap→Prop}{YP:World→Heap→Prop}{d:DefRec}{K:Params→PySem.W.Frag}{CX:World→AA}{sp:World→Sp}{x:Str}
  (hn:l.most=some n) (hn2:n≤sizeLine) (hdf:d.params.defaults=[]) (hr:Room k callerA)
  (hY:∀ (w:World) (h:Heap),YP w h→(K w.params).In h)
  (F:∀ (w:World) (mg:Str→Option Value) (fa:Addr) (h:Heap),(K w.params).In h→h.Ns mainGlobals mg→mg d.name=some (.ref fa) →
   ∃ fd:FuncData,(∀ (s:Shared) (u:Value),BindsTo s fd ⟨[u],[]⟩ [(x,u)]) ∧
    ∀ base:Heap,(K w.params).In base→base.Ns mainGlobals mg→FnOk l.prog w (K w.params) mg base (CX w) k fa fd [x] (sp w))
  (hsp:∀ (w:World) (H:Hp) (a:Addr) (ns:List Int),ns.length≤n→El H→SqL (K w.params) H a (ns.map V.int)→sp w [.ref a] H (fun v _=>v=.bl true) fun _ _ _=>False)
  (hCX:∀ (w:World) (H:Hp) (s:Shared) (e:Value) (s':Shared),CX w [] H s (fun _ _ _=>False) e s'→False) :
  PySem.W.WalkO q loose XP YP l.row.toRowW d [] (fun f vs=>PySem.call f vs):=by
 refine Att.attach_call hn hdf fun w s₀ s₁ mg mb fa o pm cd doc a vs ns G Y ho hd hcd hmg hobj hints hlen hg=>?_
 have KX:=hY w _ Y
 obtain⟨fd,hb,hF⟩:=F w mg fa _ KX G.T.g hmg
 exact AK KX G.T.g G.T.b G.T.builtins G.T.nolimit hg hobj hints (Nat.le_trans hlen hn2) hr hF hb (fun H hO hS=>hsp w H a ns hlen hO hS) fun H e s'=>hCX w H s₁ e s'
end L2
/- THE LAST THEOREM (shape;LID,My.* are yours):
   My.Adr: a structure of the addresses that your layer names (classes,functions);My.Txt K t: a structure (Prop) of the equations over K;
   My.txt_mk:{K} {implicit addresses ..} (e1:nsIn K mainGlobals "law"=some (some (.ref f))) (e2:K.lookup f=some ⟨oc,od,.func (fnOf "law" "law" params body scope dV kV doc pm an cdv ct),sl⟩) (e3:codeIn K cdv "law"=true) ..:∃ t,My.Txt K t
set_option maxRecDepth 100000 in
set_option maxHeartbeats 0 in
theorem PySem.Challenge.cw_LID_holds : PySem.Challenge.rw_LID.Holds := by
 w_on;o_law;k_head;(case hw=>w_witness2)
 k_fill
 refine L2.walk_of (l:=PySem.Challenge.rw_LID) (n:=63) (k:=40) (x:="script") (CX:=fun w=>..) (sp:=fun _=>My.sp_law) rfl (by decide) rfl ⟨rfl,by decide,by decide⟩ (fun w h Y=>PySem.W.kIn_of Y) ?F ?S ?C
 case F =>
  intro w mg fa h KX G hmg
  have T:∃ t,My.Txt (L2.KOf KX) t:=by
   dsimp only [L2.KOf]                          -- K must stand as «<heap const> w.params» for k_is
   refine' My.txt_mk ?e1 ?e2 ?e3 ..
   (case e1=>PySem.W.k_is)                    -- in the order: a name -> its address -> its object -> its parts
   (case e2=>PySem.W.k_is)
   ..
  obtain⟨t,T⟩:=T
  have e0:=hmg.symm.trans (PySem.W.mg_of KX G T.law)
  cases e0                                       -- fa is the law's own address
  exact⟨_,fun s u=>.of_eq rfl,fun base kb nb=>My.law_fn T kb nb⟩     -- if «.of_eq rfl» comes too early: refine' ⟨_,?b,fun base kb nb=>My.law_fn T kb nb⟩;exact fun s u=>.of_eq rfl
 case S=>exact fun w H a ns hl hO hS=>..
 case C=>exact ..
(the tactic k_is has no namespace: write k_is) -/
namespace L2
open PySem PySem.Spec PyProof.Rows
def dS(s:Stmt):Arguments:=match s with
 | .FunctionDef _ a _ _ _ _ _ _ _ _=>a
 | _=>{ posonlyargs:=[],args:=[],vararg:=none,kwonlyargs:=[],kw_defaults:=[],kwarg:=none,defaults:=[] }
def dL(s:Stmt):List Stmt:=match s with
 | .FunctionDef _ _ b _ _ _ _ _ _ _=>b
 | _=>[]
def aF(s:Stmt):Scope:=match s with
 | .FunctionDef _ _ _ _ _ _ sc _ _ _=>sc
 | _=>{ kind:=.function,names:=[],isGenerator:=false,isCoroutine:=false }
abbrev yP:AA:=fun _ _ _ _ _ _=>False
abbrev E0:XK:=fun _ _ _=>False
theorem dI{X:Cx}:jN yP X E0:=fun _ _ _ _ _ _ _ h=>h.elim
structure Fun(K:PySem.W.Frag)(x qual:Str)(st:Stmt)(f:Addr)(fd:FuncData):Prop where
 ex:∃ (oc:Value) (od:Option Addr) (kV doc pm:Value) (an:Option Addr) (cdv ct:Value) (osl:Array (Option Value)),
  fd=PySem.W.fnOf x qual (dS st) (dL st) (aF st) .none kV doc pm an cdv ct∧K.lookup f=some ⟨oc,od,.func fd,osl⟩∧PySem.W.codeIn K cdv qual=true
 kp:PySem.W.keepIn K (.ref f)=true
section
variable {P:Program}{w:World}{K:PySem.W.Frag}{mg:Str→Option Value}{base:Heap}
theorem Fun.ok{x qual:Str}{st:Stmt}{f:Addr}{fd:FuncData}{N ps:List Str}{k:Nat}{sp:Sp}(F:Fun K x qual st f fd)(S:FnScope N ps (aF st))(len:∀ vs H Q E,sp vs H Q E→vs.length=ps.length)
  (hbody:∀ (cdv:Value) (A:Around) (outer:List Env) (s:Shared) (H:Hp) (vs:List V) (Q:VK) (E:XK),Room k (A.deeper (envOfC qual (aF st) s.heap.objs.size f cdv))→sp vs H Q E →
   ∃ t,PSs (As yP P w K mg base N qual (aF st) f cdv A outer s H E).nox (dL st) t∧t { nx:=fun _ H'=>Q .non H',rt:=Q } (mC N vs) H):FnOk P w K mg base yP (k+1) f fd ps sp:=by
 obtain⟨oc,od,kV,doc,pm,an,cdv,ct,osl,rfl,lk,hcd⟩:=F.ex
 refine Gh lk hcd S len fun A outer s H vs Q E hr hsp=>?_
 obtain⟨t,h,q⟩:=hbody cdv A outer s H vs Q E hr hsp
 exact⟨t,h.nox,q⟩
theorem Fun.binds{x qual:Str}{st:Stmt}{f:Addr}{fd:FuncData}{ps:List Str}(F:Fun K x qual st f fd)
  (h:∀ (kV doc pm:Value) (an:Option Addr) (cdv ct:Value) (us:List Value),us.length=ps.length→bindArgs (PySem.W.fnOf x qual (dS st) (dL st) (aF st) .none kV doc pm an cdv ct) ⟨us,[]⟩=pure (ps.zip us)):Binds K fd ps []:=by
 obtain⟨oc,od,kV,doc,pm,an,cdv,ct,osl,rfl,lk,hcd⟩:=F.ex
 exact .all (h kV doc pm an cdv ct)
theorem lY{x qual:Str}{st:Stmt}{f:Addr}{oc:Value}{od an:Option Addr}{osl:Array (Option Value)}{kV doc pm cdv ct:Value}(l:K.lookup f=some ⟨oc,od,.func (PySem.W.fnOf x qual (dS st) (dL st) (aF st) .none kV doc pm an cdv ct),osl⟩)
  (c:PySem.W.codeIn K cdv qual=true) (k:PySem.W.keepIn K (.ref f)=true):Fun K x qual st f (PySem.W.fnOf x qual (dS st) (dL st) (aF st) .none kV doc pm an cdv ct):=⟨⟨oc,od,kV,doc,pm,an,cdv,ct,osl,rfl,l,c⟩,k⟩
end
theorem aU{n:Nat}(h:n≤1000):n<sizeLine:=Nat.lt_of_le_of_lt h (by decide)
section
variable {X:Cx}
theorem pv(i:Nat){x:Str}{pos:Pos}(hN:X.N[i]?=some x:=by rfl)(hv:GD X.env.scope x:=by first | exact Or.inl rfl | exact Or.inr (Or.inl rfl) | exact Or.inr (Or.inr rfl))(hd:(x == ("__debug__":Str))=false:=by decide)
  (hcd:(x == ("__classdict__":Str))=false:=by decide):PE X (.Name x pos) (C4 i):=ED hN hv hd hcd
end
theorem gF{A B:Prop}(h:B):if false=true then A else B:=by
 rw[if_neg Bool.false_ne_true]
 exact h
theorem sT{A B:Prop}(h:A):if true=true then A else B:=by
 rw[if_pos rfl]
 exact h
theorem gQ{c A B:Prop}[Decidable c](h1:c→A)(h2:¬ c→B):if c then A else B:=by
 by_cases h:c
 ·rw[if_pos h]
  exact h1 h
 ·rw[if_neg h]
  exact h2 h
def Same(H H':Hp):Prop:=∀ b o,H b=some o→H' b=some o
theorem Same.refl(H:Hp):Same H H:=fun _ _ h=>h
theorem Same.trans{H H1 H2:Hp}(a:Same H H1)(b:Same H1 H2):Same H H2:=fun c o h=>b c o (a c o h)
theorem Same.free{H H':Hp}(e:Same H H'){l:Addr}(h:H' l=Option.none):H l=Option.none:=by
 cases q:H l with
 | none=>rfl
 | some o =>
  rw[e l o q] at h
  cases h
def eM(cells:List (Str×Addr))(acc:List (Str×Addr))(p:Str×NameKind):List (Str×Addr) :=
 if p.2 == .free then (match cells.lookup p.1 with | some c=>(p.1,c)::acc | none=>acc) else acc
def B3(names:List (Str×NameKind))(cells:List (Str×Addr)):List (Str×Addr):=names.foldl (eM cells) []
theorem jZ{env:Env}:∀ (names:List (Str×NameKind)) (acc:List (Str×Addr)),(∀ y∈names,y.2=.free→∃ c,env.cells.lookup y.1=some c) →
  (forIn names acc (fun (p:Str×NameKind) (cs:List (Str×Addr))=>(match p with
   | (name,kind)=>if (kind == .free)=true then (do let c ← cellOf env name;pure (ForInStep.yield ((name,c)::cs))) else pure (ForInStep.yield cs):Sem (ForInStep (List (Str×Addr))))))=pure (names.foldl (eM env.cells) acc)
 | [],acc,_=>rfl
 | (n,k)::r,acc,h=>by
  have ih:=fun acc=>jZ (env:=env) r acc fun y hy=>h y (List.mem_cons_of_mem _ hy)
  rw[List.forIn_cons,List.foldl_cons]
  by_cases e:(k == NameKind.free)=true
  ·obtain⟨c,hc⟩:=h (n,k) List.mem_cons_self (by simpa using e)
   have hc':env.cells.lookup n=some c:=hc
   have e1:eM env.cells acc (n,k)=(n,c)::acc:=by unfold eM;rw[if_pos e];simp only [hc']
   rw[e1,← ih]
   have e2:cellOf env n=pure c:=by unfold cellOf;rw[hc']
   simp only [e,if_true,e2]
   rfl
  ·have e1:eM env.cells acc (n,k)=acc:=by unfold eM;rw[if_neg e]
   rw[e1,← ih]
   simp only [e,if_false]
   rfl
theorem jC{scope:Scope}{env:Env}(h:∀ y∈scope.names,y.2=.free→∃ c,env.cells.lookup y.1=some c):closureFor scope env=pure (B3 scope.names env.cells):=by
 unfold closureFor
 have q:=jZ (env:=env) scope.names [] h
 unfold B3
 exact(congrArg (fun (m:Sem (List (Str×Addr)))=>m >>= fun cs=>pure cs) q).trans rfl
theorem tP{cells:List (Str×Addr)}:∀ (names:List (Str×NameKind)) (acc:List (Str×Addr)),(∀ y c,acc.lookup y=some c→cells.lookup y=some c)→∀ y c,(names.foldl (eM cells) acc).lookup y=some c→cells.lookup y=some c
 | [],acc,h,y,c,e=>h y c e
 | p::r,acc,h,y,c,e=>by
  refine tP r (eM cells acc p) (fun z d q=>?_) y c e
  unfold eM at q
  split at q
  ·split at q
   ·rename_i c' hc'
    rw[List.lookup_cons] at q
    split at q
    ·rename_i hz
     have hz':z=p.1:=by simpa using hz
     cases q
     rw[hz'];exact hc'
    ·exact h z d q
   ·exact h z d q
  ·exact h z d q
theorem uB{cells:List (Str×Addr)}:∀ (names:List (Str×NameKind)) (acc:List (Str×Addr)) (y:Str),(acc.lookup y).isSome=true→((names.foldl (eM cells) acc).lookup y).isSome=true
 | [],_,_,h=>h
 | p::r,acc,y,h=>by
  refine uB r _ y ?_
  unfold eM
  split
  ·split
   ·rw[List.lookup_cons]
    split
    ·rfl
    ·exact h
   ·exact h
  ·exact h
theorem vX{cells:List (Str×Addr)}:∀ (names:List (Str×NameKind)) (acc:List (Str×Addr)) (y:Str) (c:Addr),(y,NameKind.free)∈names→cells.lookup y=some c→((names.foldl (eM cells) acc).lookup y).isSome=true
 | [],_,_,_,h,_=>by simp at h
 | p::r,acc,y,c,h,hc=>by
  rcases List.mem_cons.mp h with e | e
  ·refine uB r _ y ?_
   subst e
   unfold eM
   simp only [hc]
   simp[List.lookup_cons]
  ·exact vX r _ y c e hc
theorem kC{env:Env}:∀ {names:List (Str×NameKind)} {x:Str},names.lookup x=some .free →
  (names.map fun (n,k)=>if (k == NameKind.free && env.scope.kind == .function && env.kindOf n == some .cell) then (n,NameKind.cell) else (n,k)).lookup x=some .cell ∨
  (names.map fun (n,k)=>if (k == NameKind.free && env.scope.kind == .function && env.kindOf n == some .cell) then (n,NameKind.cell) else (n,k)).lookup x=some .free
 | [],_,h=>by simp at h
 | (n,k)::r,x,h=>by
  have ih:=@kC env r x
  rw[List.map_cons]
  cases hx:x == n with
  | true =>
   simp only [List.lookup_cons,hx] at h
   cases h
   by_cases hc:(NameKind.free == NameKind.free && env.scope.kind == .function && env.kindOf n == some .cell)=true
   ·left;dsimp only;rw[if_pos hc];simp[List.lookup_cons,hx]
   ·right;dsimp only;rw[if_neg hc];simp[List.lookup_cons,hx]
  | false =>
   simp only [List.lookup_cons,hx] at h
   have e:∀ z:Str×NameKind,z.1=n→((z::(r.map fun (n,k)=>if (k == NameKind.free && env.scope.kind == .function && env.kindOf n == some .cell) then (n,NameKind.cell) else (n,k))).lookup x=(r.map fun (n,k)=>if (k == NameKind.free && env.scope.kind == .function && env.kindOf n == some .cell) then (n,NameKind.cell) else (n,k)).lookup x):=fun z hz=>by
    obtain⟨z1,z2⟩:=z
    cases hz
    rw[List.lookup_cons,hx]
   dsimp only
   split
   ·rw[e _ rfl];exact ih h
   ·rw[e _ rfl];exact ih h
theorem kF{env:Env}:∀ {names:List (Str×NameKind)} {x:Str},(∀ y∈names,y.2≠.cell) →
  ((names.map fun (n,k)=>if (k == NameKind.free && env.scope.kind == .function && env.kindOf n == some .cell) then (n,NameKind.cell) else (n,k)).lookup x=some .cell ∨
  (names.map fun (n,k)=>if (k == NameKind.free && env.scope.kind == .function && env.kindOf n == some .cell) then (n,NameKind.cell) else (n,k)).lookup x=some .free)→names.lookup x=some .free
 | [],_,_,h=>by simp at h
 | (n,k)::r,x,hn,h=>by
  have ih:=@kF env r x fun y hy=>hn y (List.mem_cons_of_mem _ hy)
  have hk:k≠.cell:=hn (n,k) List.mem_cons_self
  rw[List.map_cons] at h
  cases hx:x == n with
  | true =>
   by_cases hc:(k == NameKind.free && env.scope.kind == .function && env.kindOf n == some .cell)=true
   ·have:k=.free:=by
     cases k <;> simp at hc ⊢
    subst this
    simp[List.lookup_cons,hx]
   ·dsimp only at h;rw[if_neg hc] at h
    simp only [List.lookup_cons,hx] at h ⊢
    rcases h with h | h
    ·cases h;exact absurd rfl hk
    ·exact h
  | false =>
   have e:∀ z:Str×NameKind,z.1=n→((z::(r.map fun (n,k)=>if (k == NameKind.free && env.scope.kind == .function && env.kindOf n == some .cell) then (n,NameKind.cell) else (n,k))).lookup x=(r.map fun (n,k)=>if (k == NameKind.free && env.scope.kind == .function && env.kindOf n == some .cell) then (n,NameKind.cell) else (n,k)).lookup x):=fun z hz=>by
    obtain⟨z1,z2⟩:=z
    cases hz
    rw[List.lookup_cons,hx]
   dsimp only at h
   have h':(r.map fun (n,k)=>if (k == NameKind.free && env.scope.kind == .function && env.kindOf n == some .cell) then (n,NameKind.cell) else (n,k)).lookup x=some .cell∨(r.map fun (n,k)=>if (k == NameKind.free && env.scope.kind == .function && env.kindOf n == some .cell) then (n,NameKind.cell) else (n,k)).lookup x=some .free:=by
    split at h
    ·rw[e _ rfl] at h;exact h
    ·rw[e _ rfl] at h;exact h
   rw[List.lookup_cons,hx]
   exact ih h'
structure CompSc(X:Cx)(scope:Scope)(x:Str)(ix:List Nat):Prop where
 kind:scope.kind=.function
 nocell:∀ y∈scope.names,y.2≠.cell
 loc:∀ y∈scope.names,y.2=.local→scope.names.lookup y.1=some .local
 x:scope.names.lookup x=some .local
 free:∀ y∈scope.names,y.2=.free→X.env.scope.names.lookup y.1=some .cell∨X.env.scope.names.lookup y.1=some .free
 cap:∀ i∈ix,i<X.N.length∧scope.names.lookup (X.N.getD i "")=some .free
def nE(X:Cx)(x:Str)(ix:List Nat):List Str:=x::ix.map fun i=>X.N.getD i ""
def uO(σ:St)(ix:List Nat):St:=none::ix.map fun i=>σ.getD i none
def cH(X:Cx)(scope:Scope)(x:Str)(ix:List Nat)(ex:List Addr)(s:Shared)(H:Hp):Cx where
 prog:=X.prog
 w:=X.w
 K:=X.K
 mg:=X.mg
 base:=X.base
 A:=X.A
 N:=nE X x ix
 s₀:=s
 H₀:=H
 env:=compEnvC scope (B3 scope.names X.env.cells) s.heap.objs.size X.env
 outer:=X.stack
 stack:=X.stack
 ex:=ex
 fn:=fun _=>false
 calm:=X.calm
 pn:=[]
 xe:=fun _ _=>False
section
variable {X:Cx}{scope:Scope}{x:Str}{ix:List Nat}
theorem CompSc.cells(S:CompSc X scope x ix)(ok:X.Ok):∀ y∈scope.names,y.2=.free→∃ c,X.env.cells.lookup y.1=some c:=fun y hy hf=>ok.has y.1 (S.free y hy hf)
theorem Bd{pins:List (Addr×Obj)}{σ:St}{H:Hp}{s:Shared}{h':Heap}{t':Nat}{fp:List Addr}(S:CompSc X scope x ix)(I:Inv X pins σ H s)(hf:∀ b∈fp,gD X pins H b)(hlt:∀ b∈fp,b<s.heap.objs.size)
  (ns:h'.Ns s.heap.objs.size (fun y=>([]:List (Str×Value)).reverse.lookup y)) (sb:Heap.SameBut s.heap.objs.size (s.heap.push { cls:=.type "dict",data:=.dict #[] }) h') :
  Inv (cH X scope x ix fp s H) [] (uO σ ix) H { s with heap:=h',toks:=t' }:=by
 have hk:∀ b u,s.heap.get? b=some u→h'.get? b=some u:=fun b u e=>(sb.2 b (Nat.ne_of_lt (Heap.lt_size e))).trans (Heap.get?_push_of_some _ e)
 have sound:∀ y c,(B3 scope.names X.env.cells).lookup y=some c→X.env.cells.lookup y=some c:=tP scope.names [] (fun _ _ q=>by simp at q)
 have cellLt:∀ y c,X.env.cells.lookup y=some c→c<s.heap.objs.size:=fun y c e=>by
  obtain⟨v,q⟩:=I.cell y c e
  exact q.lt
 have cellK:∀ y c v,X.env.cells.lookup y=some c→s.heap.IsCell c v→h'.IsCell c v:=fun y c v _ ⟨o,ho,hd⟩=>⟨o,hk c o ho,hd⟩
 refine⟨⟨I.ok.mod,S.kind,I.ok.glob,I.ok.blt,Nat.le_refl _,fun y z c h1 h2=>I.ok.inj y z c (sound y c h1) (sound z c h2),fun y hy=>?_,fun y c hf _=>(by cases hf),I.ok.hd,I.ok.frames,.inl rfl,fun b hb=>⟨Nat.ne_of_lt (hlt b hb),fun y c e=>(hf b hb).2.2.2.2.1 y c (sound y c e)⟩,I.bs,Nat.le_trans I.ok.bsz I.sz,fun b o e hb=>?_,fun b hb hs=>?_,I.stack,I.stkFree⟩,
  rfl,I.bare,Un.kept hk,⟨_,ns,fun i y v h1 h2 h3=>?_⟩,fun y c e=>?_,I.hok.fresh (Nat.le_refl _),fun y c e=>I.freeC y c (sound y c e),fun p hp=>absurd (show p∈([]:List (Addr×Obj)) from hp) (by simp),I.hok.kept hk,?_⟩
 ·have hy':scope.names.lookup y=some .free:=kF (env:=X.env) S.nocell hy
  obtain⟨c,hc⟩:=S.cells I.ok (y,.free) (PySem.mem_of_lookup hy') rfl
  exact Option.isSome_iff_exists.mp (vX scope.names [] y c (PySem.mem_of_lookup hy') hc)
 ·obtain⟨_,_,_,f3,_⟩:=hf b hb
  rcases f3 with f3 | f3
  ·exact I.ok.noex b o e f3
  ·exact absurd (Nat.lt_of_lt_of_le (Heap.lt_size e) (Nat.le_trans I.ok.bsz f3)) (Nat.lt_irrefl _)
 ·rcases List.mem_cons.mp (I.stkSub b hs) with e | e
  ·exact(hf b hb).2.1 e
  ·exact(hf b hb).2.2.1 e
 ·cases i with
  | zero =>
   have h2':(none:Option V)=some v:=by simpa [uO] using h2
   cases h2'
  | succ i =>
   have h1':(ix.map fun i=>X.N.getD i "")[i]?=some y:=by simpa [cH,nE] using h1
   have h2':(ix.map fun i=>σ.getD i none)[i]?=some (some v):=by simpa [uO] using h2
   rw[List.getElem?_map] at h1' h2'
   cases ei:ix[i]? with
   | none=>rw[ei] at h1';cases h1'
   | some j =>
    rw[ei] at h1' h2'
    have h1'':X.N.getD j ""=y:=Option.some.inj h1'
    have h2'':σ.getD j none=some v:=Option.some.inj h2'
    obtain⟨hj,hfr⟩:=S.cap j (List.mem_of_getElem? ei)
    rw[h1''] at hfr
    have e1:X.N[j]?=some y:=by
     rw[List.getElem?_eq_getElem hj]
     rw[List.getD_eq_getElem?_getD,List.getElem?_eq_getElem hj] at h1''
     exact congrArg some h1''
    have e2:σ[j]?=some (some v):=by
     have hj':j<σ.length:=by rw[I.len];exact hj
     rw[List.getElem?_eq_getElem hj']
     rw[List.getD_eq_getElem?_getD,List.getElem?_eq_getElem hj'] at h2''
     exact congrArg some h2''
    have vis:GD X.env.scope y:=by
     rcases S.free (y,.free) (PySem.mem_of_lookup hfr) rfl with q | q
     ·exact .inr (.inl q)
     ·exact .inr (.inr q)
    obtain⟨m,hn,hl⟩:=I.loc
    obtain⟨u,r,q⟩:=hl j y v e1 e2 vis
    refine⟨u,r,.inr ⟨?_,?_⟩⟩
    ·exact kC (env:=X.env) hfr
    ·rcases q with ⟨k,_⟩ | ⟨_,c,hc,z⟩
     ·rcases S.free (y,.free) (PySem.mem_of_lookup hfr) rfl with q | q
      ·rw[show X.env.kindOf y=X.env.scope.names.lookup y from rfl,q] at k;cases k
      ·rw[show X.env.kindOf y=X.env.scope.names.lookup y from rfl,q] at k;cases k
     ·obtain⟨c',hc'⟩:=Option.isSome_iff_exists.mp (vX scope.names [] y c (PySem.mem_of_lookup hfr) hc)
      have e3:=sound y c' hc'
      rw[hc] at e3;cases e3
      exact⟨c,hc',cellK y c _ hc z⟩
 ·obtain⟨v,q⟩:=I.cell y c (sound y c e)
  exact⟨v,cellK y c v (sound y c e) q⟩
 ·simp[uO,cH,nE]
theorem uR{pins:List (Addr×Obj)}{σ σ':St}{H H':Hp}{s s':Shared}{fp:List Addr}{h'':Heap}(I:Inv X pins σ H s)(hf:∀ b∈fp,gD X pins H b)(J:Inv (cH X scope x ix fp s H) [] σ' H' s')
  (sb:Heap.SameBut s.heap.objs.size s'.heap h''):Inv X pins σ H' { s' with heap:=h'' }:=by
 have neC:∀ b o,s.heap.get? b=some o→b≠s.heap.objs.size:=fun b o e=>Nat.ne_of_lt (Heap.lt_size e)
 have B:Un (Az X.stack) fp H H' s.heap s'.heap:=J.base
 have hC:H' s.heap.objs.size=none:=J.free
 refine I.call' (ch:=fp) J.os ?_ ?_ J.bare fun b hb=>⟨(hf b hb).2.2.2.1,(hf b hb).2.1,(hf b hb).2.2.2.2.1,(hf b hb).2.2.2.2.2⟩
 ·refine⟨fun b o e n hb hx=>(sb.2 b (neC b o e)).trans (B.keep b o e n hb hx),fun b o e n hb hx=>?_,B.free,fun b o e hx=>?_,B.tups,B.frzs,B.tbls⟩
  ·obtain⟨sl,q⟩:=B.slot b o e n hb hx
   exact⟨sl,(sb.2 b (neC b o e)).trans q⟩
  ·obtain⟨o',q⟩:=B.there b o e hx
   exact⟨o',(sb.2 b (neC b o e)).trans q⟩
 ·intro b ob e
  refine(J.hok b ob e).stay (fun c w' hc q=>(sb.2 c ?_).trans q) (fun _ q=>q) fun _ _ q=>q
  rintro rfl
  rcases hc with hc | hc
  ·rw[← hc,hC] at e;cases e
  ·rw[hC] at hc;cases hc
end
theorem pI{α β:Type}{M:Model}{A:Around}{a:α}{t:Sem β}{P:α→Shared→Prop}{Q:β→Shared→Prop}{E E':Value→Shared→Prop}{s:Shared}(h:wpAny M A (pure a:Sem α) P E s)(k:P a s→wpAny M A t Q E' s):wpAny M A t Q E' s:=fun Γ p hΓ=>k (h Γ p hΓ) Γ p hΓ
def wY(X:Cx)(ifs:List Expr)(t:TT):Prop :=
 ∀ (pins:List (Addr×Obj)) (s:Shared) (σ:St) (H:Hp) (Q:Bool→Hp→Prop),Inv X pins σ H s→t σ H Q →
  wpAny (model X.prog X.w) X.A (forIn ifs true fun c r=>if r=true then do let ok ← isTrue c X.env (eval c X.env);pure (ForInStep.yield ok) else pure (ForInStep.yield r)) (TP X pins σ Q) X.xe s
def HZ:TT:=fun _ H Q=>Q true H
theorem cG{X:Cx}:wY X [] HZ:=fun _ _ _ H _ I h=>wpAny_tests_nil ⟨H,I,h⟩
theorem uY{X:Cx}{c:Expr}{t:TT}(h:PT X c t):wY X [c] t:=fun pins s σ H Q I q=>wpAny_tests_one (h pins s σ H Q I q)
def BP(σ:St)(ix:List Nat):St:=ix.map fun i=>σ.getD i none
def jM(J:It)(D:Addr)(Q:VK)(ti:TT)(te:TE)(c:St)(H0:Hp):Prop :=
 ∃ W:Nat→Nat→Hp→Prop,(∃ m,W 0 m H0)∧∀ i m H,W i m H →
  (J.stop i H∧Q (.ref D) H)∨(J.go i H∧∃ N:Hp→Prop,(∀ H',N H'→∃ m',m' < m∧W (i+1) m' H')∧∀ v H',J.yld i H v H' →
   ti (some v::c) H' fun b H2=>if b=true then te (some v::c) H2 fun y H3=>∃ ys,H3 D=some (.lst ys)∧ys.length<sizeLine∧N (upd H3 D (.lst (ys++[y]))) else N H2)
def By(wi:TI)(ix:List Nat)(ti:TT)(te:TE):TE:=fun σ H Q=>wi σ H fun J H1=>∀ D,H1 D=none→jM J D Q ti te (BP σ ix) (upd H1 D (.lst []))
section
variable {X:Cx}{scope:Scope}{x:Str}{px pos:Pos}{ix:List Nat}{elt iter:Expr}{ifs:List Expr}{wi:TI}{ti:TT}{te:TE}
theorem oW{pins:List (Addr×Obj)}{σ:St}{H:Hp}{s:Shared}{fp:List Addr}{it D:Addr}{tn:Nat→Heap→Prop}{J:It}{Q:VK}{E:Value→Shared→Prop}{RR:Result→Shared→Prop}(S:CompSc X scope x ix)(hc:X.calm=true)
  (he:∀ s H,PE (cH X scope x ix fp s H) elt te) (hi:∀ s H,wY (cH X scope x ix fp s H) ifs ti)
  (I:Inv X pins σ H s) (T:Turn X.prog X.w X.K (.Name x px) J fp it tn) (st:tn 0 s.heap) (hf:∀ b∈fp,gD X pins H b) (go:jM J D Q ti te (BP σ ix) H)
  (nd:(nE X x ix).Nodup)
  (hR:∀ σ' H' s',Inv (cH X scope x ix fp s H) [] σ' H' s'→Q (.ref D) H'→RR (.ok .next) s') :
  wpAny (model X.prog X.w) X.A (newFunctionEnv scope X.env.globals (B3 scope.names X.env.cells) [] X.env.qual none .none (some X.env)) (fun cenv s₄=>cenv.locals=s.heap.objs.size ∧
   codeAny (model X.prog X.w) X.A (.compStart (.ListComp elt [⟨.Name x px,iter,ifs,0⟩] scope pos) 0 (.ref it) (.ref D) { cenv with scope:=relabel scope X.env }) RR s₄) E s:=by
 refine wpAny_newFunctionEnv S.nocell (by intro y hy;simp at hy) (fun h' ns sb=>⟨rfl,?_⟩) S.kind
 have hlt:∀ b∈fp,b<s.heap.objs.size:=fun b hb=>by
  obtain⟨o,e,_⟩:=T.obj 0 _ st b hb
  exact Heap.lt_size e
 have I0:Inv (cH X scope x ix fp s H) [] (uO σ ix) H { s with heap:=h',toks:=s.toks+([]:List (Str×Value)).length }:=Bd S I hf hlt ns sb
 have st0:tn 0 h':=T.keep 0 _ _ st fun b hb o e=>(sb.2 b (Nat.ne_of_lt (Heap.lt_size e))).trans (Heap.get?_push_of_some _ e)
 obtain⟨W,⟨m0,w0⟩,turn⟩:=go
 have stat:∀ {H':Hp},(∀ b∈fp,H' b=none)→∀ b∈fp,gD (cH X scope x ix fp s H) [] H' b:=fun hn b hb=>by
  refine⟨hn b hb,Nat.ne_of_lt (hlt b hb),fun z=>?_,.inl hb,fun y c e=>(I0.ok.exf b hb).2 y c e,fun p hp=>absurd (show p∈([]:List (Addr×Obj)) from hp) (by simp)⟩
  exact I0.ok.exfs b hb z
 have loop:codeAny (model X.prog X.w) X.A (.compLoop (.ListComp elt [⟨.Name x px,iter,ifs,0⟩] scope pos) 0 (.ref it) (.ref D) (cH X scope x ix fp s H).env) RR { s with heap:=h',toks:=s.toks+([]:List (Str×Value)).length }:=by
  refine codeAny_compLoop_tests (fun n s'=>∃ i o H',Inv (cH X scope x ix fp s H) [] (o::BP σ ix) H' s'∧tn i s'.heap∧(∀ b∈fp,H' b=none)∧W i n H') ?_ m0 ⟨0,none,H,I0,st0,fun b hb=>(hf b hb).1,w0⟩
  rintro n s3 ⟨i,o3,H3,I3,st3,fr3,w3⟩
  rcases turn i n H3 w3 with ⟨stop,qn⟩ | ⟨gone,N,hN,step⟩
  ·refine bZ (T.done (cH X scope x ix fp s H) rfl rfl rfl hc i [] s3 _ H3 _ I3 (stat fr3) st3 stop) fun r s4 ⟨hr,I4⟩=>?_
   subst hr
   exact hR _ H3 s4 I4 qn
  ·refine bZ (T.item (cH X scope x ix fp s H) rfl rfl rfl hc i [] s3 _ H3 (fun _ _=>False) I3 (stat fr3) st3 gone |> fun z=>wpAny_mono z (fun _ _ q=>q) fun _ _ f=>f.elim) fun r s4 ⟨u,hr,h4⟩=>?_
   subst hr
   refine pI (a:=()) h4 fun ⟨y,H5,I5,r5,y5,st5,fr5⟩=>?_
   have I5':=I5.pinned (stat fr5) (T.obj _ _ st5)
   have hx0:(cH X scope x ix fp s H).N[0]?=some x:=rfl
   refine wpAny_assign_Name (gL I5' nd hx0 (.inl (lookup_relabel_local S.x)) r5 (fun s6 I6=>?_) (.inr (lookup_relabel_local S.x)))
   refine wpAny_mono (hi s H _ s6 _ H5 _ I6 (step y H5 y5)) (fun ok s7 ⟨H7,I7,q7⟩=>?_) fun _ _ f=>f.elim
   have again:∀ {o7:Option V} {H7:Hp} {s7:Shared},Inv (cH X scope x ix fp s H) ([]++jI fp s4.heap) (o7::BP σ ix) H7 s7→N H7→∃ m,m<n∧∃ i o H',Inv (cH X scope x ix fp s H) [] (o::BP σ ix) H' s7∧tn i s7.heap∧(∀ b∈fp,H' b=none)∧W i m H':=fun {o7 H7 s7} I7 n7=>by
    obtain⟨m',hm,w7⟩:=hN H7 n7
    refine⟨m',hm,i+1,o7,H7,I7.unpinned,T.keep _ _ _ st5 fun b hb o e=>(I7.pin (b,o) (List.mem_append_right _ (List.mem_append_right _ (gS hb e)))).1,fun b hb=>?_,w7⟩
    obtain⟨o,e,d⟩:=T.obj _ _ st5 b hb
    exact(I7.pin (b,o) (List.mem_append_right _ (List.mem_append_right _ (gS hb e)))).2.1
   cases ok with
   | false =>
    rw[if_neg (by simp)] at q7
    exact again I7 q7
   | true =>
    rw[if_pos rfl] at q7
    refine wpAny_mono (he s H _ s7 _ H7 _ I7 q7) (fun v s8 ⟨y8,H8,I8,r8,ys,hD,hz,n8⟩=>?_) fun _ _ f=>f.elim
    obtain⟨z,its,k,rv,e⟩:=I8.hok D _ hD
    have hl:s8.heap.IsList D its.toArray:=⟨_,e,rfl,k,rfl⟩
    refine cO _ s8 _ H8 (.ref D) [y8] (.ref D) [v] _ I8 rfl (.cons r8 .nil) ⟨D,ys,y8,rfl,rfl,hD,hz,n8⟩ |> fun z=>wpAny_mono z (fun _ s9 ⟨_,H9,I9,_,q9⟩=>again I9 q9) fun _ _ f=>f.elim
 exact codeAny_compStart_list loop (T.self _ 0 _ _ _ st0 loop)
end
section
variable {X:Cx}{scope:Scope}{x:Str}{px pos:Pos}{ix:List Nat}{elt iter:Expr}{ifs:List Expr}{wi:TI}{ti:TT}{te:TE}
theorem Inv.fp_upd{pins:List (Addr×Obj)}{H:Hp}{D:Addr}{o:HO}{fp:List Addr}(hf:∀ b∈fp,gD X pins H b)(hD:∀ b∈fp,b≠D):∀ b∈fp,gD X pins (upd H D o) b:=fun b hb =>
 ⟨by rw[aE (hD b hb)];exact(hf b hb).1,(hf b hb).2⟩
theorem Dp(S:CompSc X scope x ix)(nd:(nE X x ix).Nodup)(hc:X.calm=true)(hi:PI X (.Name x px) iter wi)(hif:∀ fp s H,wY (cH X scope x ix fp s H) ifs ti)(he:∀ fp s H,PE (cH X scope x ix fp s H) elt te)
  (hs:∀ z,foldedSetIterable iter X.env z=pure z:=by intro _;rfl):PE X (.ListComp elt [⟨.Name x px,iter,ifs,0⟩] scope pos) (By wi ix ti te):=by
 intro pins s σ H Q I h
 rw[eval_ListComp]
 refine wpAny_comprehension_free (use:=none) rfl hs (jC (S.cells I.ok)) S.kind S.loc (bZ (hi pins s σ H _ I h) fun v s1 h1=>bZ h1 fun itv s2 h2=>?_)
 obtain⟨it,fp,tn,J,H2,rfl,I2,T,st2,f2,q⟩:=h2
 refine wpAny_newObj_type ?_
 have fr:=I2.fresh
 have I3:Inv X pins σ (upd H2 s2.heap.objs.size (.lst [])) { s2 with heap:=s2.heap.push { cls:=.type "list",data:=.seq ([]:List Value).toArray } }:=I2.lnew (t':=s2.toks) .nil (Nat.zero_le _)
 have hD:∀ b∈fp,b≠s2.heap.objs.size:=fun b hb=>by
  obtain⟨o,e,_⟩:=T.obj 0 _ st2 b hb
  exact Nat.ne_of_lt (Heap.lt_size e)
 have f3:=Inv.fp_upd (o:=.lst []) f2 hD
 have st3:tn 0 (s2.heap.push { cls:=.type "list",data:=.seq ([]:List Value).toArray }):=T.keep 0 _ _ st2 fun b hb o e=>Heap.get?_push_of_some _ e
 refine bZ (oW (px:=px) (pos:=pos) (iter:=iter) (E:=X.xe) (RR:=compPost (model X.prog X.w) X.A X.xe none (EP X pins σ Q) (.ref s2.heap.objs.size) (s2.heap.push { cls:=.type "list",data:=.seq ([]:List Value).toArray }).objs.size) S hc (he fp) (hif fp) I3 T st3 f3 (q _ fr) nd ?_) fun cenv s4 ⟨e,z⟩=>?_
 ·intro σ' H' s' J' q'
  obtain⟨m,hn,_⟩:=J'.loc
  exact⟨m,hn,fun h'' sb=>⟨_,H',uR I3 f3 J' sb,(show RelV (.ref s2.heap.objs.size) _ from rfl),q'⟩⟩
 ·rw[← show cenv.locals=(s2.heap.push { cls:=.type "list",data:=.seq ([]:List Value).toArray }).objs.size from e] at z;exact z
def DK(i:Nat)(wi:TI)(ix:List Nat)(ti:TT)(te:TE):TS:=fun D σ H=>By wi ix ti te σ H fun v H1=>D.nx (σ.set i (some v)) H1
theorem CQ{i:Nat}{y:Str}{py spos:Pos}(hN:X.N.Nodup)(hy:X.N[i]?=some y)(hyl:X.env.scope.names.lookup y=some .local)(S:CompSc X scope x ix)(nd:(nE X x ix).Nodup)(hc:X.calm=true)(hi:PI X (.Name x px) iter wi)
  (hif:∀ fp s H,wY (cH X scope x ix fp s H) ifs ti) (he:∀ fp s H,PE (cH X scope x ix fp s H) elt te)
  (hsw:swapsWith (.ListComp elt [⟨.Name x px,iter,ifs,0⟩] scope pos) (some (.Name y py)) spos.line X.env=pure true:=by rfl)
  (hs:∀ z,foldedSetIterable iter X.env z=pure z:=by intro _;rfl):PS X (.Assign [.Name y py] (.ListComp elt [⟨.Name x px,iter,ifs,0⟩] scope pos) spos) (DK i wi ix ti te):=by
 intro pins s σ H D I h
 rw[exec_Assign_Name_used _ _ _ _ hsw]
 refine wpAny_bind (wpAny_standAt (wpAny_bind ?_))
 show wpAny _ X.A (do let _ ← comprehension (.ListComp elt [⟨.Name x px,iter,ifs,0⟩] scope pos) scope X.env _ (newList []) false (eval iter X.env) (some (assign (.Name y py) X.env))) _ _ s
 refine wpAny_bind (wpAny_mono (wpAny_comprehension_free (use:=some (assign (.Name y py) X.env)) (Q:=fun _ s'=>SP X pins D .next s') rfl hs (jC (S.cells I.ok)) S.kind S.loc (bZ (hi pins s σ H _ I h) fun v s1 h1=>bZ h1 fun itv s2 h2=>?_)) (fun _ s' hq=>wpAny_pure (wpAny_pure hq)) fun _ _ e=>e)
 obtain⟨it,fp,tn,J,H2,rfl,I2,T,st2,f2,q⟩:=h2
 refine wpAny_newObj_type ?_
 have fr:=I2.fresh
 have I3:Inv X pins σ (upd H2 s2.heap.objs.size (.lst [])) { s2 with heap:=s2.heap.push { cls:=.type "list",data:=.seq ([]:List Value).toArray } }:=I2.lnew (t':=s2.toks) .nil (Nat.zero_le _)
 have hD:∀ b∈fp,b≠s2.heap.objs.size:=fun b hb=>by
  obtain⟨o,e,_⟩:=T.obj 0 _ st2 b hb
  exact Nat.ne_of_lt (Heap.lt_size e)
 have f3:=Inv.fp_upd (o:=.lst []) f2 hD
 have st3:tn 0 (s2.heap.push { cls:=.type "list",data:=.seq ([]:List Value).toArray }):=T.keep 0 _ _ st2 fun b hb o e=>Heap.get?_push_of_some _ e
 refine bZ (oW (px:=px) (pos:=pos) (iter:=iter) (E:=X.xe) (RR:=compPost (model X.prog X.w) X.A X.xe (some (assign (.Name y py) X.env)) (fun _ s'=>SP X pins D .next s') (.ref s2.heap.objs.size) (s2.heap.push { cls:=.type "list",data:=.seq ([]:List Value).toArray }).objs.size) S hc (he fp) (hif fp) I3 T st3 f3 (q _ fr) nd ?_) fun cenv s4 ⟨e,z⟩=>?_
 ·intro σ' H' s' J' q'
  have neL:(s2.heap.push { cls:=.type "list",data:=.seq ([]:List Value).toArray }).objs.size≠X.env.locals:=Nat.ne_of_gt I3.lt
  have I4:Inv X pins σ H' { s' with heap:=s'.heap }:=uR I3 f3 J' (.refl ..)
  show wpAny (model X.prog X.w) X.A (assign (.Name y py) X.env (.ref s2.heap.objs.size)) _ X.xe s'
  refine wpAny_assign_Name (qO (s:=s') I4 hN hy (.inl hyl) (show RelV (.ref s2.heap.objs.size) _ from rfl) (fun s6 I6 ⟨a,sb,ha⟩=>?_) (.inr hyl))
  have ha':a≠(s2.heap.push { cls:=.type "list",data:=.seq ([]:List Value).toArray }).objs.size:=by
   rcases ha with ha | ha
   ·rw[ha];exact Ne.symm neL
   ·obtain⟨v,z⟩:=I3.cell y a ha
    exact Nat.ne_of_lt z.lt
  obtain⟨m,hn,_⟩:=J'.loc
  refine⟨m,hn.sameBut sb (Ne.symm ha'),fun h'' sb2=>⟨σ.set i (some (.ref s2.heap.objs.size)),H',?_,q'⟩⟩
  -- the block's dict is not ours: its change is no matter
  have I7:Inv X pins (σ.set i (some (.ref s2.heap.objs.size))) H' s6:=I6
  have hCn:H' (s2.heap.push { cls:=.type "list",data:=.seq ([]:List Value).toArray }).objs.size=none:=J'.free
  refine I7.turned (s:=s6) (t':=s6.toks) (it:=(s2.heap.push { cls:=.type "list",data:=.seq ([]:List Value).toArray }).objs.size) (fun b o hb e=>(sb2.2 b hb).trans e) hCn neL (.inr (Nat.le_trans I3.sz (Nat.le_refl _))) (fun y c e z=>?_) fun p hp z=>?_
  ·obtain⟨v,q⟩:=I3.cell y c e
   exact absurd z (Nat.ne_of_lt q.lt)
  ·exact absurd z (Nat.ne_of_lt (Heap.lt_size (I3.pin p hp).1))
 ·rw[← show cenv.locals=(s2.heap.push { cls:=.type "list",data:=.seq ([]:List Value).toArray }).objs.size from e] at z;exact z
end
theorem mE{K:PySem.W.Frag}{a:Addr}{xs:List V}{D:Addr}{Q:VK}{ti:TT}{te:TE}{c:St}{H0:Hp}(Pv:Nat→Hp→Prop)(h0:Pv 0 H0)(hl:∀ i H,i≤xs.length→Pv i H→SqL K H a xs)
  (hs:∀ i x H,xs[i]?=some x→Pv i H→ti (some x::c) H fun b H1=>if b=true then te (some x::c) H1 fun y H2=>∃ ys,H2 D=some (.lst ys)∧ys.length<sizeLine∧Pv (i+1) (upd H2 D (.lst (ys++[y]))) else Pv (i+1) H1) (hd:∀ H,Pv xs.length H→Q (.ref D) H) :
  jM (FH K a) D Q ti te c H0:=by
 refine⟨fun i m H'=>m=xs.length - i∧i≤xs.length∧Pv i H',⟨xs.length,by simp,Nat.zero_le _,h0⟩,?_⟩
 rintro i m H' ⟨rfl,hi,p⟩
 have q:=hl i H' hi p
 by_cases hlt:i<xs.length
 ·refine .inr ⟨⟨xs,xs[i],q,by simp[hlt]⟩,Pv (i+1),fun H'' p=>⟨xs.length - (i+1),by omega,rfl,hlt,p⟩,fun v H2 y=>?_⟩
  obtain⟨e,y⟩:=y
  subst e
  exact hs i v H2 (y xs q) p
 ·have e:i=xs.length:=by omega
  subst e
  exact .inl ⟨⟨xs,q,Nat.le_refl _⟩,hd H' p⟩
theorem cR{K:PySem.W.Frag}{a:Addr}{xs:List V}{D:Addr}{Q:VK}{ti:TT}{te:TE}{c:St}{H0:Hp}(Pv:Nat→Hp→Prop)(h0:Pv 0 H0)(hl:∀ i H,i≤xs.length→Pv i H→SqT K H a xs)
  (hs:∀ i x H,xs[i]?=some x→Pv i H→ti (some x::c) H fun b H1=>if b=true then te (some x::c) H1 fun y H2=>∃ ys,H2 D=some (.lst ys)∧ys.length<sizeLine∧Pv (i+1) (upd H2 D (.lst (ys++[y]))) else Pv (i+1) H1) (hd:∀ H,Pv xs.length H→Q (.ref D) H) :
  jM (FB K a) D Q ti te c H0:=by
 refine⟨fun i m H'=>m=xs.length - i∧i≤xs.length∧Pv i H',⟨xs.length,by simp,Nat.zero_le _,h0⟩,?_⟩
 rintro i m H' ⟨rfl,hi,p⟩
 have q:=hl i H' hi p
 by_cases hlt:i<xs.length
 ·refine .inr ⟨⟨xs,xs[i],q,by simp[hlt]⟩,Pv (i+1),fun H'' p=>⟨xs.length - (i+1),by omega,rfl,hlt,p⟩,fun v H2 y=>?_⟩
  obtain⟨e,y⟩:=y
  subst e
  exact hs i v H2 (y xs q) p
 ·have e:i=xs.length:=by omega
  subst e
  exact .inl ⟨⟨xs,q,Nat.le_refl _⟩,hd H' p⟩
def BS(x:Str):It:=⟨fun i _=>i<x.cps.size,fun i H v H'=>H'=H∧∃ c,x.cps[i]?=some c∧v=.str ⟨#[c]⟩,fun i _=>i=x.cps.size⟩
theorem Ca{P:Program}{w:World}{K:PySem.W.Frag}{tg:Expr}(x:Str)(t:Tok)(T:String)(it:Addr)(hT:T="str_ascii_iterator"∨T="str_iterator"):Turn P w K tg (BS x) [it] it (fun i h=>h.IsStrIter it T x t i) where
 mem:=by simp
 obj:=fun i h st b hb=>by
  have e:b=it:=by simpa using hb
  subst e
  obtain⟨o,e,c,d⟩:=st
  exact⟨o,e,fun v z=>by rw[d] at z;cases z⟩
 keep:=fun i h h' st k=>by
  obtain⟨o,e,r⟩:=st
  exact⟨o,k it (by simp) o e,r⟩
 item:=by
  intro X hP hw hK hc i pins s σ H E I hf st hg
  subst hP hw hK
  obtain⟨f0,f1,f2,f3,f4,f5⟩:=hf it (by simp)
  have hn:["enumerate","zip","dict_itemiterator","dict_reverseitemiterator","odict_iterator","itertools.zip_longest","itertools.pairwise"].contains T=false:=by rcases hT with rfl | rfl <;> decide
  have fin:∀ (v:Value) (h':Heap) (tk:Nat),SignAt x i v→h'.IsStrIter it T x t (i+1)→(∀ b o,b ∉ [it]→s.heap.get? b=some o→h'.get? b=some o) →
    ∃ u,some v=some u∧wpAny (model X.prog X.w) X.A (letOwnedTupleGo tg (.ref it) u) (fun _ s2=>∃ y H',Inv X pins σ H' s2∧RelV y u∧(BS x).yld i H y H'∧s2.heap.IsStrIter it T x t (i+1)∧∀ b∈[it],H' b=none) E { s with heap:=h',toks:=tk }:=fun v h' tk hv st' kk=>by
   obtain⟨c,u,hc',rfl⟩:=hv
   have I1:Inv X pins σ H { s with heap:=h',toks:=tk }:=I.turned (fun b o hb e=>kk b o (by simpa using hb) e) f0 f1 f3 f4 f5
   obtain⟨o,e,c2,d⟩:=id st'
   exact⟨_,rfl,pZ (s:={ s with heap:=h',toks:=tk }) e c2 d hn ⟨.str ⟨#[c]⟩,H,I1,⟨u,rfl⟩,⟨rfl,c,hc',rfl⟩,st',fun b hb=>(hf b hb).1⟩⟩
  rcases hT with rfl | rfl
  ·exact(Walks.strAscii (prog:=X.prog) (w:=X.w) (I.ok.hd hc) it x t).item i s _ _ hg st fin
  ·exact(Walks.strWide (prog:=X.prog) (w:=X.w) (I.ok.hd hc) it x t).item i s _ _ hg st fin
 done:=by
  intro X hP hw hK hc i pins s σ H E I hf st hg
  subst hP hw hK
  obtain⟨f0,f1,f2,f3,f4,f5⟩:=hf it (by simp)
  have hi:i=x.cps.size:=hg
  subst hi
  have fin:∀ (h':Heap) (tk:Nat),(∀ b o,b ∉ [it]→s.heap.get? b=some o→h'.get? b=some o)→(none:Option Value)=none∧Inv X pins σ H { s with heap:=h',toks:=tk }:=fun h' tk kk =>
   ⟨rfl,I.turned (fun b o hb e=>kk b o (by simpa using hb) e) f0 f1 f3 f4 f5⟩
  rcases hT with rfl | rfl
  ·exact(Walks.strAscii (prog:=X.prog) (w:=X.w) (I.ok.hd hc) it x t).done s _ _ st fin
  ·exact(Walks.strWide (prog:=X.prog) (w:=X.w) (I.ok.hd hc) it x t).done s _ _ st fin
 self:=fun A i s Q E st h=>by
  rcases hT with rfl | rfl
  ·exact wpAny_pyIter_striter_ascii st h
  ·exact wpAny_pyIter_striter_wide st h
section
variable {X:Cx}{tg:Expr}
def Il(tl:TE):TI:=fun σ H R=>tl σ H fun x H1=>∃ z,x=.str z∧R (BS z) H1
theorem iE{l:Expr}{tl:TE}(hl:PE X l tl):PI X tg l (Il tl):=by
 intro pins s σ H R I h
 refine bZ (hl pins s σ H _ I h) fun v s1 ⟨x,H1,I1,r1,q1⟩=>?_
 obtain⟨z,e,q⟩:=q1
 subst e
 obtain⟨t,rfl⟩:=r1
 refine wpAny_pyIter_strU ?_
 refine⟨s1.heap.objs.size,[s1.heap.objs.size],_,_,H1,rfl,I1.kept (t':=s1.toks) fun b o e=>Heap.get?_push_of_some _ e,Ca z t (strIterType z) _ (by unfold strIterType;split <;> simp),⟨_,Heap.get?_push_size _ rfl,rfl,rfl⟩,fun b hb=>?_,q⟩
 have e:b=s1.heap.objs.size:=by simpa using hb
 subst e
 exact I1.fpOk (Nat.le_refl _) (I1.hok.fresh (Nat.le_refl _))
end
abbrev S(w:List Nat):Str:=⟨w.toArray⟩
theorem kK{w:List Nat}{g:TG}{tb:TS}{D:Ends}{σ:St}{H:Hp}(Pv:Nat→St→Hp→Prop)(h0:Pv 0 σ H)
  (hs:∀ i c σ H,w[i]?=some c→Pv i σ H→g (.str (S [c])) σ H fun σ2 H2=>tb { D with nx:=Pv (i+1),ct:=Pv (i+1),bk:=D.nx } σ2 H2) (hd:∀ σ H,Pv w.length σ H→D.nx σ H) :
  ∃ W:Nat→Nat→St→Hp→Prop,(∃ m,W 0 m σ H)∧∀ i m σ H,W i m σ H →
   ((BS (S w)).stop i H∧D.nx σ H)∨((BS (S w)).go i H∧∃ N:St→Hp→Prop,(∀ σ' H',N σ' H'→∃ m',m' < m∧W (i+1) m' σ' H')∧∀ x H',(BS (S w)).yld i H x H'→g x σ H' fun σ2 H2=>tb { D with nx:=N,ct:=N,bk:=D.nx } σ2 H2):=by
 refine⟨fun i m σ H=>m=w.length - i∧i≤w.length∧Pv i σ H,⟨w.length,by simp,Nat.zero_le _,h0⟩,?_⟩
 rintro i m σ H ⟨rfl,hi,p⟩
 by_cases hlt:i<w.length
 ·refine .inr ⟨by simpa [BS] using hlt,Pv (i+1),fun σ' H' p'=>⟨w.length - (i+1),by omega,rfl,hlt,p'⟩,fun x H' y=>?_⟩
  obtain⟨e,c,hc,rfl⟩:=y
  subst e
  exact hs i c σ _ (by simpa using hc) p
 ·have e:i=w.length:=by omega
  subst e
  exact .inl ⟨by simp[BS],hd σ H p⟩
theorem jK{w:List Nat}{D:Addr}{Q:VK}{ti:TT}{te:TE}{c:St}{H0:Hp}(Pv:Nat→Hp→Prop)(h0:Pv 0 H0)
  (hs:∀ i k H,w[i]?=some k→Pv i H→ti (some (.str (S [k]))::c) H fun b H1=>if b=true then te (some (.str (S [k]))::c) H1 fun y H2=>∃ ys,H2 D=some (.lst ys)∧ys.length<sizeLine∧Pv (i+1) (upd H2 D (.lst (ys++[y]))) else Pv (i+1) H1) (hd:∀ H,Pv w.length H→Q (.ref D) H) :
  jM (BS (S w)) D Q ti te c H0:=by
 refine⟨fun i m H'=>m=w.length - i∧i≤w.length∧Pv i H',⟨w.length,by simp,Nat.zero_le _,h0⟩,?_⟩
 rintro i m H' ⟨rfl,hi,p⟩
 by_cases hlt:i<w.length
 ·refine .inr ⟨by simpa [BS] using hlt,Pv (i+1),fun H'' p=>⟨w.length - (i+1),by omega,rfl,hlt,p⟩,fun v H2 y=>?_⟩
  obtain⟨e,k,hk,rfl⟩:=y
  subst e
  exact hs i k H2 (by simpa using hk) p
 ·have e:i=w.length:=by omega
  subst e
  exact .inl ⟨by simp[BS],hd H' p⟩
section
variable {X:Cx}
def Ix(a:Addr)(D:List (PyData×PyData)):R2:=fun x y H Q=>x=.ref a∧∃ z,y=.str z∧((∃ v,lookup (.str z) D=some (.str v)∧Q (.str v) H)∨∃ i,lookup (.str z) D=some (.int i)∧Q (.int i) H)
theorem Er{a:Addr}{D:List (PyData×PyData)}(T:∀ h,X.K.In h→StrTab X.prog X.w h a D):EZ X (Ix a D):=by
 intro value slice pins s σ H x y v u Q I rx ry h hs
 obtain⟨rfl,z,rfl,q⟩:=h
 cases rx
 obtain⟨t,rfl⟩:=ry
 obtain⟨lo,kvs,hd,hf⟩:=T s.heap I.kIn
 rcases q with ⟨y,hl,q⟩ | ⟨y,hl,q⟩
 ·obtain⟨v,hv,hfl⟩:=hf.of_lookup (enc:=PyData.str) PyProof.V.same_str hl
  exact tail_any hd.typeIs slot_dict_getitem.lookup (wpAny_getItem_of (strKind_is X.prog X.w z t) hd.mapOf hv ⟨.str y,H,I.tok _,PyProof.V.Flat.str_inv hfl,q⟩) hs
 ·obtain⟨v,hv,hfl⟩:=hf.of_lookup (enc:=PyData.str) PyProof.V.same_str hl
  exact tail_any hd.typeIs slot_dict_getitem.lookup (wpAny_getItem_of (strKind_is X.prog X.w z t) hd.mapOf hv ⟨.int y,H,I.tok _,PyProof.V.Flat.int_inv hfl,q⟩) hs
def Iv:V→Option Int→Option Int→Hp→VK→Prop:=fun x lo hi H Q=>∃ z,x=.str z∧z.length≤sizeLine∧Q (.str (Txt.slice z lo hi)) H
theorem lB:FX X Iv:=by
 intro pins s σ H x v vl vu lo hi sl Q I rx hs pl pu h
 obtain⟨z,rfl,hz,q⟩:=h
 obtain⟨t,rfl⟩:=rx
 refine⟨"str",_,F.slot_str_getitem.lookup,typeIs_str _ _ _,?_⟩
 obtain⟨o,ho,hc,hd⟩:=hs
 have fin:∀ t' k,EP X pins σ Q (.str (Txt.slice z lo hi) t') { s with toks:=k }:=fun t' k=>⟨.str (Txt.slice z lo hi),H,I.tok _,⟨t',rfl⟩,q⟩
 cases pl with
 | none =>
  cases pu with
  | none=>exact wpAny_getItem_str_slice (l:=none) (u:=none) (st:=none) ⟨o,ho,hc,hd⟩ rfl (post_val_or_str ⟨Nat.le_trans (Txt.slice_le z _ _) hz,fin⟩)
  | int j uj=>exact wpAny_getItem_str_slice (l:=none) (u:=some (j,uj)) (st:=none) ⟨o,ho,hc,hd⟩ rfl (post_val_or_str ⟨Nat.le_trans (Txt.slice_le z _ _) hz,fin⟩)
 | int i ui =>
  cases pu with
  | none=>exact wpAny_getItem_str_slice (l:=some (i,ui)) (u:=none) (st:=none) ⟨o,ho,hc,hd⟩ rfl (post_val_or_str ⟨Nat.le_trans (Txt.slice_le z _ _) hz,fin⟩)
  | int j uj=>exact wpAny_getItem_str_slice (l:=some (i,ui)) (u:=some (j,uj)) (st:=none) ⟨o,ho,hc,hd⟩ rfl (post_val_or_str ⟨Nat.le_trans (Txt.slice_le z _ _) hz,fin⟩)
theorem vU:Ai X "str.islower" (fun x xs H Q=>∃ z,x=.str z∧xs=[]∧Q (.bl (Txt.islower z)) H):=by
 intro pins s σ H x xs v us Q I rx rs h
 obtain⟨z,rfl,rfl,q⟩:=h
 obtain⟨t,rfl⟩:=rx
 cases rs
 exact SC.islower ⟨.bl _,H,I,rfl,q⟩
theorem oK:Ai X "str.isupper" (fun x xs H Q=>∃ z,x=.str z∧xs=[]∧Q (.bl (Txt.isupper z)) H):=by
 intro pins s σ H x xs v us Q I rx rs h
 obtain⟨z,rfl,rfl,q⟩:=h
 obtain⟨t,rfl⟩:=rx
 cases rs
 exact SC.isupper ⟨.bl _,H,I,rfl,q⟩
theorem vD:Ai X "str.upper" (fun x xs H Q=>∃ z,x=.str z∧xs=[]∧Builtin.Str.tooLong (Txt.upper z).length=false∧Q (.str (Txt.upper z)) H):=by
 intro pins s σ H x xs v us Q I rx rs h
 obtain⟨z,rfl,rfl,hf,q⟩:=h
 obtain⟨t,rfl⟩:=rx
 cases rs
 exact SC.upper hf ⟨.str _,H,I.tok _,⟨_,rfl⟩,q⟩
theorem jY:Ai X "str.lower" (fun x xs H Q=>∃ z,x=.str z∧xs=[]∧Builtin.Str.tooLong (Txt.lower z).length=false∧Q (.str (Txt.lower z)) H):=by
 intro pins s σ H x xs v us Q I rx rs h
 obtain⟨z,rfl,rfl,hf,q⟩:=h
 obtain⟨t,rfl⟩:=rx
 cases rs
 exact SC.lower hf ⟨.str _,H,I.tok _,⟨_,rfl⟩,q⟩
theorem nI:∀ {zs:List Str} {us:List Value},Vals (zs.map V.str) us→StrsAre us zs
 | [],_,r=>by
  cases r
  exact .nil
 | z::zs,_,r=>by
  rw[List.map_cons] at r
  cases r with
  | cons r1 r2 =>
   obtain⟨t,rfl⟩:=r1
   exact .cons z t (nI r2)
theorem Cm:Ai X "str.join" (fun x xs H Q=>∃ z a zs,x=.str z∧xs=[.ref a]∧SqL X.K H a (zs.map V.str)∧(zs.map (·.length)).sum+zs.length * z.length≤16777216∧Q (.str (Txt.join z zs)) H):=by
 intro pins s σ H x xs v us Q I rx rs h
 obtain⟨z,a,zs,rfl,rfl,hq,hz,q⟩:=h
 obtain⟨t,rfl⟩:=rx
 obtain⟨u,rfl,ru⟩:=rs.one
 cases ru
 obtain⟨its,r,pl,_⟩:=I.list hq
 exact join_list pl.isList (by simpa using nI r) hz fun t' k=>⟨.str _,H,I.tok _,⟨t',rfl⟩,q⟩
end
end L2
namespace PySem
open Sem (wp)
namespace F
theorem qF:Manifest.owners.lookup (String.ofList ['d','e','s','r','e','v','e','r'].reverse)=some Manifest.sig_reversed:=by kernel_rfl
theorem slot_rvd_next:Slot "reversed" "__next__" "reversed.__next__" :=
 .of (owner:="reversed") (n:="__next__") (by rw[typeLookup_type,builtinLookup_eq_fast];kernel_rfl) (by decide +kernel) (by decide +kernel) (by decide +kernel)
  (by first | exact .inl (by decide +kernel) | exact .inr (by decide +kernel)) (by rw[isSubtype_type];kernel_rfl)
theorem entry_rvd_next:entryFor table "reversed.__next__"=some Builtin.«reversed.__next__»:=entryFor_of_tree (by kernel_rfl)
theorem args_rvd_next_1(a:Value):argsOk "reversed.__next__" ⟨[a],[]⟩:=by
 unfold argsOk;rw[signature?_of (id:="reversed.__next__") (n:=['_','_','t','x','e','n','_','_']) (o:=['d','e','s','r','e','v','e','r']) (by kernel_rfl) qF];kernel_rfl
theorem slot_rvd_iter:Slot "reversed" "__iter__" "reversed.__iter__" :=
 .of (owner:="reversed") (n:="__iter__") (by rw[typeLookup_type,builtinLookup_eq_fast];kernel_rfl) (by decide +kernel) (by decide +kernel) (by decide +kernel)
  (by first | exact .inl (by decide +kernel) | exact .inr (by decide +kernel)) (by rw[isSubtype_type];kernel_rfl)
theorem args_rvd_iter_1(a:Value):argsOk "reversed.__iter__" ⟨[a],[]⟩:=by
 unfold argsOk;rw[signature?_of (id:="reversed.__iter__") (n:=['_','_','r','e','t','i','_','_']) (o:=['d','e','s','r','e','v','e','r']) (by kernel_rfl) qF];kernel_rfl
theorem entry_rvd_iter:entryFor table "reversed.__iter__"=some Builtin.«dict_keyiterator.__iter__» :=
 entryFor_alias (id':="dict_keyiterator.__iter__") (by kernel_rfl) (by first | rfl | decide +kernel | (unfold String.splitOn;simp +decide [String.splitOnAux])) (by decide +kernel) (by kernel_rfl)
theorem pK:Slot "reversed" "__init__" "object.__init__" :=
 .of (owner:="object") (n:="__init__") (by rw[typeLookup_type,builtinLookup_eq_fast];kernel_rfl) (by decide +kernel) (by decide +kernel) (by decide +kernel)
  (by first | exact .inl (by decide +kernel) | exact .inr (by decide +kernel)) (by rw[isSubtype_type];kernel_rfl)
theorem called_reversed:TypeCalled "reversed" "reversed.__new__" "object.__init__" :=
 ⟨by decide +kernel,by decide +kernel,⟨_,_,mro_reversed⟩,madeBy_type mro_reversed lookup_reversed_new (by decide +kernel),by decide +kernel,by rw[isSubtype_type];kernel_rfl,pK⟩
theorem str_norev:typeLookup (.type "str") "__reversed__"=pure none:=by rw[typeLookup_type,builtinLookup_eq_fast];kernel_rfl
end F
theorem iZ(x:Str)(t:Tok)(hx:¬ (x.length:Int) ≥ 2 ^ 63) :
  Meets (Builtin.«reversed.__new__» ⟨[.type "reversed",.str x t],[]⟩) (fun _ R s=>∀ tk,
   R (.ok (.ret (.ref s.heap.objs.size))) { s with heap:=s.heap.push { cls:=.type "reversed",data:=.fields #[.str x t,rawInt ((x.length:Int) - 1)] },toks:=tk }) :=
 .of_wp fun prog w A R s h=>by
  obtain⟨hp,g,d,tk,os⟩:=s
  have hsub:=F.sub_reversed_self
  have hnr:=F.str_norev
  have hsd:isSubtype (.type "str") (.type "dict")=pure false:=by rw[isSubtype_type];kernel_rfl
  have hgi:=F.slot_str_getitem.lookup
  unfold Builtin.«reversed.__new__»
  refine wpAny_bind (wpAny_of_eq (newClass_reversed _) ?_)
  dsimp only
  refine wpAny_bind (wpAny_of_eq (a:=()) (by first | rfl | kernel_rfl) ?_)
  refine wpAny_bind (wpAny_of_eq (a:=()) (by first | rfl | kernel_rfl) ?_)
  try dsimp only
  wp_walk using P.len_str
  case hfit=>exact hx
  all_goals
   refine wpAny_bind (m:=asInt? _) (wpAny_of_eq (a:=some (x.length:Int)) rfl ?_)
   dsimp only
   refine wpAny_bind ?_
   show wpAny _ _ (newObj (.type "reversed") (.fields #[Value.str x t,rawInt ((x.length:Int) - 1)])) _ _ _
   exact wpAny_newObj_type (wpAny_pure ⟨_,rfl,h _⟩)
def Heap.IsRvd(h:Heap)(a:Addr)(x:Str)(t:Tok)(i:Int):Prop:=∃ o,h.get? a=some o∧o.cls=.type "reversed"∧o.data=.fields #[.str x t,rawInt i]
section
variable {prog:Program}{w:World}{A:Around}{E:Value→Shared→Prop}{s:Shared}
theorem Heap.IsRvd.typeIs{a:Addr}{x:Str}{t:Tok}{i:Int}(h:s.heap.IsRvd a x t i):s.TypeIs (.ref a) "reversed":=let ⟨o,ho,hc,_⟩:=h;⟨o,ho,hc⟩
theorem fZ{x:Str}{t:Tok}{Q:Value→Shared→Prop}(hx:¬ (x.length:Int) ≥ 2 ^ 63)
  (h:∀ tk,Q (.ref s.heap.objs.size) { s with heap:=s.heap.push { cls:=.type "reversed",data:=.fields #[.str x t,rawInt ((x.length:Int) - 1)] },toks:=tk }):wpAny (model prog w) A (call (.type "reversed") [.str x t]) Q E s :=
 callType_new F.called_reversed (by decide) (F.typeCall_reversed_1 _) (F.newCall_reversed_1 _) (fun obj=>F.args_object_init_2 obj _) F.entry_reversed_new (iZ x t hx) fun tk=>⟨⟨_,Heap.get?_push_size _ rfl,rfl⟩,h tk⟩
theorem eP{it:Addr}{x:Str}{t:Tok}{i:Int}{Q:Value→Shared→Prop}(hit:s.heap.IsRvd it x t i)(h:Q (.ref it) s):wpAny (model prog w) A (pyIter (.ref it)) Q E s:=by
 refine wpAny_pyIter_slot hit.typeIs F.slot_rvd_iter (wpAny_call_entry F.slot_rvd_iter hit.typeIs F.entry_rvd_iter ?_ (F.args_rvd_iter_1 _))
 show wpAny _ _ (ret (.ref it)) _ _ s
 exact wpAny_pure ⟨_,rfl,"reversed",_,hit.typeIs,F.slot_rvd_next.lookup,h⟩
theorem iA{it:Addr}{x:Str}{t:Tok}{i c:Nat}{Q:Option Value→Shared→Prop}(hit:s.heap.IsRvd it x t (i:Int))(hc:x.cps[i]?=some c)(hx:(x.length:Int)<2 ^ 63)
  (hQ:∀ h' tk u,h'.IsRvd it x t ((i:Int) - 1)→Heap.SameBut it s.heap h'→Q (some (.str ⟨#[c]⟩ u)) { s with heap:=h',toks:=tk }):wpAny (model prog w) A (pyNext (.ref it)) Q E s:=by
 obtain⟨o,ho,hcl,hd⟩:=id hit
 have hi:i<x.length:=by
  have:=(Array.getElem?_eq_some_iff.mp hc).1
  exact this
 unfold pyNext
 refine wpAny_bind (wpAny_attempt (wpAny_callSpecial?_slot (name:=Str.ofString "__next__") hit.typeIs F.slot_rvd_next
  (wpAny_call_entry F.slot_rvd_next hit.typeIs F.entry_rvd_next ?_ (F.args_rvd_next_1 _))))
 unfold Builtin.«reversed.__next__»
 refine wpAny_bind (wpAny_of_eq (a:=(Value.ref it,[])) rfl ?_)
 try dsimp only
 refine wpAny_bind (wpAny_field ho hd (x:=.str x t) rfl ?_)
 refine wpAny_bind (wpAny_field ho hd (x:=rawInt (i:Int)) rfl ?_)
 show wpAny _ _ (if (i:Int)<0 then _ else _) _ _ s
 rw[if_neg (by omega)]
 have hgi:=F.slot_str_getitem.lookup
 refine wpAny_bind (wpAny_specialOf (T:="str") (typeIs_str _ _ _) hgi ?_)
 show wpAny _ _ (if (some (Value.builtin "str.__getitem__")).isNone=true then _ else _) _ _ _
 rw[if_neg (by simp)]
 refine wpAny_bind (m:=mkInt _) (wpAny_mkInt ?_)
 refine wpAny_bind (wpAny_attempt (P.getItem_str (c:=c) (by
  have e1:decide ((i:Int) < -(2 ^ 63:Int))=false:=decide_eq_false (by omega)
  have e2:decide ((i:Int) ≥ 2 ^ 63)=false:=decide_eq_false (by omega)
  rw[e1,e2,Bool.or_false]) (by rw[seqIndex_of (by omega) (by omega)];simpa using hc) ?_))
 dsimp only
 refine wpAny_bind (wpAny_field ho hd (x:=rawInt (i:Int)) rfl ?_)
 refine wpAny_bind (wpAny_setField ho hd (by simp) ?_)
 refine wpAny_pure ⟨_,rfl,wpAny_pure (hQ _ _ _ ?_ (Heap.SameBut.update ..))⟩
 exact⟨_,Heap.get?_update_self _ ho (Obj.isFreed_of_fields (Obj.data_mapFields hd _)),(Obj.cls_mapFields ..).trans hcl,by
  rw[Obj.data_mapFields hd];simp⟩
theorem iI{it:Addr}{x:Str}{t:Tok}{Q:Option Value→Shared→Prop}(hh:A.handled=none)(hit:s.heap.IsRvd it x t (-1))
  (hQ:∀ h',Heap.ExtBut it s.heap h'→Q none { s with heap:=h' }):wpAny (model prog w) A (pyNext (.ref it)) Q E s:=by
 obtain⟨o,ho,hcl,hd⟩:=id hit
 unfold pyNext
 refine wpAny_bind (wpAny_attempt (wpAny_callSpecial?_slot (name:=Str.ofString "__next__") hit.typeIs F.slot_rvd_next
  (wpAny_call_entry F.slot_rvd_next hit.typeIs F.entry_rvd_next ?_ (F.args_rvd_next_1 _))))
 unfold Builtin.«reversed.__next__»
 refine wpAny_bind (wpAny_of_eq (a:=(Value.ref it,[])) rfl ?_)
 try dsimp only
 refine wpAny_bind (wpAny_field ho hd (x:=.str x t) rfl ?_)
 refine wpAny_bind (wpAny_field ho hd (x:=rawInt (-1)) rfl ?_)
 show wpAny _ _ (if (-1:Int)<0 then _ else _) _ _ s
 rw[if_pos (by decide)]
 refine wpAny_bind (wpAny_rule ?_)
 refine wpAny_bind ?_
 show wpAny _ _ (setField (.ref it) 1 (rawInt (-1)) >>= fun _=>setField (.ref it) 0 .none) _ _ _
 refine wpAny_bind (wpAny_setField ho hd (by simp) ?_)
 have ho':(s.heap.update it (Obj.mapFields fun xs=>xs.setIfInBounds 1 (rawInt (-1)))).get? it=some _:=Heap.get?_update_self _ ho (Obj.isFreed_of_fields (Obj.data_mapFields hd (fun xs=>xs.setIfInBounds 1 (rawInt (-1)))))
 have hd':=Obj.data_mapFields hd (fun xs=>xs.setIfInBounds 1 (rawInt (-1)))
 refine wpAny_setField (s:={ s with heap:=s.heap.update it (Obj.mapFields fun xs=>xs.setIfInBounds 1 (rawInt (-1))) }) ho' hd' (by simp) ?_
 have eb:Heap.ExtBut it s.heap ((s.heap.update it (Obj.mapFields fun xs=>xs.setIfInBounds 1 (rawInt (-1)))).update it (Obj.mapFields fun xs=>xs.setIfInBounds 0 .none)):=fun b ob hb e =>
  (Heap.get?_update_other _ _ (Ne.symm hb)).trans ((Heap.get?_update_other _ _ (Ne.symm hb)).trans e)
 refine wpAny_bind ?_
 show wpAny _ _ (newExc (.type "StopIteration") [] >>= _) _ _ _
 refine wpAny_bind ?_
 simp only [newExc,newTuple]
 refine wpAny_bind (wpAny_newObj_type ?_ (by size_fits))
 refine wpAny_bind (m:=firstArgMember _ _) (wpAny_of_eq (a:=Value.none) (by first | rfl | (simp only [firstArgMember];rfl)) ?_)
 refine wpAny_newObj_type ?_ (by size_fits)
 simp only [raiseNew]
 refine wpAny_bind (wpAny_handled ?_)
 first | rw[show A.in1.handled=none from hh] | rw[hh]
 refine wpAny_bind (wpAny_pure (wpAny_throw ?_))
 refine wpAny_bind (wpAny_isInstance (T:="StopIteration") (b:=true) ⟨_,Heap.get?_push_size _ rfl,rfl⟩ isSubtype_stop ?_)
 exact wpAny_pure (hQ _ ((eb.push _).push _))
end
end PySem
namespace L2
open PySem PySem.Spec PyProof.Rows
def FJ(x:Str):It:=⟨fun i _=>i<x.cps.size,fun i H v H'=>H'=H∧∃ c,x.cps[x.cps.size - 1 - i]?=some c∧v=.str ⟨#[c]⟩,fun i _=>i=x.cps.size⟩
theorem vG{P:Program}{w:World}{K:PySem.W.Frag}{tg:Expr}(x:Str)(t:Tok)(it:Addr)(hx:(x.length:Int)<2 ^ 63):Turn P w K tg (FJ x) [it] it (fun i h=>i≤x.cps.size∧h.IsRvd it x t ((x.cps.size:Int) - 1 - (i:Int))) where
 mem:=by simp
 obj:=fun i h st b hb=>by
  have e:b=it:=by simpa using hb
  subst e
  obtain⟨_,o,e,c,d⟩:=st
  exact⟨o,e,fun v z=>by rw[d] at z;cases z⟩
 keep:=fun i h h' st k=>by
  obtain⟨hi,o,e,r⟩:=st
  exact⟨hi,o,k it (by simp) o e,r⟩
 item:=by
  intro X hP hw hK hc i pins s σ H E I hf st hg
  subst hP hw hK
  obtain⟨f0,f1,f2,f3,f4,f5⟩:=hf it (by simp)
  obtain⟨hi,st⟩:=st
  have hg':i<x.cps.size:=hg
  have e1:(x.cps.size:Int) - 1 - (i:Int)=((x.cps.size - 1 - i:Nat):Int):=by omega
  rw[e1] at st
  have hcx:x.cps[x.cps.size - 1 - i]?=some (x.cps[x.cps.size - 1 - i]'(by omega)):=Array.getElem?_eq_getElem (by omega)
  refine iA st hcx hx fun h' tk u st' sb=>?_
  have e2:((x.cps.size - 1 - i:Nat):Int) - 1=(x.cps.size:Int) - 1 - ((i+1:Nat):Int):=by omega
  rw[e2] at st'
  have I1:Inv X pins σ H { s with heap:=h',toks:=tk }:=I.turned (fun b o hb e=>(sb.2 b hb).trans e) f0 f1 f3 f4 f5
  obtain⟨o,e,c,d⟩:=id st'
  exact⟨_,rfl,pZ (s:={ s with heap:=h',toks:=tk }) e c d (by decide) ⟨.str ⟨#[_]⟩,H,I1,⟨u,rfl⟩,⟨rfl,_,hcx,rfl⟩,⟨hg',st'⟩,fun b hb=>(hf b hb).1⟩⟩
 done:=by
  intro X hP hw hK hc i pins s σ H E I hf st hg
  subst hP hw hK
  obtain⟨f0,f1,f2,f3,f4,f5⟩:=hf it (by simp)
  have hi:i=x.cps.size:=hg
  subst hi
  have e1:(x.cps.size:Int) - 1 - ((x.cps.size:Nat):Int)=-1:=by omega
  have st':=st.2
  rw[e1] at st'
  exact iI (I.ok.hd hc) st' fun h' eb=>⟨rfl,I.turned (t':=s.toks) (fun b o hb e=>eb b o hb e) f0 f1 f3 f4 f5⟩
 self:=fun A i s Q E st h=>eP st.2 h
section
variable {X:Cx}{tg:Expr}
def H_(ta:TA):TI:=fun σ H R=>ta σ H fun vs H1=>∃ z:Str,vs=[.str z]∧z.length≤1000∧R (FJ z) H1
theorem Fz{a:Expr}{ta:TA}{p pos:Pos}(hg:Gl X "reversed")(hm:X.mg "reversed"=none)(ha:PA X [a] ta)(hs:starEach [a] X.env=[(false,eval a X.env)]:=by rfl):PI X tg (.Call (.Name "reversed" p) [a] [] pos) (H_ ta):=by
 intro pins s σ H R I h
 refine Call_ (hJ I hg hm boot_reversed (PyProof.Rows.callWith_type1 (bZ (ha pos pins s σ H _ I h) fun us s1 ⟨vs,H1,I1,r1,q1⟩=>?_) hs rfl))
 obtain⟨z,e,hz,q⟩:=q1
 subst e
 obtain⟨u,rfl,ru⟩:=r1.one
 obtain⟨t,rfl⟩:=ru
 refine fZ (by omega) fun tk=>?_
 have I2:Inv X pins σ H1 { s1 with heap:=s1.heap.push { cls:=.type "reversed",data:=.fields #[.str z t,rawInt ((z.length:Int) - 1)] },toks:=tk }:=I1.kept fun b o e=>Heap.get?_push_of_some _ e
 have st:(s1.heap.push { cls:=.type "reversed",data:=.fields #[.str z t,rawInt ((z.length:Int) - 1)] }).IsRvd s1.heap.objs.size z t ((z.length:Int) - 1):=⟨_,Heap.get?_push_size _ rfl,rfl,rfl⟩
 refine eP st ?_
 refine⟨s1.heap.objs.size,[s1.heap.objs.size],_,_,H1,rfl,I2,vG z t _ (by omega),⟨Nat.zero_le _,?_⟩,fun b hb=>?_,q⟩
 ·have e0:(z.cps.size:Int) - 1 - ((0:Nat):Int)=(z.length:Int) - 1:=by show (z.cps.size:Int) - 1 - ((0:Nat):Int)=(z.cps.size:Int) - 1;omega
  rw[e0];exact st
 ·have e:b=s1.heap.objs.size:=by simpa using hb
  subst e
  exact I1.fpOk (Nat.le_refl _) (I1.hok.fresh (Nat.le_refl _))
end
theorem nS{w:List Nat}{D:Addr}{Q:VK}{ti:TT}{te:TE}{c:St}{H0:Hp}(Pv:Nat→Hp→Prop)(h0:Pv 0 H0)
  (hs:∀ i k H,w.reverse[i]?=some k→Pv i H→ti (some (.str (S [k]))::c) H fun b H1=>if b=true then te (some (.str (S [k]))::c) H1 fun y H2=>∃ ys,H2 D=some (.lst ys)∧ys.length<sizeLine∧Pv (i+1) (upd H2 D (.lst (ys++[y]))) else Pv (i+1) H1) (hd:∀ H,Pv w.length H→Q (.ref D) H) :
  jM (FJ (S w)) D Q ti te c H0:=by
 refine⟨fun i m H'=>m=w.length - i∧i≤w.length∧Pv i H',⟨w.length,by simp,Nat.zero_le _,h0⟩,?_⟩
 rintro i m H' ⟨rfl,hi,p⟩
 by_cases hlt:i<w.length
 ·refine .inr ⟨by simpa [FJ] using hlt,Pv (i+1),fun H'' p=>⟨w.length - (i+1),by omega,rfl,hlt,p⟩,fun v H2 y=>?_⟩
  obtain⟨e,k,hk,rfl⟩:=y
  subst e
  refine hs i k H2 ?_ p
  rw[List.getElem?_reverse hlt]
  simpa using hk
 ·have e:i=w.length:=by omega
  subst e
  exact .inl ⟨by simp[FJ],hd H' p⟩
def fU:List V→List V→Bool
 | [],[]=>true
 | x::xs,y::ys=>mM x y && fU xs ys
 | _,_=>false
theorem oM:∀ {xs ys:List V},xs.length≠ys.length→fU xs ys=false
 | [],[],h=>absurd rfl h
 | [],_::_,_=>rfl
 | _::_,[],_=>rfl
 | x::xs,y::ys,h=>by unfold fU;rw[oM (by simpa using h),Bool.and_false]
theorem nF(n:Nat)(e:Nat→Bool):(List.range (n+1)).all e=(e 0 && (List.range n).all fun i=>e (i+1)):=by
 rw[List.range_succ_eq_map,List.all_cons,List.all_map];rfl
theorem gM:∀ {xs ys:List V},xs.length=ys.length→(List.range xs.length).all (fun i=>match xs[i]?,ys[i]? with | some x,some y=>mM x y | _,_=>true)=fU xs ys
 | [],[],_=>rfl
 | [],_::_,h=>by simp at h
 | _::_,[],h=>by simp at h
 | x::xs,y::ys,h=>by
  have h':xs.length=ys.length:=by simpa using h
  rw[List.length_cons,nF]
  unfold fU
  rw[← gM h']
  simp
theorem uC:∀ (a b:List Str),fU (a.map V.str) (b.map V.str)=decide (a=b)
 | [],[]=>by simp[fU]
 | [],_::_=>by simp[fU]
 | _::_,[]=>by simp[fU]
 | x::xs,y::ys=>by
  have e:mM (V.str x) (V.str y)=decide (x=y):=by
   unfold mM;by_cases h:x=y <;> simp[h]
  rw[List.map_cons,List.map_cons]
  unfold fU
  rw[uC xs ys,e]
  by_cases h:x=y <;> by_cases h2:xs=ys <;> simp[h,h2]
section
variable {X:Cx}
theorem nT{A:Around}{s:Shared}{xs ys:List V}{us vs:List Value}(rx:Vals xs us)(ry:Vals ys vs)(fx:xs.all fC=true)(fy:ys.all fC=true) :
  ∀ (j:Nat) (h1:j<us.toArray.size) (h2:j<vs.toArray.size),SeqAt.EqAt A s us.toArray[j] vs.toArray[j] (match xs[j]?,ys[j]? with | some x,some y=>mM x y | _,_=>true):=fun j h1 h2=>by
 have hx:j<xs.length:=by rw[rx.length];simpa using h1
 have hy:j<ys.length:=by rw[ry.length];simpa using h2
 obtain⟨u,hu,ru⟩:=rx.get (List.getElem?_eq_getElem hx)
 obtain⟨v,hv,rv⟩:=ry.get (List.getElem?_eq_getElem hy)
 have eu:us.toArray[j]=u:=by
  have:us[j]?=some us.toArray[j]:=by rw[List.getElem?_eq_getElem (by simpa using h1)];simp
  rw[hu] at this;exact(Option.some.inj this).symm
 have ev:vs.toArray[j]=v:=by
  have:vs[j]?=some vs.toArray[j]:=by rw[List.getElem?_eq_getElem (by simpa using h2)];simp
  rw[hv] at this;exact(Option.some.inj this).symm
 rw[eu,ev,List.getElem?_eq_getElem hx,List.getElem?_eq_getElem hy]
 exact wM ru rv (List.all_eq_true.mp fx _ (List.getElem_mem hx)) (List.all_eq_true.mp fy _ (List.getElem_mem hy))
def FS(K:PySem.W.Frag)(neg:Bool):R2:=fun x y H Q=>∃ a b xs ys,x=.ref a∧y=.ref b∧((SqL K H a xs∧SqL K H b ys)∨(SqT K H a xs∧SqT K H b ys))∧xs.all fC=true∧ys.all fC=true∧Q (.bl (if neg then !fU xs ys else fU xs ys)) H
theorem Ep(hu:X.A.units<cLine):jA X (compareOp .NotEq) (FS X.K true):=by
 intro pins s σ H x y v u Q I rx ry h
 obtain⟨a,b,xs,ys,rfl,rfl,hq,fx,fy,q⟩:=h
 cases rx
 cases ry
 rcases hq with ⟨ha,hb⟩ | ⟨ha,hb⟩
 ·obtain⟨us,r1,p1,_⟩:=I.list ha
  obtain⟨vs,r2,p2,_⟩:=I.list hb
  by_cases hl:xs.length=ys.length
  ·refine EqBoolInt.of_rcne (SeqAt.RcNeAt.lists p1.isList p2.isList (by simp;rw[← r1.length,← r2.length];exact hl) hu (nT r1 r2 fx fy)) ?_
   rw[List.size_toArray,← r1.length,gM hl]
   exact⟨.bl _,H,I,rfl,q⟩
  ·refine EqBoolInt.of_rcne (SeqAt.RcNeAt.lists_lengths p1.isList p2.isList (by simp;rw[← r1.length,← r2.length];exact hl) hu) ?_
   rw[oM hl] at q
   exact⟨.bl _,H,I,rfl,q⟩
 ·obtain⟨us,r1,p1,_⟩:=I.tuple ha
  obtain⟨vs,r2,p2,_⟩:=I.tuple hb
  refine EqBoolInt.of_rcne (SeqAt.RcNeAt.tuples (show s.heap.IsTuple a us.toArray from p1) (show s.heap.IsTuple b vs.toArray from p2) hu (nT r1 r2 fx fy)) ?_
  refine⟨.bl _,H,I,rfl,?_⟩
  have e:((List.range (min us.toArray.size vs.toArray.size)).all (fun i=>match xs[i]?,ys[i]? with | some x,some y=>mM x y | _,_=>true) && us.toArray.size == vs.toArray.size)=fU xs ys:=by
   rw[List.size_toArray,List.size_toArray,← r1.length,← r2.length]
   by_cases hl:xs.length=ys.length
   ·rw[← hl,Nat.min_self,gM hl];simp
   ·rw[oM hl];simp[hl]
  rw[e]
  exact q
theorem jQ(hc:X.calm=true):fX X (.type "list") (fun xs H Q=>∃ w:List Nat,xs=[.str (S w)]∧w.length≤1000∧∀ l,H l=none→Q (.ref l) (upd H l (.lst (w.map fun c=>V.str (S [c]))))):=by
 intro pins s σ H xs us Q I r h
 obtain⟨w,rfl,hz,q⟩:=h
 obtain⟨u,rfl,ru⟩:=r.one
 obtain⟨t,rfl⟩:=ru
 have hz2:w.length≤sizeLine:=Nat.le_of_lt (aU hz)
 refine call_list_str (I.ok.hd hc) (S w) t (fun h' tk acc c hk hl hit=>?_) (by simpa using hz2)
 have hv:Vals (w.map fun c=>V.str (S [c])) acc.toList:=by
  have hn:acc.size=w.length:=by simpa using hit.1
  have:∀ (n:Nat) (w:List Nat) (l:List Value),w.length=n→l.length=n→(∀ (j:Nat) (v:Value),l[j]?=some v→∃ (c:Nat) (u:Tok),w[j]?=some c∧v=Value.str ⟨#[c]⟩ u)→Vals (w.map fun c=>V.str (S [c])) l:=by
   intro n
   induction n with
   | zero =>
    intro w l h1 h2 _
    have e1:=List.length_eq_zero_iff.mp h1
    have e2:=List.length_eq_zero_iff.mp h2
    subst e1 e2
    exact .nil
   | succ n ih =>
    intro w l h1 h2 h3
    cases w with
    | nil=>simp at h1
    | cons c w =>
     cases l with
     | nil=>simp at h2
     | cons v l =>
      obtain⟨c',u,hc',rfl⟩:=h3 0 v rfl
      have hc'':c=c':=by simpa using hc'
      subst hc''
      exact .cons ⟨u,rfl⟩ (ih w l (by simpa using h1) (by simpa using h2) fun j v hv=>by simpa using h3 (j+1) v (by simpa using hv))
  refine this w.length w acc.toList rfl (by simpa using hn) fun j v hv=>?_
  obtain⟨c,u,hc,hv'⟩:=hit.2 j v (by simpa using hv)
  exact⟨c,u,by simpa using hc,hv'⟩
 refine⟨.ref s.heap.objs.size,_,I.laid (t':=tk) (o:=.lst (w.map fun c=>V.str (S [c]))) hk (Nat.le_refl _) ⟨by rw[List.length_map];exact hz2,acc.toList,c,hv,?_⟩,rfl,q _ I.fresh⟩
 simpa using hl
end
def mX(sc0 scope:Scope)(N:List Str)(x:Str)(ix:List Nat):Bool :=
 decide (scope.kind=.function) && scope.names.all (fun y=>decide (y.2≠.cell)) && scope.names.all (fun y=>decide (y.2=.local→scope.names.lookup y.1=some .local)) && decide (scope.names.lookup x=some .local) &&
 scope.names.all (fun y=>decide (y.2=.free→sc0.names.lookup y.1=some .cell∨sc0.names.lookup y.1=some .free)) && ix.all (fun i=>decide (i<N.length) && decide (scope.names.lookup (N.getD i "")=some .free)) && decide ((x::ix.map fun i=>N.getD i "").Nodup)
theorem iV{X:Cx}{sc0 scope:Scope}{N:List Str}{x:Str}{ix:List Nat}(h:mX sc0 scope N x ix=true)(e1:X.env.scope=sc0)(e2:X.N=N):CompSc X scope x ix∧(nE X x ix).Nodup:=by
 subst e1 e2
 simp only [mX,Bool.and_eq_true,List.all_eq_true,decide_eq_true_eq] at h
 obtain⟨⟨⟨⟨⟨⟨h1,h2⟩,h3⟩,h4⟩,h5⟩,h6⟩,h7⟩:=h
 exact⟨⟨h1,h2,h3,h4,h5,h6⟩,h7⟩
section
variable {prog:Program}{w:World}{A:Around}{E:Value→Shared→Prop}{s:Shared}
theorem pV{it t:Addr}{items:Array Value}(hne:t≠it):∀ (n i:Nat) (s:Shared) (Q:List Value→Shared→Prop),s.heap.IsListIter it t i→s.heap.IsList t items→i+n≤items.size →
  (∀ h',h'.IsListIter it t (i+n)→Heap.SameBut it s.heap h'→Q ((items.toList.drop i).take n) { s with heap:=h' })→wpAny (model prog w) A (draw (.ref it) n) Q E s
 | 0,i,s,Q,hit,_,_,hQ=>by
  show wpAny _ _ (pure []) Q E s
  exact wpAny_pure (by simpa using hQ s.heap hit (Heap.SameBut.refl ..))
 | n+1,i,s,Q,hit,ht,hle,hQ=>by
  have hlt:i<items.size:=by omega
  show wpAny _ _ (pyNext (.ref it) >>= _) Q E s
  refine wpAny_bind (wpAny_pyNext_list_item hit ht (x:=items[i]) (by simp[hlt]) fun h₁ hit₁ hs₁=>?_)
  refine wpAny_bind (wpAny_holding (pV hne n (i+1) _ _ hit₁ (ht.extBut hs₁.extBut hne) (by omega) fun h₂ hit₂ hs₂=>wpAny_pure ?_))
  have hd:items.toList.drop i=items[i]::items.toList.drop (i+1):=by simp[List.drop_eq_getElem_cons,hlt]
  have:=hQ h₂ (by rw[show i+(n+1)=i+1+n by omega];exact hit₂) (hs₁.trans hs₂)
  rw[hd,List.take_succ_cons] at this
  exact this
theorem lO{t:Addr}{items:Array Value}{Q:List Value→Shared→Prop}(hh:A.handled=none)(ht:s.heap.IsList t items)
  (hQ:∀ h',Heap.ExtBut s.heap.objs.size s.heap h'→Q items.toList { s with heap:=h' }):wpAny (model prog w) A (unpackItems (.ref t) items.size none) Q E s:=by
 have hlt:t≠s.heap.objs.size:=by obtain⟨o,ho,_⟩:=ht;exact Nat.ne_of_lt (Heap.lt_size ho)
 unfold unpackItems
 refine wpAny_bind ?_
 ·unfold notIterableAtAll
  refine wpAny_bind (wpAny_specialOf ht.typeIs slot_list_iter.lookup ?_)
  refine wpAny_pure ?_
  simp only [Bool.false_eq_true,if_false]
  refine wpAny_bind (wpAny_holding (wpAny_pyIter_list ht ?_))
  refine wpAny_bind (wpAny_holding (pV hlt items.size 0 _ _ ⟨_,Heap.get?_push_size _ rfl,rfl,rfl⟩ (ht.push _) (by omega) fun h₁ hit₁ hs₁=>?_))
  have hall:List.take items.size (List.drop 0 items.toList)=items.toList:=by
   rw[List.drop_zero];exact List.take_of_length_le (by simp)
  rw[hall]
  rw[if_neg (by simp)]
  have ht₁:h₁.IsList t items:=(ht.push _).extBut hs₁.extBut hlt
  refine wpAny_bind (wpAny_holding (wpAny_pyNext_list_end hh hit₁ ht₁ (by simp) fun h₂ he₂=>?_))
  simp only [Option.isSome_none,Bool.false_eq_true,if_false]
  refine wpAny_pure (hQ h₂ fun b o hb e=>he₂ b o hb (hs₁.extBut b o hb (Heap.get?_push_of_some _ e)))
theorem jV{env:Env}{elts:List Expr}{x1}{pos:Pos}{t:Addr}{items:Array Value}{Q:Unit→Shared→Prop}(hh:A.handled=none)(ht:s.heap.IsList t items)
  (hn:(assignEach elts env).length=items.size) (hstar:(assignEach elts env).findIdx? (·.1)=none)
  (h:∀ h',Heap.ExtBut s.heap.objs.size s.heap h'→wpAny (model prog w) A (assignInOrder ((assignEach elts env).map (·.2)) items.toList) Q E { s with heap:=h' }) :
  wpAny (model prog w) A (assign (.Tuple elts x1 pos) env (.ref t)) Q E s:=by
 rw[assign_Tuple]
 refine wpAny_bind (wpAny_standAt ?_)
 unfold unpack
 rw[hn,hstar]
 exact wpAny_bind (wpAny_holding (lO hh ht h))
end
section
variable {X:Cx}{pos:Pos}{K:PySem.W.Frag}
def HP(K:PySem.W.Frag)(n:Nat)(t:Ej):TG:=fun v σ H Q=>∃ a xs,v=.ref a∧(SqL K H a xs∨SqT K H a xs)∧xs.length=n∧t xs σ H Q
theorem iM{es:List Expr}{k:Nat}{t:Ej}{n:Nat}(hK:X.K=K)(hc:X.calm=true)(h:Hv X es t)
  (hn:(assignEach es X.env).length=n:=by rfl) (hst:(assignEach es X.env).findIdx? (·.1)=none:=by rfl):PG X (.Tuple es k pos) (HP K n t):=by
 subst hK
 intro pins s σ H v u Q I r hw
 obtain⟨a,xs,e1,hq,hl,hw⟩:=hw
 subst e1
 cases r
 rcases hq with hq | hq
 ·obtain⟨its,rv,ht,hz⟩:=I.list hq
  refine jV (I.ok.hd hc) ht.isList (by simp[hn,← hl,rv.length]) hst fun h' hx=>?_
  have I1:Inv X pins σ H { s with heap:=h' }:=I.kept (t':=s.toks) fun b o e=>hx b o (Nat.ne_of_lt (Heap.lt_size e)) e
  exact h pins _ σ H xs _ Q I1 (by simpa using rv) hw
 ·obtain⟨its,rv,ht,hz⟩:=I.tuple hq
  refine assign_Tuple_tuple (I.ok.hd hc) ht (by simp[hn,← hl,rv.length]) hst fun h' hx=>?_
  have I1:Inv X pins σ H { s with heap:=h' }:=I.kept (t':=s.toks) fun b o e=>hx b o (Nat.ne_of_lt (Heap.lt_size e)) e
  exact h pins _ σ H xs _ Q I1 (by simpa using rv) hw
end
end L2
namespace Ma
def con(c:Nat):Nat:=if 96<c then c - 32 else c+32
def bY(c:Nat):Prop:=(97≤c∧c≤100)∨(65≤c∧c≤68)
instance(c:Nat):Decidable (bY c):=by unfold bY;infer_instance
theorem aQ{c:Nat}(h:bY c):con (con c)=c:=by unfold con;unfold bY at h;split <;> split <;> omega
theorem cB{c:Nat}(h:bY c):bY (con c):=by unfold con;unfold bY at *;split <;> omega
theorem rO{a b:Nat}(ha:bY a)(hb:bY b)(h:con a=con b):a=b:=by rw[← aQ ha,← aQ hb,h]
theorem sV{c:Nat}(h:bY c):con c≠c:=by unfold con;unfold bY at h;split <;> omega
def push(k:List Nat)(c:Nat):List Nat:=match k with
 | []=>[c]
 | x::r=>if x=con c then r else c::x::r
def PlainR:List Nat→Prop
 | []=>True
 | [_]=>True
 | a::b::r=>b≠con a∧PlainR (b::r)
def AllL(w:List Nat):Prop:=∀ c∈w,bY c
def act(k:List Nat)(w:List Nat):List Nat:=w.foldl push k
def lay(w:List Nat):List Nat:=(act [] w).reverse
def bI(w:List Nat):Prop:=PlainR w.reverse
def back(w:List Nat):List Nat:=(w.map con).reverse
theorem AllL.cons{c:Nat}{w:List Nat}:AllL (c::w)↔bY c∧AllL w:=by unfold AllL;simp
theorem AllL.nil:AllL []:=by unfold AllL;simp
theorem AllL.app{u w:List Nat}:AllL (u++w)↔AllL u∧AllL w:=by
 unfold AllL;constructor
 ·intro h;exact⟨fun c hc=>h c (List.mem_append_left _ hc),fun c hc=>h c (List.mem_append_right _ hc)⟩
 ·rintro⟨h1,h2⟩ c hc;rcases List.mem_append.mp hc with h | h;exact h1 c h;exact h2 c h
theorem AllL.rev{w:List Nat}:AllL w.reverse↔AllL w:=by unfold AllL;simp
theorem PlainR.tail{a:Nat}{r:List Nat}(h:PlainR (a::r)):PlainR r:=by
 cases r with
 | nil=>trivial
 | cons b r=>exact h.2
theorem wE{k:List Nat}{c:Nat}(hk:PlainR k):PlainR (push k c):=by
 cases k with
 | nil=>trivial
 | cons x r =>
  unfold push
  dsimp only
  split
  ·exact hk.tail
  ·rename_i h;exact⟨h,hk⟩
theorem B0{k:List Nat}{c:Nat}(hk:AllL k)(hc:bY c):AllL (push k c):=by
 cases k with
 | nil=>exact AllL.cons.mpr ⟨hc,hk⟩
 | cons x r =>
  unfold push
  dsimp only
  split
  ·exact(AllL.cons.mp hk).2
  ·exact AllL.cons.mpr ⟨hc,hk⟩
theorem fK:∀ {w k:List Nat},PlainR k→PlainR (act k w)
 | [],_,h=>h
 | c::w,k,h=>fK (w:=w) (wE h)
theorem gZ:∀ {w k:List Nat},AllL k→AllL w→AllL (act k w)
 | [],_,h,_=>h
 | c::w,k,h,hw=>gZ (w:=w) (B0 h (AllL.cons.mp hw).1) (AllL.cons.mp hw).2
theorem gN(k u w:List Nat):act k (u++w)=act (act k u) w:=by unfold act;rw[List.foldl_append]
theorem fL(k u:List Nat)(c:Nat):act k (u++[c])=push (act k u) c:=by rw[gN];rfl
theorem iF(k w:List Nat)(c:Nat):act k (c::w)=act (push k c) w:=rfl
theorem qL{k:List Nat}{c:Nat}(hk:PlainR k)(ha:AllL k)(hc:bY c):push (push k c) (con c)=k:=by
 cases k with
 | nil =>
  show (if c=con (con c) then [] else _)=[]
  rw[if_pos (aQ hc).symm]
 | cons x r =>
  have hx:bY x:=(AllL.cons.mp ha).1
  by_cases e:x=con c
  ·have e1:push (x::r) c=r:=by unfold push;dsimp only;rw[if_pos e]
   rw[e1]
   cases r with
   | nil=>unfold push;dsimp only;rw[e]
   | cons y r =>
    have h1:y≠con x:=hk.1
    unfold push
    dsimp only
    rw[if_neg (by rw[← e];exact h1),e]
  ·have e1:push (x::r) c=c::x::r:=by unfold push;dsimp only;rw[if_neg e]
   rw[e1]
   unfold push
   dsimp only
   rw[if_pos (aQ hc).symm]
theorem dN{w:List Nat}(h:AllL w):AllL (lay w):=AllL.rev.mpr (gZ AllL.nil h)
theorem iU(w:List Nat):bI (lay w):=by unfold bI lay;rw[List.reverse_reverse];exact fK trivial
theorem Bw(k:List Nat)(c:Nat):(push k c).length≤k.length+1:=by
 cases k with
 | nil=>simp[push]
 | cons x r =>
  unfold push
  dsimp only
  split
  ·simp;omega
  ·simp
theorem mS:∀ (w k:List Nat),(act k w).length≤k.length+w.length
 | [],k=>by simp[act]
 | c::w,k=>by
  have h1:=mS w (push k c)
  have h2:=Bw k c
  rw[iF,List.length_cons]
  omega
theorem eQ(w:List Nat):(lay w).length≤w.length:=by
 unfold lay;rw[List.length_reverse];have:=mS w [];simpa using this
theorem iQ(u v:List Nat){a b:Nat}(hu:AllL u)(hb:bY b)(e:a=con b):lay (u++a::b::v)=lay (u++v):=by
 unfold lay
 have ha:bY a:=by rw[e];exact cB hb
 rw[gN,iF,iF,gN]
 have e2:b=con a:=by rw[e,aQ hb]
 rw[e2,qL (fK (k:=[]) trivial) (gZ AllL.nil hu) ha]
theorem gU:∀ (w k:List Nat),PlainR (w.reverse++k)→act k w=w.reverse++k
 | [],k,_=>rfl
 | c::w,k,h=>by
  have h0:PlainR (w.reverse++(c::k)):=by simpa using h
  have e:push k c=c::k:=by
   cases k with
   | nil=>rfl
   | cons x r =>
    have h1:x≠con c:=by
     have:∀ (l:List Nat),PlainR (l++(c::x::r))→x≠con c:=by
      intro l
      induction l with
      | nil=>intro h;exact h.1
      | cons y l ih =>
       intro h
       exact ih (PlainR.tail h)
     exact this _ h0
    unfold push
    dsimp only
    rw[if_neg h1]
  rw[iF,e,gU w (c::k) h0]
  simp
theorem dU{w:List Nat}(h:bI w):lay w=w:=by
 unfold lay
 rw[gU w [] (by rw[List.append_nil];exact h)]
 simp
theorem yJ(w:List Nat):lay (lay w)=lay w:=dU (iU w)
theorem Dc:∀ (n:Nat) (w k:List Nat),w.length=n→PlainR k→AllL k→AllL w→act k (lay w)=act k w:=by
 intro n
 induction n with
 | zero =>
  intro w k hn _ _ _
  have:w=[]:=List.length_eq_zero_iff.mp hn
  subst this;rfl
 | succ n ih =>
  intro w k hn hk ha hw
  have hne:w≠[]:=by intro h;subst h;simp at hn
  obtain⟨u,c,rfl⟩:∃ u c,w=u++[c]:=⟨w.dropLast,w.getLast hne,(List.dropLast_concat_getLast hne).symm⟩
  have hu:u.length=n:=by simpa using hn
  obtain⟨hau,hac⟩:=AllL.app.mp hw
  have hc:bY c:=(AllL.cons.mp hac).1
  have ihu:=ih u k hu hk ha hau
  have hal:=gZ (k:=[]) AllL.nil hau
  unfold lay at ihu ⊢
  rw[fL,fL,← ihu]
  cases e:act [] u with
  | nil=>simp[push,act]
  | cons x r =>
   rw[e] at hal
   have hx:bY x:=(AllL.cons.mp hal).1
   have har:AllL r:=(AllL.cons.mp hal).2
   by_cases h:x=con c
   ·have e1:push (x::r) c=r:=by unfold push;dsimp only;rw[if_pos h]
    rw[e1,List.reverse_cons,fL]
    have e2:c=con x:=by rw[h,aQ hc]
    rw[e2,qL (fK hk) (gZ ha (AllL.rev.mpr har)) hx]
   ·have e1:push (x::r) c=c::x::r:=by unfold push;dsimp only;rw[if_neg h]
    rw[e1,List.reverse_cons,fL]
theorem cP(u w:List Nat)(hu:AllL u)(hw:AllL w):lay (u++lay w)=lay (u++w):=by
 unfold lay
 rw[gN,gN]
 have:=Dc w.length w (act [] u) rfl (fK trivial) (gZ AllL.nil hu) hw
 unfold lay at this
 rw[this]
theorem eF(u w:List Nat)(hu:AllL u):lay (lay u++w)=lay (u++w):=by
 unfold lay
 rw[gN,gN]
 have e:=gU (lay u) [] (by rw[List.append_nil];exact iU u)
 unfold lay at e
 rw[e]
 simp
theorem cY(u w:List Nat):back (u++w)=back w++back u:=by unfold back;simp
theorem bG(w:List Nat):(back w).length=w.length:=by unfold back;simp
theorem aL{w:List Nat}(h:AllL w):AllL (back w):=by
 unfold back AllL
 intro c hc
 simp only [List.mem_reverse,List.mem_map] at hc
 obtain⟨a,ha,rfl⟩:=hc
 exact cB (h a ha)
theorem dF:∀ {w:List Nat},AllL w→back (back w)=w
 | [],_=>rfl
 | c::w,h=>by
  have e:back (c::w)=back w++[con c]:=by unfold back;simp
  have ih:=dF (AllL.cons.mp h).2
  rw[e,cY,ih]
  unfold back
  simp[aQ (AllL.cons.mp h).1]
theorem mL:∀ (n:Nat) (w:List Nat),w.length=n→AllL w→lay (w++back w)=[]:=by
 intro n
 induction n with
 | zero =>
  intro w hn _
  have:w=[]:=List.length_eq_zero_iff.mp hn
  subst this;rfl
 | succ n ih =>
  intro w hn hw
  have hne:w≠[]:=by intro h;subst h;simp at hn
  obtain⟨u,c,rfl⟩:∃ u c,w=u++[c]:=⟨w.dropLast,w.getLast hne,(List.dropLast_concat_getLast hne).symm⟩
  obtain⟨hau,hac⟩:=AllL.app.mp hw
  have hc:bY c:=(AllL.cons.mp hac).1
  have e:u++[c]++back (u++[c])=u++c::con c::back u:=by rw[cY];simp[back]
  rw[e,iQ u (back u) hau (cB hc) (aQ hc).symm]
  exact ih u (by simpa using hn) hau
theorem dY{w:List Nat}(h:AllL w):lay (w++back w)=[]:=mL _ w rfl h
theorem dX{w:List Nat}(h:AllL w):lay (back w++w)=[]:=by
 have:=dY (aL h)
 rwa [dF h] at this
theorem mF:∀ (l:List Nat) (a b:Nat),PlainR (l++[a])→b≠con a→PlainR (l++[a,b])
 | [],a,b,_,h=>⟨h,trivial⟩
 | [x],a,b,h,h2=>⟨h.1,h2,trivial⟩
 | x::y::l,a,b,h,h2=>⟨h.1,mF (y::l) a b h.2 h2⟩
theorem jD:∀ {k:List Nat},AllL k→PlainR k→PlainR (k.map con).reverse
 | [],_,_=>trivial
 | [a],_,_=>trivial
 | a::b::r,ha,h=>by
  have ih:=jD (AllL.cons.mp ha).2 h.2
  have hA:=AllL.cons.mp ha
  have hB:=AllL.cons.mp hA.2
  rw[List.map_cons,List.reverse_cons] at ih ⊢
  rw[List.map_cons,List.reverse_cons] at *
  have e:((r.map con).reverse++[con b])++[con a]=(r.map con).reverse++[con b,con a]:=by simp
  rw[e]
  refine mF _ _ _ ih ?_
  rw[aQ hB.1]
  intro e2
  exact h.1 e2.symm
theorem jO{w:List Nat}(hw:AllL w)(h:bI w):bI (back w):=by
 unfold bI back at *
 rw[List.reverse_reverse]
 have:=jD (AllL.rev.mpr hw) h
 rwa [List.map_reverse,List.reverse_reverse] at this
theorem A9:∀ (n:Nat) (w:List Nat),w.length=n→AllL w→lay (back w)=back (lay w):=by
 intro n
 induction n with
 | zero =>
  intro w hn _
  have:w=[]:=List.length_eq_zero_iff.mp hn
  subst this;rfl
 | succ n ih =>
  intro w hn hw
  have hne:w≠[]:=by intro h;subst h;simp at hn
  obtain⟨u,c,rfl⟩:∃ u c,w=u++[c]:=⟨w.dropLast,w.getLast hne,(List.dropLast_concat_getLast hne).symm⟩
  obtain⟨hau,hac⟩:=AllL.app.mp hw
  have hc:bY c:=(AllL.cons.mp hac).1
  have ihu:=ih u (by simpa using hn) hau
  have e0:back (u++[c])=[con c]++back u:=by rw[cY];simp[back]
  have hcc:AllL [con c]:=AllL.cons.mpr ⟨cB hc,AllL.nil⟩
  rw[e0,← cP [con c] (back u) hcc (aL hau),ihu]
  have hal:=gZ (k:=[]) AllL.nil hau
  have hpl:=fK (w:=u) (k:=[]) trivial
  have el:lay u=(act [] u).reverse:=rfl
  have el2:lay (u++[c])=(push (act [] u) c).reverse:=by unfold lay;rw[fL]
  rw[el2,el]
  cases e:act [] u with
  | nil=>rfl
  | cons x r =>
   rw[e] at hal hpl
   have hx:bY x:=(AllL.cons.mp hal).1
   have har:AllL r:=(AllL.cons.mp hal).2
   have hbr:AllL (back r.reverse):=aL (AllL.rev.mpr har)
   have eb:back (x::r).reverse=con x::back r.reverse:=by rw[List.reverse_cons,cY];rfl
   rw[eb]
   have hp2:bI (back (x::r).reverse):=jO (AllL.rev.mpr hal) (by unfold bI;rw[List.reverse_reverse];exact hpl)
   by_cases h:x=con c
   ·have e1:push (x::r) c=r:=by unfold push;dsimp only;rw[if_pos h]
    rw[e1]
    show lay ([]++con c::con x::back r.reverse)=_
    rw[iQ [] _ AllL.nil (cB hx) (by rw[aQ hx,h])]
    exact dU (jO (AllL.rev.mpr har) (by unfold bI;rw[List.reverse_reverse];exact hpl.tail))
   ·have e1:push (x::r) c=c::x::r:=by unfold push;dsimp only;rw[if_neg h]
    rw[e1]
    have e3:back (c::x::r).reverse=[con c]++con x::back r.reverse:=by rw[List.reverse_cons,cY,eb];rfl
    rw[e3]
    refine dU ?_
    rw[← e3]
    refine jO (AllL.rev.mpr (AllL.cons.mpr ⟨hc,hal⟩)) ?_
    unfold bI
    rw[List.reverse_reverse]
    exact⟨h,hpl⟩
theorem gI{w:List Nat}(h:AllL w):lay (back w)=back (lay w):=A9 _ w rfl h
end Ma
namespace Lw
open PySem PySem.Spec PyProof.Rows L2 Ma
theorem bP(w:List Nat):(S w).length=w.length:=by simp[Str.length]
theorem fW(u w:List Nat):(S u++S w:Str)=S (u++w):=by
 show Str.append (S u) (S w)=S (u++w)
 unfold Str.append;simp
theorem qP{u w:List Nat}(h:S u=S w):u=w:=by
 have h':u.toArray=w.toArray:=congrArg Str.cps h
 simpa using congrArg Array.toList h'
theorem eZ(u w:List Nat):decide (V.str (S u)=V.str (S w))=decide (u=w):=by
 by_cases h:u=w
 ·subst h;simp
 ·rw[decide_eq_false h,decide_eq_false fun e=>h (qP (V.str.inj e))]
theorem oR:(Str.ofString "":Str)=S []:=by decide +kernel
theorem GQ(w:List Nat):(S w).cps.toList=w:=by simp
theorem aN{n:Nat}(h:n≤100000):n≤sizeLine:=Nat.le_trans h (by decide)
theorem gJ(w:List Nat){j:Int}(h0:0≤j)(h2:j≤w.length):Txt.slice (S w) none (some j)=S (w.take j.toNat):=by
 have:=slice_closes_toL (x:=S w) h0 (by rw[bP];exact h2)
 rw[beq_iff_eq.mp this]
 simp
theorem wN:∀ (zs:List (List Nat)),Txt.join (S []) (zs.map S)=S zs.flatten
 | []=>by unfold Txt.join;rw[StrLaws.glued_eq_join];rfl
 | [z]=>by unfold Txt.join;rw[StrLaws.glued_eq_join];simp[Str.join]
 | z::y::r=>by
  have ih:=wN (y::r)
  unfold Txt.join at ih ⊢
  rw[StrLaws.glued_eq_join] at ih ⊢
  rw[List.map_cons,List.map_cons]
  show (S z++S [])++Str.join (S []) (S y::r.map S)=_
  rw[List.map_cons] at ih
  rw[ih,fW,fW]
  simp
theorem xZ(zs:List (List Nat)):((zs.map S).map (·.length)).sum=zs.flatten.length:=by
 induction zs with
 | nil=>rfl
 | cons z zs ih=>simp only [List.map_cons,List.sum_cons,List.flatten_cons,List.length_append,ih,bP]
def bH(c:Nat):Bool:=decide (96<c)
theorem aP{c:Nat}(h:bY c):c=97∨c=98∨c=99∨c=100∨c=65∨c=66∨c=67∨c=68:=by unfold bY at h;omega
theorem zX{c:Nat}(h:bY c):Txt.islower (S [c])=bH c:=by
 rcases aP h with rfl | rfl | rfl | rfl | rfl | rfl | rfl | rfl <;> decide +kernel
theorem qX{c:Nat}(h:bY c):Txt.isupper (S [c])=!bH c:=by
 rcases aP h with rfl | rfl | rfl | rfl | rfl | rfl | rfl | rfl <;> decide +kernel
theorem nA{c:Nat}(h:bY c)(hl:bH c=true):Txt.upper (S [c])=S [con c]:=by
 rcases aP h with rfl | rfl | rfl | rfl | rfl | rfl | rfl | rfl <;> first | (decide +kernel) | (exact absurd hl (by decide))
theorem yH{c:Nat}(h:bY c)(hl:bH c=false):Txt.lower (S [c])=S [con c]:=by
 rcases aP h with rfl | rfl | rfl | rfl | rfl | rfl | rfl | rfl <;> first | (decide +kernel) | (exact absurd hl (by decide))
theorem wC(c:Nat):Builtin.Str.tooLong (S [c]).length=false:=by rw[bP];show Builtin.Str.tooLong 1=false;decide +kernel
def conTab_rows:List (Str×PyData):=[("a",.str "A"),("A",.str "a"),("b",.str "B"),("B",.str "b"),("c",.str "C"),("C",.str "c"),("d",.str "D"),("D",.str "d")]
def AJ:List (PyData×PyData):=conTab_rows.map fun p=>(PyData.str p.1,p.2)
theorem uT{c:Nat}(h:bY c):lookup (.str (S [c])) AJ=some (.str (S [con c])):=by
 rcases aP h with rfl | rfl | rfl | rfl | rfl | rfl | rfl | rfl <;> kernel_rfl
def Kp(fl:Addr)(H H':Hp):Prop:=∀ b o,H b=some o→b≠fl→H' b=some o
theorem Kp.refl(fl:Addr)(H:Hp):Kp fl H H:=fun _ _ h _=>h
theorem Kp.trans{fl:Addr}{H H1 H2:Hp}(a:Kp fl H H1)(b:Kp fl H1 H2):Kp fl H H2:=fun c o h n=>b c o (a c o h n) n
theorem _root_.L2.Same.kp{fl:Addr}{H H':Hp}(h:Same H H'):Kp fl H H':=fun b o e _=>h b o e
theorem _root_.L2.Same.new{H:Hp}{l:Addr}{o:HO}(h:H l=none):Same H (upd H l o):=fun b u e=>by rw[aE (aH e h)];exact e
theorem _root_.L2.Same.upd{H H':Hp}{l:Addr}{o:HO}(s:Same H H')(h:H l=none):Same H (upd H' l o):=fun b u e=>by rw[aE (aH e h)];exact s b u e
theorem _root_.L2.Same.upd'{H H':Hp}{l:Addr}{o:HO}(s:Same H H')(h:H' l=none):Same H (upd H' l o):=s.trans (Same.new h)
theorem Kp.upd{fl:Addr}{H H':Hp}{l:Addr}{o:HO}(s:Kp fl H H')(h:H l=none):Kp fl H (upd H' l o):=fun b u e n=>by rw[aE (aH e h)];exact s b u e n
theorem Kp.self{fl:Addr}{H H':Hp}{o:HO}(s:Kp fl H H'):Kp fl H (L2.upd H' fl o):=fun b u e n=>by rw[aE n];exact s b u e n
theorem Kp.free{fl:Addr}{H H':Hp}(k:Kp fl H H'){l:Addr}(h:H' l=none)(n:l≠fl):H l=none:=by
 cases q:H l with
 | none=>rfl
 | some o=>rw[k l o q n] at h;cases h
def IsFl(H:Hp)(fl sc:Addr):Prop:=∃ (ns:List Int) (i a b c:Int),H fl=some (.lst [.ref sc,.int i,.int a,.int b,.int c])∧H sc=some (.lst (ns.map V.int))∧ns.length≤63∧0≤i∧0≤a∧0≤b
theorem IsFl.same{H H':Hp}{fl sc:Addr}(s:Same H H')(h:IsFl H fl sc):IsFl H' fl sc:=by
 obtain⟨ns,i,a,b,c,h1,h2,r⟩:=h
 exact⟨ns,i,a,b,c,s _ _ h1,s _ _ h2,r⟩
theorem IsFl.some{H:Hp}{fl sc:Addr}(h:IsFl H fl sc):(∃ o,H fl=some o)∧∃ o,H sc=some o:=by
 obtain⟨ns,i,a,b,c,h1,h2,r⟩:=h
 exact⟨⟨_,h1⟩,⟨_,h2⟩⟩
theorem IsFl.ne{H:Hp}{fl sc l:Addr}(h:IsFl H fl sc)(n:H l=none):l≠fl:=by
 obtain⟨⟨o,e⟩,_⟩:=h.some
 exact(aH e n).symm
theorem IsFl.ne2{H:Hp}{fl sc l:Addr}(h:IsFl H fl sc)(n:H l=none):l≠sc:=by
 obtain⟨_,⟨o,e⟩⟩:=h.some
 exact(aH e n).symm
theorem IsFl.upd{H:Hp}{fl sc l:Addr}{o:HO}(h:IsFl H fl sc)(n:H l=none):IsFl (L2.upd H l o) fl sc:=h.same (Same.new n)
theorem IsFl.set{H:Hp}{fl sc l:Addr}{o:HO}(h:IsFl H fl sc)(n:l≠fl)(n2:l≠sc):IsFl (L2.upd H l o) fl sc:=by
 obtain⟨ns,i,a,b,c,h1,h2,r⟩:=h
 exact⟨ns,i,a,b,c,by rw[aE n.symm];exact h1,by rw[aE n2.symm];exact h2,r⟩
structure Df(K:PySem.W.Frag)(mg:Str→Option Value)(x:Str)(st:Stmt)(ps:List Str)(f:Addr)(fd:FuncData):Prop where
 F:Fun K x x st f fd
 b:Binds K fd ps []
 m:mg x=some (.ref f)
def Cl(P:Program)(w:World)(K:PySem.W.Frag)(mg:Str→Option Value)(base:Heap)(x:Str)(ps:List Str)(n:Nat)(sp:Sp):Prop :=
 ∃ f fd,FnOk P w K mg base yP n f fd ps sp∧mg x=some (.ref f)∧PySem.W.keepIn K (.ref f)=true∧Binds K fd ps []
theorem Df.cl{P:Program}{w:World}{K:PySem.W.Frag}{mg:Str→Option Value}{base:Heap}{x:Str}{st:Stmt}{ps:List Str}{f:Addr}{fd:FuncData}{n:Nat}{sp:Sp}(D:Df K mg x st ps f fd)(h:FnOk P w K mg base yP n f fd ps sp):Cl P w K mg base x ps n sp :=
 ⟨f,fd,h,D.m,D.F.kp,D.b⟩
def lets:List Nat:=[97,65,98,66,99,67,100,68]
def aK(n:Int):List Nat:=lets.take (2 * n).toNat
def OfN(n:Int)(w:List Nat):Prop:=∀ c∈w,c∈aK n
theorem aJ{n:Int}{c:Nat}(h:c∈aK n):bY c:=by
 have h2:c∈lets:=List.mem_of_mem_take h
 unfold lets at h2
 simp only [List.mem_cons,List.not_mem_nil,or_false] at h2
 unfold bY
 omega
theorem OfN.all{n:Int}{w:List Nat}(h:OfN n w):AllL w:=fun c hc=>aJ (h c hc)
theorem iO{n:Int}(h1:1≤n)(h4:n≤4):(aK n).length=(2 * n).toNat:=by
 unfold aK lets
 rw[List.length_take]
 simp
 omega
def aV(w:List Nat):List V:=w.map fun c=>V.str (S [c])
theorem kW(w:List Nat):aV w=(w.map fun c=>S [c]).map V.str:=by unfold aV;rw[List.map_map];rfl
theorem lH:∀ (w:List Nat),(w.map fun c=>[c]).flatten=w
 | []=>rfl
 | c::w=>by rw[List.map_cons,List.flatten_cons,lH w];rfl
theorem BU(w:List Nat):(w.map fun c=>[c]).map S=w.map fun c=>S [c]:=by rw[List.map_map];rfl
theorem iR(w:List Nat):Txt.join (Str.ofString "") (w.map fun c=>S [c])=S w:=by
 have h:=wN (w.map fun c=>[c])
 rw[BU,lH] at h
 rw[oR]
 exact h
theorem hU(w:List Nat)(hw:w.length≤100000):((w.map fun c=>S [c]).map (·.length)).sum+(w.map fun c=>S [c]).length * (Str.ofString "").length≤16777216:=by
 have h:=xZ (w.map fun c=>[c])
 rw[BU,lH] at h
 have e2:(Str.ofString "").length=0:=by decide +kernel
 rw[e2,Nat.mul_zero,Nat.add_zero,h]
 omega
theorem bV(w:List Nat)(c:Nat):aV (w++[c])=aV w++[V.str (S [c])]:=by unfold aV;simp
theorem aX(w:List Nat):(aV w).length=w.length:=by unfold aV;simp
theorem kR{w:List Nat}{i:Nat}{c:Nat}(h:w[i]?=some c):(aV w)[i]?=some (.str (S [c])):=by unfold aV;rw[List.getElem?_map,h];rfl
theorem Gu{w:List Nat}{i:Int}{c:Nat}(h0:0≤i)(h:w[i.toNat]?=some c):vJ (S w).cps.toList i=some c:=by
 rw[GQ]
 have:=cT h
 rwa [Int.toNat_of_nonneg h0] at this
theorem Bg{α:Type}{xs:List α}{i:Int}{v:α}(h0:0≤i)(h:xs[i.toNat]?=some v):vJ xs i=some v:=by
 have:=cT h
 rwa [Int.toNat_of_nonneg h0] at this
theorem bM{w:List Nat}{i c:Nat}(h:w[i]?=some c):w.take (i+1)=w.take i++[c]:=by rw[List.take_add_one,h];rfl
def Cb(K:PySem.W.Frag):Sp:=fun vs H Q _=>∃ (a:Addr) (ns:List Int),vs=[.ref a]∧SqL K H a (ns.map V.int)∧ns.length≤63∧∀ (fl sc:Addr) (H':Hp),H fl=none→Same H H'→IsFl H' fl sc→Q (.ref fl) H'
def lS:Sp:=fun vs H Q _=>∃ (fl sc:Addr) (m:Int),vs=[.ref fl,.int m]∧IsFl H fl sc∧0<m∧m<1073741824∧∀ (d:Int) (H':Hp),0≤d→d<m→IsFl H' fl sc→Kp fl H H'→Q (.int d) H'
def hZ:Sp:=fun vs H Q _=>∃ c:Nat,vs=[.str (S [c])]∧bY c∧∀ H',Same H H'→Q (.str (S [con c])) H'
def mB:Sp:=fun vs H Q _=>∃ w:List Nat,vs=[.str (S w)]∧AllL w∧w.length≤60000∧∀ H',Same H H'→Q (.str (S (lay w))) H'
def rX:Sp:=fun vs H Q _=>∃ w:List Nat,vs=[.str (S w)]∧AllL w∧w.length≤1000∧∀ H',Same H H'→Q (.str (S (back w))) H'
def lC:Sp:=fun vs H Q _=>∃ n:Int,vs=[.int n]∧1≤n∧n≤4∧∀ (l:Addr) (H':Hp),H l=none→Same H H'→H' l=some (.lst (aV (aK n)))→Q (.ref l) H'
def wG:Sp:=fun vs H Q _=>∃ (fl sc:Addr) (n most:Int),vs=[.ref fl,.int n,.int most]∧IsFl H fl sc∧1≤n∧n≤4∧0≤most∧most≤900 ∧
 ∀ (w:List Nat) (H':Hp),OfN n w→bI w→(w.length:Int)≤most→IsFl H' fl sc→Kp fl H H'→Q (.str (S w)) H'
def yE(K:PySem.W.Frag):Sp:=fun vs H Q _=>∃ (a:Addr) (ns:List Int),vs=[.ref a]∧SqL K H a (ns.map V.int)∧ns.length≤63∧∀ H',Q (.bl true) H'
end Lw
namespace L2
open PySem PySem.Spec PyProof.Rows
def IC(t u:TS):TS:=fun D σ H=>∃ M:St→Hp→Prop,t { D with nx:=M } σ H∧∀ σ' H',M σ' H'→u D σ' H'
theorem iT{X:Cx}{st:Stmt}{rest:List Stmt}{t u:TS}(h1:PS X st t)(h2:PSs X rest u):PSs X (st::rest) (IC t u):=by
 intro pins s σ H D I ⟨M,q1,q2⟩
 refine wpAny_execs_cons (bZ (h1 pins s σ H { D with nx:=M } I q1) fun f s1 q=>?_)
 cases f with
 | next =>
  obtain⟨σ',H',I',q⟩:=q
  exact h2 pins s1 σ' H' D I' (q2 σ' H' q)
 | ret v=>exact q
 | brk=>exact q
 | cont=>exact q
end L2
namespace Lw
open PySem PySem.Spec PyProof.Rows L2 Ma
def kZ(x:List Nat)(c:Nat):Bool:=match x.getLast? with
 | none=>true
 | some z=>!decide ([c]=[con z])
theorem Cu{n:Int}{x:List Nat}(h1:1≤n)(h4:n≤4):0<((aK n).filter (kZ x)).length:=by
 have m1:97∈aK n∧65∈aK n:=by
  have:n=1∨n=2∨n=3∨n=4:=by omega
  rcases this with rfl | rfl | rfl | rfl <;> decide
 have:kZ x 97=true∨kZ x 65=true:=by
  unfold kZ
  cases x.getLast? with
  | none=>exact .inl rfl
  | some z =>
   by_cases e:con z=97
   ·right;dsimp only;rw[e];rfl
   ·left;dsimp only;simp;omega
 rcases this with h | h
 ·exact List.length_pos_of_mem (List.mem_filter.mpr ⟨m1.1,h⟩)
 ·exact List.length_pos_of_mem (List.mem_filter.mpr ⟨m1.2,h⟩)
theorem lQ{x:List Nat}{c:Nat}(hx:AllL x)(hc:bY c)(hp:bI x)(h:kZ x c=true):bI (x++[c]):=by
 unfold bI at *
 rw[List.reverse_append]
 show PlainR (c::x.reverse)
 cases hq:x.reverse with
 | nil=>trivial
 | cons z r =>
  rw[hq] at hp
  refine⟨?_,hp⟩
  intro e
  have hz:x.getLast?=some z:=by
   rw[List.getLast?_eq_head?_reverse,hq];rfl
  unfold kZ at h
  rw[hz] at h
  have h':¬ c=con z:=by simpa using h
  exact h' (by rw[e,aQ hc])
end Lw
namespace L2
open PySem PySem.Spec PyProof.Rows
section
variable {X:Cx}{K:PySem.W.Frag}
theorem aO(h:X.K=K):EZ X (GV K):=by subst h;exact C8
theorem bK(h:X.K=K):EZ X (GA K):=by subst h;exact D9
theorem cJ(h:X.K=K):fX X (.builtin "len") (fun xs H Q=>∃ p ys,xs=[.ref p]∧(SqL K H p ys∨SqT K H p ys)∧Q (.int ys.length) H):=by subst h;exact sY
theorem xG(h:X.K=K):fX X (.type "list") (fun xs H Q=>∃ p ys,xs=[.ref p]∧(SqL K H p ys∨SqT K H p ys)∧∀ l,H l=none→Q (.ref l) (upd H l (.lst ys))):=by subst h;exact rV
theorem bS(h:X.K=K):fX X (.type "tuple") (fun xs H Q=>∃ p ys,xs=[.ref p]∧((SqL K H p ys∧∀ l,H l=none→Q (.ref l) (upd H l (.tup ys)))∨(SqT K H p ys∧Q (.ref p) H))):=by subst h;exact pL
theorem iL(h:X.K=K):Ai X "str.join" (fun x xs H Q=>∃ z a zs,x=.str z∧xs=[.ref a]∧SqL K H a (zs.map V.str)∧(zs.map (·.length)).sum+zs.length * z.length≤16777216∧Q (.str (Txt.join z zs)) H):=by subst h;exact Cm
theorem Ck(h:X.K=K)(hu:X.A.units<cLine):jA X (compareOp .NotEq) (FS K true):=by subst h;exact Ep hu
theorem Bj(h:X.K=K):jA X (compareOp .In) (II K false):=by subst h;exact zV
theorem B9(h:X.K=K):jA X (binaryOp .Add) (DP K):=by subst h;exact Di
theorem kJ{tg l:Expr}{tl:TE}(h:X.K=K)(hl:PE X l tl):PI X tg l (DR K tl):=by subst h;exact C_ hl
theorem dR{tg l:Expr}{tl:TE}(h:X.K=K)(hl:PE X l tl):PI X tg l (F8 K tl):=by subst h;exact EY hl
variable {o e:Expr}{es:List Expr}{to:TE}{t:TA}{name:Str}{apos cpos:Pos}{T id:String}{r:V→List V→Hp→VK→Prop}
theorem eC(h:X.K=K)(pa:PlainAttrs T)(slot:Slot T name id)(hty:typeOf (.builtin id)=pure (.type "method_descriptor"))(hm:Ai X id r)(ho:PE X o to)
  (hbase:attributeBase o name X.env (eval o X.env)=eval o X.env:=by rfl) (hline:(apos.endLine == cpos.line)=true:=by rfl):PE X (.Call (.Attribute o name apos) [] [] cpos) (Gd K T r to):=by subst h;exact Ey pa slot hty hm ho hbase hline
theorem cS(h:X.K=K)(pa:PlainAttrs T)(slot:Slot T name id)(hty:typeOf (.builtin id)=pure (.type "method_descriptor"))(hm:Ai X id r)(ho:PE X o to)(ha:PA X (e::es) t)
  (hbase:attributeBase o name X.env (eval o X.env)=eval o X.env:=by rfl)
  (hfew:((backTo cpos (starEach (e::es) X.env)).all (fun x=>!x.1) && (backToKw cpos (keywordEach [] X.env)).all (fun x=>x.1.isSome)
   && decide ((e::es).length+([]:List Keyword).length+(if ([]:List Keyword).isEmpty then 0 else 1)<30))=true:=by rfl)
  (hline:(apos.endLine == cpos.line)=true:=by rfl) (hs:starEach (e::es) X.env=(false,eval e X.env)::starEach es X.env:=by rfl) (hplain:(backTo cpos (starEach es X.env)).any (·.1)=false:=by rfl) :
  PE X (.Call (.Attribute o name apos) (e::es) [] cpos) (IJ K T r to t):=by subst h;exact Gk pa slot hty hm ho ha hbase hfew hline hs hplain
end
section
variable {X:Cx}{scope:Scope}{x:Str}{px pos:Pos}{ix:List Nat}{elt iter:Expr}{ifs:List Expr}{wi:TI}{ti:TT}{te:TE}
theorem cL{sc0:Scope}{N:List Str}(h:mX sc0 scope N x ix=true)(e1:X.env.scope=sc0)(e2:X.N=N)(hc:X.calm=true)(hi:PI X (.Name x px) iter wi)(hif:∀ fp s H,wY (cH X scope x ix fp s H) ifs ti)(he:∀ fp s H,PE (cH X scope x ix fp s H) elt te)
  (hs:∀ z,foldedSetIterable iter X.env z=pure z:=by intro _;rfl):PE X (.ListComp elt [⟨.Name x px,iter,ifs,0⟩] scope pos) (By wi ix ti te) :=
 Dp (iV h e1 e2).1 (iV h e1 e2).2 hc hi hif he hs
theorem nZ{i:Nat}{y:Str}{py spos:Pos}{sc0:Scope}{N:List Str}(hN:X.N.Nodup)(hy:X.N[i]?=some y)(hyl:X.env.scope.names.lookup y=some .local)(h:mX sc0 scope N x ix=true)(e1:X.env.scope=sc0)(e2:X.N=N)(hc:X.calm=true)(hi:PI X (.Name x px) iter wi)
  (hif:∀ fp s H,wY (cH X scope x ix fp s H) ifs ti) (he:∀ fp s H,PE (cH X scope x ix fp s H) elt te)
  (hsw:swapsWith (.ListComp elt [⟨.Name x px,iter,ifs,0⟩] scope pos) (some (.Name y py)) spos.line X.env=pure true:=by rfl)
  (hs:∀ z,foldedSetIterable iter X.env z=pure z:=by intro _;rfl):PS X (.Assign [.Name y py] (.ListComp elt [⟨.Name x px,iter,ifs,0⟩] scope pos) spos) (DK i wi ix ti te) :=
 CQ hN hy hyl (iV h e1 e2).1 (iV h e1 e2).2 hc hi hif he hsw hs
end
end L2
namespace Lw
open PySem PySem.Spec PyProof.Rows L2 Ma
def GU(x:List Nat)(k:Nat):Prop:=∃ a b,x[k]?=some a∧x[k+1]?=some b∧a=con b
theorem qR{x:List Nat}{k:Nat}(h:GU x k):∃ a b,x=x.take k++a::b::x.drop (k+2)∧a=con b∧k+1<x.length:=by
 obtain⟨a,b,h1,h2,e⟩:=h
 obtain⟨l1,e1⟩:=List.getElem?_eq_some_iff.mp h1
 obtain⟨l2,e2⟩:=List.getElem?_eq_some_iff.mp h2
 refine⟨a,b,?_,e,l2⟩
 have q1:x.drop k=x[k]::x.drop (k+1):=List.drop_eq_getElem_cons l1
 have q2:x.drop (k+1)=x[k+1]::x.drop (k+1+1):=List.drop_eq_getElem_cons l2
 rw[e1] at q1
 rw[e2] at q2
 have q3:=List.take_append_drop k x
 rw[q1,q2] at q3
 exact q3.symm
theorem C6{x:List Nat}{k:Nat}(hx:AllL x)(h:GU x k):lay (x.take k++x.drop (k+2))=lay x:=by
 obtain⟨a,b,e,hab,_⟩:=qR h
 have hx':AllL (x.take k++a::b::x.drop (k+2)):=by rw[← e];exact hx
 obtain⟨h1,h2⟩:=AllL.app.mp hx'
 have hb:bY b:=(AllL.cons.mp (AllL.cons.mp h2).2).1
 have:=iQ (x.take k) (x.drop (k+2)) h1 hb hab
 rw[← this,← e]
theorem rG:∀ (k:List Nat),(∀ i a b,k[i]?=some a→k[i+1]?=some b→b≠con a)→PlainR k
 | [],_=>trivial
 | [_],_=>trivial
 | a::b::r,h=>⟨h 0 a b rfl rfl,rG (b::r) fun i x y h1 h2=>h (i+1) x y (by simpa using h1) (by simpa using h2)⟩
theorem iH{x:List Nat}(h:∀ k,¬ GU x k):bI x:=by
 unfold bI
 refine rG _ fun i a b h1 h2 e=>?_
 have l2:i+1<x.length:=by
  have:=(List.getElem?_eq_some_iff.mp h2).1
  simpa using this
 rw[List.getElem?_reverse (by omega)] at h1 h2
 refine h (x.length - 1 - (i+1)) ⟨b,a,h2,?_,e⟩
 rw[show x.length - 1 - (i+1)+1=x.length - 1 - i by omega]
 exact h1
theorem dE{n:Int}{c:Nat}(h1:1≤n)(h4:n≤4)(h:c∈aK n):con c∈aK n:=by
 have:n=1∨n=2∨n=3∨n=4:=by omega
 have hL:=aP (aJ h)
 rcases this with rfl | rfl | rfl | rfl <;> rcases hL with rfl | rfl | rfl | rfl | rfl | rfl | rfl | rfl <;> revert h <;> decide
theorem AZ{k:List Nat}{c d:Nat}(h:d∈push k c):d∈k∨d=c:=by
 cases k with
 | nil=>right;simpa [push] using h
 | cons x r =>
  unfold push at h
  dsimp only at h
  split at h
  ·left;exact List.mem_cons_of_mem _ h
  ·rcases List.mem_cons.mp h with q | q
   ·exact .inr q
   ·exact .inl q
theorem yU:∀ {w k:List Nat} {d:Nat},d∈act k w→d∈k∨d∈w
 | [],_,_,h=>.inl h
 | c::w,k,d,h=>by
  rcases yU (w:=w) (k:=push k c) h with q | q
  ·rcases AZ q with q | q
   ·exact .inl q
   ·exact .inr (by rw[q];exact List.mem_cons_self)
  ·exact .inr (List.mem_cons_of_mem _ q)
theorem CZ{w:List Nat}{c:Nat}(h:c∈lay w):c∈w:=by
 rcases yU (w:=w) (k:=[]) (List.mem_reverse.mp h) with q | q
 ·exact nomatch q
 ·exact q
theorem OfN.back{n:Int}{w:List Nat}(h:OfN n w)(h1:1≤n)(h4:n≤4):OfN n (Ma.back w):=fun c hc=>by
 unfold Ma.back at hc
 simp only [List.mem_reverse,List.mem_map] at hc
 obtain⟨a,ha,rfl⟩:=hc
 exact dE h1 h4 (h a ha)
theorem OfN.lay{n:Int}{w:List Nat}(h:OfN n w):OfN n (Ma.lay w):=fun c hc=>h c (CZ hc)
theorem OfN.app{n:Int}{u w:List Nat}(h:OfN n u)(h2:OfN n w):OfN n (u++w):=fun c hc=>(List.mem_append.mp hc).elim (h c) (h2 c)
theorem OfN.nil{n:Int}:OfN n []:=fun c hc=>nomatch hc
theorem fO:∀ (k l:List Nat),PlainR (k++l)→PlainR k
 | [],_,_=>trivial
 | [_],_,_=>trivial
 | a::b::r,l,h=>⟨h.1,fO (b::r) l h.2⟩
theorem fB:∀ (k l:List Nat),PlainR (k++l)→PlainR l
 | [],_,h=>h
 | a::r,l,h=>fB r l (PlainR.tail h)
theorem wK{x:List Nat}(h:bI x)(i:Nat):bI (x.drop i):=by
 unfold bI at *
 have e:x=x.take i++x.drop i:=(List.take_append_drop i x).symm
 rw[e,List.reverse_append] at h
 exact fO _ _ h
theorem nO{x:List Nat}(h:bI x)(i:Nat):bI (x.take i):=by
 unfold bI at *
 have e:x=x.take i++x.drop i:=(List.take_append_drop i x).symm
 rw[e,List.reverse_append] at h
 exact fB _ _ h
end Lw
namespace LtL
open PySem PyProof.Rows HT
open PySem.SeqAt
open PySem.AutoSeq1 (wpAny_loadPart')
open PySem.MeetsSeq PySem.MeetsSeq2 PySem.MeetsSeq3
theorem sH:∀ {us:List Value} {ns:List Int},IntsAre us ns→∀ i,i<us.length→∃ a t,us[i]?=some (.int a t)∧ns[i]?=some a
 | _,_,.nil,i,h=>by simp at h
 | _,_,.cons a t r,0,_=>⟨a,t,rfl,rfl⟩
 | _,_,.cons a t r,i+1,h=>by
  obtain⟨c,u,h1,h2⟩:=sH r i (by simpa using h)
  exact⟨c,u,by simpa using h1,by simpa using h2⟩
theorem yO{ns:List Int}{i:Nat}{a:Int}(h:ns[i]?=some a):ns.drop i=a::ns.drop (i+1):=by
 obtain⟨hl,e⟩:=List.getElem?_eq_some_iff.mp h
 rw[List.drop_eq_getElem_cons hl,e]
theorem Dg(l b:Addr)(us vs:List Value)(n n2:Nat)(ns ms:List Int)(hi:IntsAre us ns)(hj:IntsAre vs ms)(k:Nat) :
  ∀ i:Nat,us.length - i=k→us.length=vs.length→Meets (Builtin.«list.__eq__.loop» ⟨[.ref l,.ref b,rawInt i,rawInt 0],[]⟩)
   (fun A R s=>s.heap.get? l=some { cls:=.type "list",data:=.seq us.toArray n }∧s.heap.get? b=some { cls:=.type "list",data:=.seq vs.toArray n2 }∧R (.ok (.ret (.bool (lexLt (ns.drop i) (ms.drop i))))) s):=by
 have ln:us.length=ns.length:=hi.length
 have lm:vs.length=ms.length:=hj.length
 induction k with
 | zero =>
  intro i hk hlen prog w A R s h
  obtain⟨hp,g,d,tk,os⟩:=s;obtain⟨hl,hb,h⟩:=h
  wp_walk using wpAny_loadPart' hl,wpAny_loadPart' hb
  have n1:us.toArray[((i:Nat):Int).toNat]?=none:=by simp;omega
  have n2':vs.toArray[((i:Nat):Int).toNat]?=none:=by simp;omega
  rw[n1,n2']
  wp_walk using wpAny_loadPart' hl,wpAny_loadPart' hb
  have d1:ns.drop i=[]:=by simp;omega
  have d2:ms.drop i=[]:=by simp;omega
  rw[d1,d2] at h
  have e:(decide (us.toArray.size<vs.toArray.size))=HT.lexLt [] []:=by rw[List.size_toArray,List.size_toArray,hlen];simp[HT.lexLt]
  show R (.ok (.ret (.bool (decide (us.toArray.size<vs.toArray.size))))) _
  rw[e]
  exact h
 | succ k ih =>
  intro i hk hlen prog w A R s h
  obtain⟨hp,g,d,tk,os⟩:=s;obtain⟨hl,hb,h⟩:=h
  obtain⟨a,t,ha,ha'⟩:=sH hi i (by omega)
  obtain⟨c,u,hc,hc'⟩:=sH hj i (by omega)
  have n1:us.toArray[((i:Nat):Int).toNat]?=some (.int a t):=by simpa using ha
  have n2':vs.toArray[((i:Nat):Int).toNat]?=some (.int c u):=by simpa using hc
  rw[yO ha',yO hc',lexLt_cons] at h
  wp_walk using wpAny_loadPart' hl,wpAny_loadPart' hb
  rw[n1,n2']
  have he:=SeqAt.EqAt.int_int (A:=A.in1) (s:=⟨hp,g,d,tk,os⟩) a t c u
  refine wpAny_bind (he prog w _ _ ?_)
  cases q:(a == c) with
  | true =>
   have q':a=c:=by simpa using q
   rw[if_pos q'] at h
   wp_walk
   refine⟨plainId_quiet plain_eq_loop _,codeAny_builtin entry_eq_loop ?_⟩
   rw[Around.under_plainId plain_eq_loop _]
   exact ih (i+1) (by omega) hlen prog w A R _ ⟨hl,hb,h⟩
  | false =>
   have q':¬ a=c:=by simpa using q
   rw[if_neg q'] at h
   have hri:=BC A.in1 ⟨hp,g,d,tk,os⟩ a t c u prog w
   wp_walk using wpAny_loadPart' hl,wpAny_loadPart' hb
   rw[n1,n2']
   wp_walk using hri
   exact h
theorem list_lt(l b:Addr)(us vs:List Value)(n n2:Nat)(ns ms:List Int)(hi:IntsAre us ns)(hj:IntsAre vs ms)(hlen:us.length=vs.length) :
  Meets (Builtin.«list.__lt__» ⟨[.ref l,.ref b],[]⟩)
   (fun A R s=>s.heap.get? l=some { cls:=.type "list",data:=.seq us.toArray n }∧s.heap.get? b=some { cls:=.type "list",data:=.seq vs.toArray n2 }∧R (.ok (.ret (.bool (lexLt ns ms)))) s):=by
 intro prog w A R s h
 obtain⟨hp,g,d,tk,os⟩:=s;obtain⟨hl,hb,h⟩:=h
 have f3:=AutoSeq1.sub_list_list
 wp_walk using wpAny_loadPart' hl,wpAny_loadPart' hb
 refine⟨plainId_quiet plain_eq_loop _,codeAny_builtin entry_eq_loop ?_⟩
 rw[Around.under_plainId plain_eq_loop _]
 exact Dg l b us vs n n2 ns ms hi hj _ 0 rfl hlen prog w A R _ ⟨hl,hb,h⟩
end LtL
namespace L2
open PySem PySem.Spec PyProof.Rows
theorem nH:∀ ns:List Int,HT.lexLt ns ns=false
 | []=>rfl
 | n::ns=>by rw[HT.lexLt_cons,if_pos rfl];exact nH ns
theorem nK:∀ (a b:List Int),fU (a.map V.int) (b.map V.int)=decide (a=b)
 | [],[]=>by simp[fU]
 | [],_::_=>by simp[fU]
 | _::_,[]=>by simp[fU]
 | x::xs,y::ys=>by
  have e:mM (V.int x) (V.int y)=decide (x=y):=by
   unfold mM;by_cases h:x=y <;> simp[h]
  rw[List.map_cons,List.map_cons]
  unfold fU
  rw[nK xs ys,e]
  by_cases h:x=y <;> by_cases h2:xs=ys <;> simp[h,h2]
section
variable {X:Cx}
theorem uJ(hc:X.calm=true):Ai X "str.index" (fun x xs H Q=>∃ z y,x=.str z∧xs=[.str y]∧(Builtin.Str.occurrences z y 0 z.length 1).isEmpty=false∧Q (.int (Txt.find z y)) H):=by
 intro pins s σ H x xs v us Q I rx rs h
 obtain⟨z,y,rfl,rfl,ho,q⟩:=h
 obtain⟨t,rfl⟩:=rx
 obtain⟨u,rfl,ru⟩:=rs.one
 obtain⟨t',rfl⟩:=ru
 exact index_or (I.ok.hd hc) (fun _ e=>by rw[e] at ho;cases ho) fun _ _=>⟨.int _,H,I.tok _,⟨_,rfl⟩,q⟩
theorem nR:jA X (binaryOp .Mult) (fun x y H Q=>∃ z n,x=.str z∧y=.int n∧MulOk z n∧Q (.str (Txt.mul z n)) H):=by
 intro pins s σ H x y v u Q I rx ry h
 obtain⟨z,n,rfl,rfl,hok,q⟩:=h
 obtain⟨t,rfl⟩:=rx
 obtain⟨t',rfl⟩:=ry
 exact SB.mul hok fun t' k=>⟨.str _,H,I.tok _,⟨t',rfl⟩,q⟩
theorem zZ:jA X (compareOp .IsNot) (fun x y H Q=>∃ b c,x=.bl b∧y=.bl c∧Q (.bl (b != c)) H):=by
 intro pins s σ H x y v u Q I rx ry h
 obtain⟨b,c,rfl,rfl,q⟩:=h
 cases rx
 cases ry
 exact isnot_bool ⟨.bl _,H,I,rfl,q⟩
end
end L2
namespace MaR
section
variable {g:Nat→Nat}{n:Nat}
def Lt(g:Nat→Nat)(n i j:Nat):Prop:=∃ l,l<n∧(∀ t,t<l→g (i+t)=g (j+t))∧g (i+l)<g (j+l)
theorem ET(hg:∀ t,g (t % n)=g t){i j:Nat}(h:Lt g n i j):Lt g n (i % n) j:=by
 have e:∀ t,g (i % n+t)=g (i+t):=fun t=>by
  rw[← hg (i % n+t),← hg (i+t)]
  congr 1
  simp[Nat.add_mod]
 obtain⟨l,h1,h2,h3⟩:=h
 exact⟨l,h1,fun t ht=>by rw[e];exact h2 t ht,by rw[e];exact h3⟩
end
end MaR
namespace Lw
open PySem PySem.Spec PyProof.Rows L2 Ma MaR
def rk(c:Nat):Nat:=if 96<c then 2 * (c - 97) else 2 * (c - 65)+1
theorem Fd{a b:Nat}(ha:bY a)(hb:bY b)(h:rk a=rk b):a=b:=by unfold rk at h;unfold bY at *;split at h <;> split at h <;> omega
def gr(x:List Nat)(t:Nat):Nat:=rk (x.getD (t % x.length) 0)
theorem Be(x:List Nat):∀ t,gr x (t % x.length)=gr x t:=fun t=>by unfold gr;rw[Nat.mod_mod]
def LeastAt(x:List Nat)(b:Nat):Prop:=(x=[]∧b=0)∨(b<x.length∧∀ j,j<x.length→¬ Lt (gr x) x.length j b)
def Ends(x:List Nat)(m:Nat):Prop:=(∀ j,j<m→2 * j+1<x.length∧x.getD j 0=con (x.getD (x.length - 1 - j) 0))∧¬ (2 * m+1<x.length∧x.getD m 0=con (x.getD (x.length - 1 - m) 0))
def mid(x:List Nat)(m:Nat):List Nat:=(x.drop m).take (x.length - 2 * m)
def iS(x:List Nat)(b:Nat):List Nat:=x.drop b++x.take b
def fY(x r:List Nat):Prop:=∃ m b,Ends x m∧LeastAt (mid x m) b∧r=iS (mid x m) b
theorem Ends.le{x:List Nat}{m:Nat}(h:Ends x m):2 * m≤x.length:=by
 cases m with
 | zero=>omega
 | succ m=>have:=(h.1 m (Nat.lt_succ_self _)).1;omega
theorem Ends.inj{x:List Nat}{m m':Nat}(h:Ends x m)(h':Ends x m'):m=m':=by
 by_cases c:m<m'
 ·exact absurd (h'.1 m c) h.2
 ·by_cases c2:m' < m
  ·exact absurd (h.1 m' c2) h'.2
  ·omega
theorem CK{x:List Nat}{m:Nat}(h:2 * m≤x.length):(mid x m).length=x.length - 2 * m:=by unfold mid;rw[List.length_take,List.length_drop];omega
theorem Du{x:List Nat}{m:Nat}(h:AllL x):AllL (mid x m):=fun c hc=>h c (List.mem_of_mem_drop (List.mem_of_mem_take hc))
theorem LeastAt.le{x:List Nat}{b:Nat}(h:LeastAt x b):b≤x.length:=by
 rcases h with ⟨e,rfl⟩ | ⟨h,_⟩
 ·exact Nat.zero_le _
 ·omega
theorem eV{x:List Nat}{b:Nat}(h:b≤x.length):(iS x b).length=x.length:=by unfold iS;rw[List.length_append,List.length_drop,List.length_take];omega
theorem rY{x:List Nat}{b t:Nat}(h:b<x.length)(ht:t<x.length):(iS x b)[t]?=some (x.getD ((b+t) % x.length) 0):=by
 unfold iS
 by_cases c:t<x.length - b
 ·rw[List.getElem?_append_left (by rw[List.length_drop];omega),List.getElem?_drop,Nat.mod_eq_of_lt (by omega),List.getD_eq_getElem?_getD,List.getElem?_eq_getElem (by omega)]
  rfl
 ·rw[List.getElem?_append_right (by rw[List.length_drop];omega),List.length_drop,List.getElem?_take_of_lt (by omega)]
  have e:(b+t) % x.length=t - (x.length - b):=by
   rw[show b+t=(t - (x.length - b))+x.length by omega,Nat.add_mod_right,Nat.mod_eq_of_lt (by omega)]
  rw[e,List.getD_eq_getElem?_getD,List.getElem?_eq_getElem (by omega)]
  rfl
def rks(x:List Nat):List Int:=x.map fun c=>((rk c:Nat):Int)
theorem mY(x:List Nat):(rks x).length=x.length:=by unfold rks;rw[List.length_map]
theorem Dy{c:Nat}(h:bY c):(Builtin.Str.occurrences (Str.ofString "aAbBcCdD") (S [c]) 0 (Str.ofString "aAbBcCdD").length 1).isEmpty=false∧Txt.find (Str.ofString "aAbBcCdD") (S [c])=((rk c:Nat):Int):=by
 rcases aP h with rfl | rfl | rfl | rfl | rfl | rfl | rfl | rfl <;> exact⟨by decide +kernel,by decide +kernel⟩
def BB:Sp:=fun vs H Q _=>∃ x:List Nat,vs=[.str (S x)]∧AllL x∧x.length≤900∧∀ (p a:Addr) (H':Hp),H p=none→H a=none→Same H H'→H' p=some (.tup [.int (x.length:Nat),.ref a])→H' a=some (.lst ((rks x).map V.int))→Q (.ref p) H'
theorem C0{x:List Nat}{t i:Nat}(h:i<x.length - 2 * t):(mid x t)[i]?=some (x.getD (t+i) 0):=by
 unfold mid
 rw[List.getElem?_take_of_lt h,List.getElem?_drop,List.getD_eq_getElem?_getD,List.getElem?_eq_getElem (by omega)]
 rfl
theorem oF(x:List Nat):mid x 0=x:=by unfold mid;simp
theorem Bf(x:List Nat):iS x 0=x:=by unfold iS;simp
def IH(y:List Nat):Prop:=∀ k,k<y.length→y.getD k 0≠con (y.getD ((k+1) % y.length) 0)
theorem pG:∀ (k:List Nat),PlainR k→∀ i a b,k[i]?=some a→k[i+1]?=some b→b≠con a
 | [],_,i,a,b,h,_=>by simp at h
 | [_],_,i,a,b,_,h=>by simp at h
 | c::d::r,h,0,a,b,h1,h2=>by
  simp at h1 h2
  subst h1 h2
  exact h.1
 | c::d::r,h,i+1,a,b,h1,h2=>pG (d::r) h.2 i a b (by simpa using h1) (by simpa using h2)
theorem pO{x:List Nat}(h:bI x){k a b:Nat}(h1:x[k]?=some a)(h2:x[k+1]?=some b):a≠con b:=by
 have l2:=(List.getElem?_eq_some_iff.mp h2).1
 refine pG x.reverse h (x.length - 1 - (k+1)) b a ?_ ?_
 ·rw[List.getElem?_reverse (by omega),show x.length - 1 - (x.length - 1 - (k+1))=k+1 by omega];exact h2
 ·rw[List.getElem?_reverse (by omega),show x.length - 1 - (x.length - 1 - (k+1)+1)=k by omega];exact h1
theorem oN{x:List Nat}{i:Nat}(h:i<x.length):x[i]?=some (x.getD i 0):=by rw[List.getD_eq_getElem?_getD,List.getElem?_eq_getElem h];rfl
theorem nJ{x:List Nat}(hx:AllL x){i:Nat}(h:i<x.length):bY (x.getD i 0):=hx _ (List.mem_of_getElem? (oN h))
theorem kN{x:List Nat}{t i:Nat}(h:i<x.length - 2 * t):(mid x t).getD i 0=x.getD (t+i) 0:=by
 rw[List.getD_eq_getElem?_getD,C0 h];rfl
theorem Cn{x:List Nat}(hx:AllL x)(hp:bI x){t:Nat}(he:Ends x t):IH (mid x t):=fun k hk=>by
 have ml:=CK he.le
 rw[ml] at hk ⊢
 by_cases c:k+1<x.length - 2 * t
 ·rw[Nat.mod_eq_of_lt c,kN hk,kN c]
  exact pO hp (oN (by omega)) (by rw[show t+k+1=t+(k+1) by omega];exact oN (by omega))
 ·have e:k+1=x.length - 2 * t:=by omega
  rw[← e,Nat.mod_self,kN hk,kN (by omega)]
  by_cases c2:k=0
  ·subst c2;exact(sV (nJ hx (by omega))).symm
  ·intro q
   refine he.2 ⟨by omega,?_⟩
   rw[show x.length - 1 - t=t+k by omega,q,Nat.add_zero,aQ (nJ hx (by omega))]
theorem kD{x:List Nat}{b t:Nat}(h:b<x.length)(ht:t<x.length):(iS x b).getD t 0=x.getD ((b+t) % x.length) 0:=by
 rw[List.getD_eq_getElem?_getD,rY h ht];rfl
theorem D5{x:List Nat}{a:Nat}(h:a<x.length)(t:Nat):gr (iS x a) t=gr x (a+t):=by
 unfold gr
 rw[eV (by omega),kD h (Nat.mod_lt _ (by omega)),Nat.add_mod_mod]
theorem Bz{x:List Nat}(hx:AllL x)(hc:IH x){a:Nat}(h:a<x.length):Ends (iS x a) 0:=by
 refine⟨fun j hj=>absurd hj (Nat.not_lt_zero _),fun ⟨h1,h2⟩=>?_⟩
 rw[eV (by omega)] at h1 h2
 rw[kD h (by omega),kD h (by omega)] at h2
 have q:=hc ((a+(x.length - 1 - 0)) % x.length) (Nat.mod_lt _ (by omega))
 apply q
 have e:((a+(x.length - 1 - 0)) % x.length+1) % x.length=(a+0) % x.length:=by
  rw[Nat.mod_add_mod,show a+(x.length - 1 - 0)+1=a+0+x.length by omega,Nat.add_mod_right]
 rw[e,h2,aQ (nJ hx (Nat.mod_lt _ (by omega)))]
theorem EL{x:List Nat}{a i j:Nat}(h:a<x.length):Lt (gr (iS x a)) x.length i j↔Lt (gr x) x.length (a+i) (a+j):=by
 have e:∀ i t,gr (iS x a) (i+t)=gr x (a+i+t):=fun i t=>by rw[D5 h,Nat.add_assoc]
 constructor
 ·rintro⟨l,h1,h2,h3⟩;exact⟨l,h1,fun t ht=>by rw[← e,← e];exact h2 t ht,by rw[← e,← e];exact h3⟩
 ·rintro⟨l,h1,h2,h3⟩;exact⟨l,h1,fun t ht=>by rw[e,e];exact h2 t ht,by rw[e,e];exact h3⟩
theorem CL{g:Nat→Nat}{n i j:Nat}(hg:∀ t,g (t % n)=g t)(h:Lt g n i j):Lt g n i (j % n):=by
 have e:∀ t,g (j % n+t)=g (j+t):=fun t=>by rw[← hg (j % n+t),← hg (j+t),Nat.mod_add_mod]
 obtain⟨l,h1,h2,h3⟩:=h
 exact⟨l,h1,fun t ht=>by rw[e];exact h2 t ht,by rw[e];exact h3⟩
theorem Aw{x:List Nat}{a b c:Nat}(ha:a<x.length)(hb:LeastAt x b)(hc:c<x.length)(e:(a+c) % x.length=b):LeastAt (iS x a) c:=by
 rcases hb with ⟨h0,_⟩ | ⟨hb,hm⟩
 ·subst h0;simp at ha
 ·refine .inr ⟨by rw[eV (by omega)];exact hc,fun j hj q=>?_⟩
  rw[eV (by omega)] at hj q
  have q1:=CL (Be x) (ET (Be x) ((EL ha).mp q))
  rw[e] at q1
  exact hm _ (Nat.mod_lt _ (by omega)) q1
theorem sZ{x:List Nat}{a c b:Nat}(ha:a<x.length)(hc:c<x.length)(hb:b<x.length)(e:(a+c) % x.length=b):iS (iS x a) c=iS x b:=by
 have l1:(iS x a).length=x.length:=eV (by omega)
 refine List.ext_getElem? fun t=>?_
 by_cases ht:t<x.length
 ·rw[rY (by omega) (by omega),rY hb ht,l1,kD ha (Nat.mod_lt _ (by omega)),Nat.add_mod_mod,← e,Nat.mod_add_mod,Nat.add_assoc]
 ·rw[List.getElem?_eq_none (by rw[eV (by omega)];omega),List.getElem?_eq_none (by rw[eV (by omega)];omega)]
theorem tN:fY [] []:=⟨0,0,⟨fun j hj=>absurd hj (Nat.not_lt_zero _),fun h=>by simp at h⟩,.inl ⟨rfl,rfl⟩,rfl⟩
theorem sI(x:List Nat):iS x x.length=x:=by unfold iS;simp
theorem uN{x r:List Nat}(hx:AllL x)(hp:bI x)(h:fY x r){a:Nat}(ha:a≤r.length):fY (iS r a) r:=by
 obtain⟨m,b,he,hb,rfl⟩:=h
 have hy:=Du (m:=m) hx
 have hc:=Cn hx hp he
 generalize mid x m=y at hb hy hc ha
 rcases id hb with ⟨rfl,rfl⟩ | ⟨hbl,hm⟩
 ·have:a=0:=by simpa [iS] using ha
  subst this
  exact tN
 ·have lr:(iS y b).length=y.length:=eV (by omega)
  have key:∀ a,a<y.length→fY (iS (iS y b) a) (iS y b):=fun a ha=>by
   rw[sZ hbl ha (Nat.mod_lt _ (by omega)) rfl]
   have ha':(b+a) % y.length<y.length:=Nat.mod_lt _ (by omega)
   generalize (b+a) % y.length=a' at ha'
   have e:(a' + (b+y.length - a') % y.length) % y.length=b:=by
    rw[Nat.add_mod_mod,show a' + (b+y.length - a')=b+y.length by omega,Nat.add_mod_right,Nat.mod_eq_of_lt hbl]
   have hcl:(b+y.length - a') % y.length<y.length:=Nat.mod_lt _ (by omega)
   refine⟨0,(b+y.length - a') % y.length,Bz hy hc ha',?_,?_⟩
   ·rw[oF];exact Aw ha' hb hcl e
   ·rw[oF,sZ ha' hcl hbl e]
  by_cases c:a<y.length
  ·exact key a c
  ·have:a=(iS y b).length:=by omega
   rw[this,sI]
   have:=key 0 (by omega)
   rwa [Bf] at this
theorem EQ(w:List Nat)(n:Nat)(h1:1≤n)(h2:n≤10)(hw:w.length≤100):MulOk (S w) (n:Int):=by
 refine⟨?_,fun _ _=>?_,fun _ _=>?_⟩
 ·have e1:decide ((n:Int) < -(2 ^ 63:Int))=false:=decide_eq_false (by omega)
  have e2:decide ((n:Int) ≥ 2 ^ 63)=false:=decide_eq_false (by omega)
  rw[e1,e2];rfl
 ·rw[bP]
  have:(n=1∨n=2∨n=3∨n=4∨n=5∨n=6∨n=7∨n=8∨n=9∨n=10):=by omega
  rcases this with rfl | rfl | rfl | rfl | rfl | rfl | rfl | rfl | rfl | rfl <;> omega
 ·rw[bP,show ((n:Nat):Int).toNat=n by omega]
  have h9:w.length * n≤1000:=Nat.le_trans (Nat.mul_le_mul hw h2) (by decide)
  unfold Builtin.Str.tooLong
  have h10:(1000:Nat)≤sizeLine:=aN (by decide)
  exact decide_eq_false (by omega)
end Lw
namespace L2
open PySem PySem.Spec PyProof.Rows
section
variable {X:Cx}{e:Expr}{te:TE}{lo hi:Option Expr}{stp:Expr}{tl th tk:TO}{pos p2:Pos}
def Ho(X:Cx)(r:V→Option Int→Option Int→Option Int→Hp→VK→Prop):Prop :=
 ∀ (pins:List (Addr×Obj)) (s:Shared) (σ:St) (H:Hp) (x:V) (v vl vu vk:Value) (lo hi st:Option Int) (sl:Addr) (Q:VK),Inv X pins σ H s→RelV x v→s.heap.IsSliceOf sl vl vu vk→IsPart vl lo→IsPart vu hi→IsPart vk st→r x lo hi st H Q →
  ∃ T id,typeLookup (.type T) "__getitem__"=pure (some (.builtin id))∧s.TypeIs v T∧wpAny (model X.prog X.w) X.A (getItem v (.ref sl)) (EP X pins σ Q) X.xe s
def Ip(r:V→Option Int→Option Int→Option Int→Hp→VK→Prop)(te:TE)(tl th tk:TO):TE:=fun σ H Q=>te σ H fun x H1=>tl σ H1 fun l H2=>th σ H2 fun u H3=>tk σ H3 fun k H4=>r x l u k H4 Q
theorem Ae{r:V→Option Int→Option Int→Option Int→Hp→VK→Prop}(hr:Ho X r)(he:PE X e te)(hl:PO X lo tl)(hu:PO X hi th)(hk:PO X (some stp) tk):PE X (.Subscript e (.Slice lo hi (some stp) p2) pos) (Ip r te tl th tk):=by
 intro pins s σ H Q I h
 refine Subscript_ (bZ (he pins s σ H _ I h) fun v s1 ⟨x,H1,I1,r1,q1⟩=>?_)
 refine wpAny_Slice (bZ (hl pins s1 σ H1 _ I1 q1) fun vl s2 ⟨l,H2,I2,pl,q2⟩=>bZ (hu pins s2 σ H2 _ I2 q2) fun vu s3 ⟨u,H3,I3,pu,q3⟩=>bZ (hk pins s3 σ H3 _ I3 q3) fun vk s4 ⟨k,H4,I4,pk,q4⟩=>?_)
 have I5:Inv X pins σ H4 { s4 with heap:=s4.heap.push { cls:=.type "slice",data:=.fields #[vl,vu,vk] } }:=I4.kept (t':=s4.toks) fun b ob q=>Heap.get?_push_of_some _ q
 obtain⟨T,id,hT,ht,hg⟩:=hr pins { s4 with heap:=s4.heap.push { cls:=.type "slice",data:=.fields #[vl,vu,vk] } } σ H4 x v vl vu vk l u k s4.heap.objs.size Q I5 r1 (Heap.IsSliceOf.new ..) pl pu pk q4
 show wpAny (model X.prog X.w) X.A (subscriptTail e (.Slice lo hi (some stp) p2) v (.ref s4.heap.objs.size)) (EP X pins σ Q) X.xe { s4 with heap:=s4.heap.push { cls:=.type "slice",data:=.fields #[vl,vu,vk] } }
 exact tail_any (ops:=[v,.ref s4.heap.objs.size]) ht hT hg rfl
end
abbrev Cx.one(X:Cx):Cx:={ X with A:=X.A.in1,xe:=fun _ _=>False }
theorem Cx.Ok.one{X:Cx}(o:X.Ok):X.one.Ok :=
 ⟨o.mod,o.kind,o.glob,o.blt,o.above,o.inj,o.has,o.cab,o.hd,o.frames,o.stk,o.exf,o.bs,o.bsz,o.noex,o.exfs,o.funs,o.frf⟩
section
variable {X:Cx}{pins:List (Addr×Obj)}{σ:St}{H:Hp}{s:Shared}
theorem Inv.one(I:Inv X pins σ H s):Inv X.one pins σ H s:=⟨I.ok.one,I.os,I.bare,I.base,I.loc,I.cell,I.free,I.freeC,I.pin,I.hok,I.len⟩
theorem Inv.unone(o:X.Ok)(I:Inv X.one pins σ H s):Inv X pins σ H s:=⟨o,I.os,I.bare,I.base,I.loc,I.cell,I.free,I.freeC,I.pin,I.hok,I.len⟩
end
end L2
namespace Lw
open PySem PySem.Spec PyProof.Rows L2 Ma MaR
theorem hG(u v w:List Nat)(hu:AllL u)(hv:AllL v)(hw:AllL w):lay (u++lay v++w)=lay (u++v++w):=by
 rw[← eF (u++lay v) w (AllL.app.mpr ⟨hu,dN hv⟩),cP u v hu hv,eF (u++v) w (AllL.app.mpr ⟨hu,hv⟩)]
theorem C9{x r:List Nat}{m:Nat}(hx:AllL x)(he:Ends x m)(hr:fY x r):∃ a,a≤r.length∧mid x m=iS r a:=by
 obtain⟨m',b,he',hb,rfl⟩:=hr
 obtain rfl:=he.inj he'
 have hbl:=hb.le
 generalize mid x m=y at *
 have hl:(iS y b).length=y.length:=eV hbl
 refine⟨y.length - b,by omega,?_⟩
 have h1:(y.drop b).length=y.length - b:=List.length_drop
 have e:iS y b=y.drop b++y.take b:=rfl
 generalize y.length - b=a at *
 rw[e]
 subst h1
 show y=(y.drop b++y.take b).drop (y.drop b).length++(y.drop b++y.take b).take (y.drop b).length
 rw[List.drop_left,List.take_left,List.take_append_drop]
def lo(c:Nat):Nat:=if 96<c then c else c+32
theorem zN{c:Nat}(h:bY c):Unicode.lowerOf c=[lo c]:=by
 rcases aP h with rfl | rfl | rfl | rfl | rfl | rfl | rfl | rfl <;> decide +kernel
theorem zE{w:List Nat}{i c:Nat}(h:bY c)(e:w[i]?=some c):Unicode.lowerAt w.toArray i=[lo c]:=by
 unfold Unicode.lowerAt
 have e2:w.toArray[i]?=some c:=by simpa using e
 rw[e2]
 have e3:((c == 0x3A3 && Unicode.endsWord w.toArray i))=false:=by
  have:(c == 0x3A3)=false:=by unfold bY at h;simp;omega
  rw[this];rfl
 simp only [e3]
 exact zN h
theorem zI{α:Type}(f:Nat→α)(w:List Nat):(w.map fun c=>[f c]).flatten=w.map f:=by
 induction w with
 | nil=>rfl
 | cons a w ih=>rw[List.map_cons,List.flatten_cons,ih];rfl
theorem gH{w:List Nat}(h:AllL w):Txt.lower (S w)=S (w.map lo):=by
 unfold Txt.lower placed
 show Str.mk _=Str.mk _
 congr 1
 apply Array.toList_inj.mp
 rw[Array.toList_flatten,Array.toList_mapIdx]
 have e:(List.mapIdx (fun i c=>(Unicode.lowerAt (S w).cps i).toArray) (S w).cps.toList)=w.map fun c=>#[lo c]:=by
  refine List.ext_getElem? fun i=>?_
  have e1:(S w).cps.toList=w:=by simp
  have e2:(S w).cps=w.toArray:=rfl
  rw[e1,e2,List.getElem?_mapIdx,List.getElem?_map]
  cases hq:w[i]? with
  | none=>rfl
  | some c =>
   show some _=some _
   rw[zE (h c (List.mem_of_getElem? hq)) hq]
 rw[e,List.map_map]
 show (w.map fun c=>[lo c]).flatten=w.map lo
 exact zI lo w
theorem lM(w:List Nat)(h:AllL w)(hl:w.length≤1000):Builtin.Str.tooLong (Txt.lower (S w)).length=false:=by
 rw[gH h,bP,List.length_map]
 unfold Builtin.Str.tooLong
 have h10:(1000:Nat)≤sizeLine:=aN (by decide)
 exact decide_eq_false (by omega)
theorem BL{c:Nat}(h:bY c):c∈lets:=by rcases aP h with rfl | rfl | rfl | rfl | rfl | rfl | rfl | rfl <;> decide
end Lw
namespace PySem
open Sem (wp)
section
variable {prog:Program}{w:World}{A:Around}{E:Value→Shared→Prop}{s:Shared}
theorem fP{j t:Addr}{k:Nat}{vs:Array Value}{x:Value}{Q:Value→Shared→Prop}(hj:s.heap.IsTupleIter j t k)(ht:s.heap.IsTuple t vs)(hx:vs[k]?=some x)
  (hQ:∀ g,g.IsTupleIter j t (k+1)→Heap.SameBut j s.heap g→Q x { s with heap:=g }):wpAny (model prog w) A (Builtin.SmallTypes.nextOf (.ref j)) Q E s:=by
 obtain⟨oj,goj,cj,dj⟩:=id hj
 obtain⟨ot,got,_,m,dt⟩:=ht
 unfold Builtin.SmallTypes.nextOf
 refine wpAny_bind (wpAny_callSpecial?_slot (name:=Str.ofString "__next__") hj.typeIs F.slot_tuple_iterator_next (wpAny_call_entry F.slot_tuple_iterator_next hj.typeIs F.entry_tuple_iterator_next ?_ (F.args_tuple_iterator_next_1 _)))
 show wpAny _ _ (field (.ref j) 0 >>= _) _ _ s
 refine wpAny_bind (wpAny_field goj dj (x:=.ref t) rfl ?_)
 show wpAny _ _ (if (Value.ref t == Value.none)=true then _ else _) _ _ s
 rw[if_neg (by intro c;cases c)]
 show wpAny _ _ (field (.ref j) 1 >>= _) _ _ s
 refine wpAny_bind (wpAny_field goj dj (x:=.int k 0) rfl ?_)
 show wpAny _ _ (seqItems? (.ref t) >>= _) _ _ s
 refine wpAny_bind (wpAny_seqItems got dt ?_)
 simp only [Int.toNat_natCast,hx]
 refine wpAny_bind (wpAny_setField goj dj (by simp) (wpAny_pure ⟨x,rfl,wpAny_pure (hQ _ ?_ (Heap.SameBut.update ..))⟩))
 refine⟨_,Heap.get?_update_self _ goj (Obj.isFreed_of_fields (Obj.data_mapFields dj _)),(Obj.cls_mapFields ..).trans cj,?_⟩
 rw[Obj.data_mapFields dj]
 simp[rawInt]
theorem lE{j t:Addr}{k:Nat}{vs:Array Value}{Q:Value→Shared→Prop}(hh:A.handled=none)(hj:s.heap.IsTupleIter j t k)(ht:s.heap.IsTuple t vs)(hx:vs[k]?=none)
  (hE:∀ g e,Heap.ExtBut j s.heap g→(∃ o,g.get? e=some o∧o.cls=.type "StopIteration")→E (.ref e) { s with heap:=g }):wpAny (model prog w) A (Builtin.SmallTypes.nextOf (.ref j)) Q E s:=by
 obtain⟨oj,goj,cj,dj⟩:=id hj
 obtain⟨ot,got,_,m,dt⟩:=ht
 unfold Builtin.SmallTypes.nextOf
 refine wpAny_bind (wpAny_callSpecial?_slot (name:=Str.ofString "__next__") hj.typeIs F.slot_tuple_iterator_next (wpAny_call_entry F.slot_tuple_iterator_next hj.typeIs F.entry_tuple_iterator_next ?_ (F.args_tuple_iterator_next_1 _)))
 show wpAny _ _ (field (.ref j) 0 >>= _) _ _ s
 refine wpAny_bind (wpAny_field goj dj (x:=.ref t) rfl ?_)
 show wpAny _ _ (if (Value.ref t == Value.none)=true then _ else _) _ _ s
 rw[if_neg (by intro c;cases c)]
 show wpAny _ _ (field (.ref j) 1 >>= _) _ _ s
 refine wpAny_bind (wpAny_field goj dj (x:=.int k 0) rfl ?_)
 show wpAny _ _ (seqItems? (.ref t) >>= _) _ _ s
 refine wpAny_bind (wpAny_seqItems got dt ?_)
 simp only [Int.toNat_natCast,hx]
 refine wpAny_bind (wpAny_rule (wpAny_bind (wpAny_setField goj dj (by simp) ?_)))
 show wpAny _ _ (newExc (.type "StopIteration") [] >>= _) _ _ _
 refine wpAny_bind ?_
 simp only [newExc,newTuple]
 refine wpAny_bind (wpAny_newObj_type ?_ (by size_fits))
 refine wpAny_bind (m:=firstArgMember _ _) (wpAny_of_eq (a:=Value.none) (by first | rfl | (simp only [firstArgMember];rfl)) ?_)
 refine wpAny_newObj_type ?_ (by size_fits)
 simp only [raiseNew]
 refine wpAny_bind (wpAny_handled ?_)
 first | rw[show A.in1.handled=none from hh] | rw[hh]
 refine wpAny_bind (wpAny_pure (wpAny_throw ?_))
 exact hE _ _ (((Heap.SameBut.update ..).extBut.push _).push _) ⟨_,Heap.get?_push_size _ rfl,rfl⟩
structure ZApart(z a b i j t u:Addr):Prop where
 az:a≠z
 bz:b≠z
 iz:i≠z
 jz:j≠z
 ab:a≠b
 ai:a≠i
 aj:a≠j
 bi:b≠i
 bj:b≠j
 ij:i≠j
 tz:t≠z
 tb:t≠b
 ti:t≠i
 tj:t≠j
 uz:u≠z
 ub:u≠b
 ui:u≠i
 uj:u≠j
structure ZSt(h:Heap)(z a b i j t u:Addr)(k:Nat)(f0:Value):Prop where
 zip:IsZip h z a b f0
 its:IsPair h a (.ref i) (.ref j)
 own:∃ p q,IsPair h b p q
 one:h.IsTupleIter i t k
 two:h.IsTupleIter j u k
theorem ZSt.at{h h':Heap}{z a b i j t u:Addr}{k:Nat}{f0:Value}(S:ZSt h z a b i j t u k f0)(kp:∀ c∈[z,a,b,i,j],∀ o,h.get? c=some o→h'.get? c=some o):ZSt h' z a b i j t u k f0:=by
 obtain⟨p,q,ho⟩:=S.own
 obtain⟨o1,g1,r1⟩:=S.one
 obtain⟨o2,g2,r2⟩:=S.two
 exact⟨kp z (by simp) _ S.zip,kp a (by simp) _ S.its,⟨p,q,kp b (by simp) _ ho⟩,⟨o1,kp i (by simp) _ g1,r1⟩,⟨o2,kp j (by simp) _ g2,r2⟩⟩
theorem zS{z a b i j t u:Addr}{k:Nat}{xs ys:Array Value}{x y:Value}{Q:Value→Shared→Prop}(D:ZApart z a b i j t u)(S:ZSt s.heap z a b i j t u k .none)
  (ht:s.heap.IsTuple t xs) (hu:s.heap.IsTuple u ys) (hx:xs[k]?=some x) (hy:ys[k]?=some y)
  (hQ:∀ g,ZSt g z a b i j t u (k+1) (rawInt s.heap.objs.size)→IsPair g s.heap.objs.size x y→g.objs.size=s.heap.objs.size+1→(∀ c o,c≠z→c≠b→c≠i→c≠j→s.heap.get? c=some o→g.get? c=some o)→Q (.ref s.heap.objs.size) { s with heap:=g }) :
  wpAny (model prog w) A (Builtin.«zip.__next__» ⟨[.ref z],[]⟩) (fun fin s'=>∃ v,fin=.done (.ret v)∧Q v s') E s:=by
 obtain⟨hz,hI,⟨p,q,hO⟩,h1,h2⟩:=S
 show wpAny _ _ (field (.ref z) 2 >>= _) _ _ _
 refine wpAny_bind (wpAny_field hz rfl (x:=.bool false) rfl ?_)
 show wpAny _ _ (field (.ref z) 3 >>= _) _ _ _
 refine wpAny_bind (wpAny_field hz rfl (x:=.ref a) rfl (wpAny_bind (wpAny_seqItems hI rfl ?_)))
 show wpAny _ _ (Builtin.SmallTypes.ownedTupleIsFree (.ref z) >>= _) _ _ _
 unfold Builtin.SmallTypes.ownedTupleIsFree
 refine wpAny_bind (wpAny_bind (wpAny_field hz rfl (x:=.none) rfl (wpAny_pure ?_)))
 simp only [if_true]
 refine wpAny_bind (wpAny_rule (wpAny_bind (wpAny_field hz rfl (x:=.ref b) rfl (wpAny_bind (wpAny_setField_rec hz (by simp) fun g1 z1 e1=>?_)))))
 replace z1:IsZip g1 z a b .ellipsis:=z1
 refine wpAny_bind ?_
 simp only [List.zipIdx_cons,List.zipIdx_nil,List.forIn_cons,List.forIn_nil]
 refine wpAny_bind (wpAny_bind (wpAny_onRaise ?_))
 show wpAny _ _ (Builtin.SmallTypes.nextOf (.ref i) >>= _) _ _ _
 refine wpAny_bind (fP (h1.extBut e1.extBut D.iz) (ht.extBut e1.extBut D.tz) hx fun g2 i2 e2=>wpAny_pure ?_)
 have o2:IsPair g2 b p q:=e2.extBut _ _ D.bi (e1.extBut _ _ D.bz hO)
 refine wpAny_bind (wpAny_seqItems o2 rfl (wpAny_bind (wpAny_updateSeq_pair o2 fun g3 o3 e3=>wpAny_bind (wpAny_letGo (wpAny_pure ?_)))))
 replace o3:IsPair g3 b x q:=o3
 refine wpAny_bind (wpAny_bind (wpAny_onRaise ?_))
 show wpAny _ _ (Builtin.SmallTypes.nextOf (.ref j) >>= _) _ _ _
 have j3:=((h2.extBut e1.extBut D.jz).extBut e2.extBut D.ij.symm).extBut e3.extBut D.bj.symm
 have u3:=((hu.extBut e1.extBut D.uz).extBut e2.extBut D.ui).extBut e3.extBut D.ub
 refine wpAny_bind (fP j3 u3 hy fun g4 j4 e4=>wpAny_pure ?_)
 have o4:IsPair g4 b x q:=e4.extBut _ _ D.bj o3
 refine wpAny_bind (wpAny_seqItems o4 rfl (wpAny_bind (wpAny_updateSeq_pair o4 fun g5 o5 e5=>wpAny_bind (wpAny_letGo (wpAny_pure (wpAny_pure ?_))))))
 replace o5:IsPair g5 b x y:=o5
 refine wpAny_bind (wpAny_seqItems o5 rfl (wpAny_bind (wpAny_newTuple ?_)))
 have sz:g5.objs.size=s.heap.objs.size:=by rw[e5.1,e4.1,e3.1,e2.1,e1.1]
 have z5:IsZip g5 z a b .ellipsis:=e5.extBut _ _ D.bz.symm (e4.extBut _ _ D.jz.symm (e3.extBut _ _ D.bz.symm (e2.extBut _ _ D.iz.symm z1)))
 have kp:∀ c o,c≠z→c≠b→c≠i→c≠j→s.heap.get? c=some o→g5.get? c=some o:=fun c o c1 c2 c3 c4 e=>e5.extBut _ _ c2 (e4.extBut _ _ c4 (e3.extBut _ _ c2 (e2.extBut _ _ c3 (e1.extBut _ _ c1 e))))
 have i5:g5.IsTupleIter i t (k+1):=((i2.extBut e3.extBut D.bi.symm).extBut e4.extBut D.ij).extBut e5.extBut D.bi.symm
 have j5:g5.IsTupleIter j u (k+1):=j4.extBut e5.extBut D.bj.symm
 have lz:=Heap.lt_size z5
 show wpAny _ _ (Builtin.SmallTypes.ownedTupleHandOut (.ref z) (.ref g5.objs.size) >>= _) _ _ _
 unfold Builtin.SmallTypes.ownedTupleHandOut
 have z6:IsZip (g5.push { cls:=.type "tuple",data:=.seq #[x,y] }) z a b .ellipsis:=Heap.get?_push_of_some _ z5
 refine wpAny_bind (wpAny_bind (wpAny_setField_rec z6 (by simp) fun g7 z7 e7=>?_))
 replace z7:IsZip g7 z a b (rawInt g5.objs.size):=z7
 refine wpAny_setField_rec z7 (by simp) fun g8 z8 e8=>wpAny_pure ⟨_,rfl,?_⟩
 replace z8:IsZip g8 z a b (rawInt g5.objs.size):=z8
 have up:∀ c o,c≠z→g5.get? c=some o→g8.get? c=some o:=fun c o c1 e=>e8.extBut _ _ c1 (e7.extBut _ _ c1 (Heap.get?_push_of_some _ e))
 have T8:IsPair g8 g5.objs.size x y:=e8.extBut _ _ (Nat.ne_of_gt lz) (e7.extBut _ _ (Nat.ne_of_gt lz) (Heap.get?_push_size _ rfl))
 have n8:g8.objs.size=g5.objs.size+1:=by rw[e8.1,e7.1,Heap.size_push]
 show Q (.ref g5.objs.size) _
 rw[sz] at z8 T8 n8 ⊢
 obtain⟨oi,goi,ri⟩:=i5
 obtain⟨oj,goj,rj⟩:=j5
 exact hQ g8 ⟨z8,up _ _ D.az (kp _ _ D.az D.ab D.ai D.aj hI),⟨x,y,up _ _ D.bz o5⟩,⟨oi,up _ _ D.iz goi,ri⟩,⟨oj,up _ _ D.jz goj,rj⟩⟩ T8 n8 fun c o c1 c2 c3 c4 e=>up c o c1 (kp c o c1 c2 c3 c4 e)
theorem Bu{z a b i j t u:Addr}{k:Nat}{xs ys:Array Value}{Q:Fin→Shared→Prop}(hh:A.handled=none)(D:ZApart z a b i j t u)(S:ZSt s.heap z a b i j t u k .none)
  (ht:s.heap.IsTuple t xs) (hu:s.heap.IsTuple u ys) (hn:xs[k]?=none∨ys[k]?=none)
  (hE:∀ g e,(∀ c o,c≠z→c≠b→c≠i→c≠j→s.heap.get? c=some o→g.get? c=some o)→(∃ o,g.get? e=some o∧o.cls=.type "StopIteration")→E (.ref e) { s with heap:=g }) :
  wpAny (model prog w) A (Builtin.«zip.__next__» ⟨[.ref z],[]⟩) Q E s:=by
 obtain⟨hz,hI,⟨p,q,hO⟩,h1,h2⟩:=S
 show wpAny _ _ (field (.ref z) 2 >>= _) _ _ _
 refine wpAny_bind (wpAny_field hz rfl (x:=.bool false) rfl ?_)
 show wpAny _ _ (field (.ref z) 3 >>= _) _ _ _
 refine wpAny_bind (wpAny_field hz rfl (x:=.ref a) rfl (wpAny_bind (wpAny_seqItems hI rfl ?_)))
 show wpAny _ _ (Builtin.SmallTypes.ownedTupleIsFree (.ref z) >>= _) _ _ _
 unfold Builtin.SmallTypes.ownedTupleIsFree
 refine wpAny_bind (wpAny_bind (wpAny_field hz rfl (x:=.none) rfl (wpAny_pure ?_)))
 simp only [if_true]
 refine wpAny_bind (wpAny_rule (wpAny_bind (wpAny_field hz rfl (x:=.ref b) rfl (wpAny_bind (wpAny_setField_rec hz (by simp) fun g1 z1 e1=>?_)))))
 replace z1:IsZip g1 z a b .ellipsis:=z1
 refine wpAny_bind ?_
 simp only [List.zipIdx_cons,List.zipIdx_nil,List.forIn_cons,List.forIn_nil]
 refine wpAny_bind (wpAny_bind (wpAny_onRaise ?_))
 show wpAny _ _ (Builtin.SmallTypes.nextOf (.ref i) >>= _) _ _ _
 cases hx:xs[k]? with
 | none =>
  refine wpAny_bind (lE hh (h1.extBut e1.extBut D.iz) (ht.extBut e1.extBut D.tz) hx fun g2 e e2 he=>?_)
  obtain⟨oe,goe,ce⟩:=he
  have z2:IsZip g2 z a b .ellipsis:=e2 _ _ D.iz.symm z1
  have ne:e≠z:=fun c=>by subst c;rw[z2] at goe;cases goe;simp at ce
  exact wpAny_setField_rec z2 (by simp) fun g3 _ e3=>hE g3 e (fun c o c1 _ c3 _ v=>e3.extBut _ _ c1 (e2 _ _ c3 (e1.extBut _ _ c1 v))) ⟨oe,e3.extBut _ _ ne goe,ce⟩
 | some x =>
  have hy:ys[k]?=none:=by
   rcases hn with h | h
   ·rw[hx] at h;cases h
   ·exact h
  refine wpAny_bind (fP (h1.extBut e1.extBut D.iz) (ht.extBut e1.extBut D.tz) hx fun g2 i2 e2=>wpAny_pure ?_)
  have o2:IsPair g2 b p q:=e2.extBut _ _ D.bi (e1.extBut _ _ D.bz hO)
  refine wpAny_bind (wpAny_seqItems o2 rfl (wpAny_bind (wpAny_updateSeq_pair o2 fun g3 o3 e3=>wpAny_bind (wpAny_letGo (wpAny_pure ?_)))))
  refine wpAny_bind (wpAny_bind (wpAny_onRaise ?_))
  show wpAny _ _ (Builtin.SmallTypes.nextOf (.ref j) >>= _) _ _ _
  have j3:=((h2.extBut e1.extBut D.jz).extBut e2.extBut D.ij.symm).extBut e3.extBut D.bj.symm
  have u3:=((hu.extBut e1.extBut D.uz).extBut e2.extBut D.ui).extBut e3.extBut D.ub
  refine wpAny_bind (lE hh j3 u3 hy fun g4 e e4 he=>?_)
  obtain⟨oe,goe,ce⟩:=he
  have z4:IsZip g4 z a b .ellipsis:=e4 _ _ D.jz.symm (e3.extBut _ _ D.bz.symm (e2.extBut _ _ D.iz.symm z1))
  have ne:e≠z:=fun c=>by subst c;rw[z4] at goe;cases goe;simp at ce
  exact wpAny_setField_rec z4 (by simp) fun g5 _ e5=>hE g5 e (fun c o c1 c2 c3 c4 v=>e5.extBut _ _ c1 (e4 _ _ c4 (e3.extBut _ _ c2 (e2.extBut _ _ c3 (e1.extBut _ _ c1 v))))) ⟨oe,e5.extBut _ _ ne goe,ce⟩
theorem wS{z a b i j t u:Addr}{k:Nat}{xs ys:Array Value}{x y:Value}{Q:Option Value→Shared→Prop}(D:ZApart z a b i j t u)(S:ZSt s.heap z a b i j t u k .none)
  (ht:s.heap.IsTuple t xs) (hu:s.heap.IsTuple u ys) (hx:xs[k]?=some x) (hy:ys[k]?=some y)
  (hQ:∀ g,ZSt g z a b i j t u (k+1) (rawInt s.heap.objs.size)→IsPair g s.heap.objs.size x y→g.objs.size=s.heap.objs.size+1→(∀ c o,c≠z→c≠b→c≠i→c≠j→s.heap.get? c=some o→g.get? c=some o)→Q (some (.ref s.heap.objs.size)) { s with heap:=g }) :
  wpAny (model prog w) A (pyNext (.ref z)) Q E s:=by
 have hT:s.TypeIs (.ref z) "zip":=⟨_,S.zip,rfl⟩
 unfold pyNext
 exact wpAny_bind (wpAny_attempt (wpAny_callSpecial?_slot (name:=Str.ofString "__next__") hT F.slot_zip_next (wpAny_call_entry F.slot_zip_next hT F.entry_zip_next (zS D S ht hu hx hy fun g b1 b2 b3 b4=>wpAny_pure (hQ g b1 b2 b3 b4)) (F.args_zip_next_1 _))))
theorem zU{z a b i j t u:Addr}{k:Nat}{xs ys:Array Value}{Q:Option Value→Shared→Prop}(hh:A.handled=none)(D:ZApart z a b i j t u)(S:ZSt s.heap z a b i j t u k .none)
  (ht:s.heap.IsTuple t xs) (hu:s.heap.IsTuple u ys) (hn:xs[k]?=none∨ys[k]?=none)
  (hQ:∀ g,(∀ c o,c≠z→c≠b→c≠i→c≠j→s.heap.get? c=some o→g.get? c=some o)→Q none { s with heap:=g }):wpAny (model prog w) A (pyNext (.ref z)) Q E s:=by
 have hT:s.TypeIs (.ref z) "zip":=⟨_,S.zip,rfl⟩
 unfold pyNext
 refine wpAny_bind (wpAny_attempt (wpAny_callSpecial?_slot (name:=Str.ofString "__next__") hT F.slot_zip_next (wpAny_call_entry F.slot_zip_next hT F.entry_zip_next (Bu hh D S ht hu hn fun g e kp he=>?_) (F.args_zip_next_1 _))))
 obtain⟨o,go,co⟩:=he
 exact wpAny_bind (wpAny_isInstance (T:="StopIteration") (b:=true) ⟨o,go,co⟩ isSubtype_stop (wpAny_pure (hQ _ kp)))
end
abbrev Hx(h:Heap)(t:Addr):Heap:=h.push { cls:=.type "tuple_iterator",data:=.fields #[.ref t,.int 0 0] }
abbrev HB(h:Heap)(t u:Addr):Heap:=(Hx h t).push { cls:=.type "tuple_iterator",data:=.fields #[.ref u,.int 0 0] }
abbrev HF(h:Heap)(t u:Addr):Heap:=(HB h t u).push { cls:=.type "tuple",data:=.seq #[.ref h.objs.size,.ref (Hx h t).objs.size] }
abbrev Hy(h:Heap)(t u:Addr):Heap:=(HF h t u).push { cls:=.type "tuple",data:=.seq #[.none,.none] }
abbrev FC(h:Heap)(t u:Addr):Heap:=(Hy h t u).push { cls:=.type "zip",data:=.fields #[.none,.bool false,.bool false,.ref (HB h t u).objs.size,.ref (HF h t u).objs.size] }
theorem wD(t u:Addr)(xs ys:Array Value) :
  Meets (Builtin.«zip.__new__» ⟨[.type "zip",.ref t,.ref u],[]⟩) (fun _ R s=>s.heap.IsTuple t xs∧s.heap.IsTuple u ys∧R (.ok (.ret (.ref (Hy s.heap t u).objs.size))) { s with heap:=FC s.heap t u }) :=
 .of_wp fun prog w A R s h=>by
  obtain⟨hp,g,d,tk,os⟩:=s
  obtain⟨ht,hu,h⟩:=h
  have hsub:=sub_zip
  have hL1:Heap.IsTuple (Shared.heap ⟨hp,g,d,tk,os⟩) t xs:=ht
  have hL2:Heap.IsTuple (Shared.heap ⟨hp.push { cls:=.type "tuple_iterator",data:=.fields #[.ref t,.int 0 0] },g,d,tk,os⟩) u ys:=Heap.IsTuple.push hu _
  wp_walk using wpAny_pyIter_tuple hL1,wpAny_pyIter_tuple hL2
  exact⟨_,rfl,h⟩
end PySem
namespace L2
open PySem PySem.Spec PyProof.Rows
section
variable {X:Cx}{pins:List (Addr×Obj)}{σ:St}{H:Hp}{s:Shared}{h':Heap}
theorem Inv.turnedN{t':Nat}{ch:List Addr}{a:Addr}{xs:List V}(I:Inv X pins σ H s)(k:∀ b o,b ∉ ch→s.heap.get? b=some o→h'.get? b=some o)(hf:∀ b∈ch,gD X pins H b)(ha:s.heap.objs.size≤a)
  (new:ObjOk X.prog X.w (upd H a (.tup xs)) h' a (.tup xs)):Inv X pins σ (upd H a (.tup xs)) { s with heap:=h',toks:=t' }:=by
 have hn:H a=none:=I.hok.fresh ha
 have un:∀ {b u},H b=some u→upd H a (.tup xs) b=some u:=fun e=>by rw[aE (aH e hn)];exact e
 have nch:∀ {b u},H b=some u→b ∉ ch:=fun e hb=>by rw[(hf _ hb).1] at e;cases e
 refine I.step (g':=s.gens) (d':=s.drawn) (ch:=ch) (fun b hb=>?_) (fun b o _ _ hc e _=>k b o hc e) (fun b o _ _ hc e _=>⟨o.slots,k b o hc e⟩) (fun b o _ e n=>?_) (fun b o hc e=>⟨o,k b o hc e⟩) (fun _ _ e=>un e) (fun _ _ _ e=>un e)
  (fun b ps e=>⟨#[],by rw[un e];simp⟩) (fun m hm=>?_) (fun b u e=>?_) I.bare
 ·obtain⟨f0,f1,f2,f3,f4,f5⟩:=hf b hb
  exact⟨f3,f1,f4,f5⟩
 ·rw[aE (Nat.ne_of_lt (Nat.lt_of_lt_of_le (Heap.lt_size e) ha))]
  exact n
 ·obtain⟨o,es,ep,ho,r⟩:=hm
  exact⟨o,es,ep,k _ o (fun hb=>(hf _ hb).2.1 rfl) ho,r⟩
 ·by_cases hb:b=a
  ·subst hb
   rw[aC] at e
   cases e
   exact new
  ·rw[aE hb] at e
   refine(I.hok b u e).stay (fun c v hc q=>k c v ?_ q) (fun c q=>un q) fun c ys q=>un q
   rcases hc with z | z
   ·rw[z];exact nch e
   ·exact nch z
theorem Inv.turnedM{t':Nat}{ch:List Addr}(I:Inv X pins σ H s)(k:∀ b o,b ∉ ch→s.heap.get? b=some o→h'.get? b=some o)(hf:∀ b∈ch,gD X pins H b):Inv X pins σ H { s with heap:=h',toks:=t' }:=by
 have nch:∀ {b u},H b=some u→b ∉ ch:=fun e hb=>by rw[(hf _ hb).1] at e;cases e
 refine I.step (g':=s.gens) (d':=s.drawn) (ch:=ch) (fun b hb=>?_) (fun b o _ _ hc e _=>k b o hc e) (fun b o _ _ hc e _=>⟨o.slots,k b o hc e⟩) (fun b o _ e n=>n) (fun b o hc e=>⟨o,k b o hc e⟩) (fun _ _ e=>e) (fun _ _ _ e=>e)
  (fun b ps e=>⟨#[],by rw[e];simp⟩) (fun m hm=>?_) (fun b u e=>?_) I.bare
 ·obtain⟨f0,f1,f2,f3,f4,f5⟩:=hf b hb
  exact⟨f3,f1,f4,f5⟩
 ·obtain⟨o,es,ep,ho,r⟩:=hm
  exact⟨o,es,ep,k _ o (fun hb=>(hf _ hb).2.1 rfl) ho,r⟩
 ·refine(I.hok b u e).stay (fun c v hc q=>k c v ?_ q) (fun c q=>q) fun c ys q=>q
  rcases hc with z | z
  ·rw[z];exact nch e
  ·exact nch z
end
def F7(K:PySem.W.Frag)(t u:Addr):It :=
 ⟨fun i H=>∃ xs ys x y,SqT K H t xs∧SqT K H u ys∧xs[i]?=some x∧ys[i]?=some y,
  fun i H v H'=>∃ p x y,v=.ref p∧H p=none∧H'=upd H p (.tup [x,y])∧∀ xs ys,SqT K H t xs→SqT K H u ys→xs[i]?=some x∧ys[i]?=some y,
  fun i H=>∃ xs ys,SqT K H t xs∧SqT K H u ys∧(xs.length≤i∨ys.length≤i)⟩
theorem Cc{P:Program}{w:World}{K:PySem.W.Frag}{es:List Expr}{x1}{pos:Pos}(z a b i j t u:Addr)(D:ZApart z a b i j t u):Turn P w K (.Tuple es x1 pos) (F7 K t u) [z,a,b,i,j] z (fun k h=>ZSt h z a b i j t u k .none) where
 mem:=by simp
 obj:=fun k h st c hc=>by
  obtain⟨p,q,ho⟩:=st.own
  obtain⟨o1,g1,c1,d1⟩:=st.one
  obtain⟨o2,g2,c2,d2⟩:=st.two
  simp only [List.mem_cons,List.not_mem_nil,or_false] at hc
  rcases hc with rfl | rfl | rfl | rfl | rfl
  ·exact⟨_,st.zip,fun v e=>by cases e⟩
  ·exact⟨_,st.its,fun v e=>by cases e⟩
  ·exact⟨_,ho,fun v e=>by cases e⟩
  ·exact⟨o1,g1,fun v e=>by rw[d1] at e;cases e⟩
  ·exact⟨o2,g2,fun v e=>by rw[d2] at e;cases e⟩
 keep:=fun k h h' st kp=>st.at kp
 item:=by
  intro X hP hw hK hc k pins s σ H E I hf st hg
  subst hP hw hK
  obtain⟨xs,ys,x,y,hq1,hq2,hx,hy⟩:=hg
  obtain⟨v1,r1,p1,_⟩:=I.tuple hq1
  obtain⟨v2,r2,p2,_⟩:=I.tuple hq2
  obtain⟨ux,hux,rux⟩:=r1.get hx
  obtain⟨uy,huy,ruy⟩:=r2.get hy
  refine wS D st (show s.heap.IsTuple t v1.toArray from p1) (show s.heap.IsTuple u v2.toArray from p2) (x:=ux) (y:=uy) (by simpa using hux) (by simpa using huy) fun g S1 hT hn kp=>⟨_,rfl,?_⟩
  refine wpAny_letOwnedTupleGo_zip S1.zip fun g2 z2 e2=>?_
  have kp2:∀ c o,c≠z→c≠b→c≠i→c≠j→s.heap.get? c=some o→g2.get? c=some o:=fun c o c1 c2 c3 c4 e=>(e2.2 c c1).trans (kp c o c1 c2 c3 c4 e)
  have nz:s.heap.objs.size≠z:=Nat.ne_of_gt (Heap.lt_size st.zip)
  have hT2:IsPair g2 s.heap.objs.size ux uy:=(e2.2 _ nz).trans hT
  have hsub:∀ c∈[z,b,i,j],gD X pins H c:=fun c hc=>hf c (by
   simp only [List.mem_cons,List.not_mem_nil,or_false] at hc ⊢
   rcases hc with h | h | h | h <;> simp[h])
  have kpn:∀ c o,c ∉ [z,b,i,j]→s.heap.get? c=some o→g2.get? c=some o:=fun c o hn e=>kp2 c o (fun q=>hn (by simp[q])) (fun q=>hn (by simp[q])) (fun q=>hn (by simp[q])) (fun q=>hn (by simp[q])) e
  have hHn:H s.heap.objs.size=none:=I.hok.fresh (Nat.le_refl _)
  refine⟨.ref s.heap.objs.size,upd H s.heap.objs.size (.tup [x,y]),?_,rfl,⟨_,x,y,rfl,hHn,rfl,fun xs' ys' h1 h2=>by rw[I.tuple_inj h1 hq1,I.tuple_inj h2 hq2];exact⟨hx,hy⟩⟩,?_,fun c hc=>?_⟩
  ·exact I.turnedN (t':=s.toks) (h':=g2) kpn hsub (Nat.le_refl _) ⟨by show 2≤sizeLine;decide,[ux,uy],.cons rux (.cons ruy .nil),⟨_,hT2,rfl,0,rfl⟩,⟨_,hT2,rfl⟩⟩
  ·obtain⟨p,q,ho⟩:=S1.own
   obtain⟨o1,g1,d1⟩:=S1.one
   obtain⟨o2,gg2,d2⟩:=S1.two
   exact⟨z2,(e2.2 _ D.az).trans S1.its,⟨p,q,(e2.2 _ D.bz).trans ho⟩,⟨o1,(e2.2 _ D.iz).trans g1,d1⟩,⟨o2,(e2.2 _ D.jz).trans gg2,d2⟩⟩
  ·have hce:c≠s.heap.objs.size:=by
    obtain⟨p,q,ho⟩:=st.own
    obtain⟨o1,g1,_⟩:=st.one
    obtain⟨o2,g2',_⟩:=st.two
    simp only [List.mem_cons,List.not_mem_nil,or_false] at hc
    rcases hc with rfl | rfl | rfl | rfl | rfl
    ·exact Nat.ne_of_lt (Heap.lt_size st.zip)
    ·exact Nat.ne_of_lt (Heap.lt_size st.its)
    ·exact Nat.ne_of_lt (Heap.lt_size ho)
    ·exact Nat.ne_of_lt (Heap.lt_size g1)
    ·exact Nat.ne_of_lt (Heap.lt_size g2')
   rw[aE hce]
   exact(hf c hc).1
 done:=by
  intro X hP hw hK hc k pins s σ H E I hf st hg
  subst hP hw hK
  obtain⟨xs,ys,hq1,hq2,hn⟩:=hg
  obtain⟨v1,r1,p1,_⟩:=I.tuple hq1
  obtain⟨v2,r2,p2,_⟩:=I.tuple hq2
  have l1:=r1.length
  have l2:=r2.length
  refine zU (I.ok.hd hc) D st (show s.heap.IsTuple t v1.toArray from p1) (show s.heap.IsTuple u v2.toArray from p2) (by
   rcases hn with h | h
   ·exact .inl (by simp;omega)
   ·exact .inr (by simp;omega)) fun g kp=>⟨rfl,?_⟩
  refine I.turnedM (t':=s.toks) (ch:=[z,b,i,j]) (fun c o hn e=>kp c o (fun q=>hn (by simp[q])) (fun q=>hn (by simp[q])) (fun q=>hn (by simp[q])) (fun q=>hn (by simp[q])) e) fun c hc=>hf c ?_
  simp only [List.mem_cons,List.not_mem_nil,or_false] at hc ⊢
  rcases hc with h | h | h | h <;> simp[h]
 self:=fun A k s Q E st h=>wpAny_pyIter_zip st.zip h
section
variable {X:Cx}
theorem IG(n t u:Nat)(h1:t<n)(h2:u<n):ZApart (n+4) (n+2) (n+3) n (n+1) t u :=
 ⟨(by omega:(n+2:Nat)≠n+4),(by omega:(n+3:Nat)≠n+4),(by omega:(n:Nat)≠n+4),(by omega:(n+1:Nat)≠n+4),(by omega:(n+2:Nat)≠n+3),(by omega:(n+2:Nat)≠n),(by omega:(n+2:Nat)≠n+1),(by omega:(n+3:Nat)≠n),(by omega:(n+3:Nat)≠n+1),(by omega:(n:Nat)≠n+1),
  (by omega:(t:Nat)≠n+4),(by omega:(t:Nat)≠n+3),(by omega:(t:Nat)≠n),(by omega:(t:Nat)≠n+1),(by omega:(u:Nat)≠n+4),(by omega:(u:Nat)≠n+3),(by omega:(u:Nat)≠n),(by omega:(u:Nat)≠n+1)⟩
def HU(K:PySem.W.Frag)(ta:TA):TI:=fun σ H R=>ta σ H fun vs H1=>∃ t u,vs=[.ref t,.ref u]∧(∃ xs,SqT K H1 t xs)∧(∃ ys,SqT K H1 u ys)∧R (F7 K t u) H1
theorem An{pins:List (Addr×Obj)}{σ:St}{H:Hp}{s:Shared}{t u:Addr}{xs ys:Array Value}{Q:Value→Shared→Prop}{E:Value→Shared→Prop}(ht:s.heap.IsTuple t xs)(hu:s.heap.IsTuple u ys)
  (h:∀ g,ZSt g (s.heap.objs.size+4) (s.heap.objs.size+2) (s.heap.objs.size+3) s.heap.objs.size (s.heap.objs.size+1) t u 0 .none→(∀ c o,s.heap.get? c=some o→g.get? c=some o)→Q (.ref (s.heap.objs.size+4)) { s with heap:=g }) :
  wpAny (model X.prog X.w) X.A (call (.type "zip") [.ref t,.ref u]) Q E s:=by
 refine callType_new F.called_zip (by decide) (F.typeCall_zip_2 _ _) (F.newCall_zip_2 _ _) (fun obj=>F.args_object_init_3 obj _ _) F.entry_zip_new (wD t u xs ys) ⟨ht,hu,?_⟩
 have n1:(Hx s.heap t).objs.size=s.heap.objs.size+1:=Heap.size_push ..
 have n2:(HB s.heap t u).objs.size=s.heap.objs.size+2:=by rw[Heap.size_push,n1]
 have n3:(HF s.heap t u).objs.size=s.heap.objs.size+3:=by rw[Heap.size_push,n2]
 have n4:(Hy s.heap t u).objs.size=s.heap.objs.size+4:=by rw[Heap.size_push,n3]
 have g5:(FC s.heap t u).get? (Hy s.heap t u).objs.size=some _:=Heap.get?_push_size _ rfl
 have g4:(FC s.heap t u).get? (HF s.heap t u).objs.size=some _:=Heap.get?_push_of_some _ (Heap.get?_push_size _ rfl)
 have g3:(FC s.heap t u).get? (HB s.heap t u).objs.size=some _:=Heap.get?_push_of_some _ (Heap.get?_push_of_some _ (Heap.get?_push_size _ rfl))
 have g2:(FC s.heap t u).get? (Hx s.heap t).objs.size=some _:=Heap.get?_push_of_some _ (Heap.get?_push_of_some _ (Heap.get?_push_of_some _ (Heap.get?_push_size _ rfl)))
 have g1:(FC s.heap t u).get? s.heap.objs.size=some _:=Heap.get?_push_of_some _ (Heap.get?_push_of_some _ (Heap.get?_push_of_some _ (Heap.get?_push_of_some _ (Heap.get?_push_size _ rfl))))
 show _∧_
 rw[n2,n3,n4] at g5
 rw[n1,n2] at g3
 rw[n3] at g4
 rw[n1] at g2
 rw[n4]
 exact⟨⟨_,g5,rfl⟩,h _ ⟨g5,g3,⟨_,_,g4⟩,⟨_,g1,rfl,rfl⟩,⟨_,g2,rfl,rfl⟩⟩ fun c o e=>Heap.get?_push_of_some _ (Heap.get?_push_of_some _ (Heap.get?_push_of_some _ (Heap.get?_push_of_some _ (Heap.get?_push_of_some _ e))))⟩
theorem AC{es:List Expr}{x1}{tpos:Pos}{a b:Expr}{ta:TA}{p pos:Pos}{K:PySem.W.Frag}(hK:X.K=K)(hg:Gl X "zip")(hm:X.mg "zip"=none)(ha:PA X [a,b] ta)(hs:starEach [a,b] X.env=[(false,eval a X.env),(false,eval b X.env)]:=by rfl)(hs2:starEach [b] X.env=[(false,eval b X.env)]:=by rfl) :
  PI X (.Tuple es x1 tpos) (.Call (.Name "zip" p) [a,b] [] pos) (HU K ta):=by
 subst hK
 intro pins s σ H R I h
 refine Call_ (hJ I hg hm boot_zip (PyProof.Rows.callWith_type1 (bZ (ha pos pins s σ H _ I h) fun us s1 ⟨vs,H1,I1,r1,q1⟩=>?_) (by rw[hs,hs2]) (by rw[hs2];rfl)))
 obtain⟨t,u,e,⟨xs,hx⟩,⟨ys,hy⟩,q⟩:=q1
 subst e
 obtain⟨v1,v2,rfl,rv1,rv2⟩:=DO r1
 cases rv1
 cases rv2
 obtain⟨w1,rw1,p1,_⟩:=I1.tuple hx
 obtain⟨w2,rw2,p2,_⟩:=I1.tuple hy
 have lt:t<s1.heap.objs.size:=by obtain⟨o,e,_⟩:=p1;exact Heap.lt_size e
 have lu:u<s1.heap.objs.size:=by obtain⟨o,e,_⟩:=p2;exact Heap.lt_size e
 refine An (pins:=pins) (σ:=σ) (H:=H1) (show s1.heap.IsTuple t w1.toArray from p1) (show s1.heap.IsTuple u w2.toArray from p2) fun g st kp=>?_
 have I2:Inv X pins σ H1 { s1 with heap:=g }:=I1.kept (t':=s1.toks) kp
 have D:ZApart (s1.heap.objs.size+4) (s1.heap.objs.size+2) (s1.heap.objs.size+3) s1.heap.objs.size (s1.heap.objs.size+1) t u:=by
  exact IG _ t u lt lu
 refine wpAny_pyIter_zip st.zip ⟨s1.heap.objs.size+4,[s1.heap.objs.size+4,s1.heap.objs.size+2,s1.heap.objs.size+3,s1.heap.objs.size,s1.heap.objs.size+1],_,_,H1,rfl,I2,Cc _ _ _ _ _ t u D,st,fun c hc=>?_,q⟩
 have hle:s1.heap.objs.size≤c:=by
  simp only [List.mem_cons,List.not_mem_nil,or_false] at hc
  rcases hc with h | h | h | h | h <;> rw[h]
  ·exact Nat.le_add_right _ _
  ·exact Nat.le_add_right _ _
  ·exact Nat.le_add_right _ _
  ·exact Nat.le_refl _
  ·exact Nat.le_add_right _ _
 exact I1.fpOk hle (I1.hok.fresh hle)
end
theorem xX{K:PySem.W.Frag}{t u:Addr}{xs ys:List V}{g:TG}{tb:TS}{D:Ends}{σ:St}{H:Hp}(Pv:Nat→St→Hp→Prop)(h0:Pv 0 σ H)(hl:∀ i σ H,i≤min xs.length ys.length→Pv i σ H→SqT K H t xs∧SqT K H u ys)
  (hs:∀ i x y p σ H,xs[i]?=some x→ys[i]?=some y→H p=none→Pv i σ H→g (.ref p) σ (upd H p (.tup [x,y])) fun σ2 H2=>tb { D with nx:=Pv (i+1),ct:=Pv (i+1),bk:=D.nx } σ2 H2) (hd:∀ σ H,Pv (min xs.length ys.length) σ H→D.nx σ H) :
  ∃ W:Nat→Nat→St→Hp→Prop,(∃ m,W 0 m σ H)∧∀ i m σ H,W i m σ H →
   ((F7 K t u).stop i H∧D.nx σ H)∨((F7 K t u).go i H∧∃ N:St→Hp→Prop,(∀ σ' H',N σ' H'→∃ m',m' < m∧W (i+1) m' σ' H')∧∀ x H',(F7 K t u).yld i H x H'→g x σ H' fun σ2 H2=>tb { D with nx:=N,ct:=N,bk:=D.nx } σ2 H2):=by
 refine⟨fun i m σ H=>m=min xs.length ys.length - i∧i≤min xs.length ys.length∧Pv i σ H,⟨_,rfl,Nat.zero_le _,h0⟩,?_⟩
 rintro i m σ H ⟨rfl,hi,p⟩
 obtain⟨q1,q2⟩:=hl i σ H hi p
 by_cases hlt:i<min xs.length ys.length
 ·have l1:i<xs.length:=by omega
  have l2:i<ys.length:=by omega
  refine .inr ⟨⟨xs,ys,xs[i],ys[i],q1,q2,by simp[l1],by simp[l2]⟩,Pv (i+1),fun σ' H' p'=>⟨min xs.length ys.length - (i+1),by omega,rfl,hlt,p'⟩,fun v H' hv=>?_⟩
  obtain⟨pp,x,y,rfl,hn,rfl,hxy⟩:=hv
  obtain⟨ex,ey⟩:=hxy xs ys q1 q2
  exact hs i x y pp σ H ex ey hn p
 ·have e:i=min xs.length ys.length:=by omega
  subst e
  refine .inl ⟨⟨xs,ys,q1,q2,?_⟩,hd σ H p⟩
  rcases Nat.le_total xs.length ys.length with h | h
  ·exact .inl (by omega)
  ·exact .inr (by omega)
section
variable {κ:Type}[DecidableEq κ]
def cX(kvs:List (κ×V))(k:κ):Option V:=(kvs.find? fun kv=>decide (kv.1=k)).map (·.2)
def dM(kvs:List (κ×V))(k:κ)(v:V):List (κ×V) :=
 if (kvs.any fun kv=>decide (kv.1=k))=true then kvs.map (fun kv=>if kv.1=k then (kv.1,v) else kv) else kvs++[(k,v)]
theorem cQ{p:κ×V}{r:List (κ×V)}{k:κ}(e:p.1=k):cX (p::r) k=some p.2:=by simp[cX,List.find?_cons,e]
theorem dD{p:κ×V}{r:List (κ×V)}{k:κ}(e:¬ p.1=k):cX (p::r) k=cX r k:=by simp[cX,List.find?_cons,e]
theorem iD(k:κ):∀ kvs:List (κ×V),(kvs.any fun kv=>decide (kv.1=k))=(cX kvs k).isSome
 | []=>rfl
 | p::r=>by
  rw[List.any_cons]
  by_cases e:p.1=k
  ·simp only [cQ e,decide_eq_true e,Bool.true_or,Option.isSome_some]
  ·rw[dD e,decide_eq_false e,Bool.false_or];exact iD k r
theorem tZ(k j:κ)(y:V):∀ kvs:List (κ×V),cX (kvs.map fun kv=>if kv.1=k then (kv.1,y) else kv) j=(cX kvs j).map fun x=>if j=k then y else x
 | []=>rfl
 | p::r=>by
  have ih:=tZ k j y r
  rw[List.map_cons]
  by_cases h:p.1=k
  ·rw[if_pos h]
   by_cases e:p.1=j
   ·rw[cQ (p:=(p.1,y)) e,cQ e,Option.map_some,if_pos (e.symm.trans h)]
   ·rw[dD (p:=(p.1,y)) e,dD e,ih]
  ·rw[if_neg h]
   by_cases e:p.1=j
   ·rw[cQ (p:=p) e,cQ e,Option.map_some,if_neg (fun z=>h (e.trans z))]
   ·rw[dD (p:=p) e,dD e,ih]
theorem rC(k j:κ)(y:V):∀ kvs:List (κ×V),cX kvs k=none→cX (kvs++[(k,y)]) j=if j=k then some y else cX kvs j
 | [],_=>by
  by_cases e:k=j
  ·rw[if_pos e.symm];exact cQ (p:=(k,y)) e
  ·rw[if_neg (fun z=>e z.symm)];exact dD (p:=(k,y)) e
 | p::r,hn=>by
  rw[List.cons_append]
  have hk:¬ p.1=k:=fun z=>by rw[cQ z] at hn;cases hn
  rw[dD hk] at hn
  have ih:=rC k j y r hn
  by_cases e:p.1=j
  ·rw[cQ e,cQ e,if_neg (fun z=>hk (e.trans z))]
  ·rw[dD e,dD e,ih]
theorem kX(kvs:List (κ×V))(k j:κ)(y:V):cX (dM kvs k y) j=if j=k then some y else cX kvs j:=by
 unfold dM
 by_cases a:(kvs.any fun kv=>decide (kv.1=k))=true
 ·rw[if_pos a,tZ]
  rw[iD] at a
  by_cases e:j=k
  ·obtain⟨x,hx⟩:=Option.isSome_iff_exists.mp a
   rw[if_pos e,e,hx,Option.map_some,if_pos rfl]
  ·rw[if_neg e]
   cases cX kvs j with
   | none=>rfl
   | some x=>rw[Option.map_some,if_neg e]
 ·rw[if_neg a]
  refine rC k j y kvs ?_
  rw[iD] at a
  cases q:cX kvs k with
  | none=>rfl
  | some x=>rw[q] at a;exact(a rfl).elim
theorem dZ(kvs:List (κ×V))(k:κ)(v:V):(dM kvs k v).length≤kvs.length+1:=by
 unfold dM
 split
 ·rw[List.length_map];omega
 ·rw[List.length_append,List.length_cons,List.length_nil];omega
theorem A5{kvs:List (κ×V)}{k:κ}(v:V)(h:cX kvs k=none):dM kvs k v=kvs++[(k,v)]:=by
 unfold dM
 rw[iD,h]
 exact if_neg (by decide)
theorem RelO.isSome_eq{o:Option V}{u:Option Value}(r:RelO o u):o.isSome=u.isSome:=by
 cases o with
 | none=>cases u with
  | none=>rfl
  | some _=>exact(show False from r).elim
 | some _=>cases u with
  | none=>exact(show False from r).elim
  | some _=>rfl
theorem RelO.getD{o:Option V}{u:Option Value}{d:V}{d':Value}(r:RelO o u)(rd:RelV d d'):RelV (o.getD d) (u.getD d'):=by
 cases o with
 | none=>cases u with
  | none=>exact rd
  | some _=>exact(show False from r).elim
 | some _=>cases u with
  | none=>exact(show False from r).elim
  | some _=>exact r
theorem KV.val{kvs:List (κ×V)}{vs:List (κ×Value)}(r:KV kvs vs)(k:κ):RelO (cX kvs k) (valueAt vs k):=by
 unfold KV at r
 induction r with
 | nil=>exact True.intro
 | @cons p q ps qs h t ih =>
  obtain⟨h1,h2⟩:=h
  by_cases e:p.1=k
  ·have e':q.1=k:=h1.symm.trans e
   have b:valueAt (q::qs) k=some q.2:=by simp[valueAt,List.find?_cons,e']
   rw[cQ e,b];exact h2
  ·have e':¬ q.1=k:=fun z=>e (h1.trans z)
   have b:valueAt (q::qs) k=valueAt qs k:=by simp[valueAt,List.find?_cons,e']
   rw[dD e,b];exact ih
theorem KV.any{kvs:List (κ×V)}{vs:List (κ×Value)}(r:KV kvs vs)(k:κ):(kvs.any fun kv=>decide (kv.1=k))=vs.any fun kv=>decide (kv.1=k):=by
 unfold KV at r
 induction r with
 | nil=>rfl
 | cons h t ih=>rw[List.any_cons,List.any_cons,ih,h.1]
theorem KV.repl{kvs:List (κ×V)}{vs:List (κ×Value)}(r:KV kvs vs)(k:κ){y:V}{u:Value}(ry:RelV y u) :
  KV (kvs.map fun kv=>if kv.1=k then (kv.1,y) else kv) (vs.map fun kv=>if kv.1=k then (kv.1,u) else kv):=by
 unfold KV at r ⊢
 induction r with
 | nil=>exact .nil
 | @cons p q ps qs h t ih =>
  rw[List.map_cons,List.map_cons]
  refine .cons ?_ ih
  obtain⟨h1,h2⟩:=h
  by_cases e:p.1=k
  ·rw[if_pos e,if_pos (h1.symm.trans e)];exact⟨h1,ry⟩
  ·rw[if_neg e,if_neg (fun z=>e (h1.trans z))];exact⟨h1,h2⟩
theorem KV.put{kvs:List (κ×V)}{vs:List (κ×Value)}(r:KV kvs vs)(k:κ){y:V}{u:Value}(ry:RelV y u):KV (dM kvs k y) (stored vs k u):=by
 unfold dM stored
 rw[r.any k]
 by_cases e:(vs.any fun kv=>decide (kv.1=k))=true
 ·rw[if_pos e,if_pos e];exact r.repl k ry
 ·rw[if_neg e,if_neg e];exact Paired.snoc r ⟨rfl,ry⟩
theorem KV.length{kvs:List (κ×V)}{vs:List (κ×Value)}(r:KV kvs vs):kvs.length=vs.length:=Paired.length r
end
theorem nQ{P:Program}{w:World}{k:cM}{u:Value}(r:RelV (kV k) u):(bQ P w).is k u=true:=by
 cases k with
 | inl i=>obtain⟨t,e⟩:=(show ∃ t,u=Value.int i t from r);subst e;exact vI P w i t
 | inr x=>obtain⟨t,e⟩:=(show ∃ t,u=Value.str x t from r);subst e;exact vE P w x t
theorem rH{P:Program}{w:World}:∀ {ks:List cM} {us:List Value},Vals (ks.map kV) us→ItemsAre (bQ P w) ks us
 | [],_,r=>by rw[List.map_nil] at r;cases r;exact .nil
 | k::ks,_,r=>by
  rw[List.map_cons] at r
  cases r with
  | cons h t=>exact .cons (nQ h) (rH t)
abbrev KT(H:Hp):List (List cM×V)→List (List cM×Addr×Value)→Prop:=Paired fun p q=>p.1=q.1∧H q.2.1=some (.tup (p.1.map kV))∧RelV p.2 q.2.2
theorem KT.val{H:Hp}{kvs:List (List cM×V)}{xs:List (List cM×Addr×Value)}(r:KT H kvs xs)(k:List cM):RelO (cX kvs k) ((atKey xs k).map (·.2)):=by
 induction r with
 | nil=>exact True.intro
 | @cons p q ps qs h t ih =>
  obtain⟨h1,_,h2⟩:=h
  by_cases e:p.1=k
  ·have e':q.1=k:=h1.symm.trans e
   have b:atKey (q::qs) k=some q.2:=by simp[atKey,List.find?_cons,e']
   rw[cQ e,b];exact h2
  ·have e':¬ q.1=k:=fun z=>e (h1.trans z)
   have b:atKey (q::qs) k=atKey qs k:=by simp[atKey,List.find?_cons,e']
   rw[dD e,b];exact ih
theorem KT.repl{H:Hp}{kvs:List (List cM×V)}{xs:List (List cM×Addr×Value)}(r:KT H kvs xs)(k:List cM){y:V}{u:Value}(ry:RelV y u) :
  KT H (kvs.map fun kv=>if kv.1=k then (kv.1,y) else kv) (xs.map (putAt k u)):=by
 induction r with
 | nil=>exact .nil
 | @cons p q ps qs h t ih =>
  rw[List.map_cons,List.map_cons]
  refine .cons ?_ ih
  obtain⟨h1,h2,h3⟩:=h
  unfold putAt
  by_cases e:p.1=k
  ·rw[if_pos e,if_pos (h1.symm.trans e)];exact⟨h1,h2,ry⟩
  ·rw[if_neg e,if_neg (fun z=>e (h1.trans z))];exact⟨h1,h2,h3⟩
theorem KT.put{H:Hp}{kvs:List (List cM×V)}{xs:List (List cM×Addr×Value)}(r:KT H kvs xs)(k:List cM){b:Addr}{y:V}{u:Value}(hb:H b=some (.tup (k.map kV)))(ry:RelV y u) :
  KT H (dM kvs k y) (storedH xs k b u):=by
 have e:(kvs.any fun kv=>decide (kv.1=k))=(atKey xs k).isSome:=by
  rw[iD,(r.val k).isSome_eq,Option.isSome_map]
 unfold dM storedH
 rw[e]
 by_cases q:(atKey xs k).isSome=true
 ·rw[if_pos q,if_pos q];exact r.repl k ry
 ·rw[if_neg q,if_neg q];exact Paired.snoc r ⟨rfl,hb,ry⟩
theorem KT.keeps{H H':Hp}{kvs:List (List cM×V)}{xs:List (List cM×Addr×Value)}(r:KT H kvs xs)(ht:∀ b ys,H b=some (.tup ys)→H' b=some (.tup ys)):KT H' kvs xs :=
 Paired.mapP r fun _ _ z=>⟨z.1,ht _ _ z.2.1,z.2.2⟩
section
variable {P:Program}{w:World}{H:Hp}{h:Heap}{a:Addr}
theorem DF{u:HO}(ok:HOk P w H h)(e:Rd H a u):ObjOk P w H h a u:=e.ok ok
theorem pR{kvs:List (cM×V)}(ok:HOk P w H h)(e:Rd H a (.dK kvs)):kvs.length≤sizeLine∧(a == sysModules)=false∧∃ vs,KV kvs vs∧h.DictOf (bQ P w) a vs :=
 show ObjOk P w H h a (.dK kvs) from DF ok e
theorem uS{kvs:List (cM×V)}(ok:HOk P w H h)(e:H a=some (.dK kvs)):kvs.length≤sizeLine∧(a == sysModules)=false∧∃ vs,KV kvs vs∧h.DictOf (bQ P w) a vs:=pR ok (.inl e)
theorem nG{ks:List cM}(ok:HOk P w H h)(e:H a=some (.tup (ks.map kV))):(tupleKind (bQ P w)).is h ks a:=by
 obtain⟨_,its,r,⟨o,h1,h2,n,h3⟩,_⟩:=(show ObjOk P w H h a (.tup (ks.map kV)) from ok a _ e)
 exact⟨o,its.toArray,n,h1,h2,h3,by simpa using rH r⟩
theorem rJ{kvs:List (List cM×V)}(ok:HOk P w H h)(e:Rd H a (.dT kvs)):kvs.length≤sizeLine∧(a == sysModules)=false ∧
  ∃ xs,KT H kvs xs∧h.DictOfH (tupleKind (bQ P w)) a xs:=by
 obtain⟨z,y,xs,r,o,es,ep,h1,h2,h3,h4,h5⟩:=(show ObjOk P w H h a (.dT kvs) from DF ok e)
 refine⟨z,y,xs,r,o,es,ep,h1,h2,h3,h4,fun x hx=>?_,h5⟩
 have all:∀ {l:List (List cM×V)} {m:List (List cM×Addr×Value)},KT H l m→∀ x∈m,(tupleKind (bQ P w)).is h x.1 x.2.1:=by
  intro l m q
  induction q with
  | nil=>intro x hx;exact nomatch hx
  | @cons p q ps qs hq t ih =>
   intro x hx
   rcases List.mem_cons.mp hx with e | hx
   ·subst e
    exact nG ok (by rw[← hq.1];exact hq.2.1)
   ·exact ih x hx
 exact all r x hx
theorem GC{kvs:List (List cM×V)}(ok:HOk P w H h)(e:H a=some (.dT kvs)):kvs.length≤sizeLine∧(a == sysModules)=false ∧
  ∃ xs,KT H kvs xs∧h.DictOfH (tupleKind (bQ P w)) a xs:=rJ ok (.inl e)
end
def DGet(H:Hp)(a:Addr)(y:V)(r:Option V):Prop :=
 (∃ kvs k,Rd H a (.dK kvs)∧y=kV k∧r=cX kvs k)∨∃ kvs k b,Rd H a (.dT kvs)∧y=.ref b∧H b=some (.tup (k.map kV))∧r=cX kvs k
def DPut(H:Hp)(a:Addr)(y v:V)(H':Hp):Prop :=
 (∃ kvs k,H a=some (.dK kvs)∧y=kV k∧kvs.length<sizeLine∧H'=upd H a (.dK (dM kvs k v))) ∨
 ∃ kvs k b,H a=some (.dT kvs)∧y=.ref b∧H b=some (.tup (k.map kV))∧kvs.length<sizeLine∧H'=upd H a (.dT (dM kvs k v))
theorem DGet.k{H:Hp}{a:Addr}{kvs:List (cM×V)}{k:cM}(e:H a=some (.dK kvs)):DGet H a (kV k) (cX kvs k):=.inl ⟨kvs,k,.inl e,rfl,rfl⟩
theorem DPut.k{H:Hp}{a:Addr}{kvs:List (cM×V)}{k:cM}{v:V}(e:H a=some (.dK kvs))(hl:kvs.length<sizeLine):DPut H a (kV k) v (upd H a (.dK (dM kvs k v))):=.inl ⟨kvs,k,e,rfl,hl,rfl⟩
section
variable {X:Cx}{pins:List (Addr×Obj)}{σ:St}{H:Hp}{s:Shared}{a:Addr}{y v:V}{u r:Value}{o:Option V}{A:Around}{E:Value→Shared→Prop}
theorem Inv.big(I:Inv X pins σ H s):sysModules<s.heap.objs.size:=by
 have h:mainGlobals<s.heap.objs.size:=(I.mod.glob.keeps I.bk).lt
 exact Nat.lt_trans (by decide) h
theorem zP{Q:Value→Shared→Prop}(hu:A.units+1<cLine)(I:Inv X pins σ H s)(g:DGet H a y (some v))(ry:RelV y u)(h:∀ w' s',Inv X pins σ H s'→RelV v w'→Q w' s') :
  wpAny (model X.prog X.w) A (getItem (.ref a) u) Q E s:=by
 rcases g with ⟨kvs,k,e,ey,l⟩ | ⟨kvs,k,b,e,ey,eb,l⟩
 ·subst ey
  obtain⟨z,hd,vs,rel,dd⟩:=pR I.hok e
  obtain⟨w',hw,rw'⟩:=RelO.some_of (v:=v) (o:=valueAt vs k) (by rw[l];exact rel.val k)
  exact wpAny_getItem_of (nQ ry) dd.mapOf hw (h w' _ (I.tok _) rw')
 ·subst ey
  cases (show u=Value.ref b from ry)
  obtain⟨z,hd,xs,rel,dd⟩:=rJ I.hok e
  obtain⟨w',hw,rw'⟩:=RelO.some_of (v:=v) (o:=(atKey xs k).map (·.2)) (by rw[l];exact rel.val k)
  obtain⟨p,hp,hp2⟩:=Option.map_eq_some_iff.mp hw
  refine wpAny_getItem_heap (tupleKind_room_in1 hu) (nG I.hok eb) dd hp ?_
  rw[hp2]
  exact h w' _ (I.tok _) rw'
theorem Cy{Q:Value→Shared→Prop}(hu:A.units+1<cLine)(I:Inv X pins σ H s)(g:DGet H a y o)(ry:RelV y u)(h:∀ s',Inv X pins σ H s'→Q (.bool (!o.isSome)) s') :
  wpAny (model X.prog X.w) A (compareOp .NotIn u (.ref a)) Q E s:=by
 rcases g with ⟨kvs,k,e,ey,l⟩ | ⟨kvs,k,b,e,ey,eb,l⟩
 ·subst ey
  obtain⟨z,hd,vs,rel,dd⟩:=pR I.hok e
  refine wpAny_notIn_of (nQ ry) hd dd.mapOf ?_
  rw[← (rel.val k).isSome_eq,← l]
  exact h _ (I.tok _)
 ·subst ey
  cases (show u=Value.ref b from ry)
  obtain⟨z,hd,xs,rel,dd⟩:=rJ I.hok e
  refine wpAny_notIn_heap (tupleKind_room_in1 hu) (nG I.hok eb) hd dd ?_
  have q:=(rel.val k).isSome_eq
  rw[Option.isSome_map] at q
  rw[← q,← l]
  exact h _ (I.tok _)
theorem mP{h':Heap}{t':Nat}{ob:HO}(I:Inv X pins σ H s)(mu:Gi (H a))(hs:Heap.SameBut a s.heap h')(he:∃ q,h'.get? a=some q)(new:ObjOk X.prog X.w (upd H a ob) h' a ob) :
  Inv X pins σ (upd H a ob) { s with heap:=h',toks:=t' } :=
 I.write (x:=a) (e:=a) mu (.inl rfl) (fun b q hb z=>(hs.2 b hb).trans z) he new
theorem wB{P:Program}{w:World}{H':Hp}{h':Heap}{kvs:List (cM×V)}{vs:List (cM×Value)}(z:kvs.length≤sizeLine)(hd:(a == sysModules)=false)(rel:KV kvs vs)(dd:h'.DictOf (bQ P w) a vs) :
  ObjOk P w H' h' a (.dK kvs):=⟨z,hd,vs,rel,dd⟩
theorem zY{H':Hp}{Q:Unit→Shared→Prop}(hu:A.units+1<cLine)(I:Inv X pins σ H s)(g:DPut H a y v H')(ry:RelV y u)(rv:RelV v r)(h:∀ s',Inv X pins σ H' s'→Q () s') :
  wpAny (model X.prog X.w) A (setItem (.ref a) u r) Q E s:=by
 rcases g with ⟨kvs,k,e,ey,l,eH⟩ | ⟨kvs,k,b,e,ey,eb,l,eH⟩
 ·subst ey eH
  obtain⟨z,hd,vs,rel,dd⟩:=uS I.hok e
  have hz:vs.length≤sizeLine:=by rw[← rel.length];exact z
  have hl:(dM kvs k v).length≤sizeLine:=by have:=dZ kvs k v;omega
  refine wpAny_setItem_pairs (hsz:=hz) (nQ ry) dd fun h' dd' hs=>h _ ?_
  have he:∃ q,h'.get? a=some q:=let ⟨q,_,_,hq,_⟩:=dd';⟨q,hq⟩
  exact mP I (by rw[e];exact True.intro) hs he (wB hl hd (rel.put k rv) dd')
 ·subst ey eH
  cases (show u=Value.ref b from ry)
  obtain⟨z,hd,xs,rel,dd⟩:=GC I.hok e
  have hz:xs.length≤sizeLine:=by rw[← Paired.length rel];exact z
  have hl:(dM kvs k v).length≤sizeLine:=by have:=dZ kvs k v;omega
  refine wpAny_setItem_heap (hsz:=hz) (tupleKind_room_in1 hu) (nG I.hok eb) dd fun h' dd' hs=>h _ ?_
  obtain⟨q,es,ep,hq,h2,h3,h4,_,h5⟩:=dd'
  refine mP I (by rw[e];exact True.intro) hs ⟨q,hq⟩ ⟨hl,hd,_,(rel.put k eb rv).keeps fun c ys ec=>?_,q,es,ep,hq,h2,h3,h4,h5⟩
  rw[aE (dB ec e (fun z=>nomatch z))]
  exact ec
end
def FM(i:Expr):Prop:=∀ ov iv,subscripted i false ov iv=operate [ov,iv] (getItem ov iv)
theorem Ds{prog:Program}{w:World}{A:Around}{E:Value→Shared→Prop}{s:Shared}{env:Env}{value slice:Expr}{pos:Pos}{T id:String}{Q:Value→Shared→Prop}
  (hl:typeLookup (.type T) "__getitem__"=pure (some (.builtin id))) (hs:FM slice)
  (h:wpAny (model prog w) A (eval value env) (fun o s₁=>wpAny (model prog w) A (eval slice env) (fun i s₂=>s₂.TypeIs o T∧wpAny (model prog w) A (getItem o i) Q E s₂) E s₁) E s) :
  wpAny (model prog w) A (eval (.Subscript value slice pos) env) Q E s:=by
 refine Subscript_ (wpAny_mono h (fun o s₁ h₁=>wpAny_mono h₁ (fun i s₂ h₂=>?_) fun _ _ x=>x) fun _ _ x=>x)
 obtain⟨hT,h₂⟩:=h₂
 unfold subscriptTail
 refine wpAny_bind ?_
 rw[getitemInPython_of_ne hT.not_modules]
 refine wpAny_bind (wpAny_specialOf hT hl ?_)
 have fin:wpAny (model prog w) A (subscripted slice false o i) (fun r s₃=>wpAny (model prog w) A (letTemporaryGo value o r >>= fun _=>pure r) Q E s₃) E s₂:=by
  rw[hs o i]
  exact wpAny_operating (wpAny_mono h₂ (fun r s₃ h₃=>wpAny_bind (wpAny_letTemporaryGo (wpAny_pure h₃))) fun _ _ x=>x)
 first
  | exact wpAny_pure (wpAny_bind fin)
  | exact wpAny_bind (wpAny_pure (wpAny_bind fin))
  | exact wpAny_bind fin
theorem vF{X:Cx}{pins:List (Addr×Obj)}{σ:St}{H:Hp}{s:Shared}{a:Addr}{y:V}{o:Option V}(I:Inv X pins σ H s)(g:DGet H a y o):s.TypeIs (.ref a) "dict":=by
 rcases g with ⟨kvs,k,e,_,_⟩ | ⟨kvs,k,b,e,_,_,_⟩
 ·obtain⟨_,_,vs,_,dd⟩:=pR I.hok e
  exact dd.typeIs
 ·obtain⟨_,_,xs,_,dd⟩:=rJ I.hok e
  exact dd.typeIs
def Hf(td ty:TE):TE:=fun σ H Q=>td σ H fun x H1=>ty σ H1 fun y H2=>∃ a v,x=.ref a∧DGet H2 a y (some v)∧Q v H2
def yB(ty td:TE):TE:=fun σ H Q=>ty σ H fun y H1=>td σ H1 fun x H2=>∃ a o,x=.ref a∧DGet H2 a y o∧Q (.bl (!o.isSome)) H2
def GX(td ty tv:TE):TS:=fun D σ H=>tv σ H fun v H1=>td σ H1 fun x H2=>ty σ H2 fun y H3=>∃ a H4,x=.ref a∧DPut H3 a y v H4∧D.nx σ H4
section
variable {X:Cx}{o i e value:Expr}{pos pos' tpos:Pos}{td ty tv:TE}
theorem sQ(hu:X.A.units+1<cLine)(ho:PE X o td)(hi:PE X i ty)(hs:FM i):PE X (.Subscript o i pos) (Hf td ty):=by
 intro pins s σ H Q I h
 refine Ds PySem.F.slot_dict_getitem.lookup hs (bZ (ho pins s σ H _ I h) fun u s1 ⟨x,H1,I1,rx,q1⟩=>bZ (hi pins s1 σ H1 _ I1 q1) fun iv s2 ⟨y,H2,I2,ry,a,v,ex,g,q2⟩=>?_)
 subst ex
 obtain rfl:u=Value.ref a:=rx
 exact⟨vF I2 g,zP hu I2 g ry fun w' s3 I3 rw'=>⟨v,H2,I3,rw',q2⟩⟩
theorem Ag(hu:X.A.units+1<cLine)(hi:PE X i ty)(ho:PE X o td):PC X .NotIn i o (yB ty td):=by
 intro pins s σ H Q I h
 refine bZ (hi pins s σ H _ I h) fun iv s1 ⟨y,H1,I1,ry,q1⟩=>bZ (ho pins s1 σ H1 _ I1 q1) fun u s2 ⟨x,H2,I2,rx,a,ov,ex,g,q2⟩=>?_
 subst ex
 obtain rfl:u=Value.ref a:=rx
 exact Cy hu I2 g ry fun s3 I3=>⟨.bl (!ov.isSome),H2,I3,rfl,q2⟩
theorem rW(hu:X.A.units+1<cLine)(ho:PE X o td)(hi:PE X i ty)(hv:PE X value tv)(hs:swapsWith value (some (.Subscript o i pos')) pos.line X.env=pure false) :
  PS X (.Assign [.Subscript o i pos'] value pos) (GX td ty tv):=by
 intro pins s σ H D I h
 refine wpAny_Assign_Subscript (bZ (hv pins s σ H _ I h) fun r s1 ⟨v,H1,I1,rv,q1⟩=>bZ (ho pins s1 σ H1 _ I1 q1) fun u s2 ⟨x,H2,I2,rx,q2⟩=>bZ (hi pins s2 σ H2 _ I2 q2) fun iv s3 ⟨y,H3,I3,ry,a,H4,ex,g,q3⟩=>?_) hs
 subst ex
 obtain rfl:u=Value.ref a:=rx
 exact zY hu I3 g ry rv fun s4 I4=>⟨σ,H4,I4,q3⟩
end
theorem vH{P:Program}{w:World}{H:Hp}(h:Heap)(hb:sysModules<h.objs.size):ObjOk P w H (h.push { cls:=.type "dict",data:=.dict #[] }) h.objs.size (.dK []) :=
 ⟨Nat.zero_le _,beq_eq_false_iff_ne.mpr (Ne.symm (Nat.ne_of_lt hb)),[],.nil,Heap.DictOf.new h⟩
def E7:TE:=fun _ H Q=>∀ p,H p=none→Q (.ref p) (upd H p (.dK []))
section
variable {X:Cx}{pos:Pos}
theorem oP:PE X (.Dict [] [] pos) E7:=fun pins s σ H Q I h =>
 wpAny_Dict_empty ⟨.ref s.heap.objs.size,_,I.laid (a:=s.heap.objs.size) (o:=.dK []) (t':=s.toks) (fun _ _ q=>Heap.get?_push_of_some _ q) (Nat.le_refl _) (vH s.heap I.big),rfl,h _ (I.hok.fresh (Nat.le_refl _))⟩
end
def xD:List (TE×TE)→St→Hp→(List (V×V)→Hp→Prop)→Prop
 | [],_,H,Q=>Q [] H
 | (tk,tv)::r,σ,H,Q=>tk σ H fun x H1=>tv σ H1 fun y H2=>xD r σ H2 fun ps H3=>Q ((x,y)::ps) H3
abbrev VV:List (V×V)→List (Value×Value)→Prop:=Paired fun p q=>RelV p.1 q.1∧RelV p.2 q.2
def HA(X:Cx)(pos:Pos)(keys:List (Option Expr))(values:List Expr)(trs:List (TE×TE)):Prop :=
 ∀ (pins:List (Addr×Obj)) (s:Shared) (σ:St) (H:Hp) (Q:List (V×V)→Hp→Prop),Inv X pins σ H s→xD trs σ H Q →
  wpAny (model X.prog X.w) X.A (evalPairs (pairTrees keys values X.env pos)) (fun vs s'=>∃ ps H',Inv X pins σ H' s'∧VV ps vs∧Q ps H') X.xe s
theorem Cv{X:Cx}{pos:Pos}:HA X pos [] [] []:=fun pins s σ H Q I h=>pairTrees_nil_walk ⟨[],H,I,.nil,h⟩
theorem Bb{X:Cx}{pos:Pos}{k v:Expr}{ks:List (Option Expr)}{vs:List Expr}{tk tv:TE}{trs:List (TE×TE)}(hk:PE X k tk)(hv:PE X v tv)(hr:HA X pos ks vs trs) :
  HA X pos (some k::ks) (v::vs) ((tk,tv)::trs):=fun pins s σ H Q I h =>
 pairTrees_cons_walk (bZ (hk pins s σ H _ I h) fun u s1 ⟨x,H1,I1,rx,q1⟩=>bZ (hv pins s1 σ H1 _ I1 q1) fun w2 s2 ⟨y,H2,I2,ry,q2⟩ =>
  bZ (hr pins s2 σ H2 _ I2 q2) fun ws s3 ⟨ps,H3,I3,rel,q3⟩=>⟨(x,y)::ps,H3,I3,.cons ⟨rx,ry⟩ rel,q3⟩)
def oV(kvs more:List (cM×V)):List (cM×V):=more.foldl (fun acc kv=>dM acc kv.1 kv.2) kvs
theorem KV.merge:∀ {more:List (cM×V)} {rs:List (cM×Value)} {kvs:List (cM×V)} {vs:List (cM×Value)},KV more rs→KV kvs vs→KV (oV kvs more) (merged vs rs):=by
 intro more rs kvs vs r
 unfold KV at r
 induction r generalizing kvs vs with
 | nil=>intro q;exact q
 | @cons p q ps qs h t ih =>
  intro r0
  have e:KV (dM kvs p.1 p.2) (stored vs q.1 q.2):=by
   have:=r0.put p.1 h.2
   rw[← h.1];exact this
  exact ih e
theorem jF:∀ (more kvs:List (cM×V)),(oV kvs more).length≤kvs.length+more.length
 | [],kvs=>by show kvs.length≤kvs.length+0;omega
 | p::r,kvs=>by
  have h1:=jF r (dM kvs p.1 p.2)
  have h2:=dZ kvs p.1 p.2
  show (oV (dM kvs p.1 p.2) r).length≤_
  rw[List.length_cons];omega
theorem pB{P:Program}{w:World}:∀ {kvs:List (cM×V)} {ws:List (Value×Value)},VV (kvs.map fun kv=>(kV kv.1,kv.2)) ws→∃ rs,Carries (bQ P w) ws rs∧KV kvs rs
 | [],_,r=>by rw[List.map_nil] at r;cases r;exact⟨[],True.intro,.nil⟩
 | p::kvs,_,r=>by
  rw[List.map_cons] at r
  cases r with
  | @cons a b as bs h t =>
   obtain⟨rs,c,q⟩:=pB (P:=P) (w:=w) t
   obtain⟨b1,b2⟩:=b
   exact⟨(p.1,b2)::rs,⟨nQ h.1,rfl,c⟩,.cons ⟨rfl,h.2⟩ q⟩
def FU(trs:List (TE×TE)):TE:=fun σ H Q=>∀ p,H p=none→xD trs σ (upd H p (.dK [])) fun ps H2=>H2 p=some (.dK [])∧∃ kvs:List (cM×V),ps=kvs.map (fun kv=>(kV kv.1,kv.2))∧kvs.length≤15∧Q (.ref p) (upd H2 p (.dK (oV [] kvs)))
theorem Do{X:Cx}{pos:Pos}{keys:List (Option Expr)}{values:List Expr}{trs:List (TE×TE)}(h:HA X pos keys values trs)(hall:keys.all (·.isSome)=true)(hl:keys.length=values.length)(h0:keys≠[])
  (h15:keys.length≤15):PE X (.Dict keys values pos) (FU trs):=by
 intro pins s σ H Q I q
 have hn:=I.hok.fresh (Nat.le_refl s.heap.objs.size)
 have I1:=I.laid (a:=s.heap.objs.size) (o:=.dK []) (h':=s.heap.push { cls:=.type "dict",data:=.dict #[] }) (t':=s.toks) (fun _ _ q=>Heap.get?_push_of_some _ q) (Nat.le_refl _) (vH s.heap I.big)
 refine wpAny_Dict_walk (knd:=bQ X.prog X.w) hall hl h0 h15 (bZ (h pins _ σ _ _ I1 (q _ hn)) fun ws s2 ⟨ps,H2,I2,rel,e,kvs,ep,lk,q2⟩=>?_)
 subst ep
 obtain⟨rs,c,rk⟩:=pB (P:=X.prog) (w:=X.w) rel
 obtain⟨z,hd,vs0,r0,dd⟩:=uS I2.hok e
 cases r0
 refine⟨rs,c,dd,fun h' dd' hs=>⟨.ref s.heap.objs.size,_,?_,rfl,q2⟩⟩
 have hz:(oV [] kvs).length≤sizeLine:=by
  have h1:=jF kvs []
  rw[List.length_nil] at h1
  rw[sizeLine_eq];omega
 have he:∃ q,h'.get? s.heap.objs.size=some q:=let ⟨q,_,_,hq,_⟩:=dd';⟨q,hq⟩
 exact mP I2 (by rw[e];exact True.intro) hs he (wB hz hd (rk.merge .nil) dd')
structure M1(X:Cx)(o:Expr)(m:Str)(apos:Pos)(e:Expr)(cpos:Pos):Prop where
 base:attributeBase o m X.env (eval o X.env)=eval o X.env
 few:((backTo cpos (starEach [e] X.env)).all (fun x=>!x.1) && (backToKw cpos (keywordEach [] X.env)).all (fun x=>x.1.isSome)
  && decide (([e]:List Expr).length+([]:List Keyword).length+(if ([]:List Keyword).isEmpty then 0 else 1)<30))=true
 line:(apos.endLine == cpos.line)=true
 trees:backTo cpos (starEach [e] X.env)=[(false,eval e X.env)]
structure M2(X:Cx)(o:Expr)(m:Str)(apos:Pos)(e f:Expr)(cpos:Pos):Prop where
 base:attributeBase o m X.env (eval o X.env)=eval o X.env
 few:((backTo cpos (starEach [e,f] X.env)).all (fun x=>!x.1) && (backToKw cpos (keywordEach [] X.env)).all (fun x=>x.1.isSome)
  && decide (([e,f]:List Expr).length+([]:List Keyword).length+(if ([]:List Keyword).isEmpty then 0 else 1)<30))=true
 line:(apos.endLine == cpos.line)=true
 trees:backTo cpos (starEach [e,f] X.env)=[(false,eval e X.env),(false,eval f X.env)]
def HW(H:Hp)(a:Addr):Prop:=(∃ kvs,Rd H a (.dK kvs))∨∃ kvs,Rd H a (.dT kvs)
theorem B8{X:Cx}{pins:List (Addr×Obj)}{σ:St}{H:Hp}{s:Shared}{a:Addr}(I:Inv X pins σ H s)(d:HW H a) :
  s.TypeIs (.ref a) "dict"∧(∀ b,Value.ref a=.ref b→∃ ob,s.heap.get? b=some ob∧ob.dict=none)∧(a == sysModules)=false:=by
 rcases d with ⟨kvs,e⟩ | ⟨kvs,e⟩
 ·obtain⟨_,hd,vs,_,dd⟩:=pR I.hok e
  refine⟨dd.typeIs,fun b q=>?_,hd⟩
  cases q
  obtain⟨ob,_,_,h1,h2,_⟩:=dd
  exact⟨ob,h1,h2.2.1⟩
 ·obtain⟨_,hd,xs,_,dd⟩:=rJ I.hok e
  refine⟨dd.typeIs,fun b q=>?_,hd⟩
  cases q
  obtain⟨ob,_,_,h1,h2,_⟩:=dd
  exact⟨ob,h1,h2.2.1⟩
section
variable {X:Cx}{pins:List (Addr×Obj)}{σ:St}{H:Hp}{s:Shared}{a:Addr}{y d:V}{u r:Value}{o:Option V}{A:Around}{E:Value→Shared→Prop}
theorem EJ{Q:Value→Shared→Prop}(hu:A.units+1<cLine)(I:Inv X pins σ H s)(g:DGet H a y o)(ry:RelV y u)(h:∀ w' s',Inv X pins σ H s'→RelV (o.getD .non) w'→Q w' s') :
  wpAny (model X.prog X.w) A (call (.builtin "dict.get") [.ref a,u]) Q E s:=by
 rcases g with ⟨kvs,k,e,ey,l⟩ | ⟨kvs,k,b,e,ey,eb,l⟩
 ·subst ey
  obtain⟨z,hd,vs,rel,dd⟩:=pR I.hok e
  refine call_meetsIn PySem.F.slot_dict_get dd.typeIs PySem.F.entry_dict_get (PySem.F.args_dict_get_2 _ _) (meets_dict_get (bQ X.prog X.w) a (nQ ry) hd) ⟨_,dd.mapOf,h _ _ (I.tok _) ?_⟩
  rw[l]
  exact(rel.val k).getD rfl
 ·subst ey
  cases (show u=Value.ref b from ry)
  obtain⟨z,hd,xs,rel,dd⟩:=rJ I.hok e
  refine call_meetsIn PySem.F.slot_dict_get dd.typeIs PySem.F.entry_dict_get (PySem.F.args_dict_get_2 _ _) (meetsH_dict_get (tupleKind (bQ X.prog X.w)) a b hd) ⟨tupleKind_room_in1 hu,k,xs,nG I.hok eb,dd,h _ _ (I.tok _) ?_⟩
  rw[l]
  exact(rel.val k).getD rfl
end
def Ek(td ty:TE):TE:=fun σ H Q=>td σ H fun x H1=>∃ a,x=.ref a∧HW H1 a∧ty σ H1 fun y H2=>∃ o,DGet H2 a y o∧Q (o.getD .non) H2
section
variable {X:Cx}{o e f:Expr}{apos cpos:Pos}{td ty tx:TE}
theorem Cd(hu:X.A.units+1<cLine)(ho:PE X o td)(he:PE X e ty)(m:M1 X o "get" apos e cpos):PE X (.Call (.Attribute o "get" apos) [e] [] cpos) (Ek td ty):=by
 intro pins s σ H Q I h
 refine wpAny_Call_method m.base m.few m.line PySem.F.plainAttrs_dict PySem.F.slot_dict_get PySem.F.type_dict_get (bZ (ho pins s σ H _ I h) fun u s1 ⟨x,H1,I1,rx,a,ex,d,q1⟩=>?_)
 subst ex
 obtain rfl:u=Value.ref a:=rx
 obtain⟨t1,t2,_⟩:=B8 I1 d
 refine⟨t1,t2,?_⟩
 rw[m.trees]
 refine Calls.callWith_builtin rfl (Calls.evalArgs_plain (Calls.spliced_cons (bZ (he pins s1 σ H1 _ I1 q1) fun iv s2 ⟨y,H2,I2,ry,ov,g,q2⟩=>Calls.spliced_nil ?_)))
 exact EJ hu I2 g ry fun w' s3 I3 rw'=>⟨_,H2,I3,rw',q2⟩
end
def rM(xs:List V)(f:Nat→Nat)(l:List Nat):List V:=l.filterMap fun m=>xs[f m]?
theorem nN{xs:List V}{us:List Value}(r:Vals xs us)(f:Nat→Nat):∀ l:List Nat,Vals (rM xs f l) (l.filterMap fun m=>us[f m]?)
 | []=>.nil
 | m::l=>by
  have ih:=nN r f l
  unfold rM at *
  rw[List.filterMap_cons,List.filterMap_cons]
  cases hx:xs[f m]? with
  | none =>
   have:us[f m]?=none:=by
    have h1:=r.length
    have h2:=List.getElem?_eq_none_iff.mp hx
    exact List.getElem?_eq_none (by omega)
   rw[this]
   exact ih
  | some x =>
   obtain⟨u,hu,ru⟩:=r.get hx
   rw[hu]
   exact .cons ru ih
theorem Af(xs:List V)(f:Nat→Nat)(l:List Nat):(rM xs f l).length≤l.length:=List.length_filterMap_le _ _
section
variable {prog:Program}{w:World}{A:Around}{E:Value→Shared→Prop}{s:Shared}
theorem uZ{sl:Addr}{vu vk:Value}{j n:Nat}{Q:Int×Int×Nat→Shared→Prop}(hs:s.heap.IsSliceOf sl .none vu vk)(pu:IsPart vu (some (j:Int)))(pk:IsPart vk (some 2))(hj:j≤n)
  (h:Q (0,2,(j+1) / 2) s):wpAny (model prog w) A (Builtin.Slice.sliceApplied (.ref sl) (pure (n:Int))) Q E s:=by
 obtain⟨os,hos,hcs,hds⟩:=id hs
 unfold Builtin.Slice.sliceApplied Builtin.Slice.sliceFields
 refine wpAny_bind (wpAny_bind (wpAny_field hos hds (x:=.none) rfl (wpAny_bind (wpAny_field hos hds (x:=vu) rfl (wpAny_bind (wpAny_field hos hds (x:=vk) rfl (wpAny_pure ?_)))))))
 refine wpAny_bind (HT.slicePart_ pk ?_)
 show wpAny _ _ (if ((2:Int) == 0)=true then _ else _) _ _ s
 rw[if_neg (by decide)]
 refine wpAny_bind (HT.slicePart_ .none (wpAny_bind (HT.slicePart_ pu (wpAny_bind (wpAny_pure ?_)))))
 show wpAny _ _ (match Builtin.Slice.sliceAdjust none (some (j:Int)) 2 (n:Int) with | (lo,hi)=>pure (lo,(2:Int),Builtin.Slice.slicePlaces lo hi 2)) _ _ s
 have e1:Builtin.Slice.sliceAdjust none (some (j:Int)) 2 (n:Int)=(0,(j:Int)):=by
  unfold Builtin.Slice.sliceAdjust
  have h1:¬ ((2:Int)<0):=by omega
  have h2:¬ ((j:Int)<0):=by omega
  simp only [if_neg h1,if_neg h2]
  congr 1
  omega
 rw[e1]
 show wpAny _ _ (pure ((0:Int),(2:Int),Builtin.Slice.slicePlaces 0 (j:Int) 2)) _ _ s
 have e2:Builtin.Slice.slicePlaces 0 (j:Int) 2=(j+1) / 2:=by
  unfold Builtin.Slice.slicePlaces
  rw[if_pos (by omega)]
  split <;> omega
 rw[e2]
 exact wpAny_pure h
theorem AN{t sl:Addr}{items:Array Value}{vu vk:Value}{j:Nat}{Q:Value→Shared→Prop}(ht:IsTup s.heap t items)(hs:s.heap.IsSliceOf sl .none vu vk)(pu:IsPart vu (some (j:Int)))(pk:IsPart vk (some 2))(hj:j≤items.size)
  (h:Q (.ref s.heap.objs.size) { s with heap:=s.heap.push { cls:=.type "tuple",data:=.seq ((List.range ((j+1) / 2)).filterMap fun m=>items.toList[2 * m]?).toArray } })
  (hsz:items.size≤sizeLine):wpAny (model prog w) A (getItem (.ref t) (.ref sl)) Q E s:=by
 have htake:sizeOk (.seq ((List.range ((j+1) / 2)).filterMap fun m=>items.toList[2 * m]?).toArray):=by
  show ((List.range ((j+1) / 2)).filterMap fun m=>items.toList[2 * m]?).toArray.size≤sizeLine
  rw[List.size_toArray]
  refine Nat.le_trans (List.length_filterMap_le _ _) ?_
  rw[List.length_range]
  omega
 obtain⟨os,hos,hcs,hds⟩:=id hs
 have hTs:s.TypeIs (.ref sl) "slice":=⟨os,hos,hcs⟩
 unfold getItem
 try with_reducible refine wpAny_holding ?_
 first | refine wpAny_bind (wpAny_pure ?_) | skip
 refine wpAny_bind (wpAny_sequenceKey ht.typeIs (by decide) ?_)
 refine wpAny_bind (wpAny_callSpecial?_slot (name:=Str.ofString "__getitem__") ht.typeIs PyProof.Rows.slot_tuple_getitem
  (wpAny_call_entry PyProof.Rows.slot_tuple_getitem ht.typeIs entry_tuple_getitem ?_ (args_tuple_getitem _ _)))
 show wpAny _ _ (Builtin.Tuple.tupleItemsOf (.ref t) >>= _) _ _ s
 refine wpAny_bind (tupleItemsOf_ ht ?_)
 refine wpAny_bind (wpAny_typeOf hTs ?_)
 rw[if_pos (by decide)]
 refine wpAny_bind (uZ hs pu pk hj ?_)
 show wpAny _ _ (if ((0:Int) == 0 && (2:Int) == 1 && ((j+1) / 2) == items.size)=true then _ else _) _ _ s
 rw[if_neg (by simp)]
 have e:(fun (m:Nat)=>items[((0:Int)+(m:Int) * 2).toNat]?)=fun m=>items.toList[2 * m]?:=by
  funext m
  have:((0:Int)+(m:Int) * 2).toNat=2 * m:=by omega
  rw[this]
  simp
 rw[e]
 first
  | exact wpAny_bind (m:=Builtin.Tuple.tupleExact _) (wpAny_newObj_type (wpAny_pure ⟨_,rfl,wpAny_pure h⟩) htake)
  | exact wpAny_bind (m:=Builtin.Tuple.tupleExact _) (wpAny_newObj_type (wpAny_bind (wpAny_pure (wpAny_pure ⟨_,rfl,wpAny_pure h⟩))) htake)
  | exact wpAny_bind (wpAny_bind (m:=Builtin.Tuple.tupleExact _) (wpAny_newObj_type (wpAny_pure (wpAny_pure ⟨_,rfl,wpAny_pure h⟩)) htake))
  | exact wpAny_bind (wpAny_bind (m:=Builtin.Tuple.tupleExact _) (wpAny_newObj_type (wpAny_pure ⟨_,rfl,wpAny_pure h⟩) htake))
end
def HV(K:PySem.W.Frag):V→Option Int→Option Int→Option Int→Hp→VK→Prop:=fun x lo hi st H Q=>∃ (a:Addr) (xs:List V) (j:Nat),x=.ref a∧SqT K H a xs∧lo=none∧hi=some (j:Int)∧st=some 2∧j≤xs.length∧∀ p,H p=none→Q (.ref p) (upd H p (.tup (rM xs (2 * ·) (List.range ((j+1) / 2)))))
theorem Bx{X:Cx}{K:PySem.W.Frag}(hK:X.K=K):Ho X (HV K):=by
 subst hK
 intro pins s σ H x v vl vu vk lo hi st sl Q I rx hs pl pu pk h
 obtain⟨a,xs,j,rfl,hx,rfl,rfl,rfl,hj,q⟩:=h
 cases rx
 cases pl
 obtain⟨its,r,ht,hz⟩:=I.tuple hx
 have hlen:=r.length
 refine⟨"tuple",_,PyProof.Rows.slot_tuple_getitem.lookup,ht.typeIs,?_⟩
 refine AN ht hs pu pk (by rw[List.size_toArray];omega) ?_ (by rw[List.size_toArray];omega)
 have rv:=nN r (2 * ·) (List.range ((j+1) / 2))
 have pl:=Af xs (2 * ·) (List.range ((j+1) / 2))
 rw[List.length_range] at pl
 refine⟨.ref s.heap.objs.size,_,I.laid (t':=s.toks) (o:=.tup (rM xs (2 * ·) (List.range ((j+1) / 2)))) (fun b ob q=>Heap.get?_push_of_some _ q) (Nat.le_refl _) ?_,rfl,q _ (I.hok.fresh (Nat.le_refl _))⟩
 refine⟨by omega,_,rv,?_⟩
 exact⟨IsTup.new _ _,NoD.new _ _⟩
theorem nL:∀ (n:Nat) (w:List Nat) (l:List Value),w.length=n→l.length=n→(∀ (j:Nat) (v:Value),l[j]?=some v→∃ (c:Nat) (u:Tok),w[j]?=some c∧v=Value.str ⟨#[c]⟩ u)→Vals (w.map fun c=>V.str (S [c])) l
 | 0,w,l,h1,h2,_=>by
  have e1:=List.length_eq_zero_iff.mp h1
  have e2:=List.length_eq_zero_iff.mp h2
  subst e1 e2
  exact .nil
 | n+1,[],l,h1,_,_=>by simp at h1
 | n+1,c::w,[],_,h2,_=>by simp at h2
 | n+1,c::w,v::l,h1,h2,h3=>by
  obtain⟨c',u,hc',rfl⟩:=h3 0 v rfl
  obtain rfl:c=c':=by simpa using hc'
  exact .cons ⟨u,rfl⟩ (nL n w l (by simpa using h1) (by simpa using h2) fun j v hv=>by simpa using h3 (j+1) v (by simpa using hv))
theorem pM{X:Cx}(hc:X.calm=true):fX X (.type "tuple") (fun xs H Q=>∃ w:List Nat,xs=[.str (S w)]∧w.length≤1000∧∀ l,H l=none→Q (.ref l) (upd H l (.tup (w.map fun c=>V.str (S [c]))))):=by
 intro pins s σ H xs us Q I r h
 obtain⟨w,rfl,hz,q⟩:=h
 obtain⟨u,rfl,ru⟩:=r.one
 obtain⟨t,rfl⟩:=ru
 have hz2:w.length≤sizeLine:=Nat.le_of_lt (aU hz)
 refine call_tuple_str (I.ok.hd hc) (S w) t (fun h' tk acc hk hit=>?_) (by simpa using hz2)
 have hn:acc.size=w.length:=by simpa using hit.1
 have hv:Vals (w.map fun c=>V.str (S [c])) acc.toList:=nL w.length w acc.toList rfl (by simpa using hn) fun j v hv=>by
  obtain⟨c,u,hc,hv'⟩:=hit.2 j v (by simpa using hv)
  exact⟨c,u,by simpa using hc,hv'⟩
 have I1:Inv X pins σ H { s with heap:=h',toks:=tk }:=I.kept hk
 refine⟨.ref h'.objs.size,_,I1.laid (t':=tk) (o:=.tup (w.map fun c=>V.str (S [c]))) (fun b o e=>Heap.get?_push_of_some _ e) (Nat.le_refl _) ⟨by rw[List.length_map];exact hz2,acc.toList,hv,?_⟩,rfl,q _ (I1.hok.fresh (Nat.le_refl _))⟩
 have:=IsTup.new h' acc
 exact⟨by simpa using this,NoD.new _ _⟩
end L2
namespace Lw
open PySem PySem.Spec PyProof.Rows L2 Ma MaR
def bX(rs:List (List Nat)):List V:=rs.map fun x=>V.str (S x)
theorem aW(rs:List (List Nat)):(bX rs).length=rs.length:=by unfold bX;rw[List.length_map]
theorem dQ{rs:List (List Nat)}{i:Nat}{v:V}(h:(bX rs)[i]?=some v):∃ x,rs[i]?=some x∧v=.str (S x):=by
 unfold bX at h
 rw[List.getElem?_map] at h
 cases hq:rs[i]? with
 | none=>rw[hq] at h;cases h
 | some x=>rw[hq] at h;exact⟨x,rfl,(Option.some.inj h).symm⟩
theorem sF{rs:List (List Nat)}{i:Nat}{x:List Nat}(h:rs[i]?=some x):(bX rs)[i]?=some (.str (S x)):=by unfold bX;rw[List.getElem?_map,h];rfl
structure RT(rs:List (List Nat))(n M:Nat):Prop where
 len:rs.length=n
 all:∀ x∈rs,AllL x
 le:∀ x∈rs,x.length≤M
def tell(rs:List (List Nat))(c:Nat):List Nat:=if bH c=true then rs.getD (c - 97) [] else back (rs.getD (c - 65) [])
def told(rs:List (List Nat))(w:List Nat):List Nat:=w.flatMap (tell rs)
def retl(rs:List (List Nat))(w:List Nat):List Nat:=lay (told rs w)
theorem kI{rs:List (List Nat)}{P:List Nat→Prop}(h0:P [])(h:∀ x∈rs,P x)(i:Nat):P (rs.getD i []):=by
 rw[List.getD_eq_getElem?_getD]
 cases hq:rs[i]? with
 | none=>exact h0
 | some x=>exact h x (List.mem_of_getElem? hq)
section
variable {rs:List (List Nat)}{n M:Nat}
theorem RT.getA(r:RT rs n M)(i:Nat):AllL (rs.getD i []):=kI AllL.nil r.all i
theorem RT.getL(r:RT rs n M)(i:Nat):(rs.getD i []).length≤M:=kI (P:=fun x=>x.length≤M) (Nat.zero_le _) r.le i
theorem iC(r:RT rs n M)(c:Nat):AllL (tell rs c):=by
 unfold tell
 split
 ·exact r.getA _
 ·exact aL (r.getA _)
theorem kE(r:RT rs n M)(c:Nat):(tell rs c).length≤M:=by
 unfold tell
 split
 ·exact r.getL _
 ·rw[bG];exact r.getL _
theorem oE(r:RT rs n M){c:Nat}(h:bY c):tell rs (con c)=back (tell rs c):=by
 have hc:(bH c=true∧bH (con c)=false∧con c - 65=c - 97)∨(bH c=false∧bH (con c)=true∧con c - 97=c - 65):=by
  rcases aP h with rfl | rfl | rfl | rfl | rfl | rfl | rfl | rfl <;> decide
 unfold tell
 rcases hc with ⟨h1,h2,h3⟩ | ⟨h1,h2,h3⟩
 ·rw[if_pos h1,if_neg (by rw[h2];decide),h3]
 ·rw[if_pos h2,if_neg (c:=bH c=true) (by rw[h1];decide),h3,dF (r.getA _)]
theorem iN(u v:List Nat):told rs (u++v)=told rs u++told rs v:=by unfold told;rw[List.flatMap_append]
theorem cW(c:Nat)(w:List Nat):told rs (c::w)=tell rs c++told rs w:=by unfold told;rw[List.flatMap_cons]
theorem uL:told rs []=[]:=rfl
theorem eY(r:RT rs n M)(w:List Nat):AllL (told rs w):=by
 induction w with
 | nil=>exact AllL.nil
 | cons c w ih=>rw[cW];exact AllL.app.mpr ⟨iC r c,ih⟩
theorem kA(r:RT rs n M)(w:List Nat):(told rs w).length≤w.length * M:=by
 induction w with
 | nil=>simp[told]
 | cons c w ih =>
  rw[cW,List.length_append,List.length_cons,Nat.succ_mul]
  have:=kE r c
  omega
theorem AI(r:RT rs n M)(w:List Nat):AllL (retl rs w):=dN (eY r w)
theorem oX(r:RT rs n M)(w:List Nat):(retl rs w).length≤w.length * M:=Nat.le_trans (eQ _) (kA r w)
theorem Ar(r:RT rs n M){w:List Nat}(h:AllL w):told rs (back w)=back (told rs w):=by
 induction w with
 | nil=>rfl
 | cons c w ih =>
  obtain⟨hc,hw⟩:=AllL.cons.mp h
  have e:back (c::w)=back w++[con c]:=by unfold back;simp
  rw[e,iN,ih hw,cW c w,cY,cW,uL,List.append_nil,oE r hc]
theorem Ce(r:RT rs n M):∀ (k:Nat) (w:List Nat),w.length=k→AllL w→lay (told rs (lay w))=lay (told rs w):=by
 intro k
 induction k using Nat.strongRecOn with
 | ind k ih =>
  intro w hk hw
  by_cases hp:∀ j,¬ GU w j
  ·rw[dU (iH hp)]
  ·obtain⟨j,hj⟩:∃ j,GU w j:=Classical.byContradiction fun c=>hp fun j hj=>c ⟨j,hj⟩
   obtain⟨a,b,e,hab,hl⟩:=qR hj
   have e1:=C6 hw hj
   generalize hu:w.take j=u at *
   generalize hv:w.drop (j+2)=v at *
   have hw':AllL (u++a::b::v):=by rw[← e];exact hw
   obtain⟨ha1,ha2⟩:=AllL.app.mp hw'
   obtain⟨_,ha3⟩:=AllL.cons.mp ha2
   obtain⟨hb,ha4⟩:=AllL.cons.mp ha3
   have huv:AllL (u++v):=AllL.app.mpr ⟨ha1,ha4⟩
   have hlen:(u++v).length<k:=by
    rw[← hk,e,List.length_append,List.length_append,List.length_cons,List.length_cons];omega
   have q:=ih _ hlen (u++v) rfl huv
   rw[← e1,q,e,iN,iN,cW,cW,hab,oE r hb]
   have e9:told rs u++(back (tell rs b)++(tell rs b++told rs v))=told rs u++(back (tell rs b)++tell rs b)++told rs v:=by simp[List.append_assoc]
   rw[e9,← hG _ _ _ (eY r u) (AllL.app.mpr ⟨aL (iC r b),iC r b⟩) (eY r v),dX (iC r b),List.append_nil]
theorem nB(r:RT rs n M){w:List Nat}(hw:AllL w):retl rs (lay w)=retl rs w:=Ce r _ w rfl hw
theorem Ay(r:RT rs n M){w:List Nat}(hw:AllL w):retl rs (back w)=back (retl rs w):=by unfold retl;rw[Ar r hw,gI (eY r w)]
end
def bW(n:Nat):List Nat:=[97,98,99,100].take n
def bN(n:Nat):List (List Nat):=(bW n).map fun c=>[c]
theorem Cs(n:Nat):bX (bN n)=aV (bW n):=by unfold bX bN aV;rw[List.map_map];rfl
theorem zO{n:Nat}(h1:1≤n)(h4:n≤4):n=1∨n=2∨n=3∨n=4:=by omega
theorem iP{n:Nat}(h1:1≤n)(h4:n≤4):RT (bN n) n 1:=by
 refine⟨?_,?_,?_⟩
 ·rcases zO h1 h4 with rfl | rfl | rfl | rfl <;> rfl
 ·intro x hx
  obtain⟨c,hc,rfl⟩:=List.mem_map.mp hx
  intro d hd
  rw[List.mem_singleton.mp hd]
  have:c∈[97,98,99,100]:=List.mem_of_mem_take hc
  simp only [List.mem_cons,List.not_mem_nil,or_false] at this
  unfold bY
  omega
 ·intro x hx
  obtain⟨c,_,rfl⟩:=List.mem_map.mp hx
  exact Nat.le_refl _
theorem qZ{n:Nat}(h1:1≤n)(h4:n≤4){c:Nat}(h:c∈aK n):tell (bN n) c=[c]:=by
 have hL:=aP (aJ h)
 rcases zO h1 h4 with rfl | rfl | rfl | rfl <;> rcases hL with rfl | rfl | rfl | rfl | rfl | rfl | rfl | rfl <;> revert h <;> decide
theorem qY{n:Nat}(h1:1≤n)(h4:n≤4){w:List Nat}(h:OfN n w):told (bN n) w=w:=by
 induction w with
 | nil=>rfl
 | cons c w ih=>rw[cW,qZ h1 h4 (h c List.mem_cons_self),ih fun d hd=>h d (List.mem_cons_of_mem _ hd)];rfl
theorem pT{n:Nat}(h1:1≤n)(h4:n≤4){w:List Nat}(h:OfN n w)(hp:bI w):retl (bN n) w=w:=by unfold retl;rw[qY h1 h4 h,dU hp]
def aT(f s:List (List Nat)):List (List Nat):=f.map (retl s)
theorem rB(f s:List (List Nat))(i:Nat):(aT f s).getD i []=retl s (f.getD i []):=by
 unfold aT
 rw[List.getD_eq_getElem?_getD,List.getD_eq_getElem?_getD,List.getElem?_map]
 cases f[i]? <;> rfl
theorem qN{f s:List (List Nat)}{n m M L:Nat}(hf:RT f n M)(hs:RT s m L)(c:Nat):tell (aT f s) c=lay (told s (tell f c)):=by
 unfold tell
 split
 ·rw[rB];rfl
 ·rw[rB,← Ay hs (hf.getA _)];rfl
theorem nY{g:Nat→List Nat}:∀ (w:List Nat),(∀ c,AllL (g c))→lay (w.flatMap fun c=>lay (g c))=lay (w.flatMap g)
 | [],_=>rfl
 | c::w,h=>by
  have ih:=nY w h
  have ha:∀ w:List Nat,AllL (w.flatMap g):=fun w d hd=>by
   obtain⟨c,_,hc⟩:=List.mem_flatMap.mp hd
   exact h c d hc
  have hb:∀ w:List Nat,AllL (w.flatMap fun c=>lay (g c)):=fun w d hd=>by
   obtain⟨c,_,hc⟩:=List.mem_flatMap.mp hd
   exact dN (h c) d hc
  rw[List.flatMap_cons,List.flatMap_cons,eF _ _ (h c),← cP _ _ (h c) (hb w),ih,cP _ _ (h c) (ha w)]
theorem zR(f s:List (List Nat))(w:List Nat):(w.flatMap fun c=>told s (tell f c))=told s (told f w):=by
 induction w with
 | nil=>rfl
 | cons c w ih=>rw[List.flatMap_cons,cW,iN,ih]
theorem qC{f s:List (List Nat)}{n m M L:Nat}(hf:RT f n M)(hs:RT s m L)(w:List Nat):retl (aT f s) w=retl s (retl f w):=by
 rw[show retl f w=lay (told f w) from rfl,nB hs (eY hf w)]
 unfold retl
 rw[← zR,← nY w fun c=>eY hs _]
 congr 1
 unfold told
 congr 1
 funext c
 exact qN hf hs c
theorem rR{f s:List (List Nat)}{n m M L:Nat}(hf:RT f n M)(hs:RT s m L):RT (aT f s) n (M * L):=by
 refine⟨by unfold aT;rw[List.length_map];exact hf.len,fun x hx=>?_,fun x hx=>?_⟩
 ·obtain⟨y,_,rfl⟩:=List.mem_map.mp hx
  exact AI hs y
 ·obtain⟨y,hy,rfl⟩:=List.mem_map.mp hx
  exact Nat.le_trans (oX hs y) (Nat.mul_le_mul_right _ (hf.le y hy))
theorem lT{f s t:List (List Nat)}{n m k M L J:Nat}(hf:RT f n M)(hs:RT s m L)(ht:RT t k J):aT (aT f s) t=aT f (aT s t):=by
 unfold aT
 rw[List.map_map]
 refine List.map_congr_left fun x hx=>?_
 exact(qC hs ht x).symm
theorem _root_.L2.SqT.same{K:PySem.W.Frag}{H H':Hp}{a:Addr}{xs:List V}(s:Same H H')(h:SqT K H a xs):SqT K H' a xs:=by
 rcases h with (h | ⟨o,h⟩) | h
 ·exact .inl (.inl (s _ _ h))
 ·exact .inl (.inr ⟨o,s _ _ h⟩)
 ·exact .inr h
theorem SqT.new{K:PySem.W.Frag}{H:Hp}{a p:Addr}{xs:List V}{o:HO}(h:SqT K H a xs)(hp:H p=none):SqT K (upd H p o) a xs:=h.same (Same.new hp)
def eT:Sp:=fun vs H Q _=>∃ n:Nat,vs=[.int (n:Nat)]∧1≤n∧n≤4∧∀ (p:Addr) (H':Hp),H p=none→Same H H'→H' p=some (.tup (bX (bN n)))→Q (.ref p) H'
def IF(kvs:List (cM×V))(rs:List (List Nat)):Prop:=∀ c,c∈aK rs.length→cX kvs (.inr (S [c]))=some (.str (S (tell rs c)))
def DQ(K:PySem.W.Frag):Sp:=fun vs H Q _=>∃ (a:Addr) (rs:List (List Nat)) (n M:Nat),vs=[.ref a]∧SqT K H a (bX rs)∧RT rs n M∧1≤n∧n≤4∧M≤1000∧∀ (p:Addr) (kvs:List (cM×V)) (H':Hp),H p=none→Same H H'→H' p=some (.dK kvs)→IF kvs rs→Q (.ref p) H'
def iJ(K:PySem.W.Frag):Sp:=fun vs H Q _=>∃ (a:Addr) (rs:List (List Nat)) (n M:Nat) (w:List Nat),vs=[.ref a,.str (S w)]∧SqT K H a (bX rs)∧RT rs n M∧1≤n∧n≤4∧M≤1000∧OfN n w∧w.length≤60000∧w.length * M≤60000∧∀ H',Same H H'→Q (.str (S (retl rs w))) H'
def nX(K:PySem.W.Frag):Sp:=fun vs H Q _=>∃ (a b:Addr) (f s:List (List Nat)) (n M L:Nat),vs=[.ref a,.ref b]∧SqT K H a (bX f)∧SqT K H b (bX s)∧RT f n M∧RT s n L∧(∀ x∈f,OfN n x)∧1≤n∧n≤4∧M≤1000∧L≤1000∧M * L≤9000∧∀ (p:Addr) (H':Hp),H p=none→Same H H'→H' p=some (.tup (bX (aT f s)))→Q (.ref p) H'
def letV:List V:=aV lets
theorem uG:letV.length=8:=rfl
theorem CS{xs:List V}{i:Array Value}(h:Vals xs i.toList)(hl:xs.length≤1000):i.size≤sizeLine:=by
 have h2:xs.length=i.toList.length:=h.length
 have h3:i.toList.length=i.size:=Array.length_toList
 exact aN (by omega)
theorem zQ{n:Nat}(h1:1≤n)(h4:n≤4):rM letV (2 * ·) (List.range ((2 * n+1) / 2))=bX (bN n):=by
 rcases zO h1 h4 with rfl | rfl | rfl | rfl <;> rfl
def Dm(kvs:List (cM×V))(rs:List (List Nat))(i:Nat):Prop:=∀ j,j<i→cX kvs (.inr (S [97+j]))=some (.str (S (tell rs (97+j))))∧cX kvs (.inr (S [65+j]))=some (.str (S (tell rs (65+j))))
theorem Fa(a b:Nat):((Sum.inr (S [a]):cM)=Sum.inr (S [b]))↔a=b:=by
 constructor
 ·intro h
  have:=qP (Sum.inr.inj h)
  simpa using this
 ·rintro rfl;rfl
theorem Db{rs:List (List Nat)}{kvs:List (cM×V)}{i:Nat}{r:List Nat}(hi:rs[i]?=some r)(hi4:i<4)(h:Dm kvs rs i) :
  Dm (dM (dM kvs (.inr (S [97+i])) (.str (S r))) (.inr (S [con (97+i)])) (.str (S (back r)))) rs (i+1):=by
 have ec:con (97+i)=65+i:=by unfold con;rw[if_pos (by omega)];omega
 have e1:tell rs (97+i)=r:=by
  unfold tell
  rw[if_pos (by unfold bH;exact decide_eq_true (by omega)),show 97+i - 97=i by omega,List.getD_eq_getElem?_getD,hi];rfl
 have e2:tell rs (65+i)=back r:=by
  unfold tell
  rw[if_neg (by unfold bH;simp;omega),show 65+i - 65=i by omega,List.getD_eq_getElem?_getD,hi];rfl
 intro j hj
 rw[kX,kX,kX,kX,ec]
 simp only [Fa]
 by_cases c:j=i
 ·subst c
  rw[if_neg (by omega),if_pos rfl,if_pos rfl,e1,e2]
  exact⟨rfl,rfl⟩
 ·rw[if_neg (by omega),if_neg (by omega),if_neg (by omega),if_neg (by omega)]
  exact h j (by omega)
theorem C5{rs:List (List Nat)}{kvs:List (cM×V)}{n:Nat}(hl:rs.length=n)(h1:1≤n)(h4:n≤4)(h:Dm kvs rs n):IF kvs rs:=by
 intro c hc
 rw[hl] at hc
 have hd:(c - 97<n∧97≤c)∨(c - 65<n∧c<97∧65≤c):=by
  have hL:=aP (aJ hc)
  rcases zO h1 h4 with rfl | rfl | rfl | rfl <;> rcases hL with rfl | rfl | rfl | rfl | rfl | rfl | rfl | rfl <;> revert hc <;> decide
 rcases hd with ⟨h2,h3⟩ | ⟨h2,h3,h5⟩
 ·have:=(h (c - 97) h2).1
  rw[show 97+(c - 97)=c by omega] at this
  exact this
 ·have:=(h (c - 65) h2).2
  rw[show 65+(c - 65)=c by omega] at this
  exact this
theorem kQ{n i:Nat}(h4:n≤4){v:V}(h:(bX (bN n))[i]?=some v):v=.str (S [97+i])∧i<n:=by
 have hi:i<n:=by
  have:=(List.getElem?_eq_some_iff.mp h).1
  rw[aW] at this
  unfold bN bW at this
  rw[List.length_map,List.length_take] at this
  omega
 obtain⟨x,hx,rfl⟩:=dQ h
 unfold bN bW at hx
 rw[List.getElem?_map,List.getElem?_take_of_lt hi] at hx
 have:i=0∨i=1∨i=2∨i=3:=by omega
 rcases this with rfl | rfl | rfl | rfl <;> (cases hx;exact⟨rfl,hi⟩)
theorem lN:(Str.ofString "abcd":Str)=S [97,98,99,100]:=by decide +kernel
theorem xT{c:Nat}(h:bY c):(Builtin.Str.occurrences (Str.ofString "abcd") (S [lo c]) 0 (Str.ofString "abcd").length 1).isEmpty=false∧Txt.find (Str.ofString "abcd") (S [lo c])=((lo c - 97:Nat):Int):=by
 rcases aP h with rfl | rfl | rfl | rfl | rfl | rfl | rfl | rfl <;> exact⟨by decide +kernel,by decide +kernel⟩
theorem Gb{n c:Nat}(h:c∈aK n){l:Nat}(hl:l=n)(h1:1≤n)(h4:n≤4):lo c - 97<l:=by
 subst hl
 have hL:=aP (aJ h)
 rcases zO h1 h4 with rfl | rfl | rfl | rfl <;> rcases hL with rfl | rfl | rfl | rfl | rfl | rfl | rfl | rfl <;> revert h <;> decide
theorem AX{rs:List (List Nat)}{n:Nat}(h1:1≤n)(h4:n≤4)(h:∀ x∈rs,OfN n x)(c:Nat):OfN n (tell rs c):=by
 unfold tell
 split
 ·exact kI (P:=OfN n) OfN.nil h _
 ·exact(kI (P:=OfN n) OfN.nil h _).back (by omega) (by omega)
theorem oC{rs:List (List Nat)}{n:Nat}(h1:1≤n)(h4:n≤4)(h:∀ x∈rs,OfN n x)(w:List Nat):OfN n (retl rs w):=by
 refine OfN.lay ?_
 intro d hd
 obtain⟨c,_,hc⟩:=List.mem_flatMap.mp hd
 exact AX h1 h4 h c d hc
theorem tJ{f s:List (List Nat)}{n:Nat}(h1:1≤n)(h4:n≤4)(h:∀ x∈s,OfN n x):∀ x∈aT f s,OfN n x:=by
 intro x hx
 obtain⟨y,_,rfl⟩:=List.mem_map.mp hx
 exact oC h1 h4 h y
theorem CP{n:Nat}(h1:1≤n)(h4:n≤4):∀ x∈bN n,OfN n x:=by
 intro x hx c hc
 obtain⟨d,hd,rfl⟩:=List.mem_map.mp hx
 rw[List.mem_singleton.mp hc]
 rcases zO h1 h4 with rfl | rfl | rfl | rfl <;> (unfold bW at hd;simp at hd;revert hd;first | (rintro rfl;decide) | (rintro(rfl | rfl) <;> decide) | (rintro(rfl | rfl | rfl) <;> decide) | (rintro(rfl | rfl | rfl | rfl) <;> decide))
theorem ER{fl sc p:Addr}{H H':Hp}{xs:List V}(f:IsFl H fl sc)(k:Kp fl H H')(h:H p=some (.tup xs)):H' p=some (.tup xs):=by
 obtain⟨ns,i,x,b,c,h1,_⟩:=f
 exact k _ _ h fun e=>by rw[e,h1] at h;cases h
end Lw
namespace PySem
end PySem
namespace L2
open PySem PySem.Spec PyProof.Rows
end L2
namespace L2
open PySem PySem.Spec PyProof.Rows PySem.Calls
end L2
namespace PySem
open Sem (wp)
section
variable {prog:Program}{w:World}{A:Around}{E:Value→Shared→Prop}{s:Shared}
structure ZStL(h:Heap)(z a b i j t u:Addr)(k:Nat)(f0:Value):Prop where
 zip:IsZip h z a b f0
 its:IsPair h a (.ref i) (.ref j)
 own:∃ p q,IsPair h b p q
 one:h.IsTupleIter i t k
 two:h.IsListIter j u k
theorem ZStL.at{h h':Heap}{z a b i j t u:Addr}{k:Nat}{f0:Value}(S:ZStL h z a b i j t u k f0)(kp:∀ c∈[z,a,b,i,j],∀ o,h.get? c=some o→h'.get? c=some o):ZStL h' z a b i j t u k f0:=by
 obtain⟨p,q,ho⟩:=S.own
 obtain⟨o1,g1,r1⟩:=S.one
 obtain⟨o2,g2,r2⟩:=S.two
 exact⟨kp z (by simp) _ S.zip,kp a (by simp) _ S.its,⟨p,q,kp b (by simp) _ ho⟩,⟨o1,kp i (by simp) _ g1,r1⟩,⟨o2,kp j (by simp) _ g2,r2⟩⟩
theorem xC{z a b i j t u:Addr}{k:Nat}{xs ys:Array Value}{x y:Value}{Q:Value→Shared→Prop}(D:ZApart z a b i j t u)(S:ZStL s.heap z a b i j t u k .none)
  (ht:s.heap.IsTuple t xs) (hu:s.heap.IsList u ys) (hx:xs[k]?=some x) (hy:ys[k]?=some y)
  (hQ:∀ g,ZStL g z a b i j t u (k+1) (rawInt s.heap.objs.size)→IsPair g s.heap.objs.size x y→g.objs.size=s.heap.objs.size+1→(∀ c o,c≠z→c≠b→c≠i→c≠j→s.heap.get? c=some o→g.get? c=some o)→Q (.ref s.heap.objs.size) { s with heap:=g }) :
  wpAny (model prog w) A (Builtin.«zip.__next__» ⟨[.ref z],[]⟩) (fun fin s'=>∃ v,fin=.done (.ret v)∧Q v s') E s:=by
 obtain⟨hz,hI,⟨p,q,hO⟩,h1,h2⟩:=S
 show wpAny _ _ (field (.ref z) 2 >>= _) _ _ _
 refine wpAny_bind (wpAny_field hz rfl (x:=.bool false) rfl ?_)
 show wpAny _ _ (field (.ref z) 3 >>= _) _ _ _
 refine wpAny_bind (wpAny_field hz rfl (x:=.ref a) rfl (wpAny_bind (wpAny_seqItems hI rfl ?_)))
 show wpAny _ _ (Builtin.SmallTypes.ownedTupleIsFree (.ref z) >>= _) _ _ _
 unfold Builtin.SmallTypes.ownedTupleIsFree
 refine wpAny_bind (wpAny_bind (wpAny_field hz rfl (x:=.none) rfl (wpAny_pure ?_)))
 simp only [if_true]
 refine wpAny_bind (wpAny_rule (wpAny_bind (wpAny_field hz rfl (x:=.ref b) rfl (wpAny_bind (wpAny_setField_rec hz (by simp) fun g1 z1 e1=>?_)))))
 replace z1:IsZip g1 z a b .ellipsis:=z1
 refine wpAny_bind ?_
 simp only [List.zipIdx_cons,List.zipIdx_nil,List.forIn_cons,List.forIn_nil]
 refine wpAny_bind (wpAny_bind (wpAny_onRaise ?_))
 show wpAny _ _ (Builtin.SmallTypes.nextOf (.ref i) >>= _) _ _ _
 refine wpAny_bind (fP (h1.extBut e1.extBut D.iz) (ht.extBut e1.extBut D.tz) hx fun g2 i2 e2=>wpAny_pure ?_)
 have o2:IsPair g2 b p q:=e2.extBut _ _ D.bi (e1.extBut _ _ D.bz hO)
 refine wpAny_bind (wpAny_seqItems o2 rfl (wpAny_bind (wpAny_updateSeq_pair o2 fun g3 o3 e3=>wpAny_bind (wpAny_letGo (wpAny_pure ?_)))))
 replace o3:IsPair g3 b x q:=o3
 refine wpAny_bind (wpAny_bind (wpAny_onRaise ?_))
 show wpAny _ _ (Builtin.SmallTypes.nextOf (.ref j) >>= _) _ _ _
 have j3:=((h2.extBut e1.extBut D.jz).extBut e2.extBut D.ij.symm).extBut e3.extBut D.bj.symm
 have u3:=((hu.extBut e1.extBut D.uz).extBut e2.extBut D.ui).extBut e3.extBut D.ub
 refine wpAny_bind (wpAny_nextOf_list_item j3 u3 hy fun g4 j4 e4=>wpAny_pure ?_)
 have o4:IsPair g4 b x q:=e4.extBut _ _ D.bj o3
 refine wpAny_bind (wpAny_seqItems o4 rfl (wpAny_bind (wpAny_updateSeq_pair o4 fun g5 o5 e5=>wpAny_bind (wpAny_letGo (wpAny_pure (wpAny_pure ?_))))))
 replace o5:IsPair g5 b x y:=o5
 refine wpAny_bind (wpAny_seqItems o5 rfl (wpAny_bind (wpAny_newTuple ?_)))
 have sz:g5.objs.size=s.heap.objs.size:=by rw[e5.1,e4.1,e3.1,e2.1,e1.1]
 have z5:IsZip g5 z a b .ellipsis:=e5.extBut _ _ D.bz.symm (e4.extBut _ _ D.jz.symm (e3.extBut _ _ D.bz.symm (e2.extBut _ _ D.iz.symm z1)))
 have kp:∀ c o,c≠z→c≠b→c≠i→c≠j→s.heap.get? c=some o→g5.get? c=some o:=fun c o c1 c2 c3 c4 e=>e5.extBut _ _ c2 (e4.extBut _ _ c4 (e3.extBut _ _ c2 (e2.extBut _ _ c3 (e1.extBut _ _ c1 e))))
 have i5:g5.IsTupleIter i t (k+1):=((i2.extBut e3.extBut D.bi.symm).extBut e4.extBut D.ij).extBut e5.extBut D.bi.symm
 have j5:g5.IsListIter j u (k+1):=j4.extBut e5.extBut D.bj.symm
 have lz:=Heap.lt_size z5
 show wpAny _ _ (Builtin.SmallTypes.ownedTupleHandOut (.ref z) (.ref g5.objs.size) >>= _) _ _ _
 unfold Builtin.SmallTypes.ownedTupleHandOut
 have z6:IsZip (g5.push { cls:=.type "tuple",data:=.seq #[x,y] }) z a b .ellipsis:=Heap.get?_push_of_some _ z5
 refine wpAny_bind (wpAny_bind (wpAny_setField_rec z6 (by simp) fun g7 z7 e7=>?_))
 replace z7:IsZip g7 z a b (rawInt g5.objs.size):=z7
 refine wpAny_setField_rec z7 (by simp) fun g8 z8 e8=>wpAny_pure ⟨_,rfl,?_⟩
 replace z8:IsZip g8 z a b (rawInt g5.objs.size):=z8
 have up:∀ c o,c≠z→g5.get? c=some o→g8.get? c=some o:=fun c o c1 e=>e8.extBut _ _ c1 (e7.extBut _ _ c1 (Heap.get?_push_of_some _ e))
 have T8:IsPair g8 g5.objs.size x y:=e8.extBut _ _ (Nat.ne_of_gt lz) (e7.extBut _ _ (Nat.ne_of_gt lz) (Heap.get?_push_size _ rfl))
 have n8:g8.objs.size=g5.objs.size+1:=by rw[e8.1,e7.1,Heap.size_push]
 show Q (.ref g5.objs.size) _
 rw[sz] at z8 T8 n8 ⊢
 obtain⟨oi,goi,ri⟩:=i5
 obtain⟨oj,goj,rj⟩:=j5
 exact hQ g8 ⟨z8,up _ _ D.az (kp _ _ D.az D.ab D.ai D.aj hI),⟨x,y,up _ _ D.bz o5⟩,⟨oi,up _ _ D.iz goi,ri⟩,⟨oj,up _ _ D.jz goj,rj⟩⟩ T8 n8 fun c o c1 c2 c3 c4 e=>up c o c1 (kp c o c1 c2 c3 c4 e)
theorem Ap{z a b i j t u:Addr}{k:Nat}{xs ys:Array Value}{Q:Fin→Shared→Prop}(hh:A.handled=none)(D:ZApart z a b i j t u)(S:ZStL s.heap z a b i j t u k .none)
  (ht:s.heap.IsTuple t xs) (hu:s.heap.IsList u ys) (hn:xs[k]?=none∨ys[k]?=none)
  (hE:∀ g e,(∀ c o,c≠z→c≠b→c≠i→c≠j→s.heap.get? c=some o→g.get? c=some o)→(∃ o,g.get? e=some o∧o.cls=.type "StopIteration")→E (.ref e) { s with heap:=g }) :
  wpAny (model prog w) A (Builtin.«zip.__next__» ⟨[.ref z],[]⟩) Q E s:=by
 obtain⟨hz,hI,⟨p,q,hO⟩,h1,h2⟩:=S
 show wpAny _ _ (field (.ref z) 2 >>= _) _ _ _
 refine wpAny_bind (wpAny_field hz rfl (x:=.bool false) rfl ?_)
 show wpAny _ _ (field (.ref z) 3 >>= _) _ _ _
 refine wpAny_bind (wpAny_field hz rfl (x:=.ref a) rfl (wpAny_bind (wpAny_seqItems hI rfl ?_)))
 show wpAny _ _ (Builtin.SmallTypes.ownedTupleIsFree (.ref z) >>= _) _ _ _
 unfold Builtin.SmallTypes.ownedTupleIsFree
 refine wpAny_bind (wpAny_bind (wpAny_field hz rfl (x:=.none) rfl (wpAny_pure ?_)))
 simp only [if_true]
 refine wpAny_bind (wpAny_rule (wpAny_bind (wpAny_field hz rfl (x:=.ref b) rfl (wpAny_bind (wpAny_setField_rec hz (by simp) fun g1 z1 e1=>?_)))))
 replace z1:IsZip g1 z a b .ellipsis:=z1
 refine wpAny_bind ?_
 simp only [List.zipIdx_cons,List.zipIdx_nil,List.forIn_cons,List.forIn_nil]
 refine wpAny_bind (wpAny_bind (wpAny_onRaise ?_))
 show wpAny _ _ (Builtin.SmallTypes.nextOf (.ref i) >>= _) _ _ _
 cases hx:xs[k]? with
 | none =>
  refine wpAny_bind (lE hh (h1.extBut e1.extBut D.iz) (ht.extBut e1.extBut D.tz) hx fun g2 e e2 he=>?_)
  obtain⟨oe,goe,ce⟩:=he
  have z2:IsZip g2 z a b .ellipsis:=e2 _ _ D.iz.symm z1
  have ne:e≠z:=fun c=>by subst c;rw[z2] at goe;cases goe;simp at ce
  exact wpAny_setField_rec z2 (by simp) fun g3 _ e3=>hE g3 e (fun c o c1 _ c3 _ v=>e3.extBut _ _ c1 (e2 _ _ c3 (e1.extBut _ _ c1 v))) ⟨oe,e3.extBut _ _ ne goe,ce⟩
 | some x =>
  have hy:ys[k]?=none:=by
   rcases hn with h | h
   ·rw[hx] at h;cases h
   ·exact h
  refine wpAny_bind (fP (h1.extBut e1.extBut D.iz) (ht.extBut e1.extBut D.tz) hx fun g2 i2 e2=>wpAny_pure ?_)
  have o2:IsPair g2 b p q:=e2.extBut _ _ D.bi (e1.extBut _ _ D.bz hO)
  refine wpAny_bind (wpAny_seqItems o2 rfl (wpAny_bind (wpAny_updateSeq_pair o2 fun g3 o3 e3=>wpAny_bind (wpAny_letGo (wpAny_pure ?_)))))
  refine wpAny_bind (wpAny_bind (wpAny_onRaise ?_))
  show wpAny _ _ (Builtin.SmallTypes.nextOf (.ref j) >>= _) _ _ _
  have j3:=((h2.extBut e1.extBut D.jz).extBut e2.extBut D.ij.symm).extBut e3.extBut D.bj.symm
  have u3:=((hu.extBut e1.extBut D.uz).extBut e2.extBut D.ui).extBut e3.extBut D.ub
  refine wpAny_bind (wpAny_nextOf_list_end hh j3 u3 hy fun g4 e e4 he=>?_)
  obtain⟨oe,goe,ce⟩:=he
  have z4:IsZip g4 z a b .ellipsis:=e4 _ _ D.jz.symm (e3.extBut _ _ D.bz.symm (e2.extBut _ _ D.iz.symm z1))
  have ne:e≠z:=fun c=>by subst c;rw[z4] at goe;cases goe;simp at ce
  exact wpAny_setField_rec z4 (by simp) fun g5 _ e5=>hE g5 e (fun c o c1 c2 c3 c4 v=>e5.extBut _ _ c1 (e4 _ _ c4 (e3.extBut _ _ c2 (e2.extBut _ _ c3 (e1.extBut _ _ c1 v))))) ⟨oe,e5.extBut _ _ ne goe,ce⟩
theorem tT{z a b i j t u:Addr}{k:Nat}{xs ys:Array Value}{x y:Value}{Q:Option Value→Shared→Prop}(D:ZApart z a b i j t u)(S:ZStL s.heap z a b i j t u k .none)
  (ht:s.heap.IsTuple t xs) (hu:s.heap.IsList u ys) (hx:xs[k]?=some x) (hy:ys[k]?=some y)
  (hQ:∀ g,ZStL g z a b i j t u (k+1) (rawInt s.heap.objs.size)→IsPair g s.heap.objs.size x y→g.objs.size=s.heap.objs.size+1→(∀ c o,c≠z→c≠b→c≠i→c≠j→s.heap.get? c=some o→g.get? c=some o)→Q (some (.ref s.heap.objs.size)) { s with heap:=g }) :
  wpAny (model prog w) A (pyNext (.ref z)) Q E s:=by
 have hT:s.TypeIs (.ref z) "zip":=⟨_,S.zip,rfl⟩
 unfold pyNext
 exact wpAny_bind (wpAny_attempt (wpAny_callSpecial?_slot (name:=Str.ofString "__next__") hT F.slot_zip_next (wpAny_call_entry F.slot_zip_next hT F.entry_zip_next (xC D S ht hu hx hy fun g b1 b2 b3 b4=>wpAny_pure (hQ g b1 b2 b3 b4)) (F.args_zip_next_1 _))))
theorem xJ{z a b i j t u:Addr}{k:Nat}{xs ys:Array Value}{Q:Option Value→Shared→Prop}(hh:A.handled=none)(D:ZApart z a b i j t u)(S:ZStL s.heap z a b i j t u k .none)
  (ht:s.heap.IsTuple t xs) (hu:s.heap.IsList u ys) (hn:xs[k]?=none∨ys[k]?=none)
  (hQ:∀ g,(∀ c o,c≠z→c≠b→c≠i→c≠j→s.heap.get? c=some o→g.get? c=some o)→Q none { s with heap:=g }):wpAny (model prog w) A (pyNext (.ref z)) Q E s:=by
 have hT:s.TypeIs (.ref z) "zip":=⟨_,S.zip,rfl⟩
 unfold pyNext
 refine wpAny_bind (wpAny_attempt (wpAny_callSpecial?_slot (name:=Str.ofString "__next__") hT F.slot_zip_next (wpAny_call_entry F.slot_zip_next hT F.entry_zip_next (Ap hh D S ht hu hn fun g e kp he=>?_) (F.args_zip_next_1 _))))
 obtain⟨o,go,co⟩:=he
 exact wpAny_bind (wpAny_isInstance (T:="StopIteration") (b:=true) ⟨o,go,co⟩ isSubtype_stop (wpAny_pure (hQ _ kp)))
end
abbrev Hz(h:Heap)(t:Addr):Heap:=h.push { cls:=.type "tuple_iterator",data:=.fields #[.ref t,.int 0 0] }
abbrev HG(h:Heap)(t u:Addr):Heap:=(Hz h t).push { cls:=.type "list_iterator",data:=.fields #[.ref u,.int 0 0] }
abbrev HK(h:Heap)(t u:Addr):Heap:=(HG h t u).push { cls:=.type "tuple",data:=.seq #[.ref h.objs.size,.ref (Hz h t).objs.size] }
abbrev HC(h:Heap)(t u:Addr):Heap:=(HK h t u).push { cls:=.type "tuple",data:=.seq #[.none,.none] }
abbrev FI(h:Heap)(t u:Addr):Heap:=(HC h t u).push { cls:=.type "zip",data:=.fields #[.none,.bool false,.bool false,.ref (HG h t u).objs.size,.ref (HK h t u).objs.size] }
theorem uH(t u:Addr)(xs ys:Array Value) :
  Meets (Builtin.«zip.__new__» ⟨[.type "zip",.ref t,.ref u],[]⟩) (fun _ R s=>s.heap.IsTuple t xs∧s.heap.IsList u ys∧R (.ok (.ret (.ref (HC s.heap t u).objs.size))) { s with heap:=FI s.heap t u }) :=
 .of_wp fun prog w A R s h=>by
  obtain⟨hp,g,d,tk,os⟩:=s
  obtain⟨ht,hu,h⟩:=h
  have hsub:=sub_zip
  have hL1:Heap.IsTuple (Shared.heap ⟨hp,g,d,tk,os⟩) t xs:=ht
  have hL2:Heap.IsList (Shared.heap ⟨hp.push { cls:=.type "tuple_iterator",data:=.fields #[.ref t,.int 0 0] },g,d,tk,os⟩) u ys:=Heap.IsList.push hu _
  wp_walk using wpAny_pyIter_tuple hL1,wpAny_pyIter_list hL2
  exact⟨_,rfl,h⟩
end PySem
namespace L2
open PySem PySem.Spec PyProof.Rows
def AE(K:PySem.W.Frag)(t u:Addr):It :=
 ⟨fun i H=>∃ xs ys x y,SqT K H t xs∧SqL K H u ys∧xs[i]?=some x∧ys[i]?=some y,
  fun i H v H'=>∃ p x y,v=.ref p∧H p=none∧H'=upd H p (.tup [x,y])∧∀ xs ys,SqT K H t xs→SqL K H u ys→xs[i]?=some x∧ys[i]?=some y,
  fun i H=>∃ xs ys,SqT K H t xs∧SqL K H u ys∧(xs.length≤i∨ys.length≤i)⟩
theorem Ak{P:Program}{w:World}{K:PySem.W.Frag}{es:List Expr}{x1}{pos:Pos}(z a b i j t u:Addr)(D:ZApart z a b i j t u):Turn P w K (.Tuple es x1 pos) (AE K t u) [z,a,b,i,j] z (fun k h=>ZStL h z a b i j t u k .none) where
 mem:=by simp
 obj:=fun k h st c hc=>by
  obtain⟨p,q,ho⟩:=st.own
  obtain⟨o1,g1,c1,d1⟩:=st.one
  obtain⟨o2,g2,c2,d2⟩:=st.two
  simp only [List.mem_cons,List.not_mem_nil,or_false] at hc
  rcases hc with rfl | rfl | rfl | rfl | rfl
  ·exact⟨_,st.zip,fun v e=>by cases e⟩
  ·exact⟨_,st.its,fun v e=>by cases e⟩
  ·exact⟨_,ho,fun v e=>by cases e⟩
  ·exact⟨o1,g1,fun v e=>by rw[d1] at e;cases e⟩
  ·exact⟨o2,g2,fun v e=>by rw[d2] at e;cases e⟩
 keep:=fun k h h' st kp=>st.at kp
 item:=by
  intro X hP hw hK hc k pins s σ H E I hf st hg
  subst hP hw hK
  obtain⟨xs,ys,x,y,hq1,hq2,hx,hy⟩:=hg
  obtain⟨v1,r1,p1,_⟩:=I.tuple hq1
  obtain⟨v2,r2,p2,_⟩:=I.list hq2
  obtain⟨ux,hux,rux⟩:=r1.get hx
  obtain⟨uy,huy,ruy⟩:=r2.get hy
  refine tT D st (show s.heap.IsTuple t v1.toArray from p1) p2.isList (x:=ux) (y:=uy) (by simpa using hux) (by simpa using huy) fun g S1 hT hn kp=>⟨_,rfl,?_⟩
  refine wpAny_letOwnedTupleGo_zip S1.zip fun g2 z2 e2=>?_
  have kp2:∀ c o,c≠z→c≠b→c≠i→c≠j→s.heap.get? c=some o→g2.get? c=some o:=fun c o c1 c2 c3 c4 e=>(e2.2 c c1).trans (kp c o c1 c2 c3 c4 e)
  have nz:s.heap.objs.size≠z:=Nat.ne_of_gt (Heap.lt_size st.zip)
  have hT2:IsPair g2 s.heap.objs.size ux uy:=(e2.2 _ nz).trans hT
  have hsub:∀ c∈[z,b,i,j],gD X pins H c:=fun c hc=>hf c (by
   simp only [List.mem_cons,List.not_mem_nil,or_false] at hc ⊢
   rcases hc with h | h | h | h <;> simp[h])
  have kpn:∀ c o,c ∉ [z,b,i,j]→s.heap.get? c=some o→g2.get? c=some o:=fun c o hn e=>kp2 c o (fun q=>hn (by simp[q])) (fun q=>hn (by simp[q])) (fun q=>hn (by simp[q])) (fun q=>hn (by simp[q])) e
  have hHn:H s.heap.objs.size=none:=I.hok.fresh (Nat.le_refl _)
  refine⟨.ref s.heap.objs.size,upd H s.heap.objs.size (.tup [x,y]),?_,rfl,⟨_,x,y,rfl,hHn,rfl,fun xs' ys' h1 h2=>by rw[I.tuple_inj h1 hq1,I.list_inj h2 hq2];exact⟨hx,hy⟩⟩,?_,fun c hc=>?_⟩
  ·exact I.turnedN (t':=s.toks) (h':=g2) kpn hsub (Nat.le_refl _) ⟨by show 2≤sizeLine;decide,[ux,uy],.cons rux (.cons ruy .nil),⟨_,hT2,rfl,0,rfl⟩,⟨_,hT2,rfl⟩⟩
  ·obtain⟨p,q,ho⟩:=S1.own
   obtain⟨o1,g1,d1⟩:=S1.one
   obtain⟨o2,gg2,d2⟩:=S1.two
   exact⟨z2,(e2.2 _ D.az).trans S1.its,⟨p,q,(e2.2 _ D.bz).trans ho⟩,⟨o1,(e2.2 _ D.iz).trans g1,d1⟩,⟨o2,(e2.2 _ D.jz).trans gg2,d2⟩⟩
  ·have hce:c≠s.heap.objs.size:=by
    obtain⟨p,q,ho⟩:=st.own
    obtain⟨o1,g1,_⟩:=st.one
    obtain⟨o2,g2',_⟩:=st.two
    simp only [List.mem_cons,List.not_mem_nil,or_false] at hc
    rcases hc with rfl | rfl | rfl | rfl | rfl
    ·exact Nat.ne_of_lt (Heap.lt_size st.zip)
    ·exact Nat.ne_of_lt (Heap.lt_size st.its)
    ·exact Nat.ne_of_lt (Heap.lt_size ho)
    ·exact Nat.ne_of_lt (Heap.lt_size g1)
    ·exact Nat.ne_of_lt (Heap.lt_size g2')
   rw[aE hce]
   exact(hf c hc).1
 done:=by
  intro X hP hw hK hc k pins s σ H E I hf st hg
  subst hP hw hK
  obtain⟨xs,ys,hq1,hq2,hn⟩:=hg
  obtain⟨v1,r1,p1,_⟩:=I.tuple hq1
  obtain⟨v2,r2,p2,_⟩:=I.list hq2
  have l1:=r1.length
  have l2:=r2.length
  refine xJ (I.ok.hd hc) D st (show s.heap.IsTuple t v1.toArray from p1) p2.isList (by
   rcases hn with h | h
   ·exact .inl (by simp;omega)
   ·exact .inr (by simp;omega)) fun g kp=>⟨rfl,?_⟩
  refine I.turnedM (t':=s.toks) (ch:=[z,b,i,j]) (fun c o hn e=>kp c o (fun q=>hn (by simp[q])) (fun q=>hn (by simp[q])) (fun q=>hn (by simp[q])) (fun q=>hn (by simp[q])) e) fun c hc=>hf c ?_
  simp only [List.mem_cons,List.not_mem_nil,or_false] at hc ⊢
  rcases hc with h | h | h | h <;> simp[h]
 self:=fun A k s Q E st h=>wpAny_pyIter_zip st.zip h
section
variable {X:Cx}
def FN(K:PySem.W.Frag)(ta:TA):TI:=fun σ H R=>ta σ H fun vs H1=>∃ t u,vs=[.ref t,.ref u]∧(∃ xs,SqT K H1 t xs)∧(∃ ys,SqL K H1 u ys)∧R (AE K t u) H1
theorem wJ{pins:List (Addr×Obj)}{σ:St}{H:Hp}{s:Shared}{t u:Addr}{xs ys:Array Value}{Q:Value→Shared→Prop}{E:Value→Shared→Prop}(ht:s.heap.IsTuple t xs)(hu:s.heap.IsList u ys)
  (h:∀ g,ZStL g (s.heap.objs.size+4) (s.heap.objs.size+2) (s.heap.objs.size+3) s.heap.objs.size (s.heap.objs.size+1) t u 0 .none→(∀ c o,s.heap.get? c=some o→g.get? c=some o)→Q (.ref (s.heap.objs.size+4)) { s with heap:=g }) :
  wpAny (model X.prog X.w) X.A (call (.type "zip") [.ref t,.ref u]) Q E s:=by
 refine callType_new F.called_zip (by decide) (F.typeCall_zip_2 _ _) (F.newCall_zip_2 _ _) (fun obj=>F.args_object_init_3 obj _ _) F.entry_zip_new (uH t u xs ys) ⟨ht,hu,?_⟩
 have n1:(Hz s.heap t).objs.size=s.heap.objs.size+1:=Heap.size_push ..
 have n2:(HG s.heap t u).objs.size=s.heap.objs.size+2:=by rw[Heap.size_push,n1]
 have n3:(HK s.heap t u).objs.size=s.heap.objs.size+3:=by rw[Heap.size_push,n2]
 have n4:(HC s.heap t u).objs.size=s.heap.objs.size+4:=by rw[Heap.size_push,n3]
 have g5:(FI s.heap t u).get? (HC s.heap t u).objs.size=some _:=Heap.get?_push_size _ rfl
 have g4:(FI s.heap t u).get? (HK s.heap t u).objs.size=some _:=Heap.get?_push_of_some _ (Heap.get?_push_size _ rfl)
 have g3:(FI s.heap t u).get? (HG s.heap t u).objs.size=some _:=Heap.get?_push_of_some _ (Heap.get?_push_of_some _ (Heap.get?_push_size _ rfl))
 have g2:(FI s.heap t u).get? (Hz s.heap t).objs.size=some _:=Heap.get?_push_of_some _ (Heap.get?_push_of_some _ (Heap.get?_push_of_some _ (Heap.get?_push_size _ rfl)))
 have g1:(FI s.heap t u).get? s.heap.objs.size=some _:=Heap.get?_push_of_some _ (Heap.get?_push_of_some _ (Heap.get?_push_of_some _ (Heap.get?_push_of_some _ (Heap.get?_push_size _ rfl))))
 show _∧_
 rw[n2,n3,n4] at g5
 rw[n1,n2] at g3
 rw[n3] at g4
 rw[n1] at g2
 rw[n4]
 exact⟨⟨_,g5,rfl⟩,h _ ⟨g5,g3,⟨_,_,g4⟩,⟨_,g1,rfl,rfl⟩,⟨_,g2,rfl,rfl⟩⟩ fun c o e=>Heap.get?_push_of_some _ (Heap.get?_push_of_some _ (Heap.get?_push_of_some _ (Heap.get?_push_of_some _ (Heap.get?_push_of_some _ e))))⟩
theorem Dl{es:List Expr}{x1}{tpos:Pos}{a b:Expr}{ta:TA}{p pos:Pos}{K:PySem.W.Frag}(hK:X.K=K)(hg:Gl X "zip")(hm:X.mg "zip"=none)(ha:PA X [a,b] ta)(hs:starEach [a,b] X.env=[(false,eval a X.env),(false,eval b X.env)]:=by rfl)(hs2:starEach [b] X.env=[(false,eval b X.env)]:=by rfl) :
  PI X (.Tuple es x1 tpos) (.Call (.Name "zip" p) [a,b] [] pos) (FN K ta):=by
 subst hK
 intro pins s σ H R I h
 refine Call_ (hJ I hg hm boot_zip (PyProof.Rows.callWith_type1 (bZ (ha pos pins s σ H _ I h) fun us s1 ⟨vs,H1,I1,r1,q1⟩=>?_) (by rw[hs,hs2]) (by rw[hs2];rfl)))
 obtain⟨t,u,e,⟨xs,hx⟩,⟨ys,hy⟩,q⟩:=q1
 subst e
 obtain⟨v1,v2,rfl,rv1,rv2⟩:=DO r1
 cases rv1
 cases rv2
 obtain⟨w1,rw1,p1,_⟩:=I1.tuple hx
 obtain⟨w2,rw2,p2,_⟩:=I1.list hy
 have lt:t<s1.heap.objs.size:=by obtain⟨o,e,_⟩:=p1;exact Heap.lt_size e
 have lu:u<s1.heap.objs.size:=by obtain⟨o,e,_⟩:=p2.isList;exact Heap.lt_size e
 refine wJ (pins:=pins) (σ:=σ) (H:=H1) (show s1.heap.IsTuple t w1.toArray from p1) p2.isList fun g st kp=>?_
 have I2:Inv X pins σ H1 { s1 with heap:=g }:=I1.kept (t':=s1.toks) kp
 have D:ZApart (s1.heap.objs.size+4) (s1.heap.objs.size+2) (s1.heap.objs.size+3) s1.heap.objs.size (s1.heap.objs.size+1) t u:=by
  exact IG _ t u lt lu
 refine wpAny_pyIter_zip st.zip ⟨s1.heap.objs.size+4,[s1.heap.objs.size+4,s1.heap.objs.size+2,s1.heap.objs.size+3,s1.heap.objs.size,s1.heap.objs.size+1],_,_,H1,rfl,I2,Ak _ _ _ _ _ t u D,st,fun c hc=>?_,q⟩
 have hle:s1.heap.objs.size≤c:=by
  simp only [List.mem_cons,List.not_mem_nil,or_false] at hc
  rcases hc with h | h | h | h | h <;> rw[h]
  ·exact Nat.le_add_right _ _
  ·exact Nat.le_add_right _ _
  ·exact Nat.le_add_right _ _
  ·exact Nat.le_refl _
  ·exact Nat.le_add_right _ _
 exact I1.fpOk hle (I1.hok.fresh hle)
end
theorem BO{K:PySem.W.Frag}{t u:Addr}{xs ys:List V}{g:TG}{tb:TS}{D:Ends}{σ:St}{H:Hp}(Pv:Nat→St→Hp→Prop)(h0:Pv 0 σ H)(hl:∀ i σ H,i≤min xs.length ys.length→Pv i σ H→SqT K H t xs∧SqL K H u ys)
  (hs:∀ i x y p σ H,xs[i]?=some x→ys[i]?=some y→H p=none→Pv i σ H→g (.ref p) σ (upd H p (.tup [x,y])) fun σ2 H2=>tb { D with nx:=Pv (i+1),ct:=Pv (i+1),bk:=D.nx } σ2 H2) (hd:∀ σ H,Pv (min xs.length ys.length) σ H→D.nx σ H) :
  ∃ W:Nat→Nat→St→Hp→Prop,(∃ m,W 0 m σ H)∧∀ i m σ H,W i m σ H →
   ((AE K t u).stop i H∧D.nx σ H)∨((AE K t u).go i H∧∃ N:St→Hp→Prop,(∀ σ' H',N σ' H'→∃ m',m' < m∧W (i+1) m' σ' H')∧∀ x H',(AE K t u).yld i H x H'→g x σ H' fun σ2 H2=>tb { D with nx:=N,ct:=N,bk:=D.nx } σ2 H2):=by
 refine⟨fun i m σ H=>m=min xs.length ys.length - i∧i≤min xs.length ys.length∧Pv i σ H,⟨_,rfl,Nat.zero_le _,h0⟩,?_⟩
 rintro i m σ H ⟨rfl,hi,p⟩
 obtain⟨q1,q2⟩:=hl i σ H hi p
 by_cases hlt:i<min xs.length ys.length
 ·have l1:i<xs.length:=by omega
  have l2:i<ys.length:=by omega
  refine .inr ⟨⟨xs,ys,xs[i],ys[i],q1,q2,by simp[l1],by simp[l2]⟩,Pv (i+1),fun σ' H' p'=>⟨min xs.length ys.length - (i+1),by omega,rfl,hlt,p'⟩,fun v H' hv=>?_⟩
  obtain⟨pp,x,y,rfl,hn,rfl,hxy⟩:=hv
  obtain⟨ex,ey⟩:=hxy xs ys q1 q2
  exact hs i x y pp σ H ex ey hn p
 ·have e:i=min xs.length ys.length:=by omega
  subst e
  refine .inl ⟨⟨xs,ys,q1,q2,?_⟩,hd σ H p⟩
  rcases Nat.le_total xs.length ys.length with h | h
  ·exact .inl (by omega)
  ·exact .inr (by omega)
def Fb(x:Str):It :=
 ⟨fun i _=>i<x.cps.size,fun i H v H'=>∃ p c,v=.ref p∧H p=none∧H'=upd H p (.tup [.int (i:Nat),.str ⟨#[c]⟩])∧x.cps[i]?=some c,fun i _=>i=x.cps.size⟩
theorem pX{prog:Program}{w:World}{A:Around}(hh:A.handled=none)(it:Addr)(x:Str)(t:Tok)(T:String)(hT:T="str_ascii_iterator"∨T="str_iterator") :
  Draws prog w A it [it] x.cps.size (fun i v=>∃ c u,x.cps[i]?=some c∧v=.str ⟨#[c]⟩ u) (fun i h=>h.IsStrIter it T x t i):=by
 rcases hT with rfl | rfl
 ·exact Draws.strAscii hh it x t
 ·exact Draws.strWide hh it x t
theorem zT{P:Program}{w:World}{K:PySem.W.Frag}{es:List Expr}{x1}{pos:Pos}(x:Str)(t:Tok)(T:String)(e it:Addr)(hne:e≠it)(hT:T="str_ascii_iterator"∨T="str_iterator") :
  Turn P w K (.Tuple es x1 pos) (Fb x) [e,it] e (fun i h=>(∃ old,IsEnum h e it ((i:Nat):Int) old)∧h.IsStrIter it T x t i) where
 mem:=by simp
 obj:=fun i h st b hb=>by
  obtain⟨⟨old,he⟩,o,g,c,d⟩:=st
  simp only [List.mem_cons,List.not_mem_nil,or_false] at hb
  rcases hb with rfl | rfl
  ·exact⟨_,he,fun v z=>by cases z⟩
  ·exact⟨o,g,fun v z=>by rw[d] at z;cases z⟩
 keep:=fun i h h' st k=>by
  obtain⟨⟨old,he⟩,o,g,r⟩:=st
  exact⟨⟨old,k e (by simp) _ he⟩,o,k it (by simp) o g,r⟩
 item:=by
  intro X hP hw hK hc i pins s σ H E I hf st hg
  subst hP hw hK
  obtain⟨⟨old,he⟩,hs⟩:=st
  have hei:e ∉ [it]:=by simpa using hne
  have DD:=pX (prog:=X.prog) (w:=X.w) (A:=X.A.in1) (I.ok.hd hc) it x t T hT
  refine wpAny_pyNext_enum_itemD DD he hs hg hne hei fun v h1 tk hv ho hs1 hT1 hz1 kp=>⟨_,rfl,?_⟩
  obtain⟨c,u,hc',rfl⟩:=hv
  refine wpAny_letOwnedTupleGo_enum ho fun h2 he2 e2=>?_
  have ne:s.heap.objs.size≠e:=Nat.ne_of_gt (Heap.lt_size he)
  have hT2:h2.get? s.heap.objs.size=some { cls:=.type "tuple",data:=.seq #[.int i tk,.str ⟨#[c]⟩ u] }:=(e2.2 _ ne).trans hT1
  have hHn:H s.heap.objs.size=none:=I.hok.fresh (Nat.le_refl _)
  have kpn:∀ b o,b ∉ [e,it]→s.heap.get? b=some o→h2.get? b=some o:=fun b o hn q=>(e2.2 b fun z=>hn (by simp[z])).trans (kp b o (fun z=>hn (by simp[z])) (fun z=>hn (by simp[z])) q)
  refine⟨.ref s.heap.objs.size,upd H s.heap.objs.size (.tup [.int (i:Nat),.str ⟨#[c]⟩]),?_,rfl,⟨_,c,rfl,hHn,rfl,hc'⟩,⟨⟨_,by simpa using he2⟩,?_⟩,fun b hb=>?_⟩
  ·exact I.turnedN (t':=tk+1) (h':=h2) kpn hf (Nat.le_refl _) ⟨by show 2≤sizeLine;decide,[.int i tk,.str ⟨#[c]⟩ u],.cons ⟨_,rfl⟩ (.cons ⟨_,rfl⟩ .nil),⟨_,hT2,rfl,0,rfl⟩,⟨_,hT2,rfl⟩⟩
  ·obtain⟨o,g,r⟩:=hs1
   exact⟨o,(e2.2 it hne.symm).trans g,r⟩
  ·have hce:b≠s.heap.objs.size:=by
    obtain⟨o1,g1,_⟩:=hs
    simp only [List.mem_cons,List.not_mem_nil,or_false] at hb
    rcases hb with rfl | rfl
    ·exact Nat.ne_of_lt (Heap.lt_size he)
    ·exact Nat.ne_of_lt (Heap.lt_size g1)
   rw[aE hce]
   exact(hf b hb).1
 done:=by
  intro X hP hw hK hc i pins s σ H E I hf st hg
  subst hP hw hK
  obtain⟨⟨old,he⟩,hs⟩:=st
  have hi:i=x.cps.size:=hg
  subst hi
  have DD:=pX (prog:=X.prog) (w:=X.w) (A:=X.A.in1) (I.ok.hd hc) it x t T hT
  refine wpAny_pyNext_enum_endD DD he hs fun h1 e1=>⟨rfl,?_⟩
  exact I.turnedM (t':=s.toks) (ch:=[e,it]) (fun b o hn q=>e1 b o (fun z=>hn (by simp[z])) q) hf
 self:=fun A i s Q E st h=>by
  obtain⟨⟨old,he⟩,_⟩:=st
  exact wpAny_pyIter_enum he h
section
variable {X:Cx}
def F_(ta:TA):TI:=fun σ H R=>ta σ H fun vs H1=>∃ z,vs=[.str z]∧R (Fb z) H1
theorem De{es:List Expr}{x1}{tpos:Pos}{a:Expr}{ta:TA}{p pos:Pos}(hg:Gl X "enumerate")(hm:X.mg "enumerate"=none)(ha:PA X [a] ta)(hs:starEach [a] X.env=[(false,eval a X.env)]:=by rfl) :
  PI X (.Tuple es x1 tpos) (.Call (.Name "enumerate" p) [a] [] pos) (F_ ta):=by
 intro pins s σ H R I h
 refine Call_ (hJ I hg hm boot_enumerate (PyProof.Rows.callWith_type1 (bZ (ha pos pins s σ H _ I h) fun us s1 ⟨vs,H1,I1,r1,q1⟩=>?_) hs rfl))
 obtain⟨z,e,q⟩:=q1
 subst e
 obtain⟨u,rfl,ru⟩:=r1.one
 obtain⟨t,rfl⟩:=ru
 refine call_enumerate_str fun h' he hit hz kp=>?_
 have I2:Inv X pins σ H1 { s1 with heap:=h' }:=I1.kept (t':=s1.toks) kp
 have hne:s1.heap.objs.size+1≠s1.heap.objs.size:=by omega
 refine wpAny_pyIter_enum he ⟨s1.heap.objs.size+1,[s1.heap.objs.size+1,s1.heap.objs.size],_,_,H1,rfl,I2,zT z t (strIterType z) _ _ hne (by unfold strIterType;split <;> simp),⟨⟨_,he⟩,hit⟩,fun b hb=>?_,q⟩
 have hle:s1.heap.objs.size≤b:=by
  simp only [List.mem_cons,List.not_mem_nil,or_false] at hb
  rcases hb with h | h <;> rw[h]
  ·exact Nat.le_add_right _ _
  ·exact Nat.le_refl _
 exact I1.fpOk hle (I1.hok.fresh hle)
end
theorem Bo{w:List Nat}{g:TG}{tb:TS}{D:Ends}{σ:St}{H:Hp}(Pv:Nat→St→Hp→Prop)(h0:Pv 0 σ H)
  (hs:∀ i c p σ H,w[i]?=some c→H p=none→Pv i σ H→g (.ref p) σ (upd H p (.tup [.int (i:Nat),.str (S [c])])) fun σ2 H2=>tb { D with nx:=Pv (i+1),ct:=Pv (i+1),bk:=D.nx } σ2 H2) (hd:∀ σ H,Pv w.length σ H→D.nx σ H) :
  ∃ W:Nat→Nat→St→Hp→Prop,(∃ m,W 0 m σ H)∧∀ i m σ H,W i m σ H →
   ((Fb (S w)).stop i H∧D.nx σ H)∨((Fb (S w)).go i H∧∃ N:St→Hp→Prop,(∀ σ' H',N σ' H'→∃ m',m' < m∧W (i+1) m' σ' H')∧∀ x H',(Fb (S w)).yld i H x H'→g x σ H' fun σ2 H2=>tb { D with nx:=N,ct:=N,bk:=D.nx } σ2 H2):=by
 refine⟨fun i m σ H=>m=w.length - i∧i≤w.length∧Pv i σ H,⟨w.length,by simp,Nat.zero_le _,h0⟩,?_⟩
 rintro i m σ H ⟨rfl,hi,p⟩
 by_cases hlt:i<w.length
 ·refine .inr ⟨by simpa [Fb] using hlt,Pv (i+1),fun σ' H' p'=>⟨w.length - (i+1),by omega,rfl,hlt,p'⟩,fun x H' y=>?_⟩
  obtain⟨pp,c,rfl,hn,rfl,hc⟩:=y
  exact hs i c pp σ H (by simpa using hc) hn p
 ·have e:i=w.length:=by omega
  subst e
  exact .inl ⟨by simp[Fb],hd σ H p⟩
section
variable {prog:Program}{w:World}{A:Around}{E:Value→Shared→Prop}{s:Shared}
theorem wU{t sl:Addr}{items:Array Value}{vl vu:Value}{lo hi:Option Int}{Q:Value→Shared→Prop}(ht:IsTup s.heap t items)(hs:s.heap.IsSliceOf sl vl vu .none)(pl:IsPart vl lo)(pu:IsPart vu hi)
  (h1:HT.sIx items.size 0 lo=0) (h2:HT.sIx items.size items.size hi=items.size)
  (h:Q (.ref t) s):wpAny (model prog w) A (getItem (.ref t) (.ref sl)) Q E s:=by
 obtain⟨os,hos,hcs,hds⟩:=id hs
 have hTs:s.TypeIs (.ref sl) "slice":=⟨os,hos,hcs⟩
 unfold getItem
 try with_reducible refine wpAny_holding ?_
 first | refine wpAny_bind (wpAny_pure ?_) | skip
 refine wpAny_bind (wpAny_sequenceKey ht.typeIs (by decide) ?_)
 refine wpAny_bind (wpAny_callSpecial?_slot (name:=Str.ofString "__getitem__") ht.typeIs PyProof.Rows.slot_tuple_getitem
  (wpAny_call_entry PyProof.Rows.slot_tuple_getitem ht.typeIs entry_tuple_getitem ?_ (args_tuple_getitem _ _)))
 show wpAny _ _ (Builtin.Tuple.tupleItemsOf (.ref t) >>= _) _ _ s
 refine wpAny_bind (tupleItemsOf_ ht ?_)
 refine wpAny_bind (wpAny_typeOf hTs ?_)
 rw[if_pos (by decide)]
 refine wpAny_bind (HT.sliceApplied_gen hs pl pu ?_)
 rw[h1,h2]
 show wpAny _ _ (if (((0:Nat):Int) == 0 && (1:Int) == 1 && (items.size - 0) == items.size)=true then _ else _) _ _ s
 rw[if_pos (by simp)]
 refine wpAny_bind ?_
 unfold Builtin.Tuple.tupleIsExact
 refine wpAny_bind (wpAny_typeOf ht.typeIs (wpAny_pure ?_))
 rw[if_pos (by decide)]
 exact wpAny_bind (wpAny_rule (wpAny_pure ⟨_,rfl,wpAny_pure h⟩))
end
def HR(K:PySem.W.Frag):V→Option Int→Option Int→Hp→VK→Prop:=fun x lo hi H Q=>∃ (a:Addr) (xs:List V) (j:Nat),x=.ref a∧SqT K H a xs∧lo=none∧hi=some (j:Int)∧j≤xs.length ∧
 (j<xs.length→∀ p,H p=none→Q (.ref p) (upd H p (.tup (xs.take j))))∧(j=xs.length→Q (.ref a) H)
theorem Dh{X:Cx}{K:PySem.W.Frag}(hK:X.K=K):FX X (HR K):=by
 subst hK
 intro pins s σ H x v vl vu lo hi sl Q I rx hs pl pu h
 obtain⟨a,xs,j,rfl,hx,rfl,rfl,hj,q1,q2⟩:=h
 have e0:HT.sIx xs.length 0 none=0:=rfl
 have e1:HT.sIx xs.length xs.length (some (j:Int))=j:=by
  unfold HT.sIx
  simp only
  rw[if_neg (by omega)]
  simp
  omega
 rcases Nat.lt_or_ge j xs.length with hlt | hge
 ·refine Fh pins s σ H _ v vl vu _ _ sl Q I rx hs pl pu ⟨a,xs,rfl,hx,fun z=>?_,?_⟩
  ·rw[e1] at z;omega
  ·have e:uM xs none (some (j:Int))=xs.take j:=by
    unfold uM
    rw[e1,e0]
    simp
   rw[e]
   exact q1 hlt
 ·have ej:j=xs.length:=by omega
  cases rx
  obtain⟨its,r,ht,hz⟩:=I.tuple hx
  have hlen:its.toArray.size=xs.length:=by rw[List.size_toArray];exact r.length.symm
  refine⟨"tuple",_,PyProof.Rows.slot_tuple_getitem.lookup,ht.typeIs,?_⟩
  exact wU ht hs pl pu (by rw[hlen];exact e0) (by rw[hlen,e1];exact ej) ⟨.ref a,H,I,rfl,q2 ej⟩
end L2
namespace L2
open PySem PySem.W PyProof.Rows
def KTr(lt:Nat→Nat→Bool)(n:Nat){α:Type}:KasT α→(α→Prop)→Prop
 | .ret a,Q=>Q a
 | .ask i j k,Q=>i<n∧j<n∧KTr lt n (k (lt i j)) Q
theorem KTr.bind{lt:Nat→Nat→Bool}{n:Nat}{α β:Type}{f:α→KasT β}{Q:β→Prop}:∀ {t:KasT α},KTr lt n t (fun a=>KTr lt n (f a) Q)→KTr lt n (t.bind f) Q
 | .ret a,h=>h
 | .ask i j k,h=>⟨h.1,h.2.1,KTr.bind h.2.2⟩
theorem KTr.wp{lt:Nat→Nat→Bool}{n:Nat}{α:Type}{cmp:Nat→Nat→(Bool→Shared→Prop)→Shared→Prop}{Ok:Shared→Prop}
  (hc:∀ i j C s,i<n→j<n→Ok s→(∀ s',Ok s'→C (lt i j) s')→cmp i j C s) {Q:α→Prop} {R:α→Shared→Prop} (hq:∀ a s,Q a→Ok s→R a s):∀ {t:KasT α} {s:Shared},KTr lt n t Q→Ok s→t.kasWp cmp R s
 | .ret a,s,h,o=>hq a s h o
 | .ask i j k,s,h,o=>hc i j _ s h.1 h.2.1 o fun s' o'=>KTr.wp hc hq h.2.2 o'
structure TotLt(lt:Nat→Nat→Bool):Prop where
 asym:∀ i j,lt i j=true→lt j i=false
 tr:∀ i j k,lt j i=false→lt k j=false→lt k i=false
section
variable {lt:Nat→Nat→Bool}{n:Nat}
theorem TotLt.irr(T:TotLt lt)(i:Nat):lt i i=false:=by
 cases h:lt i i with
 | false=>rfl
 | true=>have:=T.asym i i h;rw[h] at this;cases this
def PermN(n:Nat)(p:Array Nat):Prop:=p.Perm (List.toArray (List.range n))
theorem PermN.size{p:Array Nat}(h:PermN n p):p.size=n:=by
 have:=(Array.perm_iff_toList_perm.mp h).length_eq
 simpa using this
theorem PermN.below{p:Array Nat}(h:PermN n p){i:Nat}(hi:i<n):p.getD i 0<n:=by
 have hs:=h.size
 have e:p.getD i 0=p[i]'(by omega):=by simp[Array.getD,show i<p.size by omega]
 rw[e]
 have hm:p[i]'(by omega)∈p:=Array.getElem_mem _
 have:p[i]'(by omega)∈(List.toArray (List.range n)):=h.mem_iff.mp hm
 simpa using this
theorem jR{p q:Array Nat}{i j:Nat}(h:p[i]?=q[j]?):p.getD i 0=q.getD j 0:=by
 rw[Array.getD_eq_getD_getElem?,Array.getD_eq_getD_getElem?,h]
theorem xO{p:Array Nat}{i j:Nat}(hj:j≤p.size)(k:Nat):(kas_rev p i j).getD k 0=if i≤k∧k<j then p.getD (i+j - 1 - k) 0 else p.getD k 0:=by
 have:=getElem?_mirror_all (i:=i) hj k
 unfold kas_rev
 split
 ·rename_i h;rw[if_pos h] at this;exact jR this
 ·rename_i h;rw[if_neg h] at this;exact jR this
theorem PermN.rev{p:Array Nat}(h:PermN n p)(i j:Nat):PermN n (kas_rev p i j):=(mirror_perm p i j _).trans h
theorem PermN.bub{p:Array Nat}(h:PermN n p)(k d:Nat):PermN n (bubble p k d):=(bubble_perm p k d).trans h
def iK(lt:Nat→Nat→Bool)(p:Array Nat)(m:Nat):Prop:=∀ i j,i≤j→j<m→lt (p.getD j 0) (p.getD i 0)=false
def jE(lt:Nat→Nat→Bool)(p:Array Nat)(m:Nat):Prop:=∀ i j,i≤j→j<m→lt (p.getD i 0) (p.getD j 0)=false
def Hu(lt:Nat→Nat→Bool)(p:Array Nat)(m q:Nat):Prop:=∀ i j,m≤i+q+1→i<m→m≤j+q+1→j<m→lt (p.getD i 0) (p.getD j 0)=false
theorem wA(T:TotLt lt){p:Array Nat}(g:PermN n p){Q:Nat→Prop}:∀ (f m:Nat),1≤m→m+f=n→iK lt p m →
  (∀ m',m≤m'→m'≤n→iK lt p m'→(m'=n∨lt (p.getD m' 0) (p.getD (m' - 1) 0)=true)→Q m')→KTr lt n (kas_asc p f m) Q
 | 0,m,h1,h2,hs,hq=>hq m (Nat.le_refl _) (by omega) hs (.inl (by omega))
 | f+1,m,h1,h2,hs,hq=>by
  refine⟨g.below (by omega),g.below (by omega),?_⟩
  cases hc:lt (p.getD m 0) (p.getD (m - 1) 0) with
  | true=>exact hq m (Nat.le_refl _) (by omega) hs (.inr hc)
  | false =>
   refine wA T g f (m+1) (by omega) (by omega) (fun i j hij hj=>?_) fun m' hm=>hq m' (by omega)
   by_cases e:j=m
   ·subst e
    by_cases e2:i=j
    ·subst e2;exact T.irr _
    ·exact T.tr _ _ _ (hs i (j - 1) (by omega) (by omega)) hc
   ·exact hs i j hij (by omega)
theorem Ao(T:TotLt lt){p q:Array Nat}{m:Nat}(h:jE lt p m)(e1:∀ i,i<m→lt (q.getD i 0) (p.getD i 0)=false)(e2:∀ i,i<m→lt (p.getD i 0) (q.getD i 0)=false):jE lt q m:=fun i j hij hj =>
 T.tr _ _ _ (e2 j hj) (T.tr _ _ _ (h i j hij hj) (e1 i (by omega)))
theorem lW(T:TotLt lt){p:Array Nat}(g:PermN n p){m q k:Nat}(hm:m≤n)(hq:q+1≤m)(hmk:m≤k)(h:jE lt p k)(e:Hu lt p m q):jE lt (kas_rev p (m - (q+1)) m) k:=by
 have hs:=g.size
 have rd:=xO (p:=p) (i:=m - (q+1)) (j:=m) (by omega)
 refine Ao T h (fun i hi=>?_) fun i hi=>?_
 ·rw[rd]
  split
  ·exact e _ _ (by omega) (by omega) (by omega) (by omega)
  ·exact T.irr _
 ·rw[rd]
  split
  ·exact e _ _ (by omega) (by omega) (by omega) (by omega)
  ·exact T.irr _
theorem mU(T:TotLt lt){Q:Array Nat×Nat×Nat→Prop}:∀ (f:Nat) (p:Array Nat) (m q:Nat),PermN n p→1≤m→q+1≤m→m+f=n→jE lt p m→Hu lt p m q →
  (∀ p' m' q',PermN n p'→1≤m'→m'≤n→q' + 1≤m'→jE lt p' m'→Hu lt p' m' q'→Q (p',m',q'))→KTr lt n (kas_desc f p m q) Q
 | 0,p,m,q,g,h1,hq,h2,hn,he,k=>k p m q g h1 (by omega) hq hn he
 | f+1,p,m,q,g,h1,hq,h2,hn,he,k=>by
  refine⟨g.below (by omega),g.below (by omega),?_⟩
  cases hc:lt (p.getD m 0) (p.getD (m - 1) 0) with
  | true =>
   have hn1:jE lt p (m+1):=fun i j hij hj=>by
    by_cases e:j=m
    ·subst e
     by_cases e2:i=j
     ·subst e2;exact T.irr _
     ·exact T.tr _ _ _ (T.asym _ _ hc) (hn i (j - 1) (by omega) (by omega))
    ·exact hn i j hij (by omega)
   have z0:∀ (p:Array Nat) (m:Nat),Hu lt p (m+1) 0:=fun p m i j hi hi2 hj hj2=>by
    have e1:i=m:=by omega
    have e2:j=m:=by omega
    rw[e1,e2];exact T.irr _
   show KTr lt n (if q > 0 then _ else _) Q
   split
   ·exact mU T f _ (m+1) 0 (g.rev _ _) (by omega) (by omega) (by omega) (lW T g (by omega) hq (by omega) hn1 he) (z0 _ _) k
   ·exact mU T f p (m+1) 0 g (by omega) (by omega) (by omega) hn1 (z0 _ _) k
  | false =>
   refine⟨g.below (by omega),g.below (by omega),?_⟩
   cases hd:lt (p.getD (m - 1) 0) (p.getD m 0) with
   | true=>exact k p m q g h1 (by omega) hq hn he
   | false =>
    refine mU T f p (m+1) (q+1) g (by omega) (by omega) (by omega) (fun i j hij hj=>?_) (fun i j hi hi2 hj hj2=>?_) k
    ·by_cases e:j=m
     ·subst e
      by_cases e2:i=j
      ·subst e2;exact T.irr _
      ·exact T.tr _ _ _ hd (hn i (j - 1) (by omega) (by omega)) |> fun z=>by
        first | exact z | exact T.tr _ _ _ hc (hn i (j - 1) (by omega) (by omega))
     ·exact hn i j hij (by omega)
    ·by_cases e:i=m
     ·subst e
      by_cases e2:j=i
      ·subst e2;exact T.irr _
      ·exact T.tr _ _ _ (he j (i - 1) (by omega) (by omega) (by omega) (by omega) |> fun z=>he (i - 1) j (by omega) (by omega) (by omega) (by omega)) hc
     ·by_cases e2:j=m
      ·subst e2
       exact T.tr _ _ _ hd (he i (j - 1) (by omega) (by omega) (by omega) (by omega))
      ·exact he i j (by omega) (by omega) (by omega) (by omega)
theorem tK(T:TotLt lt){p:Array Nat}(g:PermN n p){m:Nat}(h1:1≤m)(hm:m≤n)(hn:jE lt p m){Q:Nat×Array Nat→Prop}
  (k:∀ p' m',PermN n p'→1≤m'→m'≤n→iK lt p' m'→Q (m',p')):KTr lt n (kas_tail3 m n p) Q:=by
 unfold kas_tail3
 have hs:=g.size
 have rd:=xO (p:=p) (i:=0) (j:=m) (by omega)
 refine KTr.bind (wA T (g.rev 0 m) (n - m) m h1 (by omega) (fun i j hij hj=>?_) fun m' hm' hn' so _=>k _ m' (g.rev 0 m) (by omega) hn' so)
 rw[rd,rd,if_pos ⟨by omega,by omega⟩,if_pos ⟨by omega,by omega⟩]
 exact hn _ _ (by omega) (by omega)
theorem mG(T:TotLt lt){p:Array Nat}(g:PermN n p){m:Nat}(hm:m+1≤n)(hn:jE lt p (m+1)){Q:Nat×Array Nat→Prop}
  (k:∀ p' m',PermN n p'→1≤m'→m'≤n→iK lt p' m'→Q (m',p')):KTr lt n (kas_descPart m n p) Q:=by
 unfold kas_descPart
 refine KTr.bind (mU T (n - (m+1)) p (m+1) 0 g (by omega) (by omega) (by omega) hn (fun i j hi hi2 hj hj2=>?_) fun p' m' q' g' h1 h2 hq hn' he=>?_)
 ·have e1:i=m:=by omega
  have e2:j=m:=by omega
  rw[e1,e2];exact T.irr _
 ·show KTr lt n (if q' > 0 then _ else _) Q
  split
  ·exact tK T (g'.rev _ _) h1 h2 (lW T g' h2 hq (Nat.le_refl _) hn' he) k
  ·exact tK T g' h1 h2 hn' k
theorem AR(T:TotLt lt){p:Array Nat}(g:PermN n p)(h1:1≤n){Q:Nat×Array Nat→Prop}
  (k:∀ p' m',PermN n p'→1≤m'→m'≤n→iK lt p' m'→Q (m',p')):KTr lt n (kas_count n p) Q:=by
 unfold kas_count
 have hs:=g.size
 refine KTr.bind (wA T g (n - 1) 1 (Nat.le_refl _) (by omega) (fun i j hij hj=>?_) fun m hm hn so hor=>?_)
 ·have e1:i=j:=by omega
  rw[e1];exact T.irr _
 ·split
  ·exact k p m g hm hn so
  ·rename_i hne
   have hne':m≠n:=fun e=>hne (by rw[e];simp)
   have hlt:lt (p.getD m 0) (p.getD (m - 1) 0)=true:=by
    rcases hor with e | e
    ·exact absurd e hne'
    ·exact e
   split
   ·rename_i hm1
    refine⟨g.below (by omega),g.below (by omega),?_⟩
    cases hc:lt (p.getD 0 0) (p.getD (m - 1) 0) with
    | true=>exact k p m g hm hn so
    | false =>
     have all:∀ i j,i<m→j<m→lt (p.getD i 0) (p.getD j 0)=false:=fun i j hi hj =>
      T.tr _ _ _ (so j (m - 1) (by omega) (by omega)) (T.tr _ _ _ hc (so 0 i (by omega) hi))
     have hn1:jE lt p (m+1):=fun i j hij hj=>by
      by_cases e:j=m
      ·subst e
       by_cases e2:i=j
       ·subst e2;exact T.irr _
       ·exact T.tr _ _ _ (T.asym _ _ hlt) (all i (j - 1) (by omega) (by omega))
      ·exact all i j (by omega) (by omega)
     have hr:=lW T g (q:=m - 1) hn (by omega) (Nat.le_succ m) hn1 (fun i j _ hi _ hj=>all i j hi hj)
     rw[show m - (m - 1+1)=0 by omega] at hr
     exact mG T (g.rev 0 m) (by omega) hr k
   ·rename_i hm1
    have e1:m=1:=by omega
    subst e1
    refine mG T g (by omega) (fun i j hij hj=>?_) k
    by_cases e:i=j
    ·subst e;exact T.irr _
    ·have e1:i=0:=by omega
     have e2:j=1:=by omega
     rw[e1,e2]
     exact T.asym _ _ hlt
theorem pE(T:TotLt lt){p:Array Nat}(g:PermN n p){k:Nat}(hk:k<n)(so:iK lt p k){Q:Nat→Prop}:∀ (f l r:Nat),l≤r→r≤k→r - l≤f→(∀ i,i<l→lt (p.getD k 0) (p.getD i 0)=false)→(∀ i,r≤i→i<k→lt (p.getD k 0) (p.getD i 0)=true) →
  (∀ l',l'≤k→(∀ i,i<l'→lt (p.getD k 0) (p.getD i 0)=false)→(∀ i,l'≤i→i<k→lt (p.getD k 0) (p.getD i 0)=true)→Q l')→KTr lt n (kas_place p k f l r) Q
 | 0,l,r,h1,h2,h3,ha,hb,q=>q l (by omega) ha fun i hi=>hb i (by omega)
 | f+1,l,r,h1,h2,h3,ha,hb,q=>by
  show KTr lt n (if l ≥ r then _ else _) Q
  split
  ·exact q l (by omega) ha fun i hi=>hb i (by omega)
  ·refine⟨g.below hk,g.below (by omega),?_⟩
   cases hc:lt (p.getD k 0) (p.getD ((l+r) / 2) 0) with
   | true =>
    refine pE T g hk so f l ((l+r) / 2) (by omega) (by omega) (by omega) ha (fun i hi hik=>?_) q
    cases hz:lt (p.getD k 0) (p.getD i 0) with
    | true=>rfl
    | false =>
     have:=T.tr _ _ _ (so ((l+r) / 2) i hi hik) hz
     rw[hc] at this;cases this
   | false =>
    refine pE T g hk so f ((l+r) / 2+1) r (by omega) h2 (by omega) (fun i hi=>?_) hb q
    exact T.tr _ _ _ (so i ((l+r) / 2) (by omega) (by omega)) hc
theorem Dt{p:Array Nat}{k l:Nat}(hk:k<p.size)(hl:l≤k)(i:Nat):(bubble p k (k - l)).getD i 0=if i=l then p.getD k 0 else if l<i∧i≤k then p.getD (i - 1) 0 else p.getD i 0:=by
 have:=getElem?_bubble hk (k - l) (by omega) i
 rw[show k - (k - l)=l by omega] at this
 by_cases h:i=l
 ·rw[if_pos h] at this ⊢;exact jR this
 ·rw[if_neg h] at this ⊢
  by_cases h2:l<i∧i≤k
  ·rw[if_pos h2] at this ⊢;exact jR this
  ·rw[if_neg h2] at this ⊢;exact jR this
theorem BZ(T:TotLt lt){Q:Array Nat→Prop}:∀ (f:Nat) (p:Array Nat) (k:Nat),PermN n p→k+f=n→iK lt p k→(∀ p',PermN n p'→iK lt p' n→Q p')→KTr lt n (kas_bin f p k) Q
 | 0,p,k,g,h,so,q=>q p g (by rw[← h];exact so)
 | f+1,p,k,g,h,so,q=>by
  have hs:=g.size
  refine KTr.bind (pE T g (by omega) so k 0 k (by omega) (Nat.le_refl _) (by omega) (fun i hi=>absurd hi (Nat.not_lt_zero _)) (fun i h1 h2=>absurd h2 (by omega)) fun l hl ha hb=>?_)
  refine BZ T f _ (k+1) (g.bub _ _) (by omega) (fun i j hij hj=>?_) q
  have rd:=Dt (p:=p) (k:=k) (l:=l) (by omega) hl
  rw[rd,rd]
  by_cases e1:i=j
  ·subst e1;exact T.irr _
  ·by_cases cj:j=l
   ·rw[if_pos cj,if_neg (by omega),if_neg (by omega)]
    exact ha i (by omega)
   ·rw[if_neg cj]
    by_cases ci:i=l
    ·rw[if_pos ci,if_pos (by omega)]
     exact T.asym _ _ (hb (j - 1) (by omega) (by omega))
    ·rw[if_neg ci]
     split <;> split
     ·exact so _ _ (by omega) (by omega)
     ·exact so _ _ (by omega) (by omega)
     ·exact so _ _ (by omega) (by omega)
     ·exact so _ _ (by omega) (by omega)
theorem Dr(T:TotLt lt)(h1:1≤n):KTr lt n (kas_sort n) fun p=>PermN n p∧iK lt p n:=by
 unfold kas_sort
 refine KTr.bind (AR T (Array.Perm.refl _) h1 fun p m g h2 h3 so=>?_)
 show KTr lt n (if m<n then _ else _) _
 split
 ·rw[show max m 1=m by omega]
  exact BZ T (n - m) p m g (by omega) so fun p' g' so'=>⟨g',so'⟩
 ·rename_i h
  have e:m=n:=by omega
  subst e
  exact⟨g,so⟩
end
end L2
namespace L2
open PySem PySem.W PySem.Spec PyProof.Rows
def lZ(x y:Int×List Int):Bool:=if x.1=y.1 then HT.lexLt x.2 y.2 else decide (x.1<y.1)
def oY(H:Hp)(v:V)(k:Int×List Int):Prop:=∃ (p a:Addr),v=.ref p∧H p=some (.tup [.int k.1,.ref a])∧H a=some (.lst (k.2.map V.int))
theorem CJ{X:Cx}{pins:List (Addr×Obj)}{σ:St}{H:Hp}{s:Shared}(hu:X.A.units+8<cLine)(I:Inv X pins σ H s){v y:V}{u z:Value}{k m:Int×List Int}(hv:oY H v k)(hw:oY H y m)(ru:RelV v u)(rz:RelV y z)
  (hl:k.1=m.1→k.2.length=m.2.length) {Q:Bool→Shared→Prop} {E:Value→Shared→Prop} (h:Q (lZ k m) s):wpAny (model X.prog X.w) X.A (keyLt' (tuples' true) u z) Q E s:=by
 obtain⟨L,ns⟩:=k
 obtain⟨M,ms⟩:=m
 obtain⟨p,a,rfl,hp,ha⟩:=hv
 obtain⟨q,c,rfl,hq,hc⟩:=hw
 cases ru
 cases rz
 obtain⟨_,ip,rp,⟨op,gp1,gp2,np,gp3⟩,_⟩:=I.hok p _ hp
 obtain⟨_,iq,rq,⟨oq,gq1,gq2,nq,gq3⟩,_⟩:=I.hok q _ hq
 obtain⟨u1,u2,rfl,r1,r2⟩:=rp.two
 obtain⟨w1,w2,rfl,r3,r4⟩:=rq.two
 obtain⟨t1,rfl⟩:=r1
 obtain⟨t3,rfl⟩:=r3
 cases r2
 cases r4
 obtain⟨_,us,n1,ru,gu⟩:=I.hok a _ ha
 obtain⟨_,vs,n2,rv,gv⟩:=I.hok c _ hc
 have lus:us.length=ns.length:=by rw[← ru.length,List.length_map]
 have lvs:vs.length=ms.length:=by rw[← rv.length,List.length_map]
 have hla:s.heap.IsList a us.toArray:=⟨_,gu,rfl,n1,rfl⟩
 have hlc:s.heap.IsList c vs.toArray:=⟨_,gv,rfl,n2,rfl⟩
 have fl:∀ zs:List Int,(zs.map V.int).all fC=true:=fun zs=>by rw[List.all_map];exact List.all_eq_true.mpr fun _ _=>rfl
 have hu1:X.A.in1.units<cLine:=by unfold Around.in1;show X.A.units+1<cLine;omega
 have hu0:X.A.units<cLine:=by omega
 have hiu:=oQ ru
 have hiv:=oQ rv
 refine kat_lt gp1 gp3 gq1 gq3 ?_
 refine kat_cons ((SeqAt.EqAt.int_int L t1 M t3 (A:=X.A) (s:=s)) X.prog X.w _ _ ?_)
 show KatGo _ _ _ _ _ _ _ _ _ _ (L == M) s
 by_cases e:L=M
 ·subst e
  have hlen:ns.length=ms.length:=hl rfl
  have h':Q (HT.lexLt ns ms) s:=by
   have:lZ (L,ns) (L,ms)=HT.lexLt ns ms:=by unfold lZ;rw[if_pos rfl]
   rw[← this];exact h
  rw[show (L == L)=true from by simp]
  refine kat_yes ?_
  have heq:SeqAt.EqAt X.A s (.ref a) (.ref c) (decide (ns=ms)):=by
   by_cases hac:a=c
   ·subst hac
    rw[ha] at hc
    have e1:ns=ms:=by
     have:=HO.lst.inj (Option.some.inj hc)
     exact(List.map_inj_right (fun x y h=>V.int.inj h)).mp this
    rw[decide_eq_true e1]
    exact SeqAt.EqAt.same _
   ·have z:=SeqAt.RcAt.lists (A:=X.A) hla hlc (by simp;omega) hu0 (nT (A:=X.A.in1) (s:=s) ru rv (fl ns) (fl ms))
    rw[List.size_toArray,← ru.length,gM (by rw[List.length_map,List.length_map];exact hlen),nK] at z
    exact SeqAt.EqAt.of_refs hac z
  refine kat_cons (heq X.prog X.w _ _ ?_)
  show KatGo _ _ _ _ _ _ _ _ _ _ (decide (ns=ms)) s
  by_cases e2:ns=ms
  ·rw[decide_eq_true e2]
   refine kat_yes (kat_nil ?_)
   rw[e2,nH] at h'
   exact h'
  ·rw[decide_eq_false e2]
   refine kat_no (kat_one _ _ ?_)
   exact richCompare_meets_room (op:=.Lt) ⟨_,gu,rfl⟩ ⟨_,gv,rfl⟩ PySem.F.slot_list_lt PySem.F.entry_list_lt (PySem.F.args_list_lt_2 _ _) (LtL.list_lt a c us vs n1 n2 ns ms hiu hiv (by omega))
    ⟨gu,gv,show Value.bool (HT.lexLt ns ms)≠Value.notImplemented∧PySem.W.BoolBack Q (.bool (HT.lexLt ns ms)) s from ⟨(fun x=>nomatch x),h'⟩⟩ hu0
 ·have h':Q (decide (L<M)) s:=by
   have:lZ (L,ns) (M,ms)=decide (L<M):=by unfold lZ;rw[if_neg e]
   rw[← this];exact h
  rw[show (L == M)=false from by simpa using e]
  exact kat_no (oneLt_int h')
section
variable {X:Cx}{pins:List (Addr×Obj)}{σ:St}{H:Hp}{s:Shared}{h':Heap}
theorem Inv.adopt{t':Nat}{D:Addr}{xs:List V}(I:Inv X pins σ H s)(k:∀ b o,b≠D→s.heap.get? b=some o→h'.get? b=some o)(hf:gD X pins H D)
  (new:ObjOk X.prog X.w (upd H D (.lst xs)) h' D (.lst xs)):Inv X pins σ (upd H D (.lst xs)) { s with heap:=h',toks:=t' }:=by
 obtain⟨f0,f1,f2,f3,f4,f5⟩:=hf
 have un:∀ {b u},H b=some u→upd H D (.lst xs) b=some u:=fun e=>by rw[aE (aH e f0)];exact e
 have nch:∀ {b u},H b=some u→b≠D:=fun e=>aH e f0
 refine I.step (g':=s.gens) (d':=s.drawn) (ch:=[D]) (fun b hb=>?_) (fun b o _ _ hc e _=>k b o (by simpa using hc) e) (fun b o _ _ hc e _=>⟨o.slots,k b o (by simpa using hc) e⟩) (fun b o hc e n=>?_) (fun b o hc e=>⟨o,k b o (by simpa using hc) e⟩) (fun _ _ e=>un e) (fun _ _ _ e=>un e)
  (fun b ps e=>⟨#[],by rw[un e];simp⟩) (fun m hm=>?_) (fun b u e=>?_) I.bare
 ·have e:b=D:=by simpa using hb
  subst e
  exact⟨f3,f1,f4,f5⟩
 ·rw[aE (by simpa using hc)]
  exact n
 ·obtain⟨o,es,ep,ho,r⟩:=hm
  exact⟨o,es,ep,k _ o (fun z=>f1 z.symm) ho,r⟩
 ·by_cases hb:b=D
  ·subst hb
   rw[aC] at e
   cases e
   exact new
  ·rw[aE hb] at e
   refine(I.hok b u e).stay (fun c v hc q=>k c v ?_ q) (fun c q=>un q) fun c ys q=>un q
   rcases hc with z | z
   ·rw[z];exact hb
   ·exact nch z
end
def EV(K:PySem.W.Frag)(sp:Sp)(ta:TA):TE:=fun σ H Q=>ta σ H fun vs H1=>∃ (l:Addr) (xs:List V) (kz:List (Int×List Int)) (Pv:Addr→Nat→List V→Hp→Prop),vs=[.ref l]∧SqL K H1 l xs∧xs.length<64∧kz.length=xs.length ∧
 (∀ (i j:Nat) (a b:Int×List Int),kz[i]?=some a→kz[j]?=some b→a.1=b.1→a.2.length=b.2.length)∧TotLt (fun i j=>lZ (kz.getD i (0,[])) (kz.getD j (0,[]))) ∧
 (∀ S,H1 S=none→Pv S 0 [] (upd H1 S (.lst []))) ∧
 (∀ S i ks H,Pv S i ks H→∀ y,xs[i]?=some y→sp [y] H (fun v H2=>H2 S=some (.lst ks)∧ks.length=i∧Pv S (i+1) (ks++[v]) (upd H2 S (.lst (ks++[v])))) E0) ∧
 (∀ S ks H,Pv S xs.length ks H→H S=some (.lst ks)∧ks.length=xs.length∧(∀ (i:Nat) (v:V) (k:Int×List Int),ks[i]?=some v→kz[i]?=some k→oY H v k) ∧
  ∀ p:Array Nat,PermN xs.length p→iK (fun i j=>lZ (kz.getD i (0,[])) (kz.getD j (0,[]))) p xs.length→∀ D,upd H S (.lst []) D=none→Q (.ref D) (upd (upd H S (.lst [])) D (.lst (p.toList.map fun i=>xs.getD i .non))))
section
variable {X:Cx}{k:Nat}{f:Addr}{fd:FuncData}{ps:List Str}{sp:Sp}
theorem xR{pins:List (Addr×Obj)}{σ:St}{S:Addr}{xs:List V}{Pv:Nat→List V→Hp→Prop}{body:Value→PUnit→Sem (ForInStep PUnit)}{E:Value→Shared→Prop}
  (F:FnOk X.prog X.w X.K X.mg X.base yP k f fd ps sp) (hr:Room k X.one.one.A) (hb:Binds X.K fd ps []) (h64:xs.length<64)
  (hbody:∀ x (s:Shared) (R:ForInStep PUnit→Shared→Prop),wpAny (model X.prog X.w) X.one.one.A (call (.ref f) [x]) (fun kv s'=>wpAny (model X.prog X.w) X.one.one.A (Builtin.List.listUpdate (.ref S) (·.push kv)) (fun _ s''=>R (.yield ⟨⟩) s'') E s') (fun _ _=>False) s→wpAny (model X.prog X.w) X.one.one.A (body x ⟨⟩) R E s)
  (hst:∀ i ks H,Pv i ks H→∀ y,xs[i]?=some y→sp [y] H (fun v H2=>H2 S=some (.lst ks)∧ks.length=i∧Pv (i+1) (ks++[v]) (upd H2 S (.lst (ks++[v])))) E0) :
  ∀ (r:List V) (us:List Value) (i:Nat) (ks:List V) (s:Shared) (H:Hp),Vals r us→xs.drop i=r→i+r.length=xs.length→Inv X.one.one pins σ H s→Pv i ks H →
   wpAny (model X.prog X.w) X.one.one.A (forIn us PUnit.unit body) (fun _ s'=>∃ ks H',Inv X.one.one pins σ H' s'∧Pv xs.length ks H') E s
 | [],us,i,ks,s,H,rv,hd,hl,I,pv=>by
  cases rv
  rw[List.forIn_nil]
  have:i=xs.length:=by simpa using hl
  subst this
  exact wpAny_pure ⟨ks,H,I,pv⟩
 | y::r,us,i,ks,s,H,rv,hd,hl,I,pv=>by
  cases rv with
  | cons ru rr =>
   rename_i u us
   have hy:xs[i]?=some y:=by
    have:=congrArg List.head? hd
    rw[List.head?_drop] at this
    exact this
   rw[List.forIn_cons]
   refine wpAny_bind (hbody _ _ _ (wpAny_mono (tG (X:=X.one.one) F hr hb .nil dI I (.cons ru .nil) (hst i ks H pv y hy)) (fun kv s1 hq=>?_) fun _ _ e=>e))
   obtain⟨v,H1,I1,rk,eS,hkl,pv1⟩:=hq
   obtain⟨z,its,n,rks,hlk,eo⟩:=I1.lstM eS
   rw[List.length_cons] at hl
   have h64':its.length<64:=by omega
   refine listUpdate_at eo rfl ?_ (by rw[List.size_toArray,sizeLine_eq];omega) (Nat.le_trans (Nat.le_of_eq (Array.size_push ..)) (by rw[List.size_toArray,sizeLine_eq];omega))
   have I2:=I1.lset (t':=s1.toks) (its':=its++[kv]) (ys:=ks++[v]) (f:=(·.push kv)) eS eo (by simp) (rks.append (.cons rk .nil)) (by rw[List.length_append,List.length_singleton,sizeLine_eq];omega)
   exact xR F hr hb h64 hbody hst r us (i+1) (ks++[v]) _ _ rr (by rw[← List.drop_drop,hd];rfl) (by omega) I2 pv1
theorem wR{kz:List (Int×List Int)}{i:Nat}(h:i<kz.length):kz[i]?=some (kz.getD i (0,[])):=by
 rw[List.getD_eq_getElem?_getD,List.getElem?_eq_getElem h];rfl
theorem oI{pins:List (Addr×Obj)}{σ:St}{H:Hp}{s:Shared}(I:Inv X pins σ H s):∀ (ks:List V) (us:List Value),Vals ks us→(∀ v∈ks,∃ q,oY H v q)→∃ fs,PySem.W.KatTups s.heap us fs∧fs.length=us.length∧∀ v∈fs,∃ i t,v=Value.int i t
 | [],us,r,_=>by
  cases r
  exact⟨[],.nil,rfl,fun v hv=>(nomatch hv)⟩
 | v::ks,us,r,h=>by
  cases r with
  | cons r1 r2 =>
   obtain⟨fs,t,hl,hi⟩:=oI I ks _ r2 fun y hy=>h y (List.mem_cons_of_mem _ hy)
   obtain⟨q,p,a,rfl,hp,ha⟩:=h v (List.mem_cons_self ..)
   cases r1
   obtain⟨_,ip,rp,⟨op,gp1,gp2,np,gp3⟩,_⟩:=I.hok p _ hp
   obtain⟨u1,u2,rfl,r1,r2⟩:=rp.two
   obtain⟨t1,rfl⟩:=r1
   refine⟨Value.int q.1 t1::fs,.cons gp1 gp2 gp3 (by simp) t,by simp[hl],fun y hy=>?_⟩
   rcases List.mem_cons.mp hy with rfl | hy
   ·exact⟨_,_,rfl⟩
   ·exact hi y hy
theorem sO{xs:List V}{us:List Value}(r:Vals xs us)(i:Nat)(h:i<xs.length):RelV (xs.getD i .non) (us.getD i Value.none):=by
 obtain⟨u,hu,ru⟩:=r.get (List.getElem?_eq_getElem h)
 rw[List.getD_eq_getElem?_getD,List.getD_eq_getElem?_getD,hu,List.getElem?_eq_getElem h]
 exact ru
theorem qV{xs:List V}{us:List Value}(r:Vals xs us):∀ l:List Nat,(∀ i∈l,i<xs.length)→Vals (l.map fun i=>xs.getD i .non) (l.map fun i=>us.getD i Value.none)
 | [],_=>.nil
 | i::l,h=>.cons (sO r i (h i (List.mem_cons_self ..))) (qV r l fun j hj=>h j (List.mem_cons_of_mem _ hj))
theorem Cw(us vs:List Value)(h:us.length=vs.length):(us.toArray.zip vs.toArray).map (·.2)=vs.toArray:=by
 apply Array.toList_inj.mp
 rw[Array.toList_map,ksk_zip]
 simp only [List.toList_toArray]
 rw[List.map_snd_zip (by omega)]
theorem wI(vs:List Value):List.toArray ((List.toArray (List.range vs.length)).toList.map fun i=>vs.getD i Value.none)=vs.toArray:=by
 congr 1
 refine List.ext_getElem? fun i=>?_
 by_cases h:i<vs.length
 ·simp[h]
 ·simp[h]
theorem BI{pins:List (Addr×Obj)}{σ:St}{H:Hp}{s:Shared}{S D:Addr}{e1:Nat}{ks xs:List V}{vs:List Value}{kz:List (Int×List Int)}{P:PySem.Fin→Shared→Prop}{E:Value→Shared→Prop}(hu:X.one.one.A.units+8<cLine)
  (I:Inv X.one.one (pins++[(D,seqObj "list" #[] e1)]) σ H s) (hf:gD X.one.one pins H D) (eS:H S=some (.lst ks)) (rx:Vals xs vs) (hl:ks.length=xs.length) (h64:xs.length<64) (hkl:kz.length=xs.length)
  (hk:∀ (i:Nat) (v:V) (q:Int×List Int),ks[i]?=some v→kz[i]?=some q→oY H v q)
  (hlen:∀ (i j:Nat) (a b:Int×List Int),kz[i]?=some a→kz[j]?=some b→a.1=b.1→a.2.length=b.2.length) (T:TotLt (fun i j=>lZ (kz.getD i (0,[])) (kz.getD j (0,[]))))
  (h:∀ (p:Array Nat) (s':Shared),PermN xs.length p→iK (fun i j=>lZ (kz.getD i (0,[])) (kz.getD j (0,[]))) p xs.length→Inv X.one.one pins σ (upd (upd H S (.lst [])) D (.lst (p.toList.map fun i=>xs.getD i .non))) s'→P (.done (.ret .none)) s') :
  wpAny (model X.prog X.w) X.one.one.A (Builtin.List.listItems (.ref S) >>= fun keys=>ksk_end D false vs.toArray e1 (.ref S) keys) P E s:=by
 obtain⟨z,us,n,ru,hlu,eo⟩:=I.lstM eS
 have lx:=rx.length
 have hD:s.heap.get? D=some (seqObj "list" #[] e1):=(I.pin (D,seqObj "list" #[] e1) (List.mem_append_right _ (List.mem_append_right _ (List.mem_singleton_self _)))).1
 refine wpAny_bind (listItems_at eo rfl ?_)
 -- the last steps: the keys' list is emptied,the sorted one is laid
 have tail:∀ (st:SortSt) (p:Array Nat) (s1:Shared),Inv X.one.one (pins++[(D,seqObj "list" #[] e1)]) σ H s1→(arrOf st).map (·.2)=List.toArray (p.toList.map fun i=>vs.getD i Value.none)→failedOf st=none→PermN xs.length p →
   iK (fun i j=>lZ (kz.getD i (0,[])) (kz.getD j (0,[]))) p xs.length→wpAny (model X.prog X.w) X.one.one.A (ksk_tail D false e1 (.ref S) st) P E s1:=fun st p s1 I1 hout hfl hp hso=>by
  obtain⟨z1,us1,n1,ru1,hlu1,eo1⟩:=I1.lstM eS
  have I2:=I1.lset (t':=s1.toks) (its':=[]) (ys:=[]) (f:=fun _=>#[]) eS eo1 rfl .nil (Nat.zero_le _)
  have hD1:s1.heap.get? D=some (seqObj "list" #[] e1):=(I1.pin (D,seqObj "list" #[] e1) (List.mem_append_right _ (List.mem_append_right _ (List.mem_singleton_self _)))).1
  have hD2:(s1.heap.update S (Obj.mapSeq fun _=>(#[]:Array Value))).get? D=some (seqObj "list" #[] e1):=(I2.pin (D,seqObj "list" #[] e1) (List.mem_append_right _ (List.mem_append_right _ (List.mem_singleton_self _)))).1
  have hps:p.toList.length=xs.length:=by rw[Array.length_toList];exact hp.size
  have hpb:∀ i∈p.toList,i<xs.length:=fun i hi=>by
   have:=(Array.perm_iff_toList_perm.mp hp).mem_iff.mp hi
   simpa using this
  unfold ksk_tail
  try dsimp only
  rw[hout]
  refine wpAny_bind (listUpdate_at eo1 rfl ?_ (by rw[List.size_toArray,sizeLine_eq];omega) (Nat.zero_le _))
  refine wpAny_bind (wpAny_letGo ?_)
  refine wpAny_bind (seqEpoch_at hD2 rfl ?_)
  simp only [Bool.false_eq_true,if_false]
  refine wpAny_bind (listUpdate_at hD2 rfl ?_ (Nat.zero_le _) (by show (List.toArray (p.toList.map fun i=>vs.getD i Value.none)).size≤_;rw[List.size_toArray,List.length_map,hps,sizeLine_eq];omega))
  rw[hfl]
  simp only [bne_self_eq_false,Bool.false_eq_true,if_false]
  refine wpAny_pure (h p _ hp hso ?_)
  have rv:=qV rx p.toList hpb
  have I3:=I2.unpinned
  have f2:gD X.one.one pins (upd H S (.lst [])) D:=⟨by rw[aE (aH eS hf.1).symm];exact hf.1,hf.2⟩
  have sb:=Heap.SameBut.update (s1.heap.update S (Obj.mapSeq fun _=>(#[]:Array Value))) D (Obj.mapSeq fun _=>List.toArray (p.toList.map fun i=>vs.getD i Value.none))
  refine I3.adopt (t':=s1.toks) (D:=D) (fun b o hb e=>(sb.2 b hb).trans e) f2 ⟨by rw[List.length_map,hps,sizeLine_eq];omega,_,_,rv,get?_update_seq hD2 fun _=>List.toArray (p.toList.map fun i=>vs.getD i Value.none)⟩
 unfold ksk_end
 try dsimp only
 simp only [Bool.false_eq_true,if_false]
 by_cases h2:xs.length<2
 ·have h2':vs.toArray.size<2:=by rw[List.size_toArray];omega
  rw[if_pos h2',if_pos h2']
  refine wpAny_bind (wpAny_pure ?_)
  show wpAny _ _ (pure ((),SortSt.mk' general' (us.toArray.zip vs.toArray) #[] 7 none) >>= _) _ _ _
  refine wpAny_bind (wpAny_pure ?_)
  refine tail _ (List.toArray (List.range xs.length)) s I ?_ rfl (Array.Perm.refl _) (fun i j hij hj=>?_)
  ·show (us.toArray.zip vs.toArray).map (·.2)=_
   rw[Cw us vs (by omega),lx,wI]
  ·have e:i=j:=by omega
   rw[e];exact T.irr _
 ·have h2':¬ vs.toArray.size<2:=by rw[List.size_toArray];omega
  rw[if_neg h2',if_neg h2']
  have lu:us.length=vs.length:=by omega
  obtain⟨fs,ht,hfl,hfi⟩:=oI I ks us ru fun v hv=>by
   obtain⟨i,hi⟩:=List.getElem?_of_mem hv
   have hi':i<ks.length:=(List.getElem?_eq_some_iff.mp hi).1
   exact⟨_,hk i v _ hi (wR (by omega))⟩
  refine wpAny_bind (PySem.W.kat_kind (T:=.type "int") ht (by omega) (fun v hv=>?_) (by decide) ?_)
  ·obtain⟨i,t,rfl⟩:=hfi v hv
   exact .now
  ·have hsort:=KTr.wp (cmp:=PySem.W.kas_ask X.prog X.w X.one.one.A (tuples' true) us) (Ok:=Inv X.one.one (pins++[(D,seqObj "list" #[] e1)]) σ H) (fun i j C s' hi hj o k'=>?_) (R:=fun p s'=>(PermN xs.length p∧iK (fun i j=>lZ (kz.getD i (0,[])) (kz.getD j (0,[]))) p xs.length)∧Inv X.one.one (pins++[(D,seqObj "list" #[] e1)]) σ H s') (fun a s' q o=>⟨q,o⟩) (Dr T (n:=xs.length) (by omega)) I
   ·refine wpAny_bind (wpAny_mono (PySem.W.kat_run (Q:=fun st s'=>∃ p:Array Nat,arrOf st=p.map (PySem.W.kas_item (us.toArray.zip vs.toArray))∧failedOf st=none∧(PermN xs.length p∧iK (fun i j=>lZ (kz.getD i (0,[])) (kz.getD j (0,[]))) p xs.length)∧Inv X.one.one (pins++[(D,seqObj "list" #[] e1)]) σ H s')
     lu (by omega) (by omega) (fun p st s' _ a2 a3 a4=>⟨p,a2,a3,a4⟩) (by rw[← lx];exact hsort)) ?_ fun _ _ x=>x)
    rintro⟨⟨⟩,st⟩ s1 ⟨p,har,hfl1,⟨hp,hso⟩,I1⟩
    exact tail st p s1 I1 (PySem.W.kat_snds lu har) hfl1 hp hso
   ·have e1':ks[i]?=some (ks.getD i .non):=by rw[List.getD_eq_getElem?_getD,List.getElem?_eq_getElem (by omega)];rfl
    have e2':ks[j]?=some (ks.getD j .non):=by rw[List.getD_eq_getElem?_getD,List.getElem?_eq_getElem (by omega)];rfl
    have z1:=wR (kz:=kz) (i:=i) (by omega)
    have z2:=wR (kz:=kz) (i:=j) (by omega)
    exact CJ hu o (hk i _ _ e1' z1) (hk j _ _ e2' z2) (sO ru i (by omega)) (sO ru j (by omega)) (hlen i j _ _ z1 z2) (k' s' o)
theorem BV{pins:List (Addr×Obj)}{σ:St}{Q:VK}{l:Addr}{xs:List V}{kz:List (Int×List Int)}{Pv:Addr→Nat→List V→Hp→Prop}{s:Shared}{H:Hp}
  (F:FnOk X.prog X.w X.K X.mg X.base yP k f fd ps sp) (hr:Room (k+2) X.A) (hu:X.one.one.A.units+8<cLine) (hb:Binds X.K fd ps []) (I:Inv X pins σ H s) (hq:SqL X.K H l xs) (h64:xs.length<64) (hkl:kz.length=xs.length)
  (hlen:∀ (i j:Nat) (a b:Int×List Int),kz[i]?=some a→kz[j]?=some b→a.1=b.1→a.2.length=b.2.length) (T:TotLt (fun i j=>lZ (kz.getD i (0,[])) (kz.getD j (0,[]))))
  (h0:∀ S,H S=none→Pv S 0 [] (upd H S (.lst [])))
  (hst:∀ S i ks H,Pv S i ks H→∀ y,xs[i]?=some y→sp [y] H (fun v H2=>H2 S=some (.lst ks)∧ks.length=i∧Pv S (i+1) (ks++[v]) (upd H2 S (.lst (ks++[v])))) E0)
  (hend:∀ S ks H,Pv S xs.length ks H→H S=some (.lst ks)∧ks.length=xs.length∧(∀ (i:Nat) (v:V) (k:Int×List Int),ks[i]?=some v→kz[i]?=some k→oY H v k) ∧
   ∀ p:Array Nat,PermN xs.length p→iK (fun i j=>lZ (kz.getD i (0,[])) (kz.getD j (0,[]))) p xs.length→∀ D,upd H S (.lst []) D=none→Q (.ref D) (upd (upd H S (.lst [])) D (.lst (p.toList.map fun i=>xs.getD i .non)))) :
  wpAny (model X.prog X.w) X.A (call (.builtin "sorted") [.ref l] [(Str.ofString "key",.ref f)]) (EP X pins σ Q) X.xe s:=by
 obtain⟨vs,rx,pl,hz⟩:=I.list hq
 have lx:=rx.length
 refine call_function_entry_kw kind_sorted plain_sorted entry_sorted (ksk_s1 _ _) ?_
 unfold Builtin.«sorted»
 refine wpAny_bind (m:=checkCount "sorted" 1 1 _) (wpAny_pure ?_)
 refine wpAny_bind (collect_list pl.isList ?_ (by rw[sizeLine_eq];omega))
 refine wpAny_bind (wpAny_newList ?_ (by rw[sizeLine_eq];omega))
 have hsz:((s.heap.push (seqObj "list" #[] 0)).update s.heap.objs.size (Obj.mapSeq (·++vs.toArray))).objs.size=s.heap.objs.size+1:=by
  rw[Heap.size_update,size_push']
 have hoL:(((s.heap.push (seqObj "list" #[] 0)).update s.heap.objs.size (Obj.mapSeq (·++vs.toArray))).push (seqObj "list" vs.toArray 0)).get? (s.heap.objs.size+1)=some (seqObj "list" vs.toArray 0):=by
  rw[← hsz];exact Heap.get?_push_size _ rfl
 have keep:∀ b o,s.heap.get? b=some o→(((s.heap.push (seqObj "list" #[] 0)).update s.heap.objs.size (Obj.mapSeq (·++vs.toArray))).push (seqObj "list" vs.toArray 0)).get? b=some o:=fun b o q=>by
  have hlt:b<s.heap.objs.size:=Heap.lt_size q
  rw[Heap.get?_push_ne _ _ _ (by rw[hsz];exact Nat.ne_of_lt (Nat.lt_succ_of_lt hlt)),Heap.get?_update_ne _ _ _ _ (Nat.ne_of_lt hlt),Heap.get?_push_ne _ _ _ (Nat.ne_of_lt hlt)]
  exact q
 show wpAny _ _ _ _ _ { s with heap:=((s.heap.push (seqObj "list" #[] 0)).update s.heap.objs.size (Obj.mapSeq (·++vs.toArray))).push (seqObj "list" vs.toArray 0) }
 rw[hsz]
 have I0:Inv X.one.one pins σ H { s with heap:=((s.heap.push (seqObj "list" #[] 0)).update s.heap.objs.size (Obj.mapSeq (·++vs.toArray))).push (seqObj "list" vs.toArray 0) }:=I.one.one.kept (t':=s.toks) keep
 have fD:gD X.one.one pins H (s.heap.objs.size+1):=I.one.one.fpOk (Nat.le_succ _) (I.hok.fresh (Nat.le_succ _))
 generalize ((s.heap.push (seqObj "list" #[] 0)).update s.heap.objs.size (Obj.mapSeq (·++vs.toArray))).push (seqObj "list" vs.toArray 0)=hA at hoL keep I0
 generalize s.heap.objs.size+1=D at hoL fD
 refine wpAny_bind (wpAny_holding (wpAny_call_entry_kw slot_list_sort ⟨_,hoL,rfl⟩ entry_list_sort ?body (ksk_l1 _ _)))
 case body =>
  show wpAny (model X.prog X.w) X.A.in1.in1 (Builtin.«list.sort» ⟨[.ref D],[(Str.ofString "key",.ref f)]⟩) _ _ _
  rw[ksk_t1]
  obtain⟨f0,f1,f2,f3,f4,f5⟩:=id fD
  have s1:=Heap.SameBut.update hA D (Obj.mapSeq fun _=>(#[]:Array Value))
  obtain⟨e1,ho1⟩:∃ e1,(hA.update D (Obj.mapSeq fun _=>(#[]:Array Value))).get? D=some (seqObj "list" #[] e1):=⟨_,get?_update_seq hoL fun _=>#[]⟩
  have I1:Inv X.one.one pins σ H { s with heap:=hA.update D (Obj.mapSeq fun _=>(#[]:Array Value)) }:=I0.turned (t':=s.toks) (fun b o hb e=>(s1.2 b hb).trans e) f0 f1 f3 f4 f5
  unfold ksk_tree
  refine wpAny_bind (listItems_at hoL rfl ?_)
  refine wpAny_bind (listUpdate_at hoL rfl ?_ (by rw[List.size_toArray,sizeLine_eq];omega) (Nat.zero_le _))
  refine wpAny_bind (seqEpoch_at ho1 rfl ?_)
  refine wpAny_bind (wpAny_newTuple ?_ (by show vs.length≤_;rw[sizeLine_eq];omega))
  refine wpAny_bind (wpAny_newList ?_ (Nat.zero_le _))
  refine wpAny_holding ?_
  show wpAny (model X.prog X.w) X.one.one.A _ _ _ { s with heap:=((hA.update D (Obj.mapSeq fun _=>(#[]:Array Value))).push (seqObj "tuple" vs.toArray 0)).push (seqObj "list" #[] 0) }
  generalize hA.update D (Obj.mapSeq fun _=>(#[]:Array Value))=hB at ho1 I1
  have I2:Inv X.one.one pins σ H { s with heap:=hB.push (seqObj "tuple" vs.toArray 0) }:=I1.kept (t':=s.toks) fun b o e=>Heap.get?_push_of_some _ e
  have ho2:(hB.push (seqObj "tuple" vs.toArray 0)).get? D=some (seqObj "list" #[] e1):=Heap.get?_push_of_some _ ho1
  generalize hB.push (seqObj "tuple" vs.toArray 0)=hC at ho2 I2
  have fS:H hC.objs.size=none:=I2.hok.fresh (Nat.le_refl _)
  have I3:Inv X.one.one pins σ (upd H hC.objs.size (.lst [])) { s with heap:=hC.push (seqObj "list" #[] 0) }:=I2.lnew (t':=s.toks) (its:=[]) (ys:=[]) .nil (Nat.zero_le _)
  have ho3:(hC.push (seqObj "list" #[] 0)).get? D=some (seqObj "list" #[] e1):=Heap.get?_push_of_some _ ho2
  have hDS:D≠hC.objs.size:=Nat.ne_of_lt (Heap.lt_size ho2)
  have fD3:gD X.one.one pins (upd H hC.objs.size (.lst [])) D:=⟨by rw[aE hDS];exact f0,fD.2⟩
  have I4:=I3.pinned (fp:=[D]) (fun b hb=>by rw[List.mem_singleton.mp hb];exact fD3) (fun b hb=>by rw[List.mem_singleton.mp hb];exact⟨_,ho3,fun v z=>by cases z⟩)
  have epn:jI [D] (hC.push (seqObj "list" #[] 0))=[(D,seqObj "list" #[] e1)]:=by unfold jI;simp[ho3]
  have I5:Inv X.one.one (pins++[(D,seqObj "list" #[] e1)]) σ (upd H hC.objs.size (.lst [])) { s with heap:=hC.push (seqObj "list" #[] 0) }:=by rw[← epn];exact I4
  generalize hC.objs.size=S at fS I5 hDS
  unfold ksk_rest
  refine wpAny_bind (wpAny_rule ?_)
  first
   | rw[List.forIn_toArray]
   | (rw[← Array.forIn_toList];simp only [List.toList_toArray])
   | rw[← Array.forIn_toList]
  refine wpAny_bind (wpAny_mono (xR (X:=X) (pins:=pins++[(D,seqObj "list" #[] e1)]) (S:=S) (Pv:=Pv S) F hr.in1.in1 hb h64 (fun x s' R hx=>?_) (hst S) xs vs 0 [] _ _ rx rfl (by simp) I5 (h0 S fS)) (fun _ s' hd=>?_) fun _ _ x=>x)
  ·refine wpAny_bind (wpAny_attempt (wpAny_mono hx (fun kv s'' hk=>?_) fun _ _ hF=>hF.elim))
   try dsimp only
   exact wpAny_bind (wpAny_mono hk (fun _ s3 h3=>wpAny_pure h3) fun _ _ x=>x)
  ·obtain⟨ks,H',I6,pv⟩:=hd
   obtain⟨eS,hkl2,hka,hfin⟩:=hend S ks H' pv
   have pD:=(I6.pin (D,seqObj "list" #[] e1) (List.mem_append_right _ (List.mem_append_right _ (List.mem_singleton_self _)))).2.1
   refine BI (X:=X) (pins:=pins) (D:=D) (kz:=kz) hu I6 ⟨pD,fD.2⟩ eS rx hkl2 h64 hkl hka hlen T fun p s4 hp hso I7=>?_
   exact⟨_,rfl,wpAny_pure ⟨_,rfl,⟨.ref D,_,(I7.unone I.ok.one).unone I.ok,rfl,hfin p hp hso D (by rw[aE (aH eS pD).symm];exact pD)⟩⟩⟩
theorem AM{K:PySem.W.Frag}{e:Expr}{ta:TA}{kn:Str}{p kp kpos pos:Pos}(hK:X.K=K)(F:FnOk X.prog X.w X.K X.mg X.base yP k f fd ps sp)(hr:Room (k+2) X.A)(hb:Binds X.K fd ps [])
  (hg:Gl X "sorted") (hm:X.mg "sorted"=none) (hgk:Gl X kn) (hmk:X.mg kn=some (.ref f)) (ha:PA X [e] ta) (hkd:(kn == ("__debug__":Str))=false:=by decide)
  (hall:(backToKw pos (keywordEach [⟨some (Str.ofString "key"),.Name kn kp,kpos⟩] X.env)).all (·.1.isSome)=true:=by rfl) (hks:(backToKw pos (keywordEach [⟨some (Str.ofString "key"),.Name kn kp,kpos⟩] X.env)).filterMap (·.1)=[Str.ofString "key"]:=by rfl)
  (hs:backTo pos (starEach [e] X.env)=[(false,eval e X.env)]:=by rfl) (hkw:(backToKw pos (keywordEach [⟨some (Str.ofString "key"),.Name kn kp,kpos⟩] X.env)).any (·.1.isNone)=false:=by rfl) :
  PE X (.Call (.Name "sorted" p) [e] [⟨some (Str.ofString "key"),.Name kn kp,kpos⟩] pos) (EV K sp ta):=by
 subst hK
 intro pins s σ H Q I h
 refine wpAny_Call_Name_kw (hJ I hg hm boot_sorted ?_ (by decide) (by decide))
 refine callWith_kw (bZ (ha pos pins s σ H _ I h) fun us s1 ⟨vs,H1,I1,r1,q1⟩=>?_) (by rw[hs];rfl) (by rw[hs];rfl) hall hkw
 obtain⟨l,xs,kz,Pv,rfl,hq,h64,hkl,hlen,T,h0,hst,hend⟩:=q1
 have hpk:PK X [⟨some (Str.ofString "key"),.Name kn kp,kpos⟩] (AT (tC (.ref f)) A0):=Dk (mN (v:=.ref f) hgk hmk rfl hkd) Ec
 refine bZ (hpk pos pins s1 σ H1 (fun zs H2=>zs=[.ref f]∧H2=H1) I1 ⟨rfl,rfl⟩) fun ks s2 ⟨zs,H2,I2,r2,e2,e3⟩=>?_
 subst e2 e3
 obtain⟨u,rfl,ru⟩:=kP r1
 obtain⟨kf,rfl,rk⟩:=kP r2
 cases ru
 cases rk
 rw[hks]
 have hu:X.one.one.A.units+8<cLine:=by
  have:=hr.units
  show X.A.units+1+1+8<cLine
  omega
 exact BV F hr hu hb I2 hq h64 hkl hlen T h0 hst hend
end
end L2
namespace PySem
open Sem (wp)
end PySem
namespace L2
open PySem PySem.Spec PyProof.Rows
def Ch(z:Str):Value→Bool
 | .str w _=>w == z
 | _=>false
theorem tO(z:Str):∀ {ws:List Str} {us:List Value},Vals (ws.map V.str) us→us.countP (Ch z)=ws.countP (· == z)∧∀ u∈us,∃ w t,u=Value.str w t
 | [],us,r=>by
  cases r
  exact⟨rfl,fun u hu=>(nomatch hu)⟩
 | w::ws,us,r=>by
  rw[List.map_cons] at r
  cases r with
  | cons r1 r2 =>
   obtain⟨t,rfl⟩:=r1
   obtain⟨h1,h2⟩:=tO z r2
   refine⟨?_,fun u hu=>?_⟩
   ·rw[List.countP_cons,List.countP_cons,h1]
    rfl
   ·rcases List.mem_cons.mp hu with rfl | hu
    ·exact⟨_,_,rfl⟩
    ·exact h2 u hu
end L2
namespace Lw
open PySem PySem.Spec PyProof.Rows L2 Ma MaR
def jT(x:List Nat):Int×List Int:=((x.length:Nat),rks x)
theorem tW:∀ {a b:List Int},a.length=b.length→HT.lexLt a b=true→HT.lexLt b a=false
 | [],[],_,h=>by cases h
 | x::a,y::b,hl,h=>by
  rw[HT.lexLt_cons] at h ⊢
  by_cases e:x=y
  ·subst e
   rw[if_pos rfl] at h ⊢
   exact tW (by simpa using hl) h
  ·rw[if_neg e] at h
   rw[if_neg (fun z=>e z.symm)]
   have:=of_decide_eq_true h
   exact decide_eq_false (by omega)
theorem Br:∀ {a b c:List Int},a.length=b.length→b.length=c.length→HT.lexLt b a=false→HT.lexLt c b=false→HT.lexLt c a=false
 | [],[],[],_,_,_,h=>h
 | x::a,y::b,z::c,h1,h2,h3,h4=>by
  rw[HT.lexLt_cons] at h3 h4 ⊢
  by_cases e:y=x
  ·subst e
   rw[if_pos rfl] at h3
   by_cases e2:z=y
   ·subst e2
    rw[if_pos rfl] at h4 ⊢
    exact Br (by simpa using h1) (by simpa using h2) h3 h4
   ·rw[if_neg e2] at h4 ⊢
    exact h4
  ·rw[if_neg e] at h3
   have q1:=of_decide_eq_false h3
   by_cases e2:z=y
   ·subst e2
    rw[if_neg e]
    exact h3
   ·rw[if_neg e2] at h4
    have q2:=of_decide_eq_false h4
    rw[if_neg (by omega)]
    exact decide_eq_false (by omega)
def Cf(k:Int×List Int):Prop:=k.1=(k.2.length:Nat)
theorem Bi{a b:Int×List Int}(ha:Cf a)(hb:Cf b)(h:lZ a b=true):lZ b a=false:=by
 unfold lZ at h ⊢
 unfold Cf at ha hb
 by_cases e:a.1=b.1
 ·rw[if_pos e] at h
  rw[if_pos e.symm]
  exact tW (by omega) h
 ·rw[if_neg e] at h
  rw[if_neg (fun z=>e z.symm)]
  have:=of_decide_eq_true h
  exact decide_eq_false (by omega)
theorem D0{a b c:Int×List Int}(ha:Cf a)(hb:Cf b)(hc:Cf c)(h1:lZ b a=false)(h2:lZ c b=false):lZ c a=false:=by
 unfold lZ at h1 h2 ⊢
 unfold Cf at ha hb hc
 by_cases e:b.1=a.1
 ·rw[if_pos e] at h1
  by_cases e2:c.1=b.1
  ·rw[if_pos e2] at h2
   rw[if_pos (e2.trans e)]
   exact Br (by omega) (by omega) h1 h2
  ·rw[if_neg e2] at h2
   rw[if_neg (by omega)]
   have:=of_decide_eq_false h2
   exact decide_eq_false (by omega)
 ·rw[if_neg e] at h1
  have q1:=of_decide_eq_false h1
  by_cases e2:c.1=b.1
  ·rw[if_neg (by omega)]
   exact decide_eq_false (by omega)
  ·rw[if_neg e2] at h2
   have q2:=of_decide_eq_false h2
   rw[if_neg (by omega)]
   exact decide_eq_false (by omega)
theorem gW(x:List Nat):Cf (jT x):=by
 unfold Cf jT
 rw[mY]
theorem lF(ws:List (List Nat))(i:Nat):(ws.map jT).getD i (0,[])=jT (ws.getD i []):=by
 rw[List.getD_eq_getElem?_getD,List.getElem?_map,List.getD_eq_getElem?_getD]
 cases ws[i]? with
 | none=>rfl
 | some x=>rfl
theorem A6(ws:List (List Nat)):TotLt (fun i j=>lZ ((ws.map jT).getD i (0,[])) ((ws.map jT).getD j (0,[]))):=by
 refine⟨fun i j h=>?_,fun i j k h1 h2=>?_⟩
 ·simp only [lF] at h ⊢
  exact Bi (gW _) (gW _) h
 ·simp only [lF] at h1 h2 ⊢
  exact D0 (gW _) (gW _) (gW _) h1 h2
def BH(x y:List Nat):Prop:=lZ (jT y) (jT x)=false
theorem wW{ws:List (List Nat)}{p:Array Nat}(h:PermN ws.length p):(p.toList.map fun i=>ws.getD i []).Perm ws:=by
 have h1:=(Array.perm_iff_toList_perm.mp h).map fun i=>ws.getD i []
 have e:(List.range ws.length).map (fun i=>ws.getD i [])=ws:=by
  refine List.ext_getElem? fun i=>?_
  by_cases hi:i<ws.length
  ·simp[hi]
  ·simp[hi]
 simp only [List.toList_toArray] at h1
 rw[e] at h1
 exact h1
theorem rZ{ws:List (List Nat)}{p:Array Nat}{n:Nat}(hn:ws.length=n)(h:PermN n p)(so:iK (fun i j=>lZ ((ws.map jT).getD i (0,[])) ((ws.map jT).getD j (0,[]))) p n):(p.toList.map fun i=>ws.getD i []).Pairwise BH:=by
 rw[List.pairwise_iff_getElem]
 intro i j hi hj hij
 have hs:=h.size
 rw[List.length_map,Array.length_toList] at hi hj
 have:=so i j (by omega) (by omega)
 simp only [lF] at this
 unfold BH
 rw[List.getElem_map,List.getElem_map]
 have e1:p.getD i 0=p.toList[i]'(by rw[Array.length_toList];exact hi):=by simp[Array.getD,hi]
 have e2:p.getD j 0=p.toList[j]'(by rw[Array.length_toList];exact hj):=by simp[Array.getD,hj]
 rw[← e1,← e2]
 exact this
theorem Bn(ws:List (List Nat))(l:List Nat)(h:∀ i∈l,i<ws.length):(l.map fun i=>(bX ws).getD i .non)=bX (l.map fun i=>ws.getD i []):=by
 unfold bX
 rw[List.map_map]
 refine List.map_congr_left fun i hi=>?_
 have:=h i hi
 simp[List.getD_eq_getElem?_getD,this]
theorem yW:∀ {x y:List Nat},AllL x→AllL y→rks x=rks y→x=y
 | [],[],_,_,_=>rfl
 | [],_::_,_,_,h=>by simp[rks] at h
 | _::_,[],_,_,h=>by simp[rks] at h
 | a::x,b::y,hx,hy,h=>by
  obtain⟨e1,e2⟩:=List.cons.inj (show ((rk a:Nat):Int)::rks x=((rk b:Nat):Int)::rks y from h)
  rw[Fd (AllL.cons.mp hx).1 (AllL.cons.mp hy).1 (by omega),yW (AllL.cons.mp hx).2 (AllL.cons.mp hy).2 e2]
theorem Ba:∀ {a b:List Int},a.length=b.length→HT.lexLt a b=false→HT.lexLt b a=false→a=b
 | [],[],_,_,_=>rfl
 | x::a,y::b,hl,h1,h2=>by
  rw[HT.lexLt_cons] at h1 h2
  by_cases e:x=y
  ·subst e
   rw[if_pos rfl] at h1 h2
   rw[Ba (by simpa using hl) h1 h2]
  ·rw[if_neg e] at h1
   rw[if_neg (fun z=>e z.symm)] at h2
   have:=of_decide_eq_false h1
   have:=of_decide_eq_false h2
   omega
theorem AY{x y:List Nat}(hx:AllL x)(hy:AllL y)(h1:BH x y)(h2:BH y x):x=y:=by
 unfold BH lZ jT at h1 h2
 dsimp only at h1 h2
 by_cases e:x.length=y.length
 ·rw[if_pos (by omega)] at h1 h2
  exact yW hx hy (Ba (by rw[mY,mY,e]) h2 h1)
 ·rw[if_neg (by omega)] at h1 h2
  have:=of_decide_eq_false h1
  have:=of_decide_eq_false h2
  omega
theorem pN:∀ {ps qs:List (List Nat)},(∀ x∈ps,AllL x)→ps.Perm qs→ps.Pairwise BH→qs.Pairwise BH→ps=qs
 | [],qs,_,h,_,_=>by rw[List.nil_perm.mp h]
 | x::ps,[],_,h,_,_=>by exact absurd h.length_eq (by simp)
 | x::ps,y::qs,ha,h,h1,h2=>by
  have hy:y∈x::ps:=h.mem_iff.mpr List.mem_cons_self
  have hx:x∈y::qs:=h.mem_iff.mp List.mem_cons_self
  obtain⟨p1,p2⟩:=List.pairwise_cons.mp h1
  obtain⟨q1,q2⟩:=List.pairwise_cons.mp h2
  have e:x=y:=by
   rcases List.mem_cons.mp hy with e | m1
   ·exact e.symm
   ·rcases List.mem_cons.mp hx with e | m2
    ·exact e
    ·exact AY (ha x List.mem_cons_self) (ha y hy) (p1 y m1) (q1 x m2)
  subst e
  rw[pN (fun z hz=>ha z (List.mem_cons_of_mem _ hz)) (List.perm_cons _ |>.mp h) p2 q2]
theorem uF{x:List Nat}{d e:Nat}{j:Nat}(h:j<x.length):(d::x++[e]).getD (j+1) 0=x.getD j 0:=by
 rw[List.getD_eq_getElem?_getD,List.getD_eq_getElem?_getD]
 show ((d::(x++[e]))[j+1]?).getD 0=_
 rw[List.getElem?_cons_succ,List.getElem?_append_left h]
theorem pQ{x:List Nat}{d e:Nat}:(d::x++[e]).getD (x.length+1) 0=e:=by
 rw[List.getD_eq_getElem?_getD]
 show ((d::(x++[e]))[x.length+1]?).getD 0=_
 rw[List.getElem?_cons_succ,List.getElem?_append_right (Nat.le_refl _)]
 simp
theorem jX(x:List Nat)(d e:Nat):(d::x++[e]).length=x.length+2:=by simp
theorem wrap_pair{x:List Nat}{d:Nat}{j:Nat}:(2 * (j+1)+1<(d::x++[con d]).length∧(d::x++[con d]).getD (j+1) 0=con ((d::x++[con d]).getD ((d::x++[con d]).length - 1 - (j+1)) 0))↔(2 * j+1<x.length∧x.getD j 0=con (x.getD (x.length - 1 - j) 0)):=by
 rw[jX]
 by_cases c:2 * j+1<x.length
 ·rw[uF (by omega),show x.length+2 - 1 - (j+1)=(x.length - 1 - j)+1 by omega,uF (by omega)]
  constructor
  ·rintro⟨_,h⟩;exact⟨c,h⟩
  ·rintro⟨_,h⟩;exact⟨by omega,h⟩
 ·constructor
  ·rintro⟨h,_⟩;omega
  ·rintro⟨h,_⟩;omega
theorem qB{x:List Nat}{d m:Nat}(hd:bY d):Ends (d::x++[con d]) (m+1)↔Ends x m:=by
 unfold Ends
 constructor
 ·rintro⟨h1,h2⟩
  exact⟨fun j hj=>wrap_pair.mp (h1 (j+1) (by omega)),fun h=>h2 (wrap_pair.mpr h)⟩
 ·rintro⟨h1,h2⟩
  refine⟨fun j hj=>?_,fun h=>h2 (wrap_pair.mp h)⟩
  cases j with
  | zero =>
   rw[jX,show x.length+2 - 1 - 0=x.length+1 by omega,pQ,aQ hd]
   exact⟨by omega,rfl⟩
  | succ j=>exact wrap_pair.mpr (h1 j (by omega))
theorem Bc{x:List Nat}{d:Nat}(hd:bY d):¬ Ends (d::x++[con d]) 0:=fun h=>h.2 (by
 rw[jX,show x.length+2 - 1 - 0=x.length+1 by omega,pQ,aQ hd]
 exact⟨by omega,rfl⟩)
theorem vC{x:List Nat}{d e m:Nat}:mid (d::x++[e]) (m+1)=(x.drop m).take (x.length - 2 * m)∨x.length<2 * m:=by
 by_cases c:x.length<2 * m
 ·exact .inr c
 ·left
  unfold mid
  rw[jX]
  show List.take (x.length+2 - 2 * (m+1)) (List.drop (m+1) (d::(x++[e])))=_
  rw[List.drop_succ_cons,List.drop_append_of_le_length (by omega),List.take_append_of_le_length (by rw[List.length_drop];omega)]
  congr 1
  omega
theorem qA{x r:List Nat}{d:Nat}(hd:bY d):fY (d::x++[con d]) r↔fY x r:=by
 constructor
 ·rintro⟨m,b,h1,h2,h3⟩
  cases m with
  | zero=>exact absurd h1 (Bc hd)
  | succ m =>
   have he:=(qB hd).mp h1
   have hm:mid (d::x++[con d]) (m+1)=mid x m:=by
    rcases vC (x:=x) (d:=d) (e:=con d) (m:=m) with h | h
    ·exact h
    ·have:=he.le;omega
   rw[hm] at h2 h3
   exact⟨m,b,he,h2,h3⟩
 ·rintro⟨m,b,h1,h2,h3⟩
  have hm:mid (d::x++[con d]) (m+1)=mid x m:=by
   rcases vC (x:=x) (d:=d) (e:=con d) (m:=m) with h | h
   ·exact h
   ·have:=h1.le;omega
  refine⟨m+1,b,(qB hd).mpr h1,?_,?_⟩
  ·rw[hm];exact h2
  ·rw[hm];exact h3
theorem wZ{x:List Nat}{c:Nat}(hp:bI x)(h:∀ d t,x=d::t→c≠con d):bI (c::x):=by
 refine iH fun k=>?_
 rintro⟨a,b,h1,h2,e⟩
 cases k with
 | zero =>
  cases x with
  | nil=>simp at h2
  | cons d t =>
   simp at h1 h2
   subst h1 h2
   exact h d t rfl e
 | succ k=>exact pO hp (by simpa using h1) (by simpa using h2) e
theorem qS{x r:List Nat}(hx:AllL x)(hp:bI x)(he:Ends x 0)(hr:fY x r){a:Nat}(ha:a≤x.length):fY (iS x a) r:=by
 obtain⟨b,hb,e⟩:=C9 hx he hr
 rw[oF] at e
 have hl:x.length=r.length:=by rw[e,eV hb]
 by_cases h0:r.length=0
 ·have e1:r=[]:=List.length_eq_zero_iff.mp h0
  have e2:x=[]:=List.length_eq_zero_iff.mp (by omega)
  have:a=0:=by rw[e2] at ha;simpa using ha
  rw[e1,e2,this]
  exact tN
 ·by_cases hae:a<r.length
  ·by_cases hbe:b<r.length
   ·rw[e,sZ hbe hae (Nat.mod_lt _ (by omega)) rfl]
    exact uN hx hp hr (Nat.le_of_lt (Nat.mod_lt _ (by omega)))
   ·have:b=r.length:=by omega
    rw[e,this,sI]
    exact uN hx hp hr (by omega)
  ·have:a=x.length:=by omega
   rw[this,sI]
   exact hr
theorem BD{x r:List Nat}{c:Nat}(hx:AllL x)(hp:bI x)(hc:bY c)(hr:fY x r):fY (lay (c::x++[con c])) r:=by
 have hcc:=cB hc
 cases x with
 | nil =>
  have e:lay (c::[]++[con c])=[]:=dY (w:=[c]) (fun d hd=>by rw[List.mem_singleton.mp hd];exact hc)
  rw[e];exact hr
 | cons d t =>
  obtain⟨hd,ht⟩:=AllL.cons.mp hx
  have pt:bI t:=wK hp 1
  by_cases hdc:d=con c
  ·-- the letter falls away at the begin
   have e1:lay (c::(d::t)++[con c])=lay (t++[con c]):=iQ [] (t++[con c]) AllL.nil hd (by rw[hdc,aQ hc])
   rw[e1]
   by_cases hlast:∃ t',t=t'++[c]
   ·obtain⟨t',rfl⟩:=hlast
    have ht':=(AllL.app.mp ht).1
    have e2:lay (t'++[c]++[con c])=lay (t'++[]):=by
     rw[List.append_assoc]
     exact iQ t' [] ht' hcc (by rw[aQ hc])
    rw[e2,List.append_nil,dU (by have:=nO pt t'.length;rwa [List.take_left] at this)]
    have hr':fY (con c::t'++[con (con c)]) r:=by rw[aQ hc,← hdc];exact hr
    exact(qA hcc).mp hr'
   ·have hok:kZ t (con c)=true:=by
     unfold kZ
     cases hq:t.getLast? with
     | none=>rfl
     | some z =>
      simp only [Bool.not_eq_true',decide_eq_false_iff_not]
      intro hz
      have hz':con c=con z:=by simpa using hz
      obtain⟨t',ht'⟩:=List.getLast?_eq_some_iff.mp hq
      have hzL:bY z:=ht z (by rw[ht'];simp)
      exact hlast ⟨t',by rw[ht',rO hc hzL hz']⟩
    rw[dU (lQ ht hcc pt hok)]
    have e3:t++[con c]=iS (d::t) 1:=by unfold iS;rw[hdc];rfl
    rw[e3]
    refine qS hx hp ⟨fun j hj=>absurd hj (Nat.not_lt_zero _),?_⟩ hr (by simp)
    rintro⟨h1,h2⟩
    have hne:t≠[]:=by rintro rfl;simp at h1
    apply hlast
    refine⟨t.dropLast,?_⟩
    have hl:(d::t).getD ((d::t).length - 1 - 0) 0=t.getLast hne:=by
     rw[List.getD_eq_getElem?_getD,List.getLast_eq_getElem]
     have h3:(d::t).length - 1 - 0=(t.length - 1)+1:=by
      have:=List.length_pos_iff.mpr hne
      simp;omega
     rw[h3,List.getElem?_cons_succ,List.getElem?_eq_getElem (by have:=List.length_pos_iff.mpr hne;omega)]
     rfl
    rw[hl] at h2
    have h4:con c=con (t.getLast hne):=by rw[← hdc];exact h2
    have h5:=rO hc (ht _ (List.getLast_mem hne)) h4
    conv=>lhs;rw[← List.dropLast_concat_getLast hne,← h5]
  ·have pz:bI (c::d::t):=wZ hp fun d' t' e=>by
    cases e
    intro h
    exact hdc (by rw[h,aQ hd])
   by_cases hlast:∃ t',d::t=t'++[c]
   ·obtain⟨t',ht'⟩:=hlast
    have ha':AllL t':=(AllL.app.mp (by rw[← ht'];exact hx)).1
    have e2:lay (c::(d::t)++[con c])=lay (c::t'++[]):=by
     have:c::(d::t)++[con c]=(c::t')++c::con c::[]:=by rw[ht'];simp
     rw[this]
     exact iQ (c::t') [] (AllL.cons.mpr ⟨hc,ha'⟩) hcc (by rw[aQ hc])
    have pz':bI (c::t'):=by
     have:c::t'=(c::d::t).take (t'.length+1):=by rw[ht'];simp
     rw[this];exact nO pz _
    rw[e2,List.append_nil,dU pz']
    have e3:c::t'=iS (d::t) t'.length:=by unfold iS;rw[ht',List.drop_left,List.take_left];rfl
    rw[e3]
    refine qS hx hp ⟨fun j hj=>absurd hj (Nat.not_lt_zero _),?_⟩ hr (by rw[ht'];simp)
    rintro⟨h1,h2⟩
    have hl:(d::t).getD ((d::t).length - 1 - 0) 0=c:=by
     rw[ht',List.length_append,List.getD_eq_getElem?_getD,List.getElem?_append_right (by simp)]
     simp
    rw[hl] at h2
    exact hdc h2
   ·have hok:kZ (c::d::t) (con c)=true:=by
     unfold kZ
     have hq:(c::d::t).getLast?=(d::t).getLast?:=by rw[List.getLast?_cons_cons]
     rw[hq]
     cases hq2:(d::t).getLast? with
     | none=>rfl
     | some z =>
      simp only [Bool.not_eq_true',decide_eq_false_iff_not]
      intro hz
      have hz':con c=con z:=by simpa using hz
      obtain⟨t',ht'⟩:=List.getLast?_eq_some_iff.mp hq2
      have hzL:bY z:=hx z (by rw[ht'];simp)
      exact hlast ⟨t',by rw[ht',rO hc hzL hz']⟩
    have pw:=lQ (AllL.cons.mpr ⟨hc,hx⟩) hcc pz hok
    rw[dU pw]
    exact(qA hc).mpr hr
theorem zK{x r:List Nat}(hx:AllL x)(hp:bI x)(hr:fY x r):∀ g:List Nat,AllL g→fY (lay (g++x++back g)) r
 | [],_=>by
  have e:([]:List Nat)++x++back []=x:=by unfold back;simp
  rw[e,dU hp];exact hr
 | c::g,h=>by
  obtain⟨hc,hg⟩:=AllL.cons.mp h
  have ih:=zK hx hp hr g hg
  have hm:AllL (g++x++back g):=AllL.app.mpr ⟨AllL.app.mpr ⟨hg,hx⟩,aL hg⟩
  have e:c::g++x++back (c::g)=[c]++(g++x++back g)++[con c]:=by
   have:back (c::g)=back g++[con c]:=by unfold back;simp
   rw[this];simp[List.append_assoc]
  have h1:AllL [c]:=fun d hd=>by rw[List.mem_singleton.mp hd];exact hc
  have h2:AllL [con c]:=fun d hd=>by rw[List.mem_singleton.mp hd];exact cB hc
  rw[e,← hG _ _ _ h1 hm h2]
  exact BD (dN hm) (iU _) hc ih
def dC(n:Nat)(g:List Nat):List (List Nat):=(bW n).map fun c=>lay (g++[c]++back g)
theorem cC{c:Nat}(h:bY c):AllL [c]:=fun d hd=>by rw[List.mem_singleton.mp hd];exact h
theorem eR{n c:Nat}(h:c∈bW n):bY c:=by
 have:c∈[97,98,99,100]:=List.mem_of_mem_take h
 simp only [List.mem_cons,List.not_mem_nil,or_false] at this
 unfold bY
 omega
theorem eI{g w:List Nat}(hg:AllL g)(hw:AllL w):AllL (g++w++back g):=AllL.app.mpr ⟨AllL.app.mpr ⟨hg,hw⟩,aL hg⟩
theorem dA{n:Nat}(h4:n≤4):(bW n).length=n:=by unfold bW;rw[List.length_take];simp;omega
theorem hV{n:Nat}{g:List Nat}(h4:n≤4)(hg:AllL g):RT (dC n g) n (2 * g.length+1):=by
 refine⟨by unfold dC;rw[List.length_map,dA h4],fun x hx=>?_,fun x hx=>?_⟩
 ·obtain⟨c,hc,rfl⟩:=List.mem_map.mp hx
  exact dN (eI hg (cC (eR hc)))
 ·obtain⟨c,hc,rfl⟩:=List.mem_map.mp hx
  have:=eQ (g++[c]++back g)
  rw[List.length_append,List.length_append,bG,List.length_singleton] at this
  omega
theorem kU{n c:Nat}(h1:1≤n)(h4:n≤4)(h:c∈aK n):(bH c=true∧(bW n)[c - 97]?=some c)∨(bH c=false∧(bW n)[c - 65]?=some (con c)):=by
 have hL:=aP (aJ h)
 rcases zO h1 h4 with rfl | rfl | rfl | rfl <;> rcases hL with rfl | rfl | rfl | rfl | rfl | rfl | rfl | rfl <;> revert h <;> decide
theorem Am{g:List Nat}{c:Nat}(hg:AllL g):back (g++[c]++back g)=g++[con c]++back g:=by
 rw[cY,cY,dF hg]
 have:back [c]=[con c]:=rfl
 rw[this,List.append_assoc]
theorem Ah{n:Nat}{g:List Nat}(h1:1≤n)(h4:n≤4)(hg:AllL g){c:Nat}(h:c∈aK n):tell (dC n g) c=lay (g++[c]++back g):=by
 have hL:=aJ h
 unfold tell dC
 rcases kU h1 h4 h with ⟨h2,h3⟩ | ⟨h2,h3⟩
 ·rw[if_pos h2,List.getD_eq_getElem?_getD,List.getElem?_map,h3];rfl
 ·rw[if_neg (by rw[h2];decide),List.getD_eq_getElem?_getD,List.getElem?_map,h3]
  show back (lay (g++[con c]++back g))=_
  rw[← gI (eI hg (cC (cB hL))),Am hg,aQ hL]
theorem pU{g:List Nat}(hg:AllL g):∀ w:List Nat,AllL w→lay (w.flatMap fun c=>g++[c]++back g)=lay (g++w++back g)
 | [],_=>by
  rw[List.append_nil,dY hg];rfl
 | c::w,h=>by
  obtain⟨hc,hw⟩:=AllL.cons.mp h
  have ih:=pU hg w hw
  have ha:AllL (w.flatMap fun c=>g++[c]++back g):=fun d hd=>by
   obtain⟨e,he,hd'⟩:=List.mem_flatMap.mp hd
   exact eI hg (cC (hw e he)) d hd'
  have h1:=eI hg (cC hc)
  rw[List.flatMap_cons,← cP _ _ h1 ha,ih,cP _ _ h1 (eI hg hw)]
  have e:g++[c]++back g++(g++w++back g)=(g++[c])++(back g++g)++(w++back g):=by simp[List.append_assoc]
  have e2:g++c::w++back g=(g++[c])++(w++back g):=by simp[List.append_assoc]
  rw[e,e2,← hG _ _ _ (AllL.app.mpr ⟨hg,cC hc⟩) (AllL.app.mpr ⟨aL hg,hg⟩) (AllL.app.mpr ⟨hw,aL hg⟩),dX hg,List.append_nil]
theorem gY{f g:Nat→List Nat}:∀ {w:List Nat},(∀ c∈w,f c=g c)→w.flatMap f=w.flatMap g
 | [],_=>rfl
 | c::w,h=>by rw[List.flatMap_cons,List.flatMap_cons,h c List.mem_cons_self,gY fun d hd=>h d (List.mem_cons_of_mem _ hd)]
theorem zG{n:Nat}{g w:List Nat}(h1:1≤n)(h4:n≤4)(hg:AllL g)(hw:OfN n w):retl (dC n g) w=lay (g++w++back g):=by
 rw[← pU hg w hw.all]
 unfold retl told
 have e:w.flatMap (tell (dC n g))=w.flatMap fun c=>lay (if bY c then g++[c]++back g else []):=by
  refine gY fun c hc=>?_
  rw[Ah h1 h4 hg (hw c hc),if_pos (aJ (hw c hc))]
 rw[e,nY w fun c=>by
  by_cases q:bY c
  ·rw[if_pos q];exact eI hg (cC q)
  ·rw[if_neg q];exact AllL.nil]
 congr 1
 refine gY fun c hc=>?_
 rw[if_pos (aJ (hw c hc))]
theorem cZ{n c:Nat}(h1:1≤n)(h4:n≤4)(h:c∈bW n):c∈aK n:=CP h1 h4 [c] (List.mem_map.mpr ⟨c,h,rfl⟩) c (List.mem_singleton.mpr rfl)
theorem kY{n:Nat}{g:List Nat}(h1:1≤n)(h4:n≤4)(hg:OfN n g):∀ x∈dC n g,OfN n x:=fun x hx=>by
 obtain⟨c,hc,rfl⟩:=List.mem_map.mp hx
 refine OfN.lay (OfN.app (OfN.app hg fun d hd=>?_) (hg.back (by omega) (by omega)))
 rw[List.mem_singleton.mp hd]
 exact cZ h1 h4 hc
theorem pY{n:Nat}{g:List Nat}(h1:1≤n)(h4:n≤4)(hg:OfN n g):aT (dC n g) (dC n (back g))=bN n:=by
 have ga:=hg.all
 have hb:=hg.back (by omega:(1:Int)≤(n:Int)) (by omega)
 unfold aT dC bN
 rw[List.map_map]
 refine List.map_congr_left fun c hc=>?_
 have hcL:=eR hc
 have h9:=eI ga (cC hcL)
 show retl (dC n (back g)) (lay (g++[c]++back g))=[c]
 rw[nB (hV h4 hb.all) h9,zG h1 h4 hb.all (OfN.app (OfN.app hg fun d hd=>by rw[List.mem_singleton.mp hd];exact cZ h1 h4 hc) hb),dF ga]
 have e:back g++(g++[c]++back g)++g=[]++(back g++g)++([c]++(back g++g)):=by simp[List.append_assoc]
 have hbg:AllL (back g++g):=AllL.app.mpr ⟨aL ga,ga⟩
 rw[e,← hG _ _ _ AllL.nil hbg (AllL.app.mpr ⟨cC hcL,hbg⟩),dX ga]
 have e2:[]++[]++([c]++(back g++g))=[c]++(back g++g)++[]:=by simp
 rw[e2,← hG _ _ _ (cC hcL) hbg AllL.nil,dX ga]
 exact dU trivial
def kO:Sp:=fun vs H Q _=>∃ (n:Nat) (g:List Nat),vs=[.int (n:Nat),.str (S g)]∧1≤n∧n≤4∧AllL g∧g.length≤400∧∀ (p:Addr) (H':Hp),H p=none→Same H H'→H' p=some (.tup (bX (dC n g)))→Q (.ref p) H'
theorem jW{n i:Nat}(hv:(bX (bN n))[i]?=some (.str (S [97+i]))):(bW n)[i]?=some (97+i):=by
 obtain⟨x,hx,ex⟩:=dQ hv
 have ex':=qP (V.str.inj ex)
 unfold bN at hx
 rw[List.getElem?_map] at hx
 cases hq:(bW n)[i]? with
 | none=>rw[hq] at hx;cases hx
 | some c=>rw[hq] at hx;cases hx;simpa using ex'.symm
theorem RT.mono{rs:List (List Nat)}{n M L:Nat}(h:RT rs n M)(hl:M≤L):RT rs n L:=⟨h.len,h.all,fun x hx=>Nat.le_trans (h.le x hx) hl⟩
def rF(c:Nat)(sd:List Nat)(d:Nat):List Nat:=if d=lo c then [d] else (if con d∈sd then [con c] else [])++[d]++(if d∈sd then [c] else [])
def iB(n c:Nat)(sd:List Nat):List (List Nat):=(bW n).map (rF c sd)
theorem BK(d:Nat)(sd:List Nat):FG (.str (S [d])) (aV sd)=decide (d∈sd):=by
 unfold FG aV
 rw[Bool.eq_iff_iff,List.any_eq_true,decide_eq_true_iff]
 constructor
 ·rintro⟨v,hv,he⟩
  obtain⟨e,hm,rfl⟩:=List.mem_map.mp hv
  have h2:decide (S [e]=S [d])=true:=he
  have:=qP (of_decide_eq_true h2)
  have h3:e=d:=by simpa using this
  rw[← h3];exact hm
 ·intro h
  refine⟨_,List.mem_map.mpr ⟨d,h,rfl⟩,?_⟩
  show decide (S [d]=S [d])=true
  exact decide_eq_true rfl
theorem qD(sd:List Nat):(aV sd).all fC=true:=by
 rw[List.all_eq_true]
 intro v hv
 obtain⟨x,_,rfl⟩:=List.mem_map.mp hv
 rfl
def IsChg(H:Hp)(p:Addr)(c:Nat)(sd:List Nat):Prop:=∃ q,H p=some (.tup [.str (S [c]),.ref q])∧H q=some (.tup (aV sd))
theorem IsChg.same{H H':Hp}{p:Addr}{c:Nat}{sd:List Nat}(h:IsChg H p c sd)(s:Same H H'):IsChg H' p c sd:=by
 obtain⟨q,h1,h2⟩:=h
 exact⟨q,s _ _ h1,s _ _ h2⟩
theorem C1(c:Nat)(sd:List Nat)(d:Nat):(rF c sd d).length≤3:=by
 unfold rF
 split
 ·simp
 ·rw[List.length_append,List.length_append]
  split <;> split <;> simp
theorem CA{c d:Nat}{sd:List Nat}(hc:bY c)(hd:bY d):AllL (rF c sd d):=by
 unfold rF
 split
 ·exact cC hd
 ·refine AllL.app.mpr ⟨AllL.app.mpr ⟨?_,cC hd⟩,?_⟩
  ·split
   ·exact cC (cB hc)
   ·exact AllL.nil
  ·split
   ·exact cC hc
   ·exact AllL.nil
theorem Cq{n c d:Nat}{sd:List Nat}(h1:1≤n)(h4:n≤4)(hc:c∈aK n)(hd:d∈aK n):OfN n (rF c sd d):=by
 have one:∀ {e:Nat},e∈aK n→OfN n [e]:=fun he z hz=>by rw[List.mem_singleton.mp hz];exact he
 unfold rF
 split
 ·exact one hd
 ·refine OfN.app (OfN.app ?_ (one hd)) ?_
  ·split
   ·exact one (dE (by omega) (by omega) hc)
   ·exact OfN.nil
  ·split
   ·exact one hc
   ·exact OfN.nil
theorem yD{n c:Nat}{sd:List Nat}(h4:n≤4)(hc:bY c):RT (iB n c sd) n 3:=by
 refine⟨by unfold iB;rw[List.length_map,dA h4],fun x hx=>?_,fun x hx=>?_⟩
 ·obtain⟨d,hd,rfl⟩:=List.mem_map.mp hx
  exact CA hc (eR hd)
 ·obtain⟨d,hd,rfl⟩:=List.mem_map.mp hx
  exact C1 c sd d
theorem uU{n c:Nat}{sd:List Nat}(h1:1≤n)(h4:n≤4)(hc:c∈aK n):∀ x∈iB n c sd,OfN n x:=fun x hx=>by
 obtain⟨d,hd,rfl⟩:=List.mem_map.mp hx
 exact Cq h1 h4 hc (cZ h1 h4 hd)
theorem fH{n d:Nat}(h:d∈bW n):bH d=true:=by
 have:d∈[97,98,99,100]:=List.mem_of_mem_take h
 simp only [List.mem_cons,List.not_mem_nil,or_false] at this
 unfold bH
 exact decide_eq_true (by omega)
theorem Fg{c d:Nat}:decide (V.str (S [d])=V.str (S [lo c]))=decide (d=lo c):=by
 rw[eZ]
 by_cases h:d=lo c
 ·rw[h,decide_eq_true rfl,decide_eq_true rfl]
 ·rw[decide_eq_false h,decide_eq_false (by simpa using h)]
theorem DB(w:List Nat)(b:Bool):Txt.mul (S w) (if b=true then 1 else 0)=S (if b=true then w else []):=by
 cases b with
 | true =>
  show Txt.mul (S w) 1=S w
  unfold Txt.mul
  rw[if_neg (by decide),if_pos (by rfl)]
 | false =>
  show Txt.mul (S w) 0=S []
  unfold Txt.mul
  rw[if_pos (by decide)]
  rfl
theorem yK(c:Nat)(b:Bool):MulOk (S [c]) (if b=true then 1 else 0):=by
 cases b with
 | true=>exact EQ [c] 1 (by decide) (by decide) (by simp)
 | false =>
  refine⟨by decide,fun h=>?_,fun h=>?_⟩
  ·exact absurd h (by decide)
  ·exact absurd h (by decide)
def tU:Sp:=fun vs H Q _=>∃ (n:Nat) (p:Addr) (c:Nat) (sd:List Nat),vs=[.int (n:Nat),.ref p]∧1≤n∧n≤4∧IsChg H p c sd∧bY c∧(∀ d∈sd,bY d)∧∀ (t:Addr) (H':Hp),H t=none→Same H H'→H' t=some (.tup (bX (iB n c sd)))→Q (.ref t) H'
end Lw
namespace L2
open PySem PySem.Spec PyProof.Rows
section
variable {prog:Program}{w:World}{A:Around}{E:Value→Shared→Prop}{s:Shared}
theorem Au{it d:Addr}{i n ep:Nat}{o:Obj}{es:Array DictEntry}{e:DictEntry}{Q:Fin→Shared→Prop}(hit:s.heap.IsKeyIter it d i es.size ep)(hd:s.heap.get? d=some o)(dt:o.data=.dict es ep)(he:es[i]?=some e)
  (hQ:∀ g,g.IsKeyIter it d (i+1) es.size ep→Heap.SameBut it s.heap g→Q (.done (.ret e.key)) { s with heap:=g }) :
  wpAny (model prog w) A (Builtin.«dict_keyiterator.__next__» ⟨[.ref it],[]⟩) Q E s:=by
 obtain⟨oi,go,co,do'⟩:=id hit
 have hT:s.TypeIs (.ref it) "dict_keyiterator":=⟨_,go,co⟩
 show wpAny _ _ (Builtin.Dict_items.slot0 "__next__" ⟨[.ref it],[]⟩ >>= _) _ _ _
 rw[show Builtin.Dict_items.slot0 "__next__" ⟨[.ref it],[]⟩=pure (.ref it) from rfl]
 refine wpAny_bind (wpAny_pure (wpAny_bind ?_))
 show wpAny _ _ (_ >>= _) _ _ _
 refine wpAny_bind ?_
 refine wpAny_bind (wpAny_typeNameOfWhole_keyiter hT (wpAny_pure ?_))
 rw[show (if Builtin.Dict_items.ownsTuple "dict_keyiterator"=true then 2 else 0)=0 from rfl]
 refine wpAny_bind (wpAny_fieldsOf go do' ?_)
 show wpAny _ _ (if (Value.ref d == Value.none)=true then _ else _) _ _ _
 rw[if_neg (by intro c;cases c)]
 refine wpAny_bind (wpAny_pure (wpAny_bind (wpAny_dictEntries hd dt ?_)))
 dsimp only
 rw[if_neg (by simp)]
 refine wpAny_bind (wpAny_pure (wpAny_bind (wpAny_dictEpoch hd dt ?_)))
 rw[if_neg (by simp)]
 refine wpAny_pure ?_
 dsimp only
 rw[if_neg (by omega),Int.toNat_natCast,he]
 dsimp only
 refine wpAny_bind (wpAny_bind (wpAny_typeNameOfWhole_keyiter hT (wpAny_pure ?_)))
 rw[show (if Builtin.Dict_items.ownsTuple "dict_keyiterator"=true then 2 else 0)=0 from rfl]
 refine wpAny_bind (wpAny_isOneOf_keyiter hT ?_)
 refine wpAny_bind (wpAny_setField go do' (by simp) ?_)
 have gu:(s.heap.update it (Obj.mapFields fun x=>x.setIfInBounds (0+1) (rawInt ((i:Int)+1)))).IsKeyIter it d (i+1) es.size ep:=by
  refine⟨_,Heap.get?_update_self _ go (Obj.isFreed_of_fields (Obj.data_mapFields do' _)),(Obj.cls_mapFields ..).trans co,?_⟩
  rw[Obj.data_mapFields do' _]
  rfl
 have sb:Heap.SameBut it s.heap (s.heap.update it (Obj.mapFields fun x=>x.setIfInBounds (0+1) (rawInt ((i:Int)+1)))):=Heap.SameBut.update ..
 have hT2:Shared.TypeIs { s with heap:=s.heap.update it (Obj.mapFields fun x=>x.setIfInBounds (0+1) (rawInt ((i:Int)+1))) } (.ref it) "dict_keyiterator":=by
  obtain⟨o2,g2,c2,_⟩:=gu
  exact⟨_,g2,c2⟩
 refine wpAny_bind (wpAny_holding (wpAny_bind (wpAny_isOneOf_keyiter hT2 ?_)))
 refine wpAny_pure (wpAny_pure ?_)
 exact hQ _ gu sb
theorem B_{it d:Addr}{i n ep:Nat}{o:Obj}{es:Array DictEntry}{Q:Fin→Shared→Prop}(hh:A.handled=none)(hit:s.heap.IsKeyIter it d i es.size ep)(hd:s.heap.get? d=some o)(dt:o.data=.dict es ep)(he:es[i]?=none)
  (hE:∀ g e,Heap.ExtBut it s.heap g→(∃ o,g.get? e=some o∧o.cls=.type "StopIteration")→E (.ref e) { s with heap:=g }) :
  wpAny (model prog w) A (Builtin.«dict_keyiterator.__next__» ⟨[.ref it],[]⟩) Q E s:=by
 obtain⟨oi,go,co,do'⟩:=id hit
 have hT:s.TypeIs (.ref it) "dict_keyiterator":=⟨_,go,co⟩
 show wpAny _ _ (Builtin.Dict_items.slot0 "__next__" ⟨[.ref it],[]⟩ >>= _) _ _ _
 rw[show Builtin.Dict_items.slot0 "__next__" ⟨[.ref it],[]⟩=pure (.ref it) from rfl]
 refine wpAny_bind (wpAny_pure (wpAny_bind ?_))
 show wpAny _ _ (_ >>= _) _ _ _
 refine wpAny_bind ?_
 refine wpAny_bind (wpAny_typeNameOfWhole_keyiter hT (wpAny_pure ?_))
 rw[show (if Builtin.Dict_items.ownsTuple "dict_keyiterator"=true then 2 else 0)=0 from rfl]
 refine wpAny_bind (wpAny_fieldsOf go do' ?_)
 show wpAny _ _ (if (Value.ref d == Value.none)=true then _ else _) _ _ _
 rw[if_neg (by intro c;cases c)]
 refine wpAny_bind (wpAny_pure (wpAny_bind (wpAny_dictEntries hd dt ?_)))
 dsimp only
 rw[if_neg (by simp)]
 refine wpAny_bind (wpAny_pure (wpAny_bind (wpAny_dictEpoch hd dt ?_)))
 rw[if_neg (by simp)]
 refine wpAny_pure ?_
 dsimp only
 rw[if_neg (by omega),Int.toNat_natCast,he]
 dsimp only
 refine wpAny_bind (wpAny_bind (wpAny_typeNameOfWhole_keyiter hT (wpAny_pure ?_)))
 rw[show (if Builtin.Dict_items.ownsTuple "dict_keyiterator"=true then 2 else 0)=0 from rfl]
 refine wpAny_bind (wpAny_setField go do' (by simp) ?_)
 refine wpAny_bind ?_
 simp only [newExc,newTuple]
 refine wpAny_bind (wpAny_newObj_type ?_ (by size_fits))
 refine wpAny_bind (m:=firstArgMember _ _) (wpAny_of_eq (a:=Value.none) (by first | rfl | (simp only [firstArgMember];rfl)) ?_)
 refine wpAny_newObj_type ?_ (by size_fits)
 simp only [raiseNew]
 refine wpAny_bind (wpAny_handled ?_)
 first | rw[show A.in1.handled=none from hh] | rw[hh]
 refine wpAny_bind (wpAny_pure (wpAny_throw ?_))
 exact hE _ _ (((Heap.SameBut.update ..).extBut.push _).push _) ⟨_,Heap.get?_push_size _ rfl,rfl⟩
theorem xH{it d:Addr}{i n ep:Nat}{o:Obj}{es:Array DictEntry}{e:DictEntry}{Q:Option Value→Shared→Prop}(hit:s.heap.IsKeyIter it d i es.size ep)(hd:s.heap.get? d=some o)(dt:o.data=.dict es ep)(he:es[i]?=some e)
  (hQ:∀ g,g.IsKeyIter it d (i+1) es.size ep→Heap.SameBut it s.heap g→Q (some e.key) { s with heap:=g }):wpAny (model prog w) A (pyNext (.ref it)) Q E s:=by
 have hT:s.TypeIs (.ref it) "dict_keyiterator":=let ⟨_,go,co,_⟩:=hit;⟨_,go,co⟩
 unfold pyNext
 exact wpAny_bind (wpAny_attempt (wpAny_callSpecial?_slot (name:=Str.ofString "__next__") hT F.slot_dict_keyiterator_next (wpAny_call_entry F.slot_dict_keyiterator_next hT F.entry_dict_keyiterator_next (Au (n:=0) hit hd dt he fun g b1 b2=>⟨_,rfl,wpAny_pure (hQ g b1 b2)⟩) (F.args_dict_keyiterator_next_1 _))))
theorem zH{it d:Addr}{i n ep:Nat}{o:Obj}{es:Array DictEntry}{Q:Option Value→Shared→Prop}(hh:A.handled=none)(hit:s.heap.IsKeyIter it d i es.size ep)(hd:s.heap.get? d=some o)(dt:o.data=.dict es ep)(he:es[i]?=none)
  (hQ:∀ g,Heap.ExtBut it s.heap g→Q none { s with heap:=g }):wpAny (model prog w) A (pyNext (.ref it)) Q E s:=by
 have hT:s.TypeIs (.ref it) "dict_keyiterator":=let ⟨_,go,co,_⟩:=hit;⟨_,go,co⟩
 unfold pyNext
 refine wpAny_bind (wpAny_attempt (wpAny_callSpecial?_slot (name:=Str.ofString "__next__") hT F.slot_dict_keyiterator_next (wpAny_call_entry F.slot_dict_keyiterator_next hT F.entry_dict_keyiterator_next (B_ (n:=0) hh hit hd dt he fun g e kp hx=>?_) (F.args_dict_keyiterator_next_1 _))))
 obtain⟨o,go,co⟩:=hx
 exact wpAny_bind (wpAny_isInstance (T:="StopIteration") (b:=true) ⟨o,go,co⟩ isSubtype_stop (wpAny_pure (hQ _ kp)))
end
section
variable {X:Cx}{pins:List (Addr×Obj)}{σ:St}{H:Hp}{s:Shared}
theorem Inv.swap{d:Addr}{u u':HO}(I:Inv X pins σ H s)(e:H d=some u)(nt:∀ xs,u≠.tup xs)(nf:(∀ o v,u≠.frz o v)∨∀ o v,X.H₀ d≠some (.frz o v))(nb:∀ ps,u≠.tbl ps)(no:∀ x,u≠.own x)
  (new:ObjOk X.prog X.w (upd H d u') s.heap d u'):Inv X pins σ (upd H d u') s:=by
 have ne:∀ {b:Addr},H b=none→b≠d:=fun h z=>by rw[z,e] at h;cases h
 have tp:∀ b xs,H b=some (.tup xs)→upd H d u' b=some (.tup xs):=fun b xs h=>by
  rw[aE (fun z=>by rw[z,e] at h;exact nt xs (Option.some.inj h))];exact h
 refine⟨I.ok,I.os,I.bare,⟨I.base.keep,I.base.slot,fun b o h n hx=>?_,I.base.there,fun b xs h=>tp b xs (I.base.tups b xs h),fun b o v h=>?_,fun b ps h=>?_⟩,I.loc,I.cell,?_,fun x c h=>?_,fun p hp=>?_,fun b v h=>?_,I.len⟩
 ·have:=I.base.free b o h n hx
  rw[aE (ne this)];exact this
 ·have h1:=I.base.frzs b o v h
  rw[aE]
  ·exact h1
  ·intro z
   subst z
   rcases nf with nf | nf
   ·rw[e] at h1;exact nf o v (Option.some.inj h1)
   ·exact nf o v h
 ·obtain⟨more,h1⟩:=I.base.tbls b ps h
  refine⟨more,?_⟩
  rw[aE]
  ·exact h1
  ·intro z
   subst z
   rw[e] at h1
   exact nb _ (Option.some.inj h1)
 ·rw[aE (ne I.free)];exact I.free
 ·rw[aE (ne (I.freeC x c h))];exact I.freeC x c h
 ·obtain⟨h1,h2,h3⟩:=I.pin p hp
  exact⟨h1,by rw[aE (ne h2)];exact h2,h3⟩
 ·by_cases hb:b=d
  ·subst hb
   rw[aC] at h
   cases h
   exact new
  ·rw[aE hb] at h
   refine(I.hok b v h).stay (fun _ _ _ q=>q) (fun c q=>?_) tp
   rw[aE (fun z=>by rw[z,e] at q;exact no b (Option.some.inj q))];exact q
end
theorem Bl{prog:Program}{w:World}{A:Around}{E:Value→Shared→Prop}{s:Shared}{d:Addr}{o:Obj}{es:Array DictEntry}{ep:Nat}{Q:Value→Shared→Prop}(hn:(d == sysModules)=false)(hd:s.heap.get? d=some o)(ho:o.ExactDict)(dt:o.data=.dict es ep)
  (h:Q (.ref s.heap.objs.size) { s with heap:=s.heap.push { cls:=.type "dict_keyiterator",data:=.fields #[.ref d,.int 0 0,.int es.size 0,.int ep 0] } }):wpAny (model prog w) A (pyIter (.ref d)) Q E s:=by
 have hT:s.TypeIs (.ref d) "dict":=⟨_,hd,ho.1⟩
 refine wpAny_pyIter_slot hT F.slot_dict_iter (wpAny_call_entry F.slot_dict_iter hT F.entry_dict_iter ?_ (F.args_dict_iter_1 _))
 unfold Builtin.«dict.__iter__» Builtin.Dict.dictSlotNone Builtin.Dict.notOrdered
 rw[if_pos (by decide)]
 refine wpAny_bind (wpAny_bind (wpAny_bind (wpAny_typeOf hT ?_)))
 rw[if_neg (by decide)]
 refine wpAny_pure ?_
 rw[show slotArgs "__iter__" 0 ⟨[.ref d],[]⟩=pure (.ref d,[]) from rfl]
 refine wpAny_bind (wpAny_pure (wpAny_pure (wpAny_bind (wpAny_pure (wpAny_bind ?_)))))
 unfold Builtin.Dict.showsAll
 rw[hn]
 refine wpAny_pure (wpAny_bind (wpAny_dictEntries hd dt (wpAny_bind (wpAny_dictEpoch hd dt (wpAny_bind ?_)))))
 unfold newFields
 refine wpAny_newObj_type (wpAny_pure ⟨_,rfl,"dict_keyiterator",_,⟨_,Heap.get?_push_size _ rfl,rfl⟩,F.slot_dict_keyiterator_next.lookup,?_⟩) (by size_fits)
 exact h
theorem xM:∀ {ns:List Int} {us:List Value},Vals (ns.map V.int) us→us.length=ns.length∧∀ (i:Nat) (v:Value),us[i]?=some v→∃ t,v=Value.int ((ns[i]?).getD 0) t
 | [],us,r=>by
  cases r
  exact⟨rfl,fun i v h=>by simp at h⟩
 | n::ns,us,r=>by
  rw[List.map_cons] at r
  cases r with
  | cons r1 r2 =>
   obtain⟨t,rfl⟩:=r1
   obtain⟨h1,h2⟩:=xM r2
   refine⟨by rw[List.length_cons,List.length_cons,h1],fun i v h=>?_⟩
   cases i with
   | zero=>exact⟨t,by simpa using h.symm⟩
   | succ i=>simpa using h2 i v (by simpa using h)
end L2
namespace Lw
open PySem PySem.Spec PyProof.Rows L2 Ma MaR
abbrev CW(K:PySem.W.Frag)(sp:Sp)(vs:List V)(H1:Hp)(Q:VK):Prop:=∃ (l:Addr) (xs:List V) (kz:List (Int×List Int)) (Pv:Addr→Nat→List V→Hp→Prop),vs=[.ref l]∧SqL K H1 l xs∧xs.length<64∧kz.length=xs.length ∧
 (∀ (i j:Nat) (a b:Int×List Int),kz[i]?=some a→kz[j]?=some b→a.1=b.1→a.2.length=b.2.length)∧TotLt (fun i j=>lZ (kz.getD i (0,[])) (kz.getD j (0,[]))) ∧
 (∀ S,H1 S=none→Pv S 0 [] (upd H1 S (.lst []))) ∧
 (∀ S i ks H,Pv S i ks H→∀ y,xs[i]?=some y→sp [y] H (fun v H2=>H2 S=some (.lst ks)∧ks.length=i∧Pv S (i+1) (ks++[v]) (upd H2 S (.lst (ks++[v])))) E0) ∧
 (∀ S ks H,Pv S xs.length ks H→H S=some (.lst ks)∧ks.length=xs.length∧(∀ (i:Nat) (v:V) (k:Int×List Int),ks[i]?=some v→kz[i]?=some k→oY H v k) ∧
  ∀ p:Array Nat,PermN xs.length p→iK (fun i j=>lZ (kz.getD i (0,[])) (kz.getD j (0,[]))) p xs.length→∀ D,upd H S (.lst []) D=none→Q (.ref D) (upd (upd H S (.lst [])) D (.lst (p.toList.map fun i=>xs.getD i .non))))
theorem AV{K:PySem.W.Frag}{H:Hp}{Q:VK}{l:Addr}{ws:List (List Nat)}(hq:SqL K H l (bX ws))(h64:ws.length<64)(hall:∀ x∈ws,AllL x∧x.length≤900)
  (k:∀ (D:Addr) (ws':List (List Nat)) (H':Hp),H D=none→Same H H'→H' D=some (.lst (bX ws'))→ws'.Perm ws→ws'.Pairwise BH→Q (.ref D) H'):CW K BB [.ref l] H Q:=by
 refine⟨l,bX ws,ws.map jT,fun S i ks H1=>H S=none∧Same H H1∧H1 S=some (.lst ks)∧ks.length=i∧∀ (j:Nat) (v:V) (x:List Nat),ks[j]?=some v→ws[j]?=some x→∃ p a:Addr,v=.ref p∧a≠S∧H1 p=some (.tup [.int (jT x).1,.ref a])∧H1 a=some (.lst ((jT x).2.map V.int)),rfl,hq,by rw[aW];exact h64,by rw[aW,List.length_map],fun i j a b ha hb e=>?_,A6 ws,fun S hS=>⟨hS,Same.new hS,aC,rfl,fun j v x hv=>by simp at hv⟩,?_,?_⟩
 ·rw[List.getElem?_map] at ha hb
  obtain⟨x,_,rfl⟩:=Option.map_eq_some_iff.mp ha
  obtain⟨y,_,rfl⟩:=Option.map_eq_some_iff.mp hb
  have h1:=gW x
  have h2:=gW y
  unfold Cf at h1 h2
  omega
 ·rintro S i ks H1 ⟨hS,s1,eS,hkl,hks⟩ y hy
  obtain⟨x,hx,rfl⟩:=dQ hy
  obtain⟨hxa,hxl⟩:=hall x (List.mem_of_getElem? hx)
  refine⟨x,rfl,hxa,hxl,fun p a H2 hp ha s2 ep ea=>⟨s2 _ _ eS,hkl,hS,(s1.trans s2).upd hS,aC,by rw[List.length_append,hkl];rfl,fun j v z hv hz=>?_⟩⟩
  have hpS:p≠S:=(aH eS hp).symm
  have haS:a≠S:=(aH eS ha).symm
  by_cases hj:j<ks.length
  ·rw[List.getElem?_append_left hj] at hv
   obtain⟨p',a',e0,e1,e2,e3⟩:=hks j v z hv hz
   refine⟨p',a',e0,e1,?_,?_⟩
   ·rw[aE (dB e2 eS (by intro z;cases z))];exact s2 _ _ e2
   ·rw[aE e1];exact s2 _ _ e3
  ·have ej:j=ks.length:=by
    have:=(List.getElem?_eq_some_iff.mp hv).1
    rw[List.length_append,List.length_singleton] at this
    omega
   subst ej
   rw[hkl] at hz
   rw[hx] at hz
   cases hz
   have ev:v=.ref p:=by simpa using hv.symm
   subst ev
   exact⟨p,a,rfl,haS,by rw[aE hpS];exact ep,by rw[aE haS];exact ea⟩
 ·rintro S ks H1 ⟨hS,s1,eS,hkl,hks⟩
  refine⟨eS,hkl,fun i v q hv hq2=>?_,fun p hp so D hD=>?_⟩
  ·rw[List.getElem?_map] at hq2
   obtain⟨x,hx,rfl⟩:=Option.map_eq_some_iff.mp hq2
   obtain⟨p,a,e0,_,e2,e3⟩:=hks i v x hv hx
   exact⟨p,a,e0,e2,e3⟩
  ·rw[aW] at hp so
   have hb:∀ i∈p.toList,i<ws.length:=fun i hi=>by
    have:=(Array.perm_iff_toList_perm.mp hp).mem_iff.mp hi
    simpa using this
   rw[Bn ws p.toList hb]
   have sS:Same H (upd H1 S (.lst [])):=s1.upd hS
   exact k D _ _ (sS.free hD) (sS.upd' hD) aC (wW hp) (rZ rfl hp so)
end Lw
namespace L2
open PySem PySem.Spec PyProof.Rows
section
variable {prog:Program}{w:World}{A:Around}{E:Value→Shared→Prop}{s:Shared}
theorem vO{d:Addr}{o:Obj}{Q:Value→Shared→Prop}(hn:(d == sysModules)=false)(hd:s.heap.get? d=some o)(ho:o.ExactDict)
  (h:Q (.ref s.heap.objs.size) { s with heap:=s.heap.push { cls:=.type "dict_items",data:=.fields #[.ref d] } }):wpAny (model prog w) A (call (.builtin "dict.items") [.ref d]) Q E s:=by
 have hT:s.TypeIs (.ref d) "dict":=⟨_,hd,ho.1⟩
 refine wpAny_call_entry F.slot_dict_items hT F.entry_dict_items ?_ (F.args_dict_items_1 _)
 unfold Builtin.«dict.items» Builtin.Dict.noArgs Builtin.Dict.notOrdered
 rw[if_pos (by decide)]
 refine wpAny_bind (wpAny_bind (wpAny_bind (wpAny_typeOf hT ?_)))
 rw[if_neg (by decide)]
 refine wpAny_pure (wpAny_bind ?_)
 rw[show Builtin.Dict.nameIsSure "items" ⟨[.ref d],[]⟩ (!(⟨[.ref d],[]⟩:Args).kw.isEmpty || (⟨[.ref d],[]⟩:Args).pos.length != 1)=pure () from rfl]
 refine wpAny_pure (wpAny_bind ?_)
 rw[show selfOnly (toString "dict."++toString "items") ⟨[.ref d],[]⟩=pure (.ref d) from rfl]
 refine wpAny_pure (wpAny_pure (wpAny_bind ?_))
 unfold Builtin.Dict.showsAll
 rw[hn]
 refine wpAny_pure (wpAny_bind ?_)
 unfold newFields
 exact wpAny_newObj_type (wpAny_pure ⟨_,rfl,h⟩) (by size_fits)
end
end L2
namespace Lw
open PySem PySem.Spec PyProof.Rows L2 Ma MaR
section
variable {c:Nat}{sd:List Nat}
theorem BT{c e:Nat}(hc:bY c)(he:bY e)(hl:bH e=true):e=lo c↔e=c∨e=con c:=by
 rcases aP hc with rfl | rfl | rfl | rfl | rfl | rfl | rfl | rfl <;> rcases aP he with rfl | rfl | rfl | rfl | rfl | rfl | rfl | rfl <;> revert hl <;> decide
end
end Lw
namespace L2
open PySem PySem.Spec PyProof.Rows
end L2
namespace Lw
open PySem PySem.Spec PyProof.Rows L2 Ma MaR
theorem rK{n:Nat}(h1:1≤n)(h4:n≤4):letV.take (2 * n)=aV (aK n):=by
 rcases zO h1 h4 with rfl | rfl | rfl | rfl <;> rfl
def AU(K:PySem.W.Frag):Sp:=fun vs H Q _=>∃ n:Nat,vs=[.int (n:Nat)]∧1≤n∧n≤4∧∀ (p:Addr) (H':Hp),Same H H'→SqT K H' p (aV (aK n))→Q (.ref p) H'
end Lw
namespace L2
open PySem PySem.Spec PyProof.Rows
theorem A2{x:V}(h:fC x=true):mM x x=true:=by
 cases x <;> first | (simp[mM];done) | exact absurd (show false=true from h) Bool.false_ne_true
end L2
namespace Lw
open PySem PySem.Spec PyProof.Rows L2
end Lw
namespace L2
open PySem PySem.Spec PyProof.Rows
end L2
namespace Lw
open PySem PySem.Spec PyProof.Rows L2 Ma MaR
end Lw
namespace L2
open PySem PySem.Spec PyProof.Rows
end L2
namespace Lw
open PySem PySem.Spec PyProof.Rows L2
end Lw
namespace L2
open PySem PySem.Spec PyProof.Rows
end L2
namespace Lw
open PySem PySem.Spec PyProof.Rows L2 Ma MaR
end Lw
namespace L2
open PySem PySem.Spec PyProof.Rows
end L2
namespace Lw
open PySem PySem.Spec PyProof.Rows L2 Ma MaR
end Lw
namespace L2
open PySem PySem.Spec PyProof.Rows
end L2
namespace LtL
open PySem PyProof.Rows HT
open PySem.SeqAt
open PySem.AutoSeq1 (wpAny_loadPart')
open PySem.MeetsSeq PySem.MeetsSeq2 PySem.MeetsSeq3
end LtL
namespace L2
open PySem PySem.Spec PyProof.Rows
end L2
namespace Lw
open PySem PySem.Spec PyProof.Rows L2 Ma MaR
end Lw
namespace L2
open PySem PySem.Spec PyProof.Rows
end L2
namespace Lw
open PySem PySem.Spec PyProof.Rows L2 Ma MaR
theorem pH:∀ (w:List Nat) (i:Nat),(aV w).eraseIdx i=aV (w.eraseIdx i)
 | [],_=>rfl
 | _::_,0=>rfl
 | c::w,i+1=>by
  show V.str (S [c])::(aV w).eraseIdx i=V.str (S [c])::aV (w.eraseIdx i)
  rw[pH w i]
end Lw
namespace PySem
open Sem (wp)
end PySem
namespace L2
open PySem PySem.Spec PyProof.Rows
end L2
namespace Lw
open PySem PySem.Spec PyProof.Rows L2 Ma MaR
structure Exch(n:Nat)(cs:List Nat):Prop where
 len:cs.length=n
 mem:∀ c∈cs,c∈aK n
 perm:(cs.map lo).Perm (bW n)
def bL(cs:List Nat):List (List Nat):=cs.map fun c=>[c]
def xN:Sp:=fun vs H Q _=>∃ (fl sc:Addr) (n:Nat),vs=[.ref fl,.int (n:Nat)]∧IsFl H fl sc∧1≤n∧n≤4∧∀ (p:Addr) (cs:List Nat) (H':Hp),H p=none→Exch n cs→RT (bL cs) n 1→(∀ x∈bL cs,OfN n x)→H' p=some (.tup (bX (bL cs)))→IsFl H' fl sc→Kp fl H H'→Q (.ref p) H'
theorem xE{d:Nat}(hd:bY d)(h:bH d=true):lo d=d:=((BT hd hd h).mpr (.inl rfl)).symm
theorem EN{d:Nat}(hd:bY d)(h:bH d=true):lo (con d)=d:=((BT (cB hd) hd h).mpr (.inr (aQ hd).symm)).symm
theorem wX{ls:List Nat}{i d:Nat}(h:ls[i]?=some d):(d::ls.eraseIdx i).Perm ls:=by
 induction ls generalizing i with
 | nil=>simp at h
 | cons a ls ih =>
  cases i with
  | zero=>simp at h;subst h;exact List.Perm.refl _
  | succ i =>
   have:=ih (i:=i) (by simpa using h)
   show (d::a::ls.eraseIdx i).Perm (a::ls)
   exact(List.Perm.swap a d _).trans (this.cons a)
end Lw
namespace L2
open PySem PySem.Spec PyProof.Rows
end L2
namespace Lw
open PySem PySem.Spec PyProof.Rows L2 Ma MaR
def mK(c:Nat):Nat:=if bH c=true then c - 97 else c - 65
def gX(cs:List Nat)(c:Nat):Nat:=if bH c=true then cs.getD (mK c) 0 else con (cs.getD (mK c) 0)
theorem EB{n c:Nat}(h1:1≤n)(h4:n≤4)(h:c∈aK n):mK c<n:=by
 have hL:=aP (aJ h)
 rcases zO h1 h4 with rfl | rfl | rfl | rfl <;> rcases hL with rfl | rfl | rfl | rfl | rfl | rfl | rfl | rfl <;> revert h <;> decide
theorem CD{c d:Nat}(hc:bY c)(hd:bY d)(h:mK c=mK d):c=d∨c=con d:=by
 rcases aP hc with rfl | rfl | rfl | rfl | rfl | rfl | rfl | rfl <;> rcases aP hd with rfl | rfl | rfl | rfl | rfl | rfl | rfl | rfl <;> revert h <;> decide
theorem fF{d:Nat}(hd:bY d):lo (con d)=lo d:=by
 rcases aP hd with rfl | rfl | rfl | rfl | rfl | rfl | rfl | rfl <;> decide
theorem rL{n:Nat}(h1:1≤n)(h4:n≤4):(bW n).Nodup:=by
 rcases zO h1 h4 with rfl | rfl | rfl | rfl <;> decide
section
variable {n:Nat}{cs:List Nat}(h1:1≤n)(h4:n≤4)(e:Exch n cs)
include h1 h4 e
theorem Exch.at{c:Nat}(h:c∈aK n):∃ d,cs[mK c]?=some d∧d∈aK n∧gX cs c=if bH c=true then d else con d:=by
 have hi:=EB h1 h4 h
 have hl:mK c<cs.length:=by rw[e.len];exact hi
 refine⟨cs[mK c],List.getElem?_eq_getElem hl,e.mem _ (List.getElem_mem hl),?_⟩
 unfold gX
 rw[List.getD_eq_getElem?_getD,List.getElem?_eq_getElem hl]
 rfl
theorem Exch.tell{c:Nat}(h:c∈aK n):tell (bL cs) c=[gX cs c]:=by
 obtain⟨d,hd,_,hg⟩:=e.at h1 h4 h
 have e0:(bL cs).getD (mK c) []=[d]:=by
  unfold bL
  rw[List.getD_eq_getElem?_getD,List.getElem?_map,hd]
  rfl
 unfold Lw.tell
 rw[hg]
 by_cases q:bH c=true
 ·rw[if_pos q,if_pos q]
  unfold mK at e0
  rw[if_pos q] at e0
  exact e0
 ·rw[if_neg q,if_neg q]
  unfold mK at e0
  rw[if_neg q] at e0
  rw[e0]
  rfl
theorem Exch.gmem{c:Nat}(h:c∈aK n):gX cs c∈aK n:=by
 obtain⟨d,_,hm,hg⟩:=e.at h1 h4 h
 rw[hg]
 split
 ·exact hm
 ·exact dE (by omega) (by omega) hm
theorem Exch.gcon{c:Nat}(h:c∈aK n):gX cs (con c)=con (gX cs c):=by
 have hc:=aJ h
 have q:(bH c=true∧bH (con c)=false∧mK (con c)=mK c)∨(bH c=false∧bH (con c)=true∧mK (con c)=mK c):=by
  rcases aP hc with rfl | rfl | rfl | rfl | rfl | rfl | rfl | rfl <;> decide
 obtain⟨d,hd,hm,hg⟩:=e.at h1 h4 h
 have e1:cs.getD (mK c) 0=d:=by rw[List.getD_eq_getElem?_getD,hd];rfl
 unfold gX
 rcases q with ⟨a,b,c'⟩ | ⟨a,b,c'⟩
 ·rw[c',e1,if_neg (by rw[b];decide),if_pos a]
 ·rw[c',e1,if_pos b,if_neg (by rw[a];decide),aQ (aJ hm)]
theorem Exch.ginj{c d:Nat}(hc:c∈aK n)(hd:d∈aK n)(h:gX cs c=gX cs d):c=d:=by
 obtain⟨x,hx,xm,gx⟩:=e.at h1 h4 hc
 obtain⟨y,hy,ym,gy⟩:=e.at h1 h4 hd
 have lx:lo (gX cs c)=lo x:=by rw[gx];split <;> first | rfl | exact fF (aJ xm)
 have ly:lo (gX cs d)=lo y:=by rw[gy];split <;> first | rfl | exact fF (aJ ym)
 have nd:(cs.map lo).Nodup:=(e.perm.nodup_iff).mpr (rL h1 h4)
 have ei:mK c=mK d:=by
  have q1:(cs.map lo)[mK c]?=some (lo x):=by rw[List.getElem?_map,hx];rfl
  have q2:(cs.map lo)[mK d]?=some (lo x):=by rw[List.getElem?_map,hy,← lx,h,ly];rfl
  have l1:mK c<(cs.map lo).length:=(List.getElem?_eq_some_iff.mp q1).1
  exact(List.getElem?_inj l1 nd).mp (q1.trans q2.symm)
 rcases CD (aJ hc) (aJ hd) ei with z | z
 ·exact z
 ·exfalso
  rw[z,e.gcon h1 h4 hd] at h
  exact sV (aJ (e.gmem h1 h4 hd)) h
theorem Exch.told{x:List Nat}(hx:OfN n x):told (bL cs) x=x.map (gX cs):=by
 induction x with
 | nil=>rfl
 | cons c x ih=>rw[cW,e.tell h1 h4 (hx c List.mem_cons_self),ih fun d hd=>hx d (List.mem_cons_of_mem _ hd)];rfl
theorem Exch.plain{x:List Nat}(hx:OfN n x)(hp:bI x):bI (x.map (gX cs)):=by
 unfold bI at *
 rw[← List.map_reverse]
 have:∀ y:List Nat,(∀ c∈y,c∈aK n)→PlainR y→PlainR (y.map (gX cs)):=by
  intro y
  induction y with
  | nil=>intro _ _;trivial
  | cons a y ih =>
   intro hm hq
   cases y with
   | nil=>trivial
   | cons b y =>
    refine⟨fun z=>hq.1 ?_,ih (fun c hc=>hm c (List.mem_cons_of_mem _ hc)) hq.2⟩
    have ham:=hm a (by simp)
    rw[← e.gcon h1 h4 ham] at z
    exact e.ginj h1 h4 (hm b (by simp)) (dE (by omega) (by omega) ham) z
 exact this _ (fun c hc=>hx c (List.mem_reverse.mp hc)) hp
theorem Exch.retl{x:List Nat}(hx:OfN n x)(hp:bI x):retl (bL cs) x=x.map (gX cs):=by
 unfold Lw.retl
 rw[e.told h1 h4 hx,dU (e.plain h1 h4 hx hp)]
end
def lD(c:Nat)(sd:List Nat):List Nat:=sd.map fun d=>if d=c then con c else d
structure GoodB(n c:Nat)(sd:List Nat):Prop where
 let':c∈aK n
 side:∀ d∈sd,d∈aK n
 ord:sd.Pairwise fun a b=>rk a<rk b
 has:c∈sd
 hasn:¬ con c∈sd
theorem gT{c d:Nat}{sd:List Nat}(h:c∈sd):d∈lD c sd↔d=con c∨(d∈sd∧d≠c):=by
 unfold lD
 rw[List.mem_map]
 constructor
 ·rintro⟨a,ha,e⟩
  by_cases q:a=c
  ·rw[if_pos q] at e;exact .inl e.symm
  ·rw[if_neg q] at e;subst e;exact .inr ⟨ha,q⟩
 ·rintro(rfl | ⟨a,b⟩)
  ·exact⟨c,h,if_pos rfl⟩
  ·exact⟨d,a,if_neg b⟩
theorem CV{c:Nat}{sd:List Nat}(hc:bY c)(hn:¬ con c∈sd):lD (con c) (lD c sd)=sd:=by
 unfold lD
 rw[List.map_map]
 refine(List.map_congr_left fun d hd=>?_).trans (List.map_id sd)
 show (if (if d=c then con c else d)=con c then con (con c) else (if d=c then con c else d))=d
 by_cases q:d=c
 ·rw[if_pos q,if_pos rfl,aQ hc,q]
 ·have q2:¬ d=con c:=fun z=>hn (z ▸ hd)
  rw[if_neg q,if_neg q2]
theorem xU{c d:Nat}(hc:bY c)(hd:bY d)(h1:d≠c)(h2:d≠con c):(rk d<rk c↔rk d<rk (con c))∧(rk c<rk d↔rk (con c)<rk d):=by
 rcases aP hc with rfl | rfl | rfl | rfl | rfl | rfl | rfl | rfl <;> rcases aP hd with rfl | rfl | rfl | rfl | rfl | rfl | rfl | rfl <;> revert h1 h2 <;> decide
theorem GoodB.back{n c:Nat}{sd:List Nat}(h1:1≤n)(h4:n≤4)(g:GoodB n c sd):GoodB n (con c) (lD c sd):=by
 have hc:=aJ g.let'
 have hcn:con c∈aK n:=dE (by omega) (by omega) g.let'
 refine⟨hcn,fun d hd=>?_,?_,(gT g.has).mpr (.inl rfl),fun z=>?_⟩
 ·rcases(gT g.has).mp hd with rfl | ⟨h,_⟩
  ·exact hcn
  ·exact g.side d h
 ·unfold lD
  rw[List.pairwise_map]
  refine List.Pairwise.imp_of_mem (fun {a b} ha hb hab=>?_) g.ord
  have na:a≠con c:=fun z=>g.hasn (z ▸ ha)
  have nb:b≠con c:=fun z=>g.hasn (z ▸ hb)
  by_cases qa:a=c
  ·by_cases qb:b=c
   ·subst qa;subst qb;exact absurd hab (Nat.lt_irrefl _)
   ·subst qa
    rw[if_pos rfl,if_neg qb]
    exact(xU hc (aJ (g.side b hb)) qb nb).2.mp hab
  ·by_cases qb:b=c
   ·subst qb
    rw[if_neg qa,if_pos rfl]
    exact(xU hc (aJ (g.side a ha)) qa na).1.mp hab
   ·rw[if_neg qa,if_neg qb];exact hab
 ·rw[aQ hc] at z
  rcases(gT g.has).mp z with z | ⟨_,z⟩
  ·exact sV hc z.symm
  ·exact z rfl
theorem kS{n c:Nat}{sd:List Nat}(h1:1≤n)(h4:n≤4){d:Nat}(hd:d∈aK n):tell (iB n c sd) d=if bH d=true then rF c sd d else back (rF c sd (con d)):=by
 unfold tell iB
 rcases kU h1 h4 hd with ⟨a,b⟩ | ⟨a,b⟩
 ·rw[if_pos a,if_pos a,List.getD_eq_getElem?_getD,List.getElem?_map,b];rfl
 ·rw[if_neg (by rw[a];decide),if_neg (by rw[a];decide),List.getD_eq_getElem?_getD,List.getElem?_map,b];rfl
def vS(c d:Nat)(p q:Bool):List Nat:=if d=lo c then [d] else (if p=true then [con c] else [])++[d]++(if q=true then [c] else [])
theorem DE(c:Nat)(sd:List Nat)(d:Nat):rF c sd d=vS c d (decide (con d∈sd)) (decide (d∈sd)):=by
 unfold rF vS
 simp only [decide_eq_true_eq]
theorem sP:∀ c∈lets,∀ d∈[97,98,99,100],∀ p q:Bool,lay ((vS c d p q).flatMap fun e=>if e=c∨e=con c then [e] else if bH e=true then vS (con c) e p q else back (vS (con c) (con e) p q))=[d]:=by decide +kernel
theorem Fv{c d e:Nat}{p q:Bool}(h:e∈vS c d p q):e=d∨e=c∨e=con c:=by
 unfold vS at h
 split at h
 ·exact .inl (List.mem_singleton.mp h)
 ·rcases List.mem_append.mp h with h | h
  ·rcases List.mem_append.mp h with h | h
   ·split at h
    ·exact .inr (.inr (List.mem_singleton.mp h))
    ·cases h
   ·exact .inl (List.mem_singleton.mp h)
  ·split at h
   ·exact .inr (.inl (List.mem_singleton.mp h))
   ·cases h
theorem iX{c:Nat}(hc:bY c):(lo c=c∧bH c=true)∨(lo c=con c∧bH c=false):=by
 rcases aP hc with rfl | rfl | rfl | rfl | rfl | rfl | rfl | rfl <;> decide
theorem lP(c:Nat)(sd:List Nat):rF c sd (lo c)=[lo c]:=by unfold rF;rw[if_pos rfl]
theorem qU{n c:Nat}{sd:List Nat}(h1:1≤n)(h4:n≤4)(g:GoodB n c sd):aT (iB n c sd) (iB n (con c) (lD c sd))=bN n:=by
 have hc:=aJ g.let'
 unfold aT iB bN
 rw[List.map_map]
 refine List.map_congr_left fun d hd=>?_
 show retl (iB n (con c) (lD c sd)) (rF c sd d)=[d]
 have hdl:d∈aK n:=cZ h1 h4 hd
 have hdL:=aJ hdl
 have hlow:bH d=true:=fH hd
 by_cases q:d=lo c
 ·-- the change's own letter
  subst q
  rw[lP]
  unfold retl told
  rw[List.flatMap_cons,List.flatMap_nil,List.append_nil,kS h1 h4 hdl,if_pos hlow,← fF hc,lP,fF hc]
  rcases aP hc with rfl | rfl | rfl | rfl | rfl | rfl | rfl | rfl <;> decide
 ·have n1:d≠c:=by
   intro z;subst z
   rcases iX hc with ⟨a,_⟩ | ⟨_,b⟩
   ·exact q a.symm
   ·rw[b] at hlow;cases hlow
  have n2:d≠con c:=by
   intro z;subst z
   exact q (by rw[← fF hc,xE (cB hc) hlow])
  have n3:con d≠c:=fun z=>n2 (by rw[← z,aQ hdL])
  have n4:con d≠con c:=fun z=>n1 (by rw[← aQ hdL,z,aQ hc])
  have e1:decide (d∈lD c sd)=decide (d∈sd):=decide_eq_decide.mpr ⟨fun z=>((gT g.has).mp z).elim (fun z=>absurd z n2) (·.1),fun z=>(gT g.has).mpr (.inr ⟨z,n1⟩)⟩
  have e2:decide (con d∈lD c sd)=decide (con d∈sd):=decide_eq_decide.mpr ⟨fun z=>((gT g.has).mp z).elim (fun z=>absurd z n4) (·.1),fun z=>(gT g.has).mpr (.inr ⟨z,n3⟩)⟩
  have key:=sP c (BL hc) d (by unfold bW at hd;exact List.mem_of_mem_take hd) (decide (con d∈sd)) (decide (d∈sd))
  unfold retl told
  rw[DE,← key]
  congr 1
  refine gY fun e he=>?_
  rcases Fv he with rfl | z | z
  ·rw[if_neg (fun z=>z.elim n1 n2),if_pos hlow,kS h1 h4 hdl,if_pos hlow,DE,e1,e2]
  ·subst z
   rw[if_pos (.inl rfl),kS h1 h4 g.let']
   rcases iX hc with ⟨a,b⟩ | ⟨a,b⟩
   ·rw[if_pos b]
    have:=lP (con e) (lD e sd)
    rw[fF hc,a] at this
    exact this
   ·rw[if_neg (by rw[b];decide)]
    have:=lP (con e) (lD e sd)
    rw[fF hc,a] at this
    rw[this]
    show [con (con e)]=[e]
    rw[aQ hc]
  ·subst z
   rw[if_pos (.inr rfl),kS h1 h4 (dE (by omega) (by omega) g.let')]
   rcases iX hc with ⟨a,b⟩ | ⟨a,b⟩
   ·have b':bH (con c)=false:=by rcases aP hc with rfl | rfl | rfl | rfl | rfl | rfl | rfl | rfl <;> revert b <;> decide
    rw[if_neg (by rw[b'];decide),aQ hc]
    have:=lP (con c) (lD c sd)
    rw[fF hc,a] at this
    rw[this]
    rfl
   ·have b':bH (con c)=true:=by rcases aP hc with rfl | rfl | rfl | rfl | rfl | rfl | rfl | rfl <;> revert b <;> decide
    rw[if_pos b']
    have:=lP (con c) (lD c sd)
    rw[fF hc,a] at this
    exact this
theorem tH{c:Nat}{sd:List Nat}(hs:sd.Nodup)(h:c∈sd):(lD c sd).Perm ((sd.filter fun d=>decide (d≠c))++[con c]):=by
 induction sd with
 | nil=>cases h
 | cons a sd ih =>
  obtain⟨hn,hs'⟩:=List.nodup_cons.mp hs
  by_cases q:a=c
  ·subst q
   have e1:lD a (a::sd)=con a::sd:=by
    show (if a=a then con a else a)::(sd.map fun d=>if d=a then con a else d)=_
    rw[if_pos rfl]
    congr 1
    refine(List.map_congr_left fun d hd=>?_).trans (List.map_id sd)
    have q2:¬ d=a:=fun z=>hn (z ▸ hd)
    rw[if_neg q2];rfl
   have e2:((a::sd).filter fun d=>decide (d≠a))=sd:=by
    rw[List.filter_cons_of_neg (by simp)]
    exact List.filter_eq_self.mpr fun d hd=>decide_eq_true fun z=>hn (z ▸ hd)
   rw[e1,e2]
   exact List.perm_append_comm (l₁:=[con a])
  ·have e1:lD c (a::sd)=a::lD c sd:=by
    show (if a=c then con c else a)::_=_
    rw[if_neg q];rfl
   rw[e1,List.filter_cons_of_pos (by simpa using q)]
   exact(ih hs' ((List.mem_cons.mp h).resolve_left fun z=>q z.symm)).cons a
def tX(cs:List Nat)(d:Nat):Nat:=if d∈cs then 97+cs.idxOf d else 65+cs.idxOf (con d)
def xB(n:Nat)(cs:List Nat):List Nat:=(bW n).map (tX cs)
theorem mQ{n i:Nat}(h1:1≤n)(h4:n≤4)(h:i<n):97+i∈aK n∧65+i∈aK n∧bH (97+i)=true∧bH (65+i)=false∧mK (97+i)=i∧mK (65+i)=i∧97+i∈bW n∧lo (97+i)=97+i∧lo (65+i)=97+i:=by
 rcases zO h1 h4 with rfl | rfl | rfl | rfl <;> (have:i=0∨i=1∨i=2∨i=3:=by omega) <;> rcases this with rfl | rfl | rfl | rfl <;> first | omega | decide
theorem Bs{n d:Nat}(h1:1≤n)(h4:n≤4)(h:d∈bW n):(bW n)[mK d]?=some d:=by
 have hd:=cZ h1 h4 h
 have hl:=fH h
 rcases kU h1 h4 hd with ⟨a,b⟩ | ⟨a,b⟩
 ·unfold mK;rw[if_pos a];exact b
 ·rw[a] at hl;cases hl
theorem uV:∀ {l m:List Nat},l.Nodup→l ⊆ m→m.length≤l.length→l.Perm m
 | [],m,_,_,h=>by
  have:m=[]:=List.length_eq_zero_iff.mp (Nat.le_zero.mp h)
  rw[this]
 | a::l,m,nd,sub,h=>by
  obtain⟨hn,nd'⟩:=List.nodup_cons.mp nd
  have ha:a∈m:=sub List.mem_cons_self
  have hp:=List.perm_cons_erase ha
  refine((uV nd' (fun x hx=>?_) ?_).cons a).trans hp.symm
  ·have q:x≠a:=fun z=>hn (z ▸ hx)
   exact(List.mem_erase_of_ne q).mpr (sub (List.mem_cons_of_mem _ hx))
  ·rw[List.length_erase_of_mem ha]
   rw[List.length_cons] at h
   omega
section
variable {n:Nat}{cs:List Nat}(h1:1≤n)(h4:n≤4)(e:Exch n cs)
include h1 h4 e
theorem Exch.has{d:Nat}(h:d∈bW n):d∈cs∨con d∈cs:=by
 obtain⟨c,hc,z⟩:=List.mem_map.mp (e.perm.mem_iff.mpr h)
 have hcL:=aJ (e.mem c hc)
 rcases iX hcL with ⟨a,_⟩ | ⟨a,_⟩
 ·exact .inl (by rw[← z,a];exact hc)
 ·exact .inr (by rw[← z,a,aQ hcL];exact hc)
theorem Exch.bk{d:Nat}(h:d∈bW n):tX cs d∈aK n∧gX cs (tX cs d)=d:=by
 have hd:=aJ (cZ h1 h4 h)
 unfold tX
 by_cases q:d∈cs
 ·rw[if_pos q]
  have hi:cs.idxOf d<cs.length:=List.idxOf_lt_length_of_mem q
  obtain⟨a1,a2,a3,a4,a5,a6,a7,a8⟩:=mQ h1 h4 (i:=cs.idxOf d) (by rw[← e.len];exact hi)
  refine⟨a1,?_⟩
  unfold gX
  rw[if_pos a3,a5,List.getD_eq_getElem?_getD,List.getElem?_eq_getElem hi]
  exact List.getElem_idxOf hi
 ·rw[if_neg q]
  have q2:con d∈cs:=(e.has h1 h4 h).resolve_left q
  have hi:cs.idxOf (con d)<cs.length:=List.idxOf_lt_length_of_mem q2
  obtain⟨a1,a2,a3,a4,a5,a6,a7,a8⟩:=mQ h1 h4 (i:=cs.idxOf (con d)) (by rw[← e.len];exact hi)
  refine⟨a2,?_⟩
  unfold gX
  rw[if_neg (by rw[a4];decide),a6,List.getD_eq_getElem?_getD,List.getElem?_eq_getElem hi]
  show con (cs[cs.idxOf (con d)])=d
  rw[List.getElem_idxOf hi,aQ hd]
theorem Exch.xB_len:(xB n cs).length=n:=by unfold xB;rw[List.length_map,dA h4]
theorem Exch.xB_at{d:Nat}(h:d∈bW n):gX (xB n cs) d=tX cs d:=by
 unfold gX xB
 rw[if_pos (fH h),List.getD_eq_getElem?_getD,List.getElem?_map,Bs h1 h4 h]
 rfl
theorem Exch.back:Exch n (xB n cs):=by
 have hm:∀ c∈xB n cs,c∈aK n:=fun c hc=>by
  obtain⟨d,hd,rfl⟩:=List.mem_map.mp hc
  exact(e.bk h1 h4 hd).1
 refine⟨e.xB_len h1 h4,hm,?_⟩
 -- the lower letters of the way back are each but once
 have nd:((xB n cs).map lo).Nodup:=by
  unfold xB
  rw[List.map_map]
  refine List.Pairwise.map _ (fun a b (hab:a∈bW n∧b∈bW n∧a≠b)=>?_) (List.Pairwise.imp_of_mem (fun {a b} ha hb hab=>⟨ha,hb,hab⟩) (rL h1 h4))
  obtain⟨ha,hb,hab⟩:=hab
  intro z
  obtain⟨ma,ga⟩:=e.bk h1 h4 ha
  obtain⟨mb,gb⟩:=e.bk h1 h4 hb
  have:tX cs a=tX cs b∨tX cs a=con (tX cs b):=by
   have hz:lo (tX cs a)=lo (tX cs b):=z
   have La:=aJ ma
   have Lb:=aJ mb
   rcases iX La with ⟨x,_⟩ | ⟨x,_⟩ <;> rcases iX Lb with ⟨y,_⟩ | ⟨y,_⟩ <;> rw[x,y] at hz
   ·exact .inl hz
   ·exact .inr hz
   ·exact .inr (by rw[← hz,aQ La])
   ·exact .inl (by rw[← aQ La,hz,aQ Lb])
  rcases this with w | w
  ·exact hab (by rw[← ga,← gb,w])
  ·have h0:a=con b:=by rw[← ga,w,e.gcon h1 h4 mb,gb]
   have la:=fH ha
   have lb:=fH hb
   have Lb:=aJ (cZ h1 h4 hb)
   rw[h0] at la
   revert la lb
   rcases aP Lb with rfl | rfl | rfl | rfl | rfl | rfl | rfl | rfl <;> decide
 have sub:((xB n cs).map lo) ⊆ bW n:=fun x hx=>by
  obtain⟨c,hc,rfl⟩:=List.mem_map.mp hx
  have:=hm c hc
  have hL:=aJ this
  revert this
  rcases zO h1 h4 with rfl | rfl | rfl | rfl <;> rcases aP hL with rfl | rfl | rfl | rfl | rfl | rfl | rfl | rfl <;> decide
 exact uV nd sub (by rw[List.length_map,e.xB_len h1 h4,dA h4];exact Nat.le_refl _)
theorem Exch.gg{c:Nat}(h:c∈aK n):gX cs (gX (xB n cs) c)=c:=by
 have b:=e.back h1 h4
 have hL:=aJ h
 rcases kU h1 h4 h with ⟨a,q⟩ | ⟨a,q⟩
 ·have hd:c∈bW n:=List.mem_of_getElem? q
  rw[e.xB_at h1 h4 hd,(e.bk h1 h4 hd).2]
 ·have hd:con c∈bW n:=List.mem_of_getElem? q
  have hk:=e.bk h1 h4 hd
  have e1:gX (xB n cs) c=con (tX cs (con c)):=by
   rw[← e.xB_at h1 h4 hd,b.gcon h1 h4 h,aQ (aJ (b.gmem h1 h4 h))]
  rw[e1,e.gcon h1 h4 hk.1,hk.2,aQ hL]
theorem Exch.gg'{c:Nat}(h:c∈aK n):gX (xB n cs) (gX cs c)=c:=by
 have b:=e.back h1 h4
 have hm:=e.gmem h1 h4 h
 exact e.ginj h1 h4 (b.gmem h1 h4 hm) h (e.gg h1 h4 hm)
end
theorem Exch.ext{n:Nat}{cs ds:List Nat}(h1:1≤n)(h4:n≤4)(e:Exch n cs)(f:Exch n ds)(h:∀ c∈bW n,gX cs c=gX ds c):cs=ds:=by
 refine List.ext_getElem (by rw[e.len,f.len]) fun i hi hj=>?_
 obtain⟨a1,a2,a3,a4,a5,a6,a7,a8⟩:=mQ h1 h4 (i:=i) (by rw[← e.len];exact hi)
 have:=h _ a7
 unfold gX at this
 rw[if_pos a3,if_pos a3,a5,List.getD_eq_getElem?_getD,List.getD_eq_getElem?_getD,List.getElem?_eq_getElem hi,List.getElem?_eq_getElem hj] at this
 exact this
theorem Exch.xx{n:Nat}{cs:List Nat}(h1:1≤n)(h4:n≤4)(e:Exch n cs):xB n (xB n cs)=cs:=by
 have b:=e.back h1 h4
 refine(b.back h1 h4).ext h1 h4 e fun c hc=>?_
 have hcl:=cZ h1 h4 hc
 have hm:=e.gmem h1 h4 hcl
 refine b.ginj h1 h4 ((b.back h1 h4).gmem h1 h4 hcl) hm ?_
 rw[b.gg h1 h4 hcl,e.gg' h1 h4 hcl]
theorem Exch.thenB{n:Nat}{cs:List Nat}(h1:1≤n)(h4:n≤4)(e:Exch n cs):aT (bL cs) (bL (xB n cs))=bN n:=by
 have b:=e.back h1 h4
 unfold aT bL bN
 rw[List.map_map]
 refine List.ext_getElem (by rw[List.length_map,List.length_map,e.len,dA h4]) fun i hi hj=>?_
 rw[List.length_map] at hi
 obtain⟨a1,a2,a3,a4,a5,a6,a7,a8⟩:=mQ h1 h4 (i:=i) (by rw[← e.len];exact hi)
 rw[List.getElem_map,List.getElem_map]
 show Lw.retl (bL (xB n cs)) [cs[i]]=[(bW n)[i]'(by rw[List.length_map] at hj;exact hj)]
 have hm:=e.mem _ (List.getElem_mem hi)
 rw[b.retl h1 h4 (fun c hc=>by rw[List.mem_singleton.mp hc];exact hm) (by unfold bI;exact trivial)]
 have g1:gX cs (97+i)=cs[i]:=by
  unfold gX
  rw[if_pos a3,a5,List.getD_eq_getElem?_getD,List.getElem?_eq_getElem hi]
  rfl
 have g2:=e.gg' h1 h4 a1
 rw[g1] at g2
 have g3:=Bs h1 h4 a7
 rw[a5] at g3
 show [gX (xB n cs) cs[i]]=_
 rw[g2,(List.getElem?_eq_some_iff.mp g3).2]
structure IvS(n:Nat)(st bk:List (List Nat)):Prop where
 rt:RT st n 3∧∀ x∈st,OfN n x
 bt:RT bk n 3∧∀ x∈bk,OfN n x
 there:aT st bk=bN n
 back:aT bk st=bN n
theorem Cp{n c:Nat}{sd:List Nat}(h1:1≤n)(h4:n≤4)(g:GoodB n c sd):IvS n (iB n c sd) (iB n (con c) (lD c sd)):=by
 have hc:=aJ g.let'
 have b:=g.back h1 h4
 refine⟨⟨yD h4 hc,uU h1 h4 g.let'⟩,⟨yD h4 (cB hc),uU h1 h4 b.let'⟩,qU h1 h4 g,?_⟩
 have:=qU h1 h4 b
 rw[aQ hc,CV hc g.hasn] at this
 exact this
theorem kT{n:Nat}{cs:List Nat}(e:Exch n cs):RT (bL cs) n 1∧∀ x∈bL cs,OfN n x:=by
 have ho:∀ x∈bL cs,OfN n x:=fun x hx=>by
  obtain⟨c,hc,rfl⟩:=List.mem_map.mp hx
  exact fun d hd=>by rw[List.mem_singleton.mp hd];exact e.mem c hc
 refine⟨⟨by unfold bL;rw[List.length_map,e.len],fun x hx=>(ho x hx).all,fun x hx=>?_⟩,ho⟩
 obtain⟨c,hc,rfl⟩:=List.mem_map.mp hx
 exact Nat.le_refl _
theorem B7{n:Nat}{cs:List Nat}(h1:1≤n)(h4:n≤4)(e:Exch n cs):IvS n (bL cs) (bL (xB n cs)):=by
 have b:=e.back h1 h4
 refine⟨⟨(kT e).1.mono (by decide),(kT e).2⟩,⟨(kT b).1.mono (by decide),(kT b).2⟩,e.thenB h1 h4,?_⟩
 have:=b.thenB h1 h4
 rw[e.xx h1 h4] at this
 exact this
theorem BN{n:Nat}{f:List (List Nat)}(h1:1≤n)(h4:n≤4)(ho:∀ x∈f,OfN n x)(hp:∀ x∈f,bI x):aT f (bN n)=f:=by
 unfold aT
 exact(List.map_congr_left fun x hx=>pT h1 h4 (ho x hx) (hp x hx)).trans (List.map_id f)
theorem oT(f s:List (List Nat)):∀ x∈aT f s,bI x:=fun x hx=>by
 obtain⟨y,_,rfl⟩:=List.mem_map.mp hx
 exact iU _
theorem nP(n:Nat):∀ x∈bN n,bI x:=fun x hx=>by
 obtain⟨c,_,rfl⟩:=List.mem_map.mp hx
 exact trivial
end Lw
namespace PySem
open Sem (wp)
section
variable {prog:Program}{w:World}{K:Type}[DecidableEq K]{knd:KeyKind prog w K}{A:Around}{E:Value→Shared→Prop}{s:Shared}
theorem zC{d:Addr}{kvs:List (K×Value)}{k:K}{key dflt:Value}{Q:Value→Shared→Prop}(hkey:knd.is k key=true)(hm:s.heap.DictOf knd d kvs)(hsz:kvs.length≤sizeLine)
  (h1:∀ v,valueAt kvs k=some v→Q v { s with toks:=s.toks+1 })
  (h2:valueAt kvs k=none→∀ h',h'.DictOf knd d (stored kvs k dflt)→Heap.SameBut d s.heap h'→Q dflt { s with heap:=h',toks:=s.toks+1 }) :
  wpAny (model prog w) A (dictSetDefault d key dflt) Q E s:=by
 have hz:s.heap.DictLe d sizeLine:=by
  obtain⟨o,es,ep,ho,hc,hd,hk,hp,hn⟩:=hm
  intro o' es' ep' ho' hd'
  rw[ho] at ho'
  cases ho'
  rw[hd] at hd'
  cases hd'
  have e1:=hp.length
  have e2:es.toList.length=es.size:=by simp
  omega
 cases hv:valueAt kvs k with
 | some v=>exact wpAny_dictSetDefault_of (hz:=hz) hkey hm.mapOf (fun v' e'=>h1 v' e') fun hn=>by rw[hv] at hn;cases hn
 | none =>
  obtain⟨o,es,ep,ho,hc,hd,hk,hp,hn⟩:=id hm
  have hidx:(es.findIdx? fun e=>knd.is k e.key)=kvs.findIdx? fun kv=>decide (kv.1=k):=by
   rw[← hp.findIdx k];obtain⟨l⟩:=es;simp
  have hnot:k ∉ kvs.map (·.1):=by
   intro hk'
   obtain⟨kv,hkv,he⟩:=List.mem_map.mp hk'
   obtain⟨i,hi⟩:=List.getElem?_of_mem hkv
   have:valueAt kvs k=some kv.2:=valueAt_of_get hn (i:=i) (k:=k) (v:=kv.2) (by rw[hi,← he])
   rw[hv] at this
   cases this
  have hany:¬ (kvs.any fun kv=>decide (kv.1=k))=true:=by
   intro z
   obtain⟨kv,hkv,he⟩:=List.any_eq_true.mp z
   exact hnot (List.mem_map.mpr ⟨kv,hkv,of_decide_eq_true he⟩)
  have hi:(es.findIdx? fun e=>knd.is k e.key)=none:=by
   rw[hidx,List.findIdx?_eq_none_iff]
   intro kv hkv
   exact decide_eq_false fun z=>hnot (List.mem_map.mpr ⟨kv,hkv,z⟩)
  unfold dictSetDefault
  try with_reducible refine wpAny_holding ?_
  refine wpAny_bind (knd.pyHash hkey ?_)
  refine wpAny_bind (wpAny_dictFind_of (s:={ s with toks:=s.toks+1 }) hkey ho hd hk ?_)
  rw[hi]
  refine wpAny_bind (wpAny_rule (wpAny_bind (wpAny_updateDictKeys (hz:=hz _ _ _ ho hd) (s:={ s with toks:=s.toks+1 }) ho hd (wpAny_pure (h2 hv _ ⟨_,_,ep+1,Heap.get?_update_self _ ho (Obj.isFreed_of_dict (Obj.data_mapDictKeys hd _)),
   hc.mapDictKeys _,Obj.data_mapDictKeys hd _,hk.push hkey _,?_,?_⟩ (Heap.SameBut.update ..))))))
  ·rw[stored,if_neg hany]
   have:=hp.append hkey (knd.hash k) dflt
   obtain⟨l⟩:=es
   simpa using this
  ·rw[stored,if_neg hany,List.map_append]
   refine List.nodup_append.mpr ⟨hn,by simp,fun a ha b hb=>?_⟩
   have hb':b=k:=by simpa using hb
   subst hb'
   intro e
   exact hnot (e ▸ ha)
theorem meets_sdf{k:K}{key:Value}(d:Addr)(hkey:knd.is k key=true)(hd:(d == sysModules)=false)(dflt:Value) :
  MeetsIn prog w (Builtin.«dict.setdefault» ⟨[.ref d,key,dflt],[]⟩) (fun _ R s=>∃ kvs,s.heap.DictOf knd d kvs∧kvs.length≤sizeLine ∧
   (∀ v,valueAt kvs k=some v→R (.ok (.ret v)) { s with toks:=s.toks+1 }) ∧
   (valueAt kvs k=none→∀ h',h'.DictOf knd d (stored kvs k dflt)→Heap.SameBut d s.heap h'→R (.ok (.ret dflt)) { s with heap:=h',toks:=s.toks+1 })) :=
 .of_wp fun A R s ⟨kvs,hm,hz,h1,h2⟩=>by
  unfold Builtin.«dict.setdefault»
  refine wpAny_bind ?_
  unfold Builtin.Dict.keyAndDefault
  refine wpAny_bind (wpAny_notOrdered_dict hm.typeIs ?_)
  show wpAny _ _ (pure (d,key,some dflt)) _ _ s
  refine wpAny_pure ?_
  show wpAny _ _ (if (d == sysModules)=true then _ else (dictSetDefault d key dflt >>= _)) _ _ s
  rw[if_neg (by rw[hd];exact Bool.false_ne_true)]
  exact wpAny_bind (zC hkey hm hz (fun v hv=>wpAny_pure ⟨v,rfl,h1 v hv⟩) fun hn h' hm' hs'=>wpAny_pure ⟨dflt,rfl,h2 hn h' hm' hs'⟩)
end
end PySem
namespace L2
open PySem PySem.Spec PyProof.Rows
section
variable {X:Cx}{pins:List (Addr×Obj)}{σ:St}{H:Hp}{s:Shared}{a:Addr}{kvs:List (cM×V)}{k:cM}{z:V}{u r:Value}{A:Around}{E:Value→Shared→Prop}
theorem Fc{Q:Value→Shared→Prop}(I:Inv X pins σ H s)(e:H a=some (.dK kvs))(hl:kvs.length<sizeLine)(ry:RelV (kV k) u)(rz:RelV z r)
  (h1:∀ v w' s',cX kvs k=some v→Inv X pins σ H s'→RelV v w'→Q w' s') (h2:cX kvs k=none→∀ s',Inv X pins σ (upd H a (.dK (dM kvs k z))) s'→Q r s') :
  wpAny (model X.prog X.w) A (call (.builtin "dict.setdefault") [.ref a,u,r]) Q E s:=by
 obtain⟨zl,hd,vs,rel,dd⟩:=uS I.hok e
 refine call_meetsIn PySem.F.slot_dict_setdefault dd.typeIs PySem.F.entry_dict_setdefault (PySem.F.args_dict_setdefault_3 _ _ _) (PySem.meets_sdf (knd:=bQ X.prog X.w) a (nQ ry) hd r)
  ⟨vs,dd,by rw[← rel.length];exact zl,fun v hv=>?_,fun hn h' dd' hs=>?_⟩
 ·have rv:=rel.val k
  rw[hv] at rv
  cases l:cX kvs k with
  | none=>rw[l] at rv;exact absurd rv (fun z=>z)
  | some v0 =>
   rw[l] at rv
   exact h1 v0 v _ l (I.tok _) rv
 ·have l:cX kvs k=none:=by
   have rv:=rel.val k
   rw[hn] at rv
   cases l:cX kvs k with
   | none=>rfl
   | some v0=>rw[l] at rv;exact absurd rv (fun z=>z)
  have he:∃ q,h'.get? a=some q:=let ⟨q,_,_,hq,_⟩:=dd';⟨q,hq⟩
  refine h2 l _ (mP I (by rw[e];exact True.intro) hs he (wB ?_ hd (rel.put k rz) dd'))
  have:=dZ kvs k z
  omega
end
def D8(td ty tx:TE):TE:=fun σ H Q=>td σ H fun x H1=>∃ a,x=.ref a∧HW H1 a∧ty σ H1 fun y H2=>tx σ H2 fun z H3=>∃ kvs k,H3 a=some (.dK kvs)∧kvs.length<sizeLine∧y=kV k ∧
 (∀ v,cX kvs k=some v→Q v H3)∧(cX kvs k=none→Q z (upd H3 a (.dK (dM kvs k z))))
section
variable {X:Cx}{o e f:Expr}{apos cpos:Pos}{td ty tx:TE}
theorem AB(ho:PE X o td)(he:PE X e ty)(hf:PE X f tx)(m:M2 X o "setdefault" apos e f cpos):PE X (.Call (.Attribute o "setdefault" apos) [e,f] [] cpos) (D8 td ty tx):=by
 intro pins s σ H Q I h
 refine wpAny_Call_method m.base m.few m.line PySem.F.plainAttrs_dict PySem.F.slot_dict_setdefault PySem.F.type_dict_setdefault (bZ (ho pins s σ H _ I h) fun u s1 ⟨x,H1,I1,rx,a,ex,d,q1⟩=>?_)
 subst ex
 obtain rfl:u=Value.ref a:=rx
 obtain⟨t1,t2,_⟩:=B8 I1 d
 refine⟨t1,t2,?_⟩
 rw[m.trees]
 refine Calls.callWith_builtin rfl (Calls.evalArgs_plain (Calls.spliced_cons (bZ (he pins s1 σ H1 _ I1 q1) fun iv s2 ⟨y,H2,I2,ry,q2⟩ =>
  Calls.spliced_cons (bZ (hf pins s2 σ H2 _ I2 q2) fun fv s3 ⟨z,H3,I3,rz,kvs,k,ea,hl,ey,q3,q4⟩=>Calls.spliced_nil ?_))))
 subst ey
 exact Fc I3 ea hl ry rz (fun v w' s4 l I4 rw'=>⟨v,H3,I4,rw',q3 v l⟩) fun l s4 I4=>⟨z,_,I4,rz,q4 l⟩
end
def jB(s:Stmt)(j:Nat):Stmt:=match s with
 | .ClassDef _ _ _ b _ _ _ _ _ _ _=>b.getD j (.Pass ⟨0,0,0,0⟩)
 | _=>.Pass ⟨0,0,0,0⟩
section
variable {X:Cx}{K:PySem.W.Frag}{o e value:Expr}{f:Str}{pos pos':Pos}{ta tv:TE}
theorem bT(hK:X.K=K)(he:PE X e ta)(hb:attributeBase e f X.env (eval e X.env)=eval e X.env):PE X (.Attribute e f pos) (Hd K ta f):=by subst hK;exact E1 he hb
theorem mZ(hK:X.K=K)(ha:PE X o ta)(hv:PE X value tv)(hs:swapsWith value (some (.Attribute o f pos')) pos.line X.env=pure false):PS X (.Assign [.Attribute o f pos'] value pos) (GZ K ta tv f):=by subst hK;exact E_ ha hv hs
end
end L2
namespace Lw
open PySem PySem.Spec PyProof.Rows L2
def jS(P:Program)(w:World)(K:PySem.W.Frag)(mg:Str→Option Value)(base:Heap)(C:Addr)(m:Str)(ps:List Str)(n:Nat)(sp:Sp):Prop :=
 ∃ f fd,FnOk P w K mg base yP n f fd ps sp∧Meth K C m f∧Binds K fd ps []
structure DfM(K:PySem.W.Frag)(C:Addr)(m q:Str)(st:Stmt)(ps:List Str)(f:Addr)(fd:FuncData):Prop where
 F:Fun K m q st f fd
 b:Binds K fd ps []
 m:Meth K C m f
theorem DfM.cl{P:Program}{w:World}{K:PySem.W.Frag}{mg:Str→Option Value}{base:Heap}{C:Addr}{m q:Str}{st:Stmt}{ps:List Str}{f:Addr}{fd:FuncData}{n:Nat}{sp:Sp}(D:DfM K C m q st ps f fd)(h:FnOk P w K mg base yP n f fd ps sp):jS P w K mg base C m ps n sp :=
 ⟨f,fd,h,D.m,D.b⟩
structure Own(K:PySem.W.Frag)(C:Addr):Prop where
 cl:Cls K C
 makes:PySem.W.makesIn K C=true
 kp:PySem.W.keepIn K (.ref C)=true
theorem Own.make{K:PySem.W.Frag}{C f:Addr}(o:Own K C)(m:Meth K C "__init__" f):Mk K C f:=⟨o.makes,m.at_,m.fn,o.kp⟩
theorem HX{K:PySem.W.Frag}{C:Addr}{x q:Str}{st:Stmt}{ps:List Str}{f:Addr}{oc:Value}{od an:Option Addr}{osl:Array (Option Value)}{kV doc pm cdv ct:Value}(hf:PySem.W.findIn K (.ref C) x=some (some (.ref f)))(hi:PySem.W.isFn K (.ref f)=true)
  (l:K.lookup f=some ⟨oc,od,.func (PySem.W.fnOf x q (dS st) (dL st) (aF st) .none kV doc pm an cdv ct),osl⟩)
  (c:PySem.W.codeIn K cdv q=true) (k:PySem.W.keepIn K (.ref f)=true) (h:∀ (kV doc pm:Value) (an:Option Addr) (cdv ct:Value) (us:List Value),us.length=ps.length→bindArgs (PySem.W.fnOf x q (dS st) (dL st) (aF st) .none kV doc pm an cdv ct) ⟨us,[]⟩=pure (ps.zip us)) :
  DfM K C x q st ps f (PySem.W.fnOf x q (dS st) (dL st) (aF st) .none kV doc pm an cdv ct) :=
 ⟨lY l c k,(lY l c k).binds h,⟨hf,hi,k⟩⟩
end Lw
namespace Lw
open PySem PySem.Spec PyProof.Rows L2 Ma MaR
inductive Lq(K:PySem.W.Frag)(H:Hp):Nat→V→V→Prop where
 | flat {d:Nat} {v:V} (h:fC v=true):Lq K H d v v
 | tup {d:Nat} {a b:Addr} {xs ys:List V} (h1:SqT K H a xs) (h2:SqT K H b ys) (hl:xs.length=ys.length) (hm:xs.length≤900) (h:∀ (i:Nat) (x y:V),xs[i]?=some x→ys[i]?=some y→Lq K H d x y):Lq K H (d+1) (.ref a) (.ref b)
 | lst {d:Nat} {a b:Addr} {xs ys:List V} (h1:H a=some (.lst xs)) (h2:H b=some (.lst ys)) (hl:xs.length=ys.length) (hm:xs.length≤900) (h:∀ (i:Nat) (x y:V),xs[i]?=some x→ys[i]?=some y→Lq K H d x y):Lq K H (d+1) (.ref a) (.ref b)
section
variable {X:Cx}
theorem iW{A:Around}{s:Shared}{xs ys:List V}{us vs:List Value}(rx:Vals xs us)(ry:Vals ys vs)(h:∀ (i:Nat) (x y:V),xs[i]?=some x→ys[i]?=some y→∀ u v,RelV x u→RelV y v→SeqAt.EqAt A s u v true) :
  ∀ (j:Nat) (h1:j<us.toArray.size) (h2:j<vs.toArray.size),SeqAt.EqAt A s us.toArray[j] vs.toArray[j] ((fun _=>true) j):=fun j h1 h2=>by
 have hx:j<xs.length:=by rw[rx.length];simpa using h1
 have hy:j<ys.length:=by rw[ry.length];simpa using h2
 obtain⟨u,hu,ru⟩:=rx.get (List.getElem?_eq_getElem hx)
 obtain⟨v,hv,rv⟩:=ry.get (List.getElem?_eq_getElem hy)
 have eu:us.toArray[j]=u:=by
  have:us[j]?=some us.toArray[j]:=by rw[List.getElem?_eq_getElem (by simpa using h1)];simp
  rw[hu] at this;exact(Option.some.inj this).symm
 have ev:vs.toArray[j]=v:=by
  have:vs[j]?=some vs.toArray[j]:=by rw[List.getElem?_eq_getElem (by simpa using h2)];simp
  rw[hv] at this;exact(Option.some.inj this).symm
 rw[eu,ev]
 exact h j _ _ (List.getElem?_eq_getElem hx) (List.getElem?_eq_getElem hy) u v ru rv
theorem lK(n:Nat):(List.range n).all (fun _=>true)=true:=List.all_eq_true.mpr fun _ _=>rfl
theorem sE{pins:List (Addr×Obj)}{σ:L2.St}{H:Hp}{s:Shared}(I:Inv X pins σ H s){d:Nat}{x y:V}(h:Lq X.K H d x y):∀ (A:Around),A.units+d<cLine→∀ u v,RelV x u→RelV y v→SeqAt.EqAt A s u v true:=by
 induction h with
 | @flat d v hf =>
  intro A _ u w ru rw'
  have:=wM (A:=A) (s:=s) ru rw' hf hf
  rwa [A2 hf] at this
 | @tup d a b xs ys h1 h2 hl hm _ ih =>
  intro A hu u w ru rw'
  cases ru
  cases rw'
  by_cases hab:a=b
  ·subst hab;exact SeqAt.EqAt.same _
  ·obtain⟨us,r1,p1,_⟩:=I.tuple h1
   obtain⟨vs,r2,p2,_⟩:=I.tuple h2
   have z:=SeqAt.RcAt.tuples (A:=A) (show s.heap.IsTuple a us.toArray from p1) (show s.heap.IsTuple b vs.toArray from p2) (by omega) (iW (A:=A.in1) (s:=s) r1 r2 fun i x y hx hy u v=>ih i x y hx hy A.in1 (by show A.units+1+d<cLine;omega) u v)
   have e:((List.range (min us.toArray.size vs.toArray.size)).all (fun _=>true) && us.toArray.size == vs.toArray.size)=true:=by
    rw[lK,List.size_toArray,List.size_toArray,← r1.length,← r2.length,hl];simp
   rw[e] at z
   exact SeqAt.EqAt.of_refs hab z
 | @lst d a b xs ys h1 h2 hl hm _ ih =>
  intro A hu u w ru rw'
  cases ru
  cases rw'
  by_cases hab:a=b
  ·subst hab;exact SeqAt.EqAt.same _
  ·obtain⟨us,r1,p1,_⟩:=I.list (SqL.of h1)
   obtain⟨vs,r2,p2,_⟩:=I.list (SqL.of h2)
   have z:=SeqAt.RcAt.lists (A:=A) p1.isList p2.isList (by simp;rw[← r1.length,← r2.length];exact hl) (by omega) (iW (A:=A.in1) (s:=s) r1 r2 fun i x y hx hy u v=>ih i x y hx hy A.in1 (by show A.units+1+d<cLine;omega) u v)
   rw[lK] at z
   exact SeqAt.EqAt.of_refs hab z
def Gs(K:PySem.W.Frag)(neg:Bool):R2:=fun x y H Q=>∃ (d:Nat) (a b:Addr) (xs ys:List V),d≤30∧x=.ref a∧y=.ref b∧((H a=some (.lst xs)∧H b=some (.lst ys))∨(SqT K H a xs∧SqT K H b ys))∧xs.length=ys.length∧(∀ (i:Nat) (x y:V),xs[i]?=some x→ys[i]?=some y→Lq K H d x y)∧Q (.bl (!neg)) H
theorem D1{K:PySem.W.Frag}(hK:X.K=K)(hu:X.A.units+64<cLine):jA X (compareOp .Eq) (Gs K false):=by
 subst hK
 intro pins s σ H x y v u Q I rx ry h
 obtain⟨d,a,b,xs,ys,hd,rfl,rfl,hq,hl,hall,q⟩:=h
 cases rx
 cases ry
 rcases hq with ⟨ha,hb⟩ | ⟨ha,hb⟩
 ·obtain⟨us,r1,p1,_⟩:=I.list (SqL.of ha)
  obtain⟨vs,r2,p2,_⟩:=I.list (SqL.of hb)
  refine SeqAt.eq_listAt p1.isList p2.isList (by simp;rw[← r1.length,← r2.length];exact hl) (by omega) (iW (A:=X.A.in1) (s:=s) r1 r2 fun i x y hx hy u v=>sE I (hall i x y hx hy) X.A.in1 (by show X.A.units+1+d<cLine;omega) u v) ?_
  rw[lK]
  exact⟨.bl _,H,I,rfl,q⟩
 ·obtain⟨us,r1,p1,_⟩:=I.tuple ha
  obtain⟨vs,r2,p2,_⟩:=I.tuple hb
  refine SeqAt.eq_tupleAt (show s.heap.IsTuple a us.toArray from p1) (show s.heap.IsTuple b vs.toArray from p2) (by omega) (iW (A:=X.A.in1) (s:=s) r1 r2 fun i x y hx hy u v=>sE I (hall i x y hx hy) X.A.in1 (by show X.A.units+1+d<cLine;omega) u v) ?_
  have e:((List.range (min us.toArray.size vs.toArray.size)).all (fun _=>true) && us.toArray.size == vs.toArray.size)=true:=by
   rw[lK,List.size_toArray,List.size_toArray,← r1.length,← r2.length,hl];simp
  rw[e]
  exact⟨.bl _,H,I,rfl,q⟩
theorem oZ{K:PySem.W.Frag}(hK:X.K=K)(hu:X.A.units+64<cLine):jA X (compareOp .NotEq) (Gs K true):=by
 subst hK
 intro pins s σ H x y v u Q I rx ry h
 obtain⟨d,a,b,xs,ys,hd,rfl,rfl,hq,hl,hall,q⟩:=h
 cases rx
 cases ry
 rcases hq with ⟨ha,hb⟩ | ⟨ha,hb⟩
 ·obtain⟨us,r1,p1,_⟩:=I.list (SqL.of ha)
  obtain⟨vs,r2,p2,_⟩:=I.list (SqL.of hb)
  refine EqBoolInt.of_rcne (SeqAt.RcNeAt.lists p1.isList p2.isList (by simp;rw[← r1.length,← r2.length];exact hl) (by omega) (iW (A:=X.A.in1) (s:=s) r1 r2 fun i x y hx hy u v=>sE I (hall i x y hx hy) X.A.in1 (by show X.A.units+1+d<cLine;omega) u v)) ?_
  rw[lK]
  exact⟨.bl _,H,I,rfl,q⟩
 ·obtain⟨us,r1,p1,_⟩:=I.tuple ha
  obtain⟨vs,r2,p2,_⟩:=I.tuple hb
  refine EqBoolInt.of_rcne (SeqAt.RcNeAt.tuples (show s.heap.IsTuple a us.toArray from p1) (show s.heap.IsTuple b vs.toArray from p2) (by omega) (iW (A:=X.A.in1) (s:=s) r1 r2 fun i x y hx hy u v=>sE I (hall i x y hx hy) X.A.in1 (by show X.A.units+1+d<cLine;omega) u v)) ?_
  have e:((List.range (min us.toArray.size vs.toArray.size)).all (fun _=>true) && us.toArray.size == vs.toArray.size)=true:=by
   rw[lK,List.size_toArray,List.size_toArray,← r1.length,← r2.length,hl];simp
  rw[e]
  exact⟨.bl _,H,I,rfl,q⟩
end
end Lw
namespace L2
open PySem PySem.Spec PyProof.Rows
section
variable {X:Cx}{pins:List (Addr×Obj)}{σ:St}{H:Hp}{s:Shared}
theorem Inv.freezeK{d:Addr}{kvs:List (cM×V)}(I:Inv X pins σ H s)(e:H d=some (.dK kvs)):∃ o,s.heap.get? d=some o∧Inv X pins σ (upd H d (.frz o (.dK kvs))) s:=by
 obtain⟨z,y,vs,r,o,es,ep,h1,h2⟩:=(show ObjOk X.prog X.w H s.heap d (.dK kvs) from I.hok d _ e)
 exact⟨o,h1,I.swap e (fun _ z=>by cases z) (.inl fun _ _ z=>by cases z) (fun _ z=>by cases z) (fun _ z=>by cases z) ⟨h1,z,y,vs,r,o,es,ep,h1,h2⟩⟩
theorem Inv.thawK{d:Addr}{o:Obj}{kvs:List (cM×V)}(I:Inv X pins σ H s)(e:H d=some (.frz o (.dK kvs)))(h0:∀ o v,X.H₀ d≠some (.frz o v)):Inv X pins σ (upd H d (.dK kvs)) s:=by
 obtain⟨_,z,y,r⟩:=(show ObjOk X.prog X.w H s.heap d (.frz o (.dK kvs)) from I.hok d _ e)
 exact I.swap e (fun _ z=>by cases z) (.inr h0) (fun _ z=>by cases z) (fun _ z=>by cases z) ⟨z,y,r⟩
def D6(H0 H H':Hp):Prop:=H'=H∨∃ d o kvs,H d=some (.frz o (.dK kvs))∧(∀ o v,H0 d≠some (.frz o v))∧H'=upd H d (.dK kvs)
def ES(H0:Hp)(t:TE):TE:=fun σ H Q=>t σ H fun v H'=>∃ H'',D6 H0 H' H''∧Q v H''
theorem BM{e:Expr}{t:TE}{H0:Hp}(h0:X.H₀=H0)(h:PE X e t):PE X e (ES H0 t):=by
 subst h0
 intro pins s σ H Q I q
 refine bZ (h pins s σ H _ I q) fun u s1 ⟨v,H1,I1,rv,H2,th,q2⟩=>?_
 rcases th with rfl | ⟨d,o,kvs,e1,n0,rfl⟩
 ·exact⟨v,_,I1,rv,q2⟩
 ·exact⟨v,_,I1.thawK e1 n0,rv,q2⟩
end
def yY(d:Addr)(o:Obj)(kvs:List (cM×V)):It :=
 ⟨fun i H=>H d=some (.frz o (.dK kvs))∧i<kvs.length,fun i H x H'=>H'=H∧∃ k v,kvs[i]?=some (k,v)∧x=kV k,fun i H=>H d=some (.frz o (.dK kvs))∧kvs.length≤i⟩
theorem rT{X:Cx}{pins:List (Addr×Obj)}{σ:St}{H:Hp}{s:Shared}{d:Addr}{o:Obj}{kvs:List (cM×V)}(I:Inv X pins σ H s)(e:H d=some (.frz o (.dK kvs))) :
  s.heap.get? d=some o∧(d == sysModules)=false∧∃ (vs:List (cM×Value)) (es:Array DictEntry) (ep:Nat),KV kvs vs∧o.ExactDict∧o.data=.dict es ep∧Pairs (bQ X.prog X.w) es.toList vs:=by
 obtain⟨h0,z,y,vs,r,o',es,ep,h1,h2,h3,h4,h5,h6⟩:=(show ObjOk X.prog X.w H s.heap d (.frz o (.dK kvs)) from I.hok d _ e)
 rw[h0] at h1
 cases h1
 exact⟨h0,y,vs,es,ep,r,h2,h3,h5⟩
theorem DN{P:Program}{w:World}{k:cM}{u:Value}(h:(bQ P w).is k u=true):RelV (kV k) u:=by
 rcases cI h with ⟨i,t,rfl,rfl⟩ | ⟨x,t,rfl,rfl⟩
 ·exact⟨t,rfl⟩
 ·exact⟨t,rfl⟩
theorem Bk{P:Program}{w:World}:∀ {es:List DictEntry} {vs:List (cM×Value)},Pairs (bQ P w) es vs→∀ {kvs:List (cM×V)},KV kvs vs→∀ {i:Nat} {kv:cM×V},kvs[i]?=some kv→∃ e,es[i]?=some e∧RelV (kV kv.1) e.key:=by
 intro es vs hp
 induction hp with
 | nil =>
  intro kvs r i kv h
  cases r
  simp at h
 | @cons e p es vs h1 h2 hp ih =>
  intro kvs r i kv h
  cases r with
  | cons ra rb =>
   cases i with
   | zero =>
    simp at h
    subst h
    exact⟨e,rfl,by rw[ra.1];exact DN h1⟩
   | succ i =>
    obtain⟨e',he,hr⟩:=ih rb (i:=i) (kv:=kv) (by simpa using h)
    exact⟨e',by simpa using he,hr⟩
theorem Aa{P:Program}{w:World}{K:PySem.W.Frag}{tg:Expr}(d it:Addr)(o:Obj)(es:Array DictEntry)(ep:Nat)(kvs:List (cM×V))(od:o.data=.dict es ep)(hl:es.size=kvs.length) :
  Turn P w K tg (yY d o kvs) [it] it (fun i h=>h.IsKeyIter it d i es.size ep) where
 mem:=by simp
 obj:=fun i h st b hb=>by
  have e:b=it:=by simpa using hb
  subst e
  obtain⟨o,e,c,d⟩:=st
  exact⟨o,e,fun v z=>by rw[d] at z;cases z⟩
 keep:=fun i h h' st k=>st.at fun o e=>k it (by simp) o e
 item:=by
  intro X hP hw hK hc i pins s σ H E I hf st hg
  subst hP hw hK
  obtain⟨hd,hi⟩:=hg
  obtain⟨g0,_,vs,es',ep',r,_,od',hp⟩:=rT I hd
  rw[od] at od'
  cases od'
  obtain⟨kv,hkv⟩:∃ kv,kvs[i]?=some kv:=⟨_,List.getElem?_eq_getElem hi⟩
  obtain⟨en,hen,hr⟩:=Bk hp r hkv
  have hes:es[i]?=some en:=by rw[← Array.getElem?_toList];exact hen
  obtain⟨f0,f1,f2,f3,f4,f5⟩:=hf it (by simp)
  refine xH (n:=0) st g0 od hes fun h' st' sb=>?_
  have I1:Inv X pins σ H { s with heap:=h' }:=I.turned (t':=s.toks) (fun b o hb e=>(sb.2 b hb).trans e) f0 f1 f3 f4 f5
  obtain⟨o2,e2,c2,d2⟩:=id st'
  exact⟨_,rfl,pZ (s:={ s with heap:=h' }) e2 c2 d2 (by decide) ⟨kV kv.1,H,I1,hr,⟨rfl,kv.1,kv.2,hkv,rfl⟩,st',fun b hb=>(hf b hb).1⟩⟩
 done:=by
  intro X hP hw hK hc i pins s σ H E I hf st hg
  subst hP hw hK
  obtain⟨hd,hi⟩:=hg
  obtain⟨g0,_,vs,es',ep',r,_,od',hp⟩:=rT I hd
  rw[od] at od'
  cases od'
  obtain⟨f0,f1,f2,f3,f4,f5⟩:=hf it (by simp)
  exact zH (n:=0) (I.ok.hd hc) st g0 od (by rw[Array.getElem?_eq_none_iff];omega) fun h' eb=>⟨rfl,I.turned (t':=s.toks) (fun b o hb e=>eb b o hb e) f0 f1 f3 f4 f5⟩
 self:=fun _ _ _ _ _ st h=>wpAny_pyIter_keyiter st h
section
variable {X:Cx}
def Fy(td:TE):TI:=fun σ H R=>td σ H fun x H1=>∃ d kvs,x=.ref d∧((H1 d=some (.dK kvs)∧∀ o,R (yY d o kvs) (upd H1 d (.frz o (.dK kvs))))∨∃ o,H1 d=some (.frz o (.dK kvs))∧R (yY d o kvs) H1)
theorem A1{tg e:Expr}{td:TE}(he:PE X e td):PI X tg e (Fy td):=by
 intro pins s σ H R I h
 refine bZ (he pins s σ H _ I h) fun u s1 ⟨x,H1,I1,rx,d,kvs,ex,hq⟩=>?_
 subst ex
 cases (show u=Value.ref d from rx)
 obtain⟨o,H2,e2,I2,q2⟩:∃ o H2,H2 d=some (.frz o (.dK kvs))∧Inv X pins σ H2 s1∧R (yY d o kvs) H2:=by
  rcases hq with ⟨e1,q⟩ | ⟨o,e1,q⟩
  ·obtain⟨o,_,I2⟩:=I1.freezeK e1
   exact⟨o,_,aC,I2,q o⟩
  ·exact⟨o,H1,e1,I1,q⟩
 obtain⟨g0,hn,vs,es,ep,r,xo,od,hp⟩:=rT I2 e2
 have hl:es.size=kvs.length:=by rw[← Array.length_toList,hp.length,← KV.length r]
 refine Bl hn g0 xo od ⟨s1.heap.objs.size,[s1.heap.objs.size],_,yY d o kvs,H2,rfl,I2.kept (t':=s1.toks) (fun b u e=>Heap.get?_push_of_some _ e),Aa d _ o es ep kvs od hl,⟨_,Heap.get?_push_size _ rfl,rfl,rfl⟩,fun b hb=>?_,q2⟩
 have e:b=s1.heap.objs.size:=by simpa using hb
 subst e
 exact I2.fpOk (Nat.le_refl _) (I2.hok.fresh (Nat.le_refl _))
end
theorem Ac{d:Addr}{o:Obj}{kvs:List (cM×V)}{D:Addr}{Q:VK}{ti:TT}{te:TE}{c:St}{H0:Hp}(Pv:Nat→Hp→Prop)(h0:Pv 0 H0)(hl:∀ i H,i≤kvs.length→Pv i H→H d=some (.frz o (.dK kvs)))
  (hs:∀ i k v H,kvs[i]?=some (k,v)→Pv i H→ti (some (kV k)::c) H fun b H1=>if b=true then te (some (kV k)::c) H1 fun y H2=>∃ ys,H2 D=some (.lst ys)∧ys.length<sizeLine∧Pv (i+1) (upd H2 D (.lst (ys++[y]))) else Pv (i+1) H1)
  (hd:∀ H,Pv kvs.length H→Q (.ref D) H):jM (yY d o kvs) D Q ti te c H0:=by
 refine⟨fun i m H'=>m=kvs.length - i∧i≤kvs.length∧Pv i H',⟨kvs.length,by simp,Nat.zero_le _,h0⟩,?_⟩
 rintro i m H' ⟨rfl,hi,p⟩
 have q:=hl i H' hi p
 by_cases hlt:i<kvs.length
 ·refine .inr ⟨⟨q,hlt⟩,Pv (i+1),fun H'' p=>⟨kvs.length - (i+1),by omega,rfl,hlt,p⟩,fun v H2 y=>?_⟩
  obtain⟨e,k,v',hk,rfl⟩:=y
  subst e
  exact hs i k v' H2 hk p
 ·have e:i=kvs.length:=by omega
  subst e
  exact .inl ⟨⟨q,Nat.le_refl _⟩,hd H' p⟩
theorem DGet.fk{H:Hp}{a:Addr}{o:Obj}{kvs:List (cM×V)}{k:cM}(e:H a=some (.frz o (.dK kvs))):DGet H a (kV k) (cX kvs k):=.inl ⟨kvs,k,.inr ⟨o,e⟩,rfl,rfl⟩
end L2
namespace PySem
open Sem (wp)
open Builtin
theorem lJ:fillsNumberSlot (.type "tuple") "mul"=pure false :=
 fillsNumberSlot_seq (id:="tuple.__mul__") (r:=some (.builtin "tuple.__rmul__")) F.slot_tuple_mul.lookup (by decide +kernel) F.slot_tuple_rmul.lookup (by decide +kernel)
theorem sM:seqRepeat? (.type "tuple")=pure (some (.builtin "tuple.__mul__")):=by
 unfold seqRepeat?
 rw[seqSlot_of (T:="tuple") (name:="__mul__") (id:="tuple.__mul__") F.slot_tuple_mul.lookup (by decide +kernel),seqSlot_of (T:="tuple") (name:="__rmul__") (id:="tuple.__rmul__") F.slot_tuple_rmul.lookup (by decide +kernel)]
 rfl
theorem wL(a:Int)(t:Tok)(l:Addr)(items:Array Value) :
  Meets (Builtin.«int.__rmul__» ⟨[.int a t,.ref l],[]⟩) (fun _ R s=>PyProof.Rows.IsTup s.heap l items∧R (.ok (.ret Value.notImplemented)) s) :=
 .of_wp fun prog w A R s h=>by
  obtain⟨hp,g,d,tk,os⟩:=s
  obtain⟨⟨⟨cls,dd,data,sl⟩,ho,hc,n,hd⟩,h⟩:=h
  simp only at hc hd ho
  subst hc hd
  wp_walk
  exact⟨_,rfl,h⟩
theorem At(k:Int)(t:Tok)(l:Addr)(items:Array Value)(h0:items.isEmpty=false)(h1:1≤k)(h2:k<2 ^ 63)(hz:items.size * k.toNat≤sizeLine) :
  Meets (Builtin.«tuple.__mul__» ⟨[.ref l,.int k t],[]⟩) (fun _ R s=>PyProof.Rows.IsTup s.heap l items∧(k=1→R (.ok (.ret (.ref l))) s) ∧
   (k≠1→R (.ok (.ret (.ref s.heap.objs.size))) { s with heap:=s.heap.push { cls:=.type "tuple",data:=.seq ((List.replicate k.toNat items).foldl (·++·) #[]) } })) :=
 .of_wp fun prog w A R s h=>by
  obtain⟨hp,g,d,tk,os⟩:=s
  obtain⟨⟨⟨cls,dd,data,sl⟩,ho,hc,n,hd⟩,hA,hB⟩:=h
  simp only at hc hd ho
  subst hc hd
  wp_walk
  have o1:¬ (decide (k < -2 ^ 63) || decide (k ≥ 2 ^ 63))=true:=by
   rw[decide_eq_false (by omega),decide_eq_false (by omega)]
   decide
  rw[if_neg o1]
  refine wpAny_bind (wpAny_tupleItemsOf ho rfl ?_)
  by_cases hk:k=1
  ·have o2:(items.isEmpty || k == 1)=true:=by rw[hk];simp
   rw[if_pos o2]
   wp_walk
   exact⟨_,rfl,hA hk⟩
  ·have o2:¬ (items.isEmpty || k == 1)=true:=by rw[h0,beq_false_of_ne hk];decide
   have o3:¬ (decide (k≤0) || items.isEmpty)=true:=by rw[h0,decide_eq_false (by omega)];decide
   have e4:((items.size:Nat):Int) * k=((items.size * k.toNat:Nat):Int):=by rw[Int.natCast_mul,Int.toNat_of_nonneg (by omega)]
   have o4:¬ ((items.size:Nat):Int) * k > (2 ^ 63 - 1) / 8:=by
    rw[e4]
    have:(sizeLine:Nat)≤(2 ^ 63 - 1) / 8:=by decide
    omega
   have o5:¬ Tuple.tupleTooMany (((items.size:Nat):Int) * k)=true:=by
    unfold Tuple.tupleTooMany
    rw[e4]
    simp only [decide_eq_true_eq]
    omega
   rw[if_neg o2]
   show wpAny _ _ (if (decide (k≤0) || items.isEmpty)=true then _ else _) _ _ _
   rw[if_neg o3]
   show wpAny _ _ (if ((items.size:Nat):Int) * k > (2 ^ 63 - 1) / 8 then _ else _) _ _ _
   rw[if_neg o4]
   show wpAny _ _ (if Tuple.tupleTooMany (((items.size:Nat):Int) * k)=true then _ else _) _ _ _
   rw[if_neg o5]
   unfold Tuple.tupleExact
   refine wpAny_bind (wpAny_newObj_type ?_ ?_)
   ·exact wpAny_pure ⟨_,rfl,hB hk⟩
   ·have e5:=L2.foldl_rep items.toList k.toNat []
    have e6:List.foldl (fun x1 x2=>x1++x2) #[] (List.replicate k.toNat items)=((List.replicate k.toNat items.toList).flatten).toArray:=by
     rw[List.nil_append] at e5
     simpa using e5
    rw[e6]
    show ((List.replicate k.toNat items.toList).flatten).toArray.size≤sizeLine
    rw[List.size_toArray,L2.len_rep,Array.length_toList,Nat.mul_comm]
    exact hz
end PySem
namespace L2
open PySem PySem.Spec PyProof.Rows
def Dz(K:PySem.W.Frag):R2:=fun x y H Q=>∃ a k xs,x=.ref a∧y=.int k∧SqT K H a xs∧xs≠[]∧1≤k∧k<2 ^ 63∧xs.length * k.toNat≤sizeLine ∧
 (k=1→Q (.ref a) H)∧(k≠1→∀ p,H p=none→Q (.ref p) (upd H p (.tup (List.replicate k.toNat xs).flatten)))
theorem B5{X:Cx}{K:PySem.W.Frag}(hK:X.K=K):jA X (binaryOp .Mult) (Dz K):=by
 subst hK
 intro pins s σ H x y v u Q I rx ry h
 obtain⟨a,k,xs,rfl,rfl,ha,h0,h1,h2,hz,q1,q2⟩:=h
 cases rx
 obtain⟨t,rfl⟩:=ry
 obtain⟨its,r,p,_⟩:=I.tuple ha
 have hT:s.TypeIs (.ref a) "tuple":=by
  obtain⟨o,e,c,_⟩:=id p
  exact⟨o,e,c⟩
 have hne:its.toArray.isEmpty=false:=by
  cases its with
  | nil=>exact absurd (r.nil_iff.mp rfl) h0
  | cons b c=>rfl
 refine wpAny_binaryOp_repeat_ref (T:="tuple") (U:="int") (by decide) hT (fun s'=>typeIs_int s' k t) lJ F.fills_int_mul F.slot_int_rmul sM F.slot_int_index.lookup
  (call_meets F.slot_int_rmul (typeIs_int s k t) F.entry_int_rmul (F.args_int_rmul_2 _ _) (wL k t a its.toArray)
   ⟨p,rfl,hT,call_meets F.slot_tuple_mul hT F.entry_tuple_mul (F.args_tuple_mul_2 _ _) (At k t a its.toArray hne h1 h2 (by rw[List.size_toArray,← r.length];exact hz)) ⟨p,fun e=>⟨.ref a,H,I,rfl,q1 e⟩,fun e=>?_⟩⟩)
 have e6:List.foldl (fun x1 x2=>x1++x2) #[] (List.replicate k.toNat its.toArray)=((List.replicate k.toNat its).flatten).toArray:=by
  have e5:=foldl_rep its k.toNat []
  rw[List.nil_append] at e5
  exact e5
 rw[e6]
 refine⟨.ref s.heap.objs.size,_,I.laid (t':=s.toks) (o:=.tup (List.replicate k.toNat xs).flatten) (fun b ob q=>Heap.get?_push_of_some _ q) (Nat.le_refl _) ?_,rfl,q2 e _ (I.hok.fresh (Nat.le_refl _))⟩
 exact⟨by rw[len_rep,Nat.mul_comm];exact hz,_,r.rep k.toNat,IsTup.new _ _,NoD.new _ _⟩
end L2
namespace Lw
open PySem PySem.Spec PyProof.Rows L2 Ma MaR
def wf(hd tn wy al:Addr):List (Str×V):=eX "alike" (.ref al) (eX "ways" (.ref wy) (eX "turns" (.ref tn) (eX "heads" (.ref hd) [])))
theorem IW:¬ (("heads":Str)="alike"):=by decide +kernel
theorem I_:¬ (("heads":Str)="ways"):=by decide +kernel
theorem Je:¬ (("heads":Str)="turns"):=by decide +kernel
theorem Jf:¬ (("turns":Str)="alike"):=by decide +kernel
theorem Jc:¬ (("turns":Str)="ways"):=by decide +kernel
theorem IX:¬ (("ways":Str)="alike"):=by decide +kernel
section
variable (hd tn wy al:Addr)
theorem eW:(wf hd tn wy al).lookup ("heads":Str)=some (.ref hd):=by unfold wf;rw[aZ,if_neg IW,aZ,if_neg I_,aZ,if_neg Je,aZ,if_pos rfl]
theorem gG:(wf hd tn wy al).lookup ("turns":Str)=some (.ref tn):=by unfold wf;rw[aZ,if_neg Jf,aZ,if_neg Jc,aZ,if_pos rfl]
theorem kB:(wf hd tn wy al).lookup ("ways":Str)=some (.ref wy):=by unfold wf;rw[aZ,if_neg IX,aZ,if_pos rfl]
theorem oJ:(wf hd tn wy al).lookup ("alike":Str)=some (.ref al):=by unfold wf;rw[aZ,if_pos rfl]
theorem eB{m:Str}(h1:¬ m="alike")(h2:¬ m="ways")(h3:¬ m="turns")(h4:¬ m="heads"):(wf hd tn wy al).lookup m=none:=by
 unfold wf
 rw[aZ,if_neg h1,aZ,if_neg h2,aZ,if_neg h3,aZ,if_neg h4]
 rfl
end
theorem mW{H:Hp}{p q:Addr}{o:HO}(u o':HO)(hp:H p=some o)(hq:H q=none):upd (upd H q u) p o' p=some o'∧upd (upd H q u) p o' q=some u∧∀ b x,H b=some x→b≠p→upd (upd H q u) p o' b=some x:=by
 have n:q≠p:=(aH hp hq).symm
 refine⟨aC,by rw[aE n,aC],fun b x e hb=>?_⟩
 rw[aE hb,aE (aH e hq)]
 exact e
theorem gR{H:Hp}{p q:Addr}{o:HO}(u:HO)(hp:H p=some o)(hq:H q=none):upd H q u p=some o:=by rw[aE (aH hp hq)];exact hp
end Lw
namespace L2
open PySem PySem.Spec PyProof.Rows
def Da(H:Hp)(S:Addr)(as:List Addr)(kvs:List (cM×V)):Hp:=fun b=>if b=S then some (.lst (as.map V.ref)) else match (as.zip kvs).find? (fun q=>decide (q.1=b)) with
 | some q=>some (.tup [kV q.2.1,q.2.2])
 | none=>H b
theorem uP{b:Addr}:∀ {as:List Addr} {kvs:List (cM×V)} {q:Addr×cM×V},(as.zip kvs).find? (fun q=>decide (q.1=b))=some q→q.1=b∧∃ j:Nat,as[j]?=some q.1∧kvs[j]?=some q.2:=by
 intro as kvs q h
 have h1:=List.find?_some h
 have h2:=List.mem_of_find?_eq_some h
 obtain⟨j,hj⟩:=List.getElem?_of_mem h2
 rw[List.getElem?_zip_eq_some] at hj
 exact⟨of_decide_eq_true h1,j,hj.1,hj.2⟩
section
variable {H:Hp}{S:Addr}{as:List Addr}{kvs:List (cM×V)}
theorem DA:Da H S as kvs S=some (.lst (as.map V.ref)):=by unfold Da;rw[if_pos rfl]
theorem mT{b:Addr}(h1:b≠S)(h2:b ∉ as):Da H S as kvs b=H b:=by
 unfold Da
 rw[if_neg h1]
 cases e:(as.zip kvs).find? (fun q=>decide (q.1=b)) with
 | none=>rfl
 | some q =>
  obtain⟨e1,j,e2,_⟩:=uP e
  rw[e1] at e2
  exact absurd (List.mem_of_getElem? e2) h2
theorem BA{j:Nat}{a:Addr}{kv:cM×V}(hS:a≠S)(nd:as.Nodup)(ha:as[j]?=some a)(hk:kvs[j]?=some kv):Da H S as kvs a=some (.tup [kV kv.1,kv.2]):=by
 unfold Da
 rw[if_neg hS]
 have hm:(a,kv)∈as.zip kvs:=List.mem_of_getElem? (i:=j) (by rw[List.getElem?_zip_eq_some];exact⟨ha,hk⟩)
 cases e:(as.zip kvs).find? (fun q=>decide (q.1=a)) with
 | none =>
  have:=List.find?_eq_none.mp e (a,kv) hm
  simp at this
 | some q =>
  obtain⟨e1,i,e2,e3⟩:=uP e
  rw[e1] at e2
  have hij:i=j:=by
   obtain⟨l1,x1⟩:=List.getElem?_eq_some_iff.mp e2
   obtain⟨l2,x2⟩:=List.getElem?_eq_some_iff.mp ha
   exact(List.getElem_inj nd).mp (x1.trans x2.symm)
  subst hij
  rw[hk] at e3
  cases e3
  rfl
end
theorem lA{α β:Type}{F:α→β→Prop}:∀ {l₁:List α} {l₂:List β},Paired F l₁ l₂→∀ {j:Nat} {y:β},l₂[j]?=some y→∃ x,l₁[j]?=some x∧F x y
 | _,_,.nil,j,y,h=>by simp at h
 | _,_,.cons (b:=b) f r,0,y,h=>by
  have e:b=y:=by simpa using h
  subst e
  exact⟨_,rfl,f⟩
 | _,_,.cons f r,j+1,y,h=>by
  obtain⟨x,hx,q⟩:=lA r (j:=j) (by simpa using h)
  exact⟨x,by simpa using hx,q⟩
section
variable {X:Cx}{pins:List (Addr×Obj)}{σ:St}{H:Hp}{s:Shared}
theorem Inv.laidItems{h':Heap}{t' c:Nat}{S:Addr}{as:List Addr}{kvs:List (cM×V)}{vs:List (cM×Value)}{acc:Array Value}(I:Inv X pins σ H s)(r:KV kvs vs)(hz:kvs.length≤sizeLine)(k:∀ b u,s.heap.get? b=some u→h'.get? b=some u)(hp:s.heap.objs.size≤S)
  (hS:h'.get? S=some { cls:=.type "list",dict:=none,data:=.seq acc c,slots:=#[] }) (hacc:acc.toList=as.map Value.ref) (hl:as.length=vs.length) (G:PySem.W.KdxG (bQ X.prog X.w) vs S h' as) :
  Inv X pins σ (Da H S as kvs) { s with heap:=h',toks:=t' }:=by
 have hlen:=r.length
 have nd:as.Nodup:=G.rise.imp fun h=>Nat.ne_of_lt h
 have hnew:∀ b,b=S∨b∈as→s.heap.objs.size≤b:=fun b hb=>by
  rcases hb with rfl | hb
  ·exact hp
  ·exact Nat.le_of_lt (Nat.lt_of_le_of_lt hp (G.above b hb))
 have hold:∀ b o,H b=some o→Da H S as kvs b=some o:=fun b o e=>by
  have hb:=(I.hok b o e).lt
  rw[mT (fun z=>absurd (hnew b (.inl z)) (Nat.not_le_of_lt hb)) (fun z=>absurd (hnew b (.inr z)) (Nat.not_le_of_lt hb))]
  exact e
 have hfree:∀ b o,s.heap.get? b=some o→Da H S as kvs b=H b:=fun b o e=>by
  have hb:=Heap.lt_size e
  exact mT (fun z=>absurd (hnew b (.inl z)) (Nat.not_le_of_lt hb)) (fun z=>absurd (hnew b (.inr z)) (Nat.not_le_of_lt hb))
 refine I.un ⟨fun b u q _ _ _=>k b u q,fun b u q _ _ _=>⟨u.slots,k b u q⟩,fun b u q n _=>by rw[hfree b u q];exact n,fun b u q _=>⟨u,k b u q⟩,fun b xs q=>hold b _ q,fun b o u q=>hold b _ q,fun b ps q=>⟨#[],by rw[hold b _ q];simp⟩⟩ ?_
 intro b u e
 by_cases hbS:b=S
 ·subst hbS
  rw[DA] at e
  cases e
  refine⟨by rw[List.length_map,hl,← hlen];exact hz,as.map Value.ref,c,?_,?_⟩
  ·clear hold hfree hnew nd G hl hacc
   induction as with
   | nil=>exact .nil
   | cons a as ih=>exact .cons rfl (ih)
  ·rw[hS,← hacc,Array.toArray_toList]
 ·by_cases hba:b∈as
  ·obtain⟨j,hj⟩:=List.getElem?_of_mem hba
   obtain⟨key,kk,x,hv,hk,hg⟩:=G.pairs j b hj
   obtain⟨kv,hkv,e1,e2⟩:∃ kv,kvs[j]?=some kv∧kv.1=kk∧RelV kv.2 x:=by
    obtain⟨kv,hkv,q1,q2⟩:=lA r hv
    exact⟨kv,hkv,q1,q2⟩
   rw[BA hbS nd hj hkv] at e
   cases e
   refine⟨by show 2≤sizeLine;decide,[key,x],.cons (by rw[e1];exact DN hk) (.cons e2 .nil),⟨_,hg,rfl,_,rfl⟩,⟨_,hg,rfl⟩⟩
  ·rw[mT hbS hba] at e
   refine(I.hok b u e).stay (fun c v _ q=>k c v q) (fun c q=>hold _ _ q) fun c xs q=>hold _ _ q
def Iu(td:TE):TE:=fun σ H Q=>td σ H fun x H1=>∃ d kvs,x=.ref d∧H1 d=some (.dK kvs)∧∀ v,H1 v=none→Q (.ref v) (upd H1 v (.ext fun h=>h.IsItemsView v d))
theorem Aq{o:Expr}{apos cpos:Pos}{td:TE}(ho:PE X o td)(hb:attributeBase o "items" X.env (eval o X.env)=eval o X.env:=by rfl)(hline:(apos.endLine == cpos.line)=true:=by rfl):PE X (.Call (.Attribute o "items" apos) [] [] cpos) (Iu td):=by
 intro pins s σ H Q I h
 refine wpAny_Call_method0_late hb hline (bZ (ho pins s σ H _ I h) fun u s1 ⟨x,H1,I1,rx,d,kvs,ex,e1,q⟩=>?_)
 subst ex
 cases (show u=Value.ref d from rx)
 obtain⟨z,hd,vs,rel,dd⟩:=uS I1.hok e1
 obtain⟨o,es,ep,g0,xo,od⟩:=id dd
 refine⟨"dict","dict.items",PySem.F.plainAttrs_dict,PySem.F.slot_dict_items,PySem.F.type_dict_items,⟨_,g0,xo.1⟩,fun b q=>?_,?_⟩
 ·cases q
  exact⟨o,g0,xo.2.1⟩
 refine Calls.callWith_builtin rfl (PySem.evalArgs_none ?_)
 refine vO hd g0 xo ?_
 have hn:=I1.hok.fresh (Nat.le_refl s1.heap.objs.size)
 have g1:(s1.heap.push { cls:=.type "dict_items",data:=.fields #[.ref d] }).get? s1.heap.objs.size=some { cls:=.type "dict_items",data:=.fields #[.ref d] }:=Heap.get?_push_size _ rfl
 refine⟨.ref s1.heap.objs.size,_,I1.laid (t':=s1.toks) (fun b u e=>Heap.get?_push_of_some _ e) (Nat.le_refl _) ?_,rfl,q _ hn⟩
 exact⟨⟨_,g1,rfl,rfl⟩,⟨_,g1⟩,fun h1 h2 ⟨o,a,b,c⟩ k=>⟨o,k o a,b,c⟩⟩
theorem vV(hc:X.calm=true):fX X (.type "list") (fun xs H Q=>∃ v d kvs,xs=[.ref v]∧H v=some (.ext fun h=>h.IsItemsView v d)∧H d=some (.dK kvs) ∧
  ∀ (l:Addr) (as:List Addr) (H':Hp),H l=none→Same H H'→H' l=some (.lst (as.map V.ref))→as.length=kvs.length→(∀ (j:Nat) (a:Addr) (kv:cM×V),as[j]?=some a→kvs[j]?=some kv→H' a=some (.tup [kV kv.1,kv.2]))→Q (.ref l) H'):=by
 intro pins s σ H xs us Q I r h
 obtain⟨v,d,kvs,rfl,hv,he,q⟩:=h
 obtain⟨u,rfl,rx⟩:=kP r
 cases rx
 obtain⟨z,hd,vs,rel,dd⟩:=uS I.hok he
 obtain⟨ep,da⟩:=dd.dictAt
 obtain⟨iv,_,_⟩:=I.hok v _ hv
 refine PySem.W.kdx_call (knd:=bQ X.prog X.w) (I.ok.hd hc) iv da (by rw[← rel.length];exact z) fun h' tk acc c as kp hS hl G hacc=>?_
 have nd:as.Nodup:=G.rise.imp fun h=>Nat.ne_of_lt h
 refine⟨.ref s.heap.objs.size,_,I.laidItems (t':=tk) rel z kp (Nat.le_refl _) hS hacc hl G,rfl,q _ as _ (I.hok.fresh (Nat.le_refl _)) (fun b o e=>?_) DA (by rw[hl,rel.length]) fun j a kv ha hk=>BA (Nat.ne_of_gt (G.above a (List.mem_of_getElem? ha))) nd ha hk⟩
 have hb:=(I.hok b o e).lt
 rw[mT (Nat.ne_of_lt hb) fun z=>absurd (G.above b z) (Nat.not_lt_of_ge (Nat.le_of_lt hb))]
 exact e
end
end L2
namespace Lw
open PySem PySem.Spec PyProof.Rows L2 Ma MaR
theorem mO{u v:List Nat}(hu:AllL u)(hv:AllL v):lay (lay u++lay v)=lay (u++v):=by
 rw[eF u _ hu,cP u v hu hv]
theorem eE{u v w:List Nat}(hu:AllL u)(hv:AllL v)(hw:AllL w):lay (u++(v++(back v++w)))=lay (u++w):=by
 have e:lay (u++(v++back v)++w)=lay (u++w):=by
  rw[← hG u (v++back v) w hu (AllL.app.mpr ⟨hv,aL hv⟩) hw,dY hv,List.append_nil]
 rw[← e]
 simp only [List.append_assoc]
theorem uE{u v w:List Nat}(hu:AllL u)(hv:AllL v)(hw:AllL w):lay (u++(back v++(v++w)))=lay (u++w):=by
 have:=eE hu (aL hv) hw
 rwa [dF hv] at this
section
variable {a b c d x:List Nat}(ha:AllL a)(hb:AllL b)(hc:AllL c)(hd:AllL d)(hx:AllL x)
include ha hb hc
theorem IL:lay (lay (back a++b)++lay (back b++c))=lay (back a++c):=by
 have q:=aL ha
 have q2:=aL hb
 rw[mO (AllL.app.mpr ⟨q,hb⟩) (AllL.app.mpr ⟨q2,hc⟩),List.append_assoc]
 exact eE q hb hc
theorem GP:lay (lay (a++b)++lay (back b++c))=lay (a++c):=by
 have q2:=aL hb
 rw[mO (AllL.app.mpr ⟨ha,hb⟩) (AllL.app.mpr ⟨q2,hc⟩),List.append_assoc]
 exact eE ha hb hc
omit hc in
theorem IE:back (lay (back a++b))=lay (back b++a):=by
 have q:=aL ha
 rw[← gI (AllL.app.mpr ⟨q,hb⟩),cY,dF ha]
include hx in
omit hc in
theorem IN:back (lay (back a++(x++b)))=lay (back b++(back x++a)):=by
 have q:=aL ha
 rw[← gI (AllL.app.mpr ⟨q,AllL.app.mpr ⟨hx,hb⟩⟩),cY,cY,dF ha,List.append_assoc]
include hx in
theorem Jd:lay (back (lay (back a++(x++b)))++lay (back a++(x++c)))=lay (back b++c):=by
 have q:=aL ha
 have q2:=aL hb
 have q3:=aL hx
 rw[IN ha hb hx,mO (AllL.app.mpr ⟨q2,AllL.app.mpr ⟨q3,ha⟩⟩) (AllL.app.mpr ⟨q,AllL.app.mpr ⟨hx,hc⟩⟩)]
 have e1:back b++(back x++a)++(back a++(x++c))=(back b++back x)++(a++(back a++(x++c))):=by simp only [List.append_assoc]
 rw[e1,eE (AllL.app.mpr ⟨q2,q3⟩) ha (AllL.app.mpr ⟨hx,hc⟩),List.append_assoc]
 exact uE q2 hx hc
include hx in
theorem Iw:lay (back (lay (back a++b))++lay (back a++(x++c)))=lay (back b++(x++c)):=by
 have q:=aL ha
 have q2:=aL hb
 rw[IE ha hb,mO (AllL.app.mpr ⟨q2,ha⟩) (AllL.app.mpr ⟨q,AllL.app.mpr ⟨hx,hc⟩⟩),List.append_assoc]
 exact eE q2 ha (AllL.app.mpr ⟨hx,hc⟩)
include hx in
theorem IS:lay (lay (back a++(x++b))++lay (back b++c))=lay (back a++(x++c)):=by
 have q:=aL ha
 have:=GP (a:=back a++x) (b:=b) (c:=c) (AllL.app.mpr ⟨q,hx⟩) hb hc
 simp only [List.append_assoc] at this
 exact this
omit hc in
end
structure WvS where
 hs:List Nat
 ts:List (List Nat)
 ws:List (List (Nat×Nat×List Nat))
 al:List (Nat×List Nat×Nat)
structure WI(h:Nat→List Nat)(φ:Nat→List Nat)(ρ rk:Nat→Nat)(L:Nat)(S:WvS):Prop where
 lt:S.ts.length=S.hs.length
 lw:S.ws.length=S.hs.length
 hd:∀ (i a:Nat),S.hs[i]?=some a→a<S.hs.length∧(a=i∨rk a<rk i)∧ρ a=ρ i∧(a=i→ρ i=i)
 rt:∀ i:Nat,i<S.hs.length→ρ i<S.hs.length∧S.hs[ρ i]?=some (ρ i)
 tn:∀ (i a:Nat) (t:List Nat),S.hs[i]?=some a→S.ts[i]?=some t→t=lay (back (φ i)++φ a)
 wy:∀ (i:Nat) (es:List (Nat×Nat×List Nat)),S.ws[i]?=some es→(es.map (·.1)).Nodup∧∀ e∈es,bY e.1∧e.2.1<S.hs.length∧e.2.2=lay (back (φ i)++(h e.1++φ e.2.1))
 al:∀ e∈S.al,e.1<S.hs.length∧e.2.2<S.hs.length∧e.2.1=lay (back (φ e.1)++φ e.2.2)
 fa:∀ i,AllL (φ i)∧(φ i).length≤L
 ha:∀ c,bY c→AllL (h c)∧(h c).length≤L
section
variable {h:Nat→List Nat}{φ:Nat→List Nat}{ρ rk:Nat→Nat}{L:Nat}{S:WvS}
theorem eJ{α:Type}{xs:List α}{i j:Nat}{v y:α}(h:(xs.set i v)[j]?=some y):(j=i∧y=v∧i<xs.length)∨(j≠i∧xs[j]?=some y):=by
 rw[List.getElem?_set] at h
 split at h
 ·rename_i e
  split at h
  ·cases h;exact .inl ⟨e.symm,rfl,by assumption⟩
  ·cases h
 ·rename_i e
  exact .inr ⟨fun z=>e z.symm,h⟩
theorem WI.comp(I:WI h φ ρ rk L S){i a b:Nat}{t u:List Nat}(hi:S.hs[i]?=some a)(hne:a≠i)(ha:S.hs[a]?=some b)(ht:S.ts[i]?=some t)(hu:S.ts[a]?=some u) :
  WI h φ ρ rk L { S with hs:=S.hs.set i b,ts:=S.ts.set i (lay (t++u)) }∧lay (t++u)=lay (back (φ i)++φ b)∧rk b<rk i∧ρ b=ρ i:=by
 obtain⟨a1,a2,a3,a4⟩:=I.hd i a hi
 obtain⟨b1,b2,b3,b4⟩:=I.hd a b ha
 have hlt:rk a<rk i:=a2.resolve_left hne
 have hrb:rk b<rk i:=by
  rcases b2 with e | e
  ·rw[e];exact hlt
  ·omega
 have hte:lay (t++u)=lay (back (φ i)++φ b):=by
  rw[I.tn i a t hi ht,I.tn a b u ha hu]
  exact IL (I.fa i).1 (I.fa a).1 (I.fa b).1
 have hil:i<S.hs.length:=(List.getElem?_eq_some_iff.mp hi).1
 have hbi:b≠i:=fun z=>by rw[z] at hrb;omega
 refine⟨⟨?_,?_,?_,?_,?_,?_,?_,I.fa,I.ha⟩,hte,hrb,b3.trans a3⟩
 ·show (S.ts.set i _).length=(S.hs.set i b).length
  rw[List.length_set,List.length_set];exact I.lt
 ·show S.ws.length=(S.hs.set i b).length
  rw[List.length_set];exact I.lw
 ·intro j c hj
  show c<(S.hs.set i b).length∧_
  rw[List.length_set]
  rcases eJ hj with ⟨rfl,rfl,_⟩ | ⟨hji,hj⟩
  ·exact⟨b1,.inr hrb,b3.trans a3,fun z=>absurd z hbi⟩
  ·exact I.hd j c hj
 ·intro j hj
  have hj':j<S.hs.length:=by
   have:j<(S.hs.set i b).length:=hj
   rwa [List.length_set] at this
  show ρ j<(S.hs.set i b).length∧(S.hs.set i b)[ρ j]?=some (ρ j)
  rw[List.length_set]
  obtain⟨r1,r2⟩:=I.rt j hj'
  refine⟨r1,?_⟩
  rw[List.getElem?_set_ne]
  ·exact r2
  ·intro z
   rw[← z,hi] at r2
   exact hne (by simpa using r2)
 ·intro j c v hj hv
  rcases eJ hj with ⟨rfl,rfl,_⟩ | ⟨hji,hj⟩
  ·rcases eJ hv with ⟨_,rfl,_⟩ | ⟨z,_⟩
   ·exact hte
   ·exact absurd rfl z
  ·rcases eJ hv with ⟨z,_,_⟩ | ⟨_,hv⟩
   ·exact absurd z hji
   ·exact I.tn j c v hj hv
 ·intro j es hj
  obtain⟨w1,w2⟩:=I.wy j es hj
  refine⟨w1,fun e he=>?_⟩
  show _∧e.2.1<(S.hs.set i b).length∧_
  rw[List.length_set]
  exact w2 e he
 ·intro e he
  show e.1<(S.hs.set i b).length∧e.2.2<(S.hs.set i b).length∧_
  rw[List.length_set]
  exact I.al e he
def dH(es:List (Nat×Nat×List Nat))(c:Nat):Option (Nat×List Nat):=(es.find? fun e=>decide (e.1=c)).map (·.2)
theorem eN{es:List (Nat×Nat×List Nat)}{c:Nat}{r:Nat×List Nat}(h:dH es c=some r):(c,r)∈es:=by
 unfold dH at h
 obtain⟨e,he,rfl⟩:=Option.map_eq_some_iff.mp h
 have h1:=List.find?_some he
 have h2:=List.mem_of_find?_eq_some he
 have:e.1=c:=of_decide_eq_true h1
 rw[← this]
 exact h2
theorem nW{es:List (Nat×Nat×List Nat)}{c:Nat}(h:dH es c=none):∀ e∈es,e.1≠c:=by
 unfold dH at h
 have:=List.find?_eq_none.mp (Option.map_eq_none_iff.mp h)
 intro e he z
 have:=this e he
 simp[z] at this
theorem lR{es:List (Nat×Nat×List Nat)}{c:Nat}{r:Nat×List Nat}(nd:(es.map (·.1)).Nodup)(h:(c,r)∈es):dH es c=some r:=by
 cases e:dH es c with
 | none=>exact absurd rfl (nW e _ h)
 | some r' =>
  have h2:=eN e
  congr 1
  induction es with
  | nil=>cases h
  | cons x es ih =>
   obtain⟨n1,n2⟩:=List.nodup_cons.mp nd
   rcases List.mem_cons.mp h with z | z <;> rcases List.mem_cons.mp h2 with y | y
   ·rw[← z] at y;exact(Prod.mk.inj y).2
   ·exact absurd (List.mem_map.mpr ⟨_,y,by rw[← z]⟩) n1
   ·exact absurd (List.mem_map.mpr ⟨_,z,by rw[← y]⟩) n1
   ·exact ih n2 z (by
     unfold dH at e ⊢
     rw[List.find?_cons_of_neg] at e
     ·exact e
     ·simp only [decide_eq_true_eq]
      intro q
      exact n1 (List.mem_map.mpr ⟨_,z,q.symm⟩)) y
def bD(S:WvS)(i c g:Nat)(t:List Nat)(es:List (Nat×Nat×List Nat)):WvS:=match dH es c with
 | none=>{ S with ws:=S.ws.set i (es++[(c,g,t)]) }
 | some (g',t')=>if (g',t')=(g,t) then S else { S with al:=S.al++[(g,lay (back t++t'),g')] }
theorem gK(i c g:Nat)(t:List Nat)(es:List (Nat×Nat×List Nat)):(bD S i c g t es).hs=S.hs∧(bD S i c g t es).ts=S.ts:=by
 unfold bD
 split
 ·exact⟨rfl,rfl⟩
 ·split <;> exact⟨rfl,rfl⟩
theorem WI.lay(I:WI h φ ρ rk L S){i c g:Nat}{t:List Nat}{es:List (Nat×Nat×List Nat)}(hi:S.ws[i]?=some es)(hc:bY c)(hg:g<S.hs.length)(ht:t=lay (back (φ i)++(h c++φ g))):WI h φ ρ rk L (bD S i c g t es):=by
 obtain⟨w1,w2⟩:=I.wy i es hi
 unfold bD
 cases e:dH es c with
 | none =>
  have hn:=nW e
  refine⟨I.lt,by show (S.ws.set i _).length=_;rw[List.length_set];exact I.lw,I.hd,I.rt,I.tn,?_,I.al,I.fa,I.ha⟩
  intro j es' hj
  rcases eJ hj with ⟨rfl,rfl,_⟩ | ⟨_,hj⟩
  ·refine⟨?_,fun x hx=>?_⟩
   ·rw[List.map_append,List.nodup_append]
    refine⟨w1,by simp,fun a ha b hb=>?_⟩
    obtain⟨x,hx,rfl⟩:=List.mem_map.mp ha
    simp at hb
    rw[hb]
    exact hn x hx
   ·rcases List.mem_append.mp hx with z | z
    ·exact w2 x z
    ·rw[List.mem_singleton.mp z];exact⟨hc,hg,ht⟩
  ·exact I.wy j es' hj
 | some r =>
  obtain⟨g',t'⟩:=r
  dsimp only
  split
  ·exact I
  ·have hm:=w2 _ (eN e)
   refine⟨I.lt,I.lw,I.hd,I.rt,I.tn,I.wy,?_,I.fa,I.ha⟩
   intro x hx
   rcases List.mem_append.mp hx with z | z
   ·exact I.al x z
   ·rw[List.mem_singleton.mp z]
    refine⟨hg,hm.2.1,?_⟩
    have ht':t'=Ma.lay (back (φ i)++(h c++φ g')):=hm.2.2
    show Ma.lay (back t++t')=Ma.lay (back (φ g)++φ g')
    rw[ht,ht']
    exact Jd (I.fa i).1 (I.fa g).1 (I.fa g').1 (I.ha c hc).1
end
inductive Lnk(ρ:Nat→Nat)(al:List (Nat×List Nat×Nat)):Nat→Nat→Prop where
 | refl (x:Nat):Lnk ρ al x x
 | symm {x y:Nat} (h:Lnk ρ al x y):Lnk ρ al y x
 | trans {x y z:Nat} (h:Lnk ρ al x y) (g:Lnk ρ al y z):Lnk ρ al x z
 | root (x:Nat):Lnk ρ al x (ρ x)
 | pair {x y:Nat} {t:List Nat} (h:(x,t,y)∈al):Lnk ρ al x y
theorem Lnk.mono{ρ ρ':Nat→Nat}{al al':List (Nat×List Nat×Nat)}(hr:∀ x,Lnk ρ' al' x (ρ x))(ha:∀ x t y,(x,t,y)∈al→Lnk ρ' al' x y){x y:Nat}(h:Lnk ρ al x y):Lnk ρ' al' x y:=by
 induction h with
 | refl x=>exact .refl x
 | symm _ ih=>exact .symm ih
 | trans _ _ a b=>exact .trans a b
 | root x=>exact hr x
 | pair h=>exact ha _ _ _ h
theorem Lnk.nil{ρ:Nat→Nat}(hi:∀ x,ρ (ρ x)=ρ x){x y:Nat}(h:Lnk ρ [] x y):ρ x=ρ y:=by
 induction h with
 | refl x=>rfl
 | symm _ ih=>exact ih.symm
 | trans _ _ a b=>exact a.trans b
 | root x=>exact(hi x).symm
 | pair h=>cases h
structure EI(E:Nat→Nat→Nat→Prop)(ρ:Nat→Nat)(S:WvS):Prop where
 lt:∀ p c q,E p c q→p<S.hs.length∧q<S.hs.length
 on:∀ p c q,E p c q→∃ es g t,S.ws[ρ p]?=some es∧(c,g,t)∈es∧Lnk ρ S.al g q
 of:∀ (i:Nat) (es:List (Nat×Nat×List Nat)),S.ws[i]?=some es→∀ e∈es,∃ p q,E p e.1 q∧Lnk ρ S.al p i∧Lnk ρ S.al q e.2.1
section
variable {E:Nat→Nat→Nat→Prop}{ρ:Nat→Nat}{S:WvS}
theorem Al{i c g:Nat}{t:List Nat}{es:List (Nat×Nat×List Nat)}{x:Nat×List Nat×Nat}(h:x∈S.al):x∈(bD S i c g t es).al:=by
 unfold bD
 split
 ·exact h
 ·split
  ·exact h
  ·exact List.mem_append_left _ h
theorem cN{i c g:Nat}{t:List Nat}{es:List (Nat×Nat×List Nat)}{x y:Nat}(h:Lnk ρ S.al x y):Lnk ρ (bD S i c g t es).al x y:=h.mono (fun x=>.root x) fun x t y hm=>.pair (Al hm)
theorem qQ{i c g:Nat}{t:List Nat}{es:List (Nat×Nat×List Nat)}(hi:S.ws[i]?=some es){j:Nat}{es':List (Nat×Nat×List Nat)}(hj:S.ws[j]?=some es'):∃ es'',(bD S i c g t es).ws[j]?=some es''∧(∀ e∈es',e∈es'')∧(j≠i→es''=es'):=by
 unfold bD
 split
 ·by_cases q:j=i
  ·subst q
   rw[hi] at hj
   cases hj
   refine⟨es++[(c,g,t)],?_,fun e he=>List.mem_append_left _ he,fun z=>absurd rfl z⟩
   show (S.ws.set j _)[j]?=_
   rw[List.getElem?_set_self (List.getElem?_eq_some_iff.mp hi).1]
  ·refine⟨es',?_,fun e he=>he,fun _=>rfl⟩
   show (S.ws.set i _)[j]?=_
   rw[List.getElem?_set_ne (fun z=>q z.symm)]
   exact hj
 ·split <;> exact⟨es',hj,fun e he=>he,fun _=>rfl⟩
theorem nV{i c g:Nat}{t:List Nat}{es:List (Nat×Nat×List Nat)}(hi:S.ws[i]?=some es):∃ es' g' t',(bD S i c g t es).ws[i]?=some es'∧(c,g',t')∈es'∧Lnk ρ (bD S i c g t es).al g' g:=by
 unfold bD
 cases e:dH es c with
 | none =>
  refine⟨es++[(c,g,t)],g,t,?_,by simp,.refl g⟩
  show (S.ws.set i _)[i]?=_
  rw[List.getElem?_set_self (List.getElem?_eq_some_iff.mp hi).1]
 | some r =>
  obtain⟨g',t'⟩:=r
  dsimp only
  split
  ·rename_i q
   obtain⟨rfl,rfl⟩:=Prod.mk.inj q
   exact⟨es,g',t',hi,eN e,.refl g'⟩
  ·exact⟨es,g',t',hi,eN e,.symm (.pair (t:=lay (back t++t')) (by simp))⟩
theorem qW{i c g:Nat}{t:List Nat}{es:List (Nat×Nat×List Nat)}(hi:S.ws[i]?=some es){j:Nat}{es':List (Nat×Nat×List Nat)}(hj:(bD S i c g t es).ws[j]?=some es'){e:Nat×Nat×List Nat}(he:e∈es'):(∃ es0,S.ws[j]?=some es0∧e∈es0)∨(j=i∧e=(c,g,t)):=by
 unfold bD at hj
 split at hj
 ·rcases eJ hj with ⟨rfl,rfl,_⟩ | ⟨_,hj⟩
  ·rcases List.mem_append.mp he with z | z
   ·exact .inl ⟨es,hi,z⟩
   ·exact .inr ⟨rfl,List.mem_singleton.mp z⟩
  ·exact .inl ⟨es',hj,he⟩
 ·split at hj <;> exact .inl ⟨es',hj,he⟩
theorem EI.lay'(X:EI E ρ S){i c g:Nat}{t:List Nat}{es:List (Nat×Nat×List Nat)}(hi:S.ws[i]?=some es)(hr:ρ i=i)(h1:i<S.hs.length)(h2:g<S.hs.length):EI (fun p c' q=>E p c' q∨(p=i∧c'=c∧q=g)) ρ (bD S i c g t es):=by
 refine⟨fun p c' q hE=>?_,fun p c' q hE=>?_,fun j es' hj e he=>?_⟩
 ·rw[(gK (S:=S) i c g t es).1]
  rcases hE with hE | ⟨rfl,rfl,rfl⟩
  ·exact X.lt p c' q hE
  ·exact⟨h1,h2⟩
 ·rcases hE with hE | ⟨rfl,rfl,rfl⟩
  ·obtain⟨es0,g0,t0,a,b,d⟩:=X.on p c' q hE
   obtain⟨es1,a1,b1,_⟩:=qQ (c:=c) (g:=g) (t:=t) hi a
   exact⟨es1,g0,t0,a1,b1 _ b,cN d⟩
  ·rw[hr]
   exact nV hi
 ·rcases qW hi hj he with ⟨es0,a,b⟩ | ⟨rfl,rfl⟩
  ·obtain⟨p,q,a1,a2,a3⟩:=X.of j es0 a e b
   exact⟨p,q,.inl a1,cN a2,cN a3⟩
  ·exact⟨j,g,.inr ⟨rfl,rfl,rfl⟩,.refl _,.refl _⟩
end
section
variable {h:Nat→List Nat}{φ:Nat→List Nat}{ρ rk:Nat→Nat}{L:Nat}{S:WvS}{E:Nat→Nat→Nat→Prop}
def ρU(ρ:Nat→Nat)(hd ab:Nat):Nat→Nat:=fun x=>if ρ x=hd then ab else ρ x
def HH(ρ rk:Nat→Nat)(hd ab:Nat):Nat→Nat:=fun x=>if ρ x=hd then rk x+(rk ab+1) else rk x
def dG(S:WvS)(hd ab:Nat)(t:List Nat):WvS:={ S with hs:=S.hs.set hd ab,ts:=S.ts.set hd t }
theorem WI.under(I:WI h φ ρ rk L S){hd ab:Nat}{t:List Nat}(h1:S.hs[hd]?=some hd)(h2:S.hs[ab]?=some ab)(hne:hd≠ab)(ht:t=Ma.lay (back (φ hd)++φ ab)):WI h φ (ρU ρ hd ab) (HH ρ rk hd ab) L (dG S hd ab t):=by
 have l1:hd<S.hs.length:=(List.getElem?_eq_some_iff.mp h1).1
 have l2:ab<S.hs.length:=(List.getElem?_eq_some_iff.mp h2).1
 have r1:ρ hd=hd:=(I.hd hd hd h1).2.2.2 rfl
 have r2:ρ ab=ab:=(I.hd ab ab h2).2.2.2 rfl
 have hlen:(S.hs.set hd ab).length=S.hs.length:=List.length_set ..
 refine⟨?_,?_,?_,?_,?_,?_,?_,I.fa,I.ha⟩
 ·show (S.ts.set hd t).length=(S.hs.set hd ab).length
  rw[List.length_set,List.length_set];exact I.lt
 ·show S.ws.length=(S.hs.set hd ab).length
  rw[hlen];exact I.lw
 ·intro i a hi
  show a<(S.hs.set hd ab).length∧_
  rw[hlen]
  rcases eJ hi with ⟨rfl,rfl,_⟩ | ⟨hn,hi⟩
  ·refine⟨l2,.inr ?_,?_,fun z=>absurd z.symm hne⟩
   ·unfold HH
    rw[r2,r1,if_neg (fun z=>hne z.symm),if_pos rfl]
    omega
   ·unfold ρU
    rw[r1,r2,if_pos rfl,if_neg (fun z=>hne z.symm)]
  ·obtain⟨a1,a2,a3,a4⟩:=I.hd i a hi
   refine⟨a1,?_,?_,fun z=>?_⟩
   ·rcases a2 with z | z
    ·exact .inl z
    ·refine .inr ?_
     unfold HH
     rw[a3]
     split <;> omega
   ·unfold ρU;rw[a3]
   ·have:=a4 z
    unfold ρU
    rw[this,if_neg hn]
 ·intro i hi
  have hi':i<S.hs.length:=by have:i<(S.hs.set hd ab).length:=hi;rwa [hlen] at this
  obtain⟨a1,a2⟩:=I.rt i hi'
  show ρU ρ hd ab i<(S.hs.set hd ab).length∧(S.hs.set hd ab)[ρU ρ hd ab i]?=some (ρU ρ hd ab i)
  rw[hlen]
  unfold ρU
  split
  ·refine⟨l2,?_⟩
   rw[List.getElem?_set_ne hne]
   exact h2
  ·rename_i q
   refine⟨a1,?_⟩
   rw[List.getElem?_set_ne (fun z=>q z.symm)]
   exact a2
 ·intro i a v hi hv
  rcases eJ hi with ⟨rfl,rfl,_⟩ | ⟨hn,hi⟩
  ·rcases eJ hv with ⟨_,rfl,_⟩ | ⟨z,_⟩
   ·exact ht
   ·exact absurd rfl z
  ·rcases eJ hv with ⟨z,_,_⟩ | ⟨_,hv⟩
   ·exact absurd z hn
   ·exact I.tn i a v hi hv
 ·intro i es hi
  obtain⟨w1,w2⟩:=I.wy i es hi
  refine⟨w1,fun e he=>?_⟩
  show _∧e.2.1<(S.hs.set hd ab).length∧_
  rw[hlen]
  exact w2 e he
 ·intro e he
  show e.1<(S.hs.set hd ab).length∧e.2.2<(S.hs.set hd ab).length∧_
  rw[hlen]
  exact I.al e he
def cD(ab:Nat)(t:List Nat)(T:WvS)(es:List (Nat×Nat×List Nat)):WvS:=es.foldl (fun T e=>bD T ab e.1 e.2.1 (lay (back t++e.2.2)) (T.ws.getD ab [])) T
theorem Lnk.under{al al':List (Nat×List Nat×Nat)}{hd ab:Nat}(hh:ρ hd=hd)(ha:∀ x t y,(x,t,y)∈al→Lnk (ρU ρ hd ab) al' x y){x y:Nat}(g:Lnk ρ al x y):Lnk (ρU ρ hd ab) al' x y:=by
 have e1:Lnk (ρU ρ hd ab) al' hd ab:=by
  have:=Lnk.root (ρ:=ρU ρ hd ab) (al:=al') hd
  unfold ρU at this ⊢
  rw[hh,if_pos rfl] at this
  exact this
 refine g.mono (fun x=>?_) ha
 by_cases q:ρ x=hd
 ·have:=Lnk.root (ρ:=ρU ρ hd ab) (al:=al') x
  have e2:ρU ρ hd ab x=ab:=by unfold ρU;rw[if_pos q]
  rw[e2] at this
  rw[q]
  exact this.trans e1.symm
 ·have:=Lnk.root (ρ:=ρU ρ hd ab) (al:=al') x
  have e2:ρU ρ hd ab x=ρ x:=by unfold ρU;rw[if_neg q]
  rw[e2] at this
  exact this
structure UI(E:Nat→Nat→Nat→Prop)(ρ:Nat→Nat)(hd ab N:Nat)(es:List (Nat×Nat×List Nat))(T:WvS):Prop where
 ln:T.hs.length=N
 lt:∀ p c q,E p c q→p<N∧q<N
 on:∀ p c q,E p c q→(∃ es g t,T.ws[ρU ρ hd ab p]?=some es∧(c,g,t)∈es∧Lnk (ρU ρ hd ab) T.al g q)∨(ρ p=hd∧∃ e∈es,e.1=c∧Lnk (ρU ρ hd ab) T.al e.2.1 q)
 of:∀ (i:Nat) (es:List (Nat×Nat×List Nat)),T.ws[i]?=some es→∀ e∈es,∃ p q,E p e.1 q∧Lnk (ρU ρ hd ab) T.al p i∧Lnk (ρU ρ hd ab) T.al q e.2.1
 me:∀ e∈es,∃ p q,E p e.1 q∧Lnk (ρU ρ hd ab) T.al p ab∧Lnk (ρU ρ hd ab) T.al q e.2.1
theorem qI{hd ab:Nat}{t:List Nat}{ρ1 rk1:Nat→Nat}(hρ:ρ1=ρU ρ hd ab)(ht:t=lay (back (φ hd)++φ ab)):∀ {es:List (Nat×Nat×List Nat)} {T:WvS},WI h φ ρ1 rk1 L T→ab<T.hs.length→(∀ e∈es,bY e.1∧e.2.1<T.hs.length∧e.2.2=lay (back (φ hd)++(h e.1++φ e.2.1)))→UI E ρ hd ab T.hs.length es T →
  WI h φ ρ1 rk1 L (cD ab t T es)∧EI E ρ1 (cD ab t T es)∧(cD ab t T es).hs=T.hs∧(cD ab t T es).ts=T.ts
 | [],T,I,hab,hes,U=>by
  subst hρ
  refine⟨I,⟨fun p c q hE=>U.lt p c q hE,fun p c q hE=>?_,U.of⟩,rfl,rfl⟩
  rcases U.on p c q hE with z | ⟨_,e,he,_⟩
  ·exact z
  ·cases he
 | e::es,T,I,hab,hes,U=>by
  subst hρ
  obtain⟨ea,hea⟩:∃ ea,T.ws[ab]?=some ea:=⟨_,List.getElem?_eq_getElem (by rw[I.lw];exact hab)⟩
  have hgd:T.ws.getD ab []=ea:=by rw[List.getD_eq_getElem?_getD,hea];rfl
  obtain⟨e1,e2,e3⟩:=hes e List.mem_cons_self
  have htd:lay (back t++e.2.2)=lay (back (φ ab)++(h e.1++φ e.2.1)):=by
   rw[ht,e3]
   exact Iw (I.fa hd).1 (I.fa ab).1 (I.fa e.2.1).1 (I.ha e.1 e1).1
  have I1:=I.lay hea e1 e2 htd
  obtain⟨hhs,hts⟩:=gK (S:=T) ab e.1 e.2.1 (lay (back t++e.2.2)) ea
  have key:cD ab t T (e::es)=cD ab t (bD T ab e.1 e.2.1 (lay (back t++e.2.2)) ea) es:=by
   unfold cD
   rw[List.foldl_cons,hgd]
  have U1:UI E ρ hd ab (bD T ab e.1 e.2.1 (lay (back t++e.2.2)) ea).hs.length es (bD T ab e.1 e.2.1 (lay (back t++e.2.2)) ea):=by
   refine⟨rfl,fun p c q hE=>by rw[hhs];exact U.lt p c q hE,fun p c q hE=>?_,fun i es' hi x hx=>?_,fun x hx=>?_⟩
   ·rcases U.on p c q hE with ⟨es0,g0,t0,a,b,d⟩ | ⟨a,x,hx,b,d⟩
    ·obtain⟨es1,a1,b1,_⟩:=qQ (c:=e.1) (g:=e.2.1) (t:=lay (back t++e.2.2)) hea a
     exact .inl ⟨es1,g0,t0,a1,b1 _ b,cN d⟩
    ·rcases List.mem_cons.mp hx with rfl | hx
     ·obtain⟨es',g',t',q1,q2,q3⟩:=nV (ρ:=ρU ρ hd ab) (c:=x.1) (g:=x.2.1) (t:=lay (back t++x.2.2)) hea
      refine .inl ⟨es',g',t',?_,by rw[← b];exact q2,q3.trans (cN d)⟩
      have:ρU ρ hd ab p=ab:=by unfold ρU;rw[if_pos a]
      rw[this]
      exact q1
     ·exact .inr ⟨a,x,hx,b,cN d⟩
   ·rcases qW hea hi hx with ⟨es0,a,b⟩ | ⟨rfl,rfl⟩
    ·obtain⟨p,q,a1,a2,a3⟩:=U.of i es0 a x b
     exact⟨p,q,a1,cN a2,cN a3⟩
    ·obtain⟨p,q,a1,a2,a3⟩:=U.me e List.mem_cons_self
     exact⟨p,q,a1,cN a2,cN a3⟩
   ·obtain⟨p,q,a1,a2,a3⟩:=U.me x (List.mem_cons_of_mem _ hx)
    exact⟨p,q,a1,cN a2,cN a3⟩
  rw[key]
  obtain⟨o1,o2,o3,o4⟩:=qI (es:=es) rfl ht I1 (by rw[hhs];exact hab) (fun x hx=>by rw[hhs];exact hes x (List.mem_cons_of_mem _ hx)) U1
  exact⟨o1,o2,o3.trans hhs,o4.trans hts⟩
theorem Ew(I:WI h φ ρ rk L S){a b:Nat}{tt:List Nat}(X:EI E ρ { S with al:=(a,tt,b)::S.al }){hd ab:Nat}{t:List Nat}(ha:a<S.hs.length)(hb:b<S.hs.length)(hra:ρ a=hd)(hrb:ρ b=ab)(hne:hd≠ab)(ht:t=lay (back (φ hd)++φ ab)){es:List (Nat×Nat×List Nat)}(hes:S.ws[hd]?=some es) :
  WI h φ (ρU ρ hd ab) (HH ρ rk hd ab) L (cD ab t (dG S hd ab t) es)∧EI E (ρU ρ hd ab) (cD ab t (dG S hd ab t) es)∧(cD ab t (dG S hd ab t) es).hs=S.hs.set hd ab:=by
 obtain⟨l1,h1⟩:=I.rt a ha
 obtain⟨l2,h2⟩:=I.rt b hb
 rw[hra] at l1 h1
 rw[hrb] at l2 h2
 have r1:ρ hd=hd:=(I.hd hd hd h1).2.2.2 rfl
 have r2:ρ ab=ab:=(I.hd ab ab h2).2.2.2 rfl
 have I1:=I.under h1 h2 hne ht
 have hlen:(S.hs.set hd ab).length=S.hs.length:=List.length_set ..
 have eab:Lnk (ρU ρ hd ab) S.al a b:=by
  have q1:=Lnk.root (ρ:=ρU ρ hd ab) (al:=S.al) a
  have q2:=Lnk.root (ρ:=ρU ρ hd ab) (al:=S.al) b
  have e1:ρU ρ hd ab a=ab:=by unfold ρU;rw[if_pos hra]
  have e2:ρU ρ hd ab b=ab:=by unfold ρU;rw[hrb,if_neg (fun z=>hne z.symm)]
  rw[e1] at q1
  rw[e2] at q2
  exact q1.trans q2.symm
 have mv:∀ {x y:Nat},Lnk ρ ((a,tt,b)::S.al) x y→Lnk (ρU ρ hd ab) S.al x y:=fun g=>Lnk.under r1 (fun x t y hm=>by
  rcases List.mem_cons.mp hm with z | z
  ·obtain⟨rfl,rfl,rfl⟩:x=a∧t=tt∧y=b:=by simpa using z
   exact eab
  ·exact .pair z) g
 have hdab:Lnk (ρU ρ hd ab) S.al hd ab:=by
  have:=Lnk.root (ρ:=ρU ρ hd ab) (al:=S.al) hd
  have e1:ρU ρ hd ab hd=ab:=by unfold ρU;rw[r1,if_pos rfl]
  rwa [e1] at this
 have U:UI E ρ hd ab (dG S hd ab t).hs.length es (dG S hd ab t):=by
  refine⟨rfl,fun p c q hE=>by show p<(S.hs.set hd ab).length∧q<(S.hs.set hd ab).length;rw[hlen];exact X.lt p c q hE,fun p c q hE=>?_,fun i es' hi x hx=>?_,fun x hx=>?_⟩
  ·obtain⟨es0,g0,t0,a1,b1,d1⟩:=X.on p c q hE
   by_cases q0:ρ p=hd
   ·refine .inr ⟨q0,(c,g0,t0),?_,rfl,mv d1⟩
    have a1':S.ws[ρ p]?=some es0:=a1
    rw[q0,hes] at a1'
    cases a1'
    exact b1
   ·refine .inl ⟨es0,g0,t0,?_,b1,mv d1⟩
    have:ρU ρ hd ab p=ρ p:=by unfold ρU;rw[if_neg q0]
    rw[this]
    exact a1
  ·obtain⟨p,q,a1,a2,a3⟩:=X.of i es' hi x hx
   exact⟨p,q,a1,mv a2,mv a3⟩
  ·obtain⟨p,q,a1,a2,a3⟩:=X.of hd es hes x hx
   exact⟨p,q,a1,(mv a2).trans hdab,mv a3⟩
 obtain⟨o1,o2,o3,_⟩:=qI (es:=es) rfl ht I1 (by show ab<(S.hs.set hd ab).length;rw[hlen];exact l2) (fun e he=>by
  show _∧e.2.1<(S.hs.set hd ab).length∧_
  rw[hlen]
  exact(I.wy hd es hes).2 e he) U
 exact⟨o1,o2,o3⟩
theorem EI.pop{a b:Nat}{tt:List Nat}(X:EI E ρ { S with al:=(a,tt,b)::S.al })(hab:ρ a=ρ b):EI E ρ S:=by
 have mv:∀ {x y:Nat},Lnk ρ ((a,tt,b)::S.al) x y→Lnk ρ S.al x y:=fun g=>g.mono (fun x=>.root x) fun x t y hm=>by
  rcases List.mem_cons.mp hm with z | z
  ·obtain⟨rfl,rfl,rfl⟩:x=a∧t=tt∧y=b:=by simpa using z
   have q1:=Lnk.root (ρ:=ρ) (al:=S.al) x
   have q2:=Lnk.root (ρ:=ρ) (al:=S.al) y
   rw[hab] at q1
   exact q1.trans q2.symm
  ·exact .pair z
 refine⟨X.lt,fun p c q hE=>?_,fun i es hi x hx=>?_⟩
 ·obtain⟨es0,g0,t0,a1,b1,d1⟩:=X.on p c q hE
  exact⟨es0,g0,t0,a1,b1,mv d1⟩
 ·obtain⟨p,q,a1,a2,a3⟩:=X.of i es hi x hx
  exact⟨p,q,a1,mv a2,mv a3⟩
end
section
variable {h:Nat→List Nat}{φ:Nat→List Nat}{ρ rk:Nat→Nat}{L:Nat}{S:WvS}{E:Nat→Nat→Nat→Prop}
def vR(ρ:Nat→Nat)(N:Nat):Nat:=(List.range N).countP fun i=>decide (ρ i=i)
theorem vB{p q:Nat→Bool}{a:Nat}(hp:p a=true)(hq:q a=false)(he:∀ x,x≠a→q x=p x):∀ {N:Nat},a<N→(List.range N).countP q+1=(List.range N).countP p
 | N+1,hN=>by
  rw[List.range_succ,List.countP_append,List.countP_append]
  by_cases e:a=N
  ·subst e
   have same:∀ M,M≤a→(List.range M).countP q=(List.range M).countP p:=fun M hM=>List.countP_congr fun x hx=>by
    rw[he x (by have:=List.mem_range.mp hx;omega)]
   rw[same a (Nat.le_refl _)]
   simp[hp,hq]
  ·have:=vB hp hq he (N:=N) (by omega)
   have e2:List.countP q [N]=List.countP p [N]:=List.countP_congr fun x hx=>by rw[he x (by rw[List.mem_singleton.mp hx];exact fun z=>e z.symm)]
   omega
theorem zJ{hd ab N:Nat}(hl:hd<N)(h1:ρ hd=hd)(h2:ρ ab=ab)(hne:hd≠ab):vR (ρU ρ hd ab) N+1=vR ρ N:=by
 refine vB (a:=hd) (by rw[decide_eq_true_iff];exact h1) (decide_eq_false ?_) (fun x hx=>?_) hl
 ·unfold ρU;rw[if_pos h1];exact fun z=>hne z.symm
 ·unfold ρU
  split
  ·rename_i q
   rw[decide_eq_false (show ¬ ab=x from fun z=>hne (by rw[← q,← z,h2])),decide_eq_false (show ¬ ρ x=x from fun z=>hx (by rw[← z,q]))]
  ·rfl
theorem Ed(N:Nat):vR ρ N≤N:=by
 unfold vR
 have:=List.countP_le_length (p:=fun i=>decide (ρ i=i)) (l:=List.range N)
 rwa [List.length_range] at this
theorem uD:∀ {l m:List Nat},l.Nodup→(∀ x∈l,x∈m)→l.length≤m.length
 | [],m,_,_=>Nat.zero_le _
 | a::l,m,nd,sub=>by
  obtain⟨n1,n2⟩:=List.nodup_cons.mp nd
  have ha:=sub a List.mem_cons_self
  have:=uD (l:=l) (m:=m.erase a) n2 fun x hx=>(List.mem_erase_of_ne (fun z=>n1 (by rw[← z];exact hx))).mpr (sub x (List.mem_cons_of_mem _ hx))
  rw[List.length_erase_of_mem ha] at this
  have:0<m.length:=List.length_pos_of_mem ha
  rw[List.length_cons]
  omega
theorem sR{es:List (Nat×Nat×List Nat)}(nd:(es.map (·.1)).Nodup)(hl:∀ e∈es,bY e.1):es.length≤8:=by
 have:=uD (m:=[97,98,99,100,65,66,67,68]) nd fun x hx=>by
  obtain⟨e,he,rfl⟩:=List.mem_map.mp hx
  have:=hl e he
  unfold bY at this
  simp
  omega
 rw[List.length_map] at this
 exact this
theorem jL{i c g:Nat}{t:List Nat}{es:List (Nat×Nat×List Nat)}:(bD S i c g t es).al.length≤S.al.length+1:=by
 unfold bD
 split
 ·exact Nat.le_succ _
 ·split
  ·exact Nat.le_succ _
  ·show (S.al++_).length≤_;rw[List.length_append];exact Nat.le_refl _
theorem jG{ab:Nat}{t:List Nat}:∀ {es:List (Nat×Nat×List Nat)} {T:WvS},(cD ab t T es).al.length≤T.al.length+es.length
 | [],T=>Nat.le_refl _
 | e::es,T=>by
  have:=jG (ab:=ab) (t:=t) (es:=es) (T:=bD T ab e.1 e.2.1 (lay (back t++e.2.2)) (T.ws.getD ab []))
  have h2:=jL (S:=T) (i:=ab) (c:=e.1) (g:=e.2.1) (t:=lay (back t++e.2.2)) (es:=T.ws.getD ab [])
  rw[List.length_cons]
  show (cD ab t (bD T ab e.1 e.2.1 (lay (back t++e.2.2)) (T.ws.getD ab [])) es).al.length≤_
  omega
def Bp(S:WvS):WvS:={ hs:=S.hs++[S.hs.length],ts:=S.ts++[[]],ws:=S.ws++[[]],al:=S.al }
def φN(φ:Nat→List Nat)(N:Nat)(v:List Nat):Nat→List Nat:=fun j=>if j=N then v else φ j
theorem eU{α:Type}{xs:List α}{v y:α}{j:Nat}(h:(xs++[v])[j]?=some y):(j<xs.length∧xs[j]?=some y)∨(j=xs.length∧y=v):=by
 rcases Nat.lt_trichotomy j xs.length with q | q | q
 ·rw[List.getElem?_append_left q] at h;exact .inl ⟨q,h⟩
 ·subst q
  rw[List.getElem?_append_right (Nat.le_refl _)] at h
  simp at h
  exact .inr ⟨rfl,h.symm⟩
 ·rw[List.getElem?_append_right (by omega)] at h
  have:j - xs.length=(j - xs.length - 1)+1:=by omega
  rw[this] at h
  simp at h
theorem WI.new(I:WI h φ (fun x=>x) rk L S){v:List Nat}(hv:AllL v)(hl:v.length≤L):WI h (φN φ S.hs.length v) (fun x=>x) rk L (Bp S):=by
 have hold:∀ {i:Nat},i<S.hs.length→φN φ S.hs.length v i=φ i:=fun {i} hi=>by unfold φN;rw[if_neg (by omega)]
 have hnew:φN φ S.hs.length v S.hs.length=v:=by unfold φN;rw[if_pos rfl]
 have ln:(S.hs++[S.hs.length]).length=S.hs.length+1:=by rw[List.length_append];rfl
 refine⟨?_,?_,?_,?_,?_,?_,?_,?_,I.ha⟩
 ·show (S.ts++[[]]).length=(S.hs++[S.hs.length]).length
  rw[List.length_append,ln,I.lt];rfl
 ·show (S.ws++[[]]).length=(S.hs++[S.hs.length]).length
  rw[List.length_append,ln,I.lw];rfl
 ·intro i a hi
  show a<(S.hs++[S.hs.length]).length∧_
  rw[ln]
  rcases eU hi with ⟨q,hi⟩ | ⟨rfl,rfl⟩
  ·obtain⟨a1,a2,a3,a4⟩:=I.hd i a hi
   exact⟨by omega,a2,a3,a4⟩
  ·exact⟨by omega,.inl rfl,rfl,fun _=>rfl⟩
 ·intro i hi
  have hi':i<S.hs.length+1:=by rw[← ln];exact hi
  refine⟨hi,?_⟩
  show (S.hs++[S.hs.length])[i]?=some i
  by_cases q:i<S.hs.length
  ·rw[List.getElem?_append_left q];exact(I.rt i q).2
  ·have:i=S.hs.length:=by omega
   subst this
   rw[List.getElem?_append_right (Nat.le_refl _)]
   simp
 ·intro i a t hi ht
  have ht':(S.ts++[[]])[i]?=some t:=ht
  rcases eU hi with ⟨q,hi⟩ | ⟨rfl,rfl⟩
  ·rcases eU ht' with ⟨_,ht⟩ | ⟨z,_⟩
   ·rw[hold q,hold (I.hd i a hi).1]
    exact I.tn i a t hi ht
   ·rw[I.lt] at z;omega
  ·rcases eU ht' with ⟨z,_⟩ | ⟨_,rfl⟩
   ·rw[I.lt] at z;omega
   ·rw[hnew];exact(dX hv).symm
 ·intro i es hi
  rcases eU (show (S.ws++[[]])[i]?=some es from hi) with ⟨q,hi⟩ | ⟨_,rfl⟩
  ·obtain⟨w1,w2⟩:=I.wy i es hi
   refine⟨w1,fun e he=>?_⟩
   obtain⟨a,b,c⟩:=w2 e he
   refine⟨a,by show _<(S.hs++[S.hs.length]).length;rw[ln];omega,?_⟩
   rw[hold (by rw[I.lw] at q;exact q),hold b]
   exact c
  ·exact⟨by simp,fun e he=>by cases he⟩
 ·intro e he
  obtain⟨a,b,c⟩:=I.al e he
  refine⟨by show _<(S.hs++[S.hs.length]).length;rw[ln];omega,by show _<(S.hs++[S.hs.length]).length;rw[ln];omega,?_⟩
  rw[hold a,hold b]
  exact c
 ·intro i
  unfold φN
  split
  ·exact⟨hv,hl⟩
  ·exact I.fa i
theorem EI.new(X:EI E (fun x=>x) S)(hw:S.ws.length=S.hs.length):EI E (fun x=>x) (Bp S):=by
 refine⟨fun p c q hE=>?_,fun p c q hE=>?_,fun i es hi e he=>?_⟩
 ·obtain⟨a,b⟩:=X.lt p c q hE
  show p<(S.hs++[S.hs.length]).length∧q<(S.hs++[S.hs.length]).length
  rw[List.length_append]
  simp
  omega
 ·obtain⟨es,g,t,a,b,d⟩:=X.on p c q hE
  refine⟨es,g,t,?_,b,d⟩
  show (S.ws++[[]])[p]?=_
  rw[List.getElem?_append_left (List.getElem?_eq_some_iff.mp a).1]
  exact a
 ·rcases eU (show (S.ws++[[]])[i]?=some es from hi) with ⟨_,hi⟩ | ⟨_,rfl⟩
  ·exact X.of i es hi e he
  ·cases he
def BF(E:Nat→Nat→Nat→Prop):Prop:=∀ p c q,E p c q→bY c∧E q (con c) p
def Fw(E:Nat→Nat→Nat→Prop)(ρ:Nat→Nat)(z:Nat):List Nat→Nat→Prop
 | [],y=>z=y
 | c::w,y=>∃ p q,ρ p=z∧E p c q∧Fw E ρ (ρ q) w y
theorem Fw.app:∀ {w v:List Nat} {x y z:Nat},Fw E ρ x w y→Fw E ρ y v z→Fw E ρ x (w++v) z
 | [],v,x,y,z,a,b=>by cases a;exact b
 | c::w,v,x,y,z,⟨p,q,a1,a2,a3⟩,b=>⟨p,q,a1,a2,Fw.app a3 b⟩
theorem Fw.back(hs:BF E):∀ {w:List Nat} {x y:Nat},Fw E ρ x w y→Fw E ρ y (Ma.back w) x
 | [],x,y,a=>by cases a;rfl
 | c::w,x,y,⟨p,q,a1,a2,a3⟩=>by
  have ih:=Fw.back hs a3
  have e:Ma.back (c::w)=Ma.back w++[con c]:=by rw[show c::w=[c]++w from rfl,cY];rfl
  rw[e]
  exact ih.app ⟨q,p,rfl,(hs p c q a2).2,a1⟩
theorem Fw.mono{E':Nat→Nat→Nat→Prop}(hm:∀ p c q,E p c q→E' p c q):∀ {w:List Nat} {x y:Nat},Fw E ρ x w y→Fw E' ρ x w y
 | [],x,y,a=>a
 | c::w,x,y,⟨p,q,a1,a2,a3⟩=>⟨p,q,a1,hm _ _ _ a2,Fw.mono hm a3⟩
theorem Fw.move{ρ':Nat→Nat}(hi:∀ x y,ρ x=ρ y→ρ' x=ρ' y):∀ {w:List Nat} {x y:Nat},Fw E ρ (ρ x) w (ρ y)→Fw E ρ' (ρ' x) w (ρ' y)
 | [],x,y,a=>hi x y a
 | c::w,x,y,⟨p,q,a1,a2,a3⟩=>⟨p,q,hi p x a1,a2,Fw.move hi a3⟩
def RsR(E:Nat→Nat→Nat→Prop)(ρ:Nat→Nat)(x:Nat):List Nat→Nat→Prop
 | [],y=>x=y
 | c::u,y=>∃ p q,RsR E ρ x u (ρ p)∧E p c q∧ρ q=y
theorem RsR.push(hs:BF E)(dt:∀ p c q p' q',E p c q→E p' c q'→ρ p=ρ p'→ρ q=ρ q'){x z:Nat}{u:List Nat}{p c q:Nat}(hu:RsR E ρ x u (ρ p))(hE:E p c q):RsR E ρ x (Ma.push u c) (ρ q):=by
 cases u with
 | nil=>exact⟨p,q,hu,hE,rfl⟩
 | cons d r =>
  unfold Ma.push
  dsimp only
  split
  ·rename_i e
   obtain⟨p',q',a1,a2,a3⟩:=hu
   obtain⟨s1,s2⟩:=hs p' d q' a2
   have hc:=(hs p c q hE).1
   have ec:con d=c:=by rw[e];exact aQ hc
   rw[ec] at s2
   have:=dt q' c p' p q s2 hE a3
   rw[← this]
   exact a1
  ·exact⟨p,q,hu,hE,rfl⟩
theorem RsR.act(hs:BF E)(dt:∀ p c q p' q',E p c q→E p' c q'→ρ p=ρ p'→ρ q=ρ q'){x:Nat}:∀ {w u:List Nat} {z y:Nat},RsR E ρ x u z→Fw E ρ z w y→RsR E ρ x (Ma.act u w) y
 | [],u,z,y,a,b=>by cases b;exact a
 | c::w,u,z,y,a,⟨p,q,b1,b2,b3⟩=>by
  rw[iF]
  refine RsR.act hs dt (z:=ρ q) ?_ b3
  rw[← b1] at a
  exact RsR.push (z:=z) hs dt a b2
theorem EI.det(I:WI h φ ρ rk L S)(X:EI E ρ S)(h0:S.al=[])(hid:∀ x,ρ (ρ x)=ρ x):∀ p c q p' q',E p c q→E p' c q'→ρ p=ρ p'→ρ q=ρ q':=by
 intro p c q p' q' hE hE' e
 obtain⟨es,g,t,a1,a2,a3⟩:=X.on p c q hE
 obtain⟨es',g',t',b1,b2,b3⟩:=X.on p' c q' hE'
 rw[← e,a1] at b1
 cases b1
 rw[h0] at a3 b3
 have m1:=lR (I.wy _ es a1).1 a2
 have m2:=lR (I.wy _ es a1).1 b2
 rw[m1] at m2
 cases m2
 exact(Lnk.nil hid a3).symm.trans (Lnk.nil hid b3)
theorem EI.loop(I:WI h φ ρ rk L S)(X:EI E ρ S)(h0:S.al=[])(hid:∀ x,ρ (ρ x)=ρ x)(hs:BF E){w:List Nat}{c:Nat}(hw:Fw E ρ (ρ 0) w (ρ 0))(hl:Ma.lay w=[c]):∃ es g t,S.ws[ρ 0]?=some es∧dH es c=some (g,t)∧ρ g=ρ 0:=by
 have hr:RsR E ρ (ρ 0) (Ma.act [] w) (ρ 0):=RsR.act hs (EI.det I X h0 hid) (show RsR E ρ (ρ 0) [] (ρ 0) from rfl) hw
 have e:Ma.act [] w=[c]:=by
  unfold Ma.lay at hl
  have:=congrArg List.reverse hl
  simpa using this
 rw[e] at hr
 obtain⟨p,q,a1,a2,a3⟩:=hr
 have a1':ρ 0=ρ p:=a1
 obtain⟨es,g,t,b1,b2,b3⟩:=X.on p c q a2
 rw[← a1'] at b1
 rw[h0] at b3
 exact⟨es,g,t,b1,lR (I.wy _ es b1).1 b2,(Lnk.nil hid b3).trans a3⟩
end
abbrev vK:=Nat×Nat×List Nat
def DcIs(H:Hp)(kvs:List (cM×V))(es:List vK):Prop:=Paired (fun (kv:cM×V) (e:vK)=>kv.1=.inr (S [e.1])∧∃ t,kv.2=.ref t∧H t=some (.tup [.int (e.2.1:Nat),.str (S e.2.2)])) kvs es
def fN(l:List Nat):List V:=l.map fun (i:Nat)=>V.int i
theorem jU(l:List Nat):(fN l).length=l.length:=by unfold fN;rw[List.length_map]
theorem mR{l:List Nat}{i a:Nat}(h:l[i]?=some a):(fN l)[i]?=some (.int (a:Nat)):=by unfold fN;rw[List.getElem?_map,h];rfl
theorem Bt(l:List Nat)(a:Nat):fN l++[.int (a:Nat)]=fN (l++[a]):=by unfold fN;rw[List.map_append];rfl
theorem tS(l:List Nat)(i a:Nat):(fN l).set i (.int (a:Nat))=fN (l.set i a):=by unfold fN;rw[List.map_set]
theorem DcIs.mono{H H':Hp}{kvs:List (cM×V)}{es:List vK}(ht:∀ t xs,H t=some (.tup xs)→H' t=some (.tup xs))(h:DcIs H kvs es):DcIs H' kvs es :=
 Paired.mapP h fun kv e ⟨a,t,b,c⟩=>⟨a,t,b,ht _ _ c⟩
theorem Dq{c d:Nat}(h:(Sum.inr (S [c]):cM)=Sum.inr (S [d])):c=d:=by
 have z2:=Sum.inr.inj h
 have:=congrArg (fun y:Str=>y.cps.toList) z2
 simpa [S] using this
theorem DcIs.val{H:Hp}{c:Nat}:∀ {kvs:List (cM×V)} {es:List vK},DcIs H kvs es→match dH es c with
  | none=>cX kvs (.inr (S [c]))=none
  | some r=>∃ t,cX kvs (.inr (S [c]))=some (.ref t)∧H t=some (.tup [.int (r.1:Nat),.str (S r.2)])
 | [],[],.nil=>rfl
 | kv::kvs,e::es,.cons ⟨a,t,b,d⟩ r=>by
  have ih:=DcIs.val (c:=c) (show DcIs H kvs es from r)
  by_cases q:e.1=c
  ·have:dH (e::es) c=some e.2:=by unfold dH;rw[List.find?_cons_of_pos (by simpa using q)];rfl
   rw[this]
   refine⟨t,?_,d⟩
   rw[cQ (by rw[a,q]),b]
  ·have e1:dH (e::es) c=dH es c:=by unfold dH;rw[List.find?_cons_of_neg (by simpa using q)]
   rw[e1,dD (show ¬ kv.1=Sum.inr (S [c]) from fun z=>q (Dq (a.symm.trans z)))]
   exact ih
theorem DcIs.put{H:Hp}{kvs:List (cM×V)}{es:List vK}{c g:Nat}{w:List Nat}{t:Addr}(h:DcIs H kvs es)(hn:dH es c=none)(ht:H t=some (.tup [.int (g:Nat),.str (S w)])):DcIs H (dM kvs (.inr (S [c])) (.ref t)) (es++[(c,g,w)]):=by
 have hv:=h.val (c:=c)
 rw[hn] at hv
 have hv:cX kvs (.inr (S [c]))=none:=hv
 rw[A5 _ hv]
 exact Paired.snoc h ⟨rfl,t,rfl,ht⟩
structure WvC(C:Addr)(H:Hp)(p dx hd tn wy al:Addr)(ds as:List Addr)(Z:WvS):Prop where
 nd:(hd::tn::wy::al::ds).Nodup
 ob:H p=some (.ins C dx (wf hd tn wy al))
 hh:H hd=some (.lst (fN Z.hs))
 ht:H tn=some (.lst (bX Z.ts))
 hw:H wy=some (.lst (ds.map V.ref))
 ha:H al=some (.lst (as.map V.ref))
 ld:ds.length=Z.ws.length
 dc:∀ (i:Nat) (d:Addr) (es:List vK),ds[i]?=some d→Z.ws[i]?=some es→∃ kvs,H d=some (.dK kvs)∧DcIs H kvs es
 la:as.length=Z.al.length
 at':∀ (j:Nat) (a:Addr) (e:Nat×List Nat×Nat),as[j]?=some a→Z.al[j]?=some e→H a=some (.tup [.int (e.1:Nat),.str (S e.2.1),.int (e.2.2:Nat)])
def FrW(M:List Addr)(H H':Hp):Prop:=∀ b o,H b=some o→b ∉ M→H' b=some o
def MU(H:Hp)(M M':List Addr):Prop:=∀ x∈M',x∈M∨H x=none
theorem FrW.refl(M:List Addr)(H:Hp):FrW M H H:=fun _ _ h _=>h
theorem FrW.ofSame{M:List Addr}{H H':Hp}(s:Same H H'):FrW M H H':=fun b o h _=>s b o h
theorem FrW.trans{M M1:List Addr}{H H1 H2:Hp}(a:FrW M H H1)(u:MU H M M1)(b:FrW M1 H1 H2):FrW M H H2:=fun x o h n=>b x o (a x o h n) fun z=>(u x z).elim n fun q=>by rw[h] at q;cases q
theorem FrW.upd{M:List Addr}{H H':Hp}{x:Addr}{o:HO}(a:FrW M H H')(hx:x∈M):FrW M H (L2.upd H' x o):=fun b u h n=>by rw[aE (fun z=>n (by rw[z];exact hx))];exact a b u h n
theorem MU.refl(H:Hp)(M:List Addr):MU H M M:=fun _ h=>.inl h
section
variable {C:Addr}{H H':Hp}{p dx hd tn wy al:Addr}{ds as:List Addr}{Z:WvS}
theorem WvC.same(w:WvC C H p dx hd tn wy al ds as Z)(s:Same H H'):WvC C H' p dx hd tn wy al ds as Z :=
 ⟨w.nd,s _ _ w.ob,s _ _ w.hh,s _ _ w.ht,s _ _ w.hw,s _ _ w.ha,w.ld,fun i d es h1 h2=>let ⟨kvs,a,b⟩:=w.dc i d es h1 h2;⟨kvs,s _ _ a,b.mono fun t xs q=>s _ _ q⟩,w.la,fun j a e h1 h2=>s _ _ (w.at' j a e h1 h2)⟩
theorem WvC.out(w:WvC C H p dx hd tn wy al ds as Z){b:Addr}{o:HO}(e:H b=some o)(h1:∀ xs,o≠.lst xs)(h2:∀ kvs,o≠.dK kvs):b ∉ hd::tn::wy::al::ds:=fun z=>by
 have k:∀ {o':HO},H b=some o'→o=o':=fun q=>by rw[e] at q;exact Option.some.inj q
 rcases List.mem_cons.mp z with rfl | z
 ·exact h1 _ (k w.hh)
 rcases List.mem_cons.mp z with rfl | z
 ·exact h1 _ (k w.ht)
 rcases List.mem_cons.mp z with rfl | z
 ·exact h1 _ (k w.hw)
 rcases List.mem_cons.mp z with rfl | z
 ·exact h1 _ (k w.ha)
 ·obtain⟨i,hi⟩:=List.getElem?_of_mem z
  obtain⟨es,hes⟩:∃ es,Z.ws[i]?=some es:=⟨_,List.getElem?_eq_getElem (by rw[← w.ld];exact(List.getElem?_eq_some_iff.mp hi).1)⟩
  obtain⟨kvs,q,_⟩:=w.dc i b es hi hes
  exact h2 _ (k q)
theorem WvC.tup(w:WvC C H p dx hd tn wy al ds as Z)(f:FrW (hd::tn::wy::al::ds) H H'){t:Addr}{xs:List V}(e:H t=some (.tup xs)):H' t=some (.tup xs):=f t _ e (w.out e (by intro xs z;cases z) (by intro kvs z;cases z))
theorem WvC.self(w:WvC C H p dx hd tn wy al ds as Z)(f:FrW (hd::tn::wy::al::ds) H H'):H' p=some (.ins C dx (wf hd tn wy al)):=f p _ w.ob (w.out w.ob (by intro xs z;cases z) (by intro kvs z;cases z))
theorem WvC.put1{x:Addr}{o:HO}(hx:x∈hd::tn::wy::al::ds):FrW (hd::tn::wy::al::ds) H (L2.upd H x o):=(FrW.refl _ H).upd hx
theorem WvC.upHd(w:WvC C H p dx hd tn wy al ds as Z)(l:List Nat):WvC C (L2.upd H hd (.lst (fN l))) p dx hd tn wy al ds as { Z with hs:=l }:=by
 have f:FrW (hd::tn::wy::al::ds) H (L2.upd H hd (.lst (fN l))):=WvC.put1 List.mem_cons_self
 obtain⟨n1,_⟩:=List.nodup_cons.mp w.nd
 have ne:∀ {b:Addr},b∈tn::wy::al::ds→b≠hd:=fun hb z=>n1 (z ▸ hb)
 refine⟨w.nd,w.self f,aC,by rw[aE (ne (by simp))];exact w.ht,by rw[aE (ne (by simp))];exact w.hw,by rw[aE (ne (by simp))];exact w.ha,w.ld,fun i d es h1 h2=>?_,w.la,fun j a e h1 h2=>w.tup f (w.at' j a e h1 h2)⟩
 obtain⟨kvs,a,b⟩:=w.dc i d es h1 h2
 exact⟨kvs,by rw[aE (ne (by simp[List.mem_of_getElem? h1]))];exact a,b.mono fun t xs q=>w.tup f q⟩
theorem WvC.upTn(w:WvC C H p dx hd tn wy al ds as Z)(l:List (List Nat)):WvC C (L2.upd H tn (.lst (bX l))) p dx hd tn wy al ds as { Z with ts:=l }:=by
 have f:FrW (hd::tn::wy::al::ds) H (L2.upd H tn (.lst (bX l))):=WvC.put1 (by simp)
 obtain⟨n1,n2⟩:=List.nodup_cons.mp w.nd
 obtain⟨n3,_⟩:=List.nodup_cons.mp n2
 have ne:∀ {b:Addr},b∈wy::al::ds→b≠tn:=fun hb z=>n3 (z ▸ hb)
 have nh:hd≠tn:=fun z=>n1 (z ▸ List.mem_cons_self)
 refine⟨w.nd,w.self f,by rw[aE nh];exact w.hh,aC,by rw[aE (ne (by simp))];exact w.hw,by rw[aE (ne (by simp))];exact w.ha,w.ld,fun i d es h1 h2=>?_,w.la,fun j a e h1 h2=>w.tup f (w.at' j a e h1 h2)⟩
 obtain⟨kvs,a,b⟩:=w.dc i d es h1 h2
 exact⟨kvs,by rw[aE (ne (by simp[List.mem_of_getElem? h1]))];exact a,b.mono fun t xs q=>w.tup f q⟩
theorem WvC.upAl(w:WvC C H p dx hd tn wy al ds as Z)(as':List Addr)(l:List (Nat×List Nat×Nat))(hl:as'.length=l.length)(ha:∀ (j:Nat) (a:Addr) (e:Nat×List Nat×Nat),as'[j]?=some a→l[j]?=some e→H a=some (.tup [.int (e.1:Nat),.str (S e.2.1),.int (e.2.2:Nat)])) :
  WvC C (L2.upd H al (.lst (as'.map V.ref))) p dx hd tn wy al ds as' { Z with al:=l }:=by
 have f:FrW (hd::tn::wy::al::ds) H (L2.upd H al (.lst (as'.map V.ref))):=WvC.put1 (by simp)
 obtain⟨n1,n2⟩:=List.nodup_cons.mp w.nd
 obtain⟨n3,n4⟩:=List.nodup_cons.mp n2
 obtain⟨n5,n6⟩:=List.nodup_cons.mp n4
 obtain⟨n7,_⟩:=List.nodup_cons.mp n6
 have nh:hd≠al:=fun z=>n1 (z ▸ by simp)
 have nt:tn≠al:=fun z=>n3 (z ▸ by simp)
 have nw:wy≠al:=fun z=>n5 (z ▸ by simp)
 refine⟨w.nd,w.self f,by rw[aE nh];exact w.hh,by rw[aE nt];exact w.ht,by rw[aE nw];exact w.hw,aC,w.ld,fun i d es h1 h2=>?_,hl,fun j a e h1 h2=>w.tup f (ha j a e h1 h2)⟩
 obtain⟨kvs,a,b⟩:=w.dc i d es h1 h2
 exact⟨kvs,by rw[aE (fun z=>n7 (by rw[← z];exact List.mem_of_getElem? h1))];exact a,b.mono fun t xs q=>w.tup f q⟩
theorem WvC.upDc(w:WvC C H p dx hd tn wy al ds as Z){i:Nat}{d:Addr}(hi:ds[i]?=some d)(kvs:List (cM×V))(es:List vK)(hk:DcIs H kvs es):WvC C (L2.upd H d (.dK kvs)) p dx hd tn wy al ds as { Z with ws:=Z.ws.set i es }:=by
 have hm:=List.mem_of_getElem? hi
 have f:FrW (hd::tn::wy::al::ds) H (L2.upd H d (.dK kvs)):=WvC.put1 (by simp[hm])
 obtain⟨n1,n2⟩:=List.nodup_cons.mp w.nd
 obtain⟨n3,n4⟩:=List.nodup_cons.mp n2
 obtain⟨n5,n6⟩:=List.nodup_cons.mp n4
 obtain⟨n7,n8⟩:=List.nodup_cons.mp n6
 have nh:hd≠d:=fun z=>n1 (z ▸ by simp[hm])
 have nt:tn≠d:=fun z=>n3 (z ▸ by simp[hm])
 have nw:wy≠d:=fun z=>n5 (z ▸ by simp[hm])
 have na:al≠d:=fun z=>n7 (z ▸ hm)
 refine⟨w.nd,w.self f,by rw[aE nh];exact w.hh,by rw[aE nt];exact w.ht,by rw[aE nw];exact w.hw,by rw[aE na];exact w.ha,by show ds.length=(Z.ws.set i es).length;rw[List.length_set];exact w.ld,fun j d' es' h1 h2=>?_,w.la,fun j a e h1 h2=>w.tup f (w.at' j a e h1 h2)⟩
 rcases eJ h2 with ⟨rfl,rfl,_⟩ | ⟨hn,h2⟩
 ·rw[hi] at h1
  cases h1
  exact⟨kvs,aC,hk.mono fun t xs q=>w.tup f q⟩
 ·obtain⟨kvs',a,b⟩:=w.dc j d' es' h1 h2
  have nd:d'≠d:=fun z=>by
   subst z
   obtain⟨l1,e1⟩:=List.getElem?_eq_some_iff.mp h1
   obtain⟨l2,e2⟩:=List.getElem?_eq_some_iff.mp hi
   exact hn ((List.getElem_inj n8).mp (e1.trans e2.symm))
  exact⟨kvs',by rw[aE nd];exact a,b.mono fun t xs q=>w.tup f q⟩
theorem WvC.upNew(w:WvC C H p dx hd tn wy al ds as Z){d:Addr}(hd0:H d=none):WvC C (L2.upd (L2.upd H d (.dK [])) wy (.lst ((ds++[d]).map V.ref))) p dx hd tn wy al (ds++[d]) as { Z with ws:=Z.ws++[[]] }:=by
 have w1:=w.same (Same.new (o:=.dK []) hd0)
 have e1:L2.upd H d (.dK []) d=some (.dK []):=aC
 have nin:d ∉ hd::tn::wy::al::ds:=fun z=>by
  rcases List.mem_cons.mp z with rfl | z
  ·rw[w.hh] at hd0;cases hd0
  rcases List.mem_cons.mp z with rfl | z
  ·rw[w.ht] at hd0;cases hd0
  rcases List.mem_cons.mp z with rfl | z
  ·rw[w.hw] at hd0;cases hd0
  rcases List.mem_cons.mp z with rfl | z
  ·rw[w.ha] at hd0;cases hd0
  ·obtain⟨i,hi⟩:=List.getElem?_of_mem z
   obtain⟨es,hes⟩:∃ es,Z.ws[i]?=some es:=⟨_,List.getElem?_eq_getElem (by rw[← w.ld];exact(List.getElem?_eq_some_iff.mp hi).1)⟩
   obtain⟨kvs,q,_⟩:=w.dc i d es hi hes
   rw[q] at hd0;cases hd0
 generalize L2.upd H d (.dK [])=G at w1 e1
 have f:FrW (hd::tn::wy::al::ds) G (L2.upd G wy (.lst ((ds++[d]).map V.ref))):=WvC.put1 (by simp)
 obtain⟨n1,n2⟩:=List.nodup_cons.mp w.nd
 obtain⟨n3,n4⟩:=List.nodup_cons.mp n2
 obtain⟨n5,n6⟩:=List.nodup_cons.mp n4
 have nh:hd≠wy:=fun z=>n1 (z ▸ by simp)
 have nt:tn≠wy:=fun z=>n3 (z ▸ by simp)
 have na:al≠wy:=fun z=>n5 (z ▸ by simp)
 have nd':(hd::tn::wy::al::(ds++[d])).Nodup:=by
  have:hd::tn::wy::al::(ds++[d])=(hd::tn::wy::al::ds)++[d]:=rfl
  rw[this,List.nodup_append]
  exact⟨w.nd,by simp,fun a ha b hb z=>nin (by rw[← List.mem_singleton.mp hb,← z];exact ha)⟩
 have nwd:d≠wy:=fun z=>nin (z ▸ by simp)
 refine⟨nd',w1.self f,by rw[aE nh];exact w1.hh,by rw[aE nt];exact w1.ht,aC,by rw[aE na];exact w1.ha,by show (ds++[d]).length=(Z.ws++[[]]).length;rw[List.length_append,List.length_append,w.ld];rfl,fun i d' es h1 h2=>?_,w.la,fun j a e h1 h2=>w1.tup f (w1.at' j a e h1 h2)⟩
 rcases eU h2 with ⟨q,h2⟩ | ⟨q,rfl⟩
 ·rw[List.getElem?_append_left (by rw[w.ld];exact q)] at h1
  obtain⟨kvs,a,b⟩:=w1.dc i d' es h1 h2
  exact⟨kvs,by rw[aE (fun z=>n5 (by rw[← z];exact List.mem_cons_of_mem _ (List.mem_of_getElem? h1)))];exact a,b.mono fun t xs q=>w1.tup f q⟩
 ·rcases eU h1 with ⟨q',_⟩ | ⟨_,rfl⟩
  ·rw[w.ld] at q';omega
  ·exact⟨[],by rw[aE nwd];exact e1,.nil⟩
end
def Wat(C:Addr)(H:Hp)(p:Addr)(M:List Addr)(Z:WvS):Prop:=∃ dx hd tn wy al ds as,M=hd::tn::wy::al::ds∧WvC C H p dx hd tn wy al ds as Z
theorem Wat.same{C:Addr}{H H':Hp}{p:Addr}{M:List Addr}{Z:WvS}(w:Wat C H p M Z)(s:Same H H'):Wat C H' p M Z:=by
 obtain⟨dx,hd,tn,wy,al,ds,as,e,w⟩:=w;exact⟨dx,hd,tn,wy,al,ds,as,e,w.same s⟩
end Lw
namespace Lw
open PySem PySem.Spec PyProof.Rows L2 Ma
def GB(N P:List Str)(sc:Scope):Bool:=decide (sc.kind=.function) && (decide (sc.isCoroutine=false) && (decide (sc.isGenerator=false) && (decide N.Nodup && (decide (N.take P.length=P) && (P.all (fun x=>decide (sc.names.lookup x=some .local∨sc.names.lookup x=some .cell)) && sc.names.all (fun y=>decide (y.2≠.free)))))))
theorem fR{N P:List Str}{sc:Scope}(h:GB N P sc=true):FnScope N P sc:=by
 unfold GB at h
 simp only [Bool.and_eq_true,decide_eq_true_eq,List.all_eq_true] at h
 obtain⟨a,b,c,d,e,f,g⟩:=h
 exact⟨a,b,c,d,e,f,g⟩
theorem pC{X:Cx}{x:Str}{ps:List Str}{n m:Nat}{sp:Sp}{e:Expr}{es:List Expr}{t:TA}{p pos:Pos}(c:Cl X.prog X.w X.K X.mg X.base x ps n sp)(hr:Room m X.A)(ha:PA X (e::es) t)(hg:Gl X x:=by rfl)(hle:n≤m:=by first | decide | exact Nat.le_refl _)
  (hdb:(x == ("__debug__":Str))=false:=by decide) (he:starEach (e::es) X.env=(false,eval e X.env)::starEach es X.env:=by rfl) (hpl:(backTo pos (starEach es X.env)).any (·.1)=false:=by rfl) :
  PE X (.Call (.Name x p) (e::es) [] pos) (DH sp [] E0 t):=by
 obtain⟨f,fd,F,hm,hk,hb⟩:=c
 exact CI F (hr.mono hle) hg hm hk hb .nil dI ha hdb he hpl
abbrev DI(K:PySem.W.Frag)(x:Str)(st:Stmt):Prop:=∃ (f:Addr) (oc kV dc pm cd ct:Value) (od an:Option Addr) (sl:Array (Option Value)),PySem.W.nsIn K mainGlobals x=some (some (.ref f))∧K.lookup f=some ⟨oc,od,.func (PySem.W.fnOf x x (dS st) (dL st) (aF st) .none kV dc pm an cd ct),sl⟩∧PySem.W.codeIn K cd x=true∧PySem.W.keepIn K (.ref f)=true
theorem iG{K:PySem.W.Frag}{h:Heap}{mg:Str→Option Value}{x:Str}{st:Stmt}{ps:List Str}(d:DI K x st)(X:K.In h)(G:h.Ns mainGlobals mg)(hb:∀ (kV doc pm:Value) (an:Option Addr) (cdv ct:Value) (us:List Value),us.length=ps.length→bindArgs (PySem.W.fnOf x x (dS st) (dL st) (aF st) .none kV doc pm an cdv ct) ⟨us,[]⟩=pure (ps.zip us)):∃ f fd,Df K mg x st ps f fd:=by
 obtain⟨f,oc,kV,dc,pm,cd,ct,od,an,sl,a,l,c,k⟩:=d
 exact⟨f,_,lY l c k,(lY l c k).binds hb,PySem.W.mg_of X G a⟩
abbrev DJ(K:PySem.W.Frag)(C:Addr)(x q:Str)(st:Stmt):Prop:=∃ (f:Addr) (oc kV dc pm cd ct:Value) (od an:Option Addr) (sl:Array (Option Value)),PySem.W.findIn K (.ref C) x=some (some (.ref f))∧PySem.W.isFn K (.ref f)=true∧K.lookup f=some ⟨oc,od,.func (PySem.W.fnOf x q (dS st) (dL st) (aF st) .none kV dc pm an cd ct),sl⟩∧PySem.W.codeIn K cd q=true∧PySem.W.keepIn K (.ref f)=true
theorem Cg{K:PySem.W.Frag}{C:Addr}{x q:Str}{st:Stmt}{ps:List Str}(d:DJ K C x q st)(hb:∀ (kV doc pm:Value) (an:Option Addr) (cdv ct:Value) (us:List Value),us.length=ps.length→bindArgs (PySem.W.fnOf x q (dS st) (dL st) (aF st) .none kV doc pm an cdv ct) ⟨us,[]⟩=pure (ps.zip us)):∃ f fd,DfM K C x q st ps f fd:=by
 obtain⟨f,oc,kV,dc,pm,cd,ct,od,an,sl,a,i,l,c,k⟩:=d
 exact⟨f,_,HX a i l c k hb⟩
end Lw
namespace L2
open PySem PySem.Spec PyProof.Rows
section
variable {X:Cx}{tg:Expr}
def G0(ta:TA):TI:=fun σ H R=>ta σ H fun vs H1=>∃ z:Str,vs=[.str z]∧z.length≤60000∧R (FJ z) H1
theorem Dw{a:Expr}{ta:TA}{p pos:Pos}(hg:Gl X "reversed")(hm:X.mg "reversed"=none)(ha:PA X [a] ta)(hs:starEach [a] X.env=[(false,eval a X.env)]:=by rfl):PI X tg (.Call (.Name "reversed" p) [a] [] pos) (G0 ta):=by
 intro pins s σ H R I h
 refine Call_ (hJ I hg hm boot_reversed (PyProof.Rows.callWith_type1 (bZ (ha pos pins s σ H _ I h) fun us s1 ⟨vs,H1,I1,r1,q1⟩=>?_) hs rfl))
 obtain⟨z,e,hz,q⟩:=q1
 subst e
 obtain⟨u,rfl,ru⟩:=r1.one
 obtain⟨t,rfl⟩:=ru
 refine fZ (by omega) fun tk=>?_
 have I2:Inv X pins σ H1 { s1 with heap:=s1.heap.push { cls:=.type "reversed",data:=.fields #[.str z t,rawInt ((z.length:Int) - 1)] },toks:=tk }:=I1.kept fun b o e=>Heap.get?_push_of_some _ e
 have st:(s1.heap.push { cls:=.type "reversed",data:=.fields #[.str z t,rawInt ((z.length:Int) - 1)] }).IsRvd s1.heap.objs.size z t ((z.length:Int) - 1):=⟨_,Heap.get?_push_size _ rfl,rfl,rfl⟩
 refine eP st ?_
 refine⟨s1.heap.objs.size,[s1.heap.objs.size],_,_,H1,rfl,I2,vG z t _ (by omega),⟨Nat.zero_le _,?_⟩,fun b hb=>?_,q⟩
 ·have e0:(z.cps.size:Int) - 1 - ((0:Nat):Int)=(z.length:Int) - 1:=by show (z.cps.size:Int) - 1 - ((0:Nat):Int)=(z.cps.size:Int) - 1;omega
  rw[e0];exact st
 ·have e:b=s1.heap.objs.size:=by simpa using hb
  subst e
  exact I1.fpOk (Nat.le_refl _) (I1.hok.fresh (Nat.le_refl _))
end
theorem xS{z:Str}{ws:List Str}{us:List Value}(r:Vals (ws.map V.str) us){i:Nat}(hi:i<us.length):∃ w t,ws[i]?=some w∧us[i]=.str w t:=by
 have hl:us.length=ws.length:=by rw[← r.length,List.length_map]
 have hw:ws[i]?=some ws[i]:=List.getElem?_eq_getElem (by omega)
 obtain⟨u,hu,ru⟩:=r.get (show (ws.map V.str)[i]?=some (.str ws[i]) by rw[List.getElem?_map,hw];rfl)
 obtain⟨t,rfl⟩:=ru
 rw[List.getElem?_eq_getElem hi] at hu
 exact⟨_,t,hw,Option.some.inj hu⟩
theorem xI{X:Cx}{K:PySem.W.Frag}(hK:X.K=K):Ai X "list.index" (fun x xs H Q=>∃ (a:Addr) (ws:List Str) (z:Str) (j:Nat),x=.ref a∧xs=[.str z]∧SqL K H a (ws.map V.str)∧ws[j]?=some z∧(∀ m,m<j→ws[m]?≠some z)∧j<1000∧Q (.int ((j:Nat):Int)) H):=by
 subst hK
 intro pins s σ H x xs v us Q I rx rs h
 obtain⟨a,ws,z,j,rfl,rfl,hq,hj,hno,hsm,q⟩:=h
 cases rx
 obtain⟨u,rfl,ru⟩:=rs.one
 obtain⟨t,rfl⟩:=ru
 obtain⟨its,r,pl,_⟩:=I.list hq
 obtain⟨_,hall⟩:=tO z r
 obtain⟨⟨cls,dd,data,sl⟩,ho,hc,n,hd⟩:=id pl.isList
 simp only at hc hd
 subst hc hd
 have hl:its.length=ws.length:=by rw[← r.length,List.length_map]
 have hj':j<its.length:=by rw[hl];exact(List.getElem?_eq_some_iff.mp hj).1
 refine call_meets PySem.F.slot_list_index ⟨_,ho,rfl⟩ PySem.F.entry_list_index (PySem.F.args_list_index_2 _ _) (SeqAt.list_indexAt a its.toArray n dd sl (.str z t) (Ch z) j (by simpa using hj') (by omega) ?_ ?_) ⟨ho,fun y hy=>?_,?_⟩
 ·obtain⟨w,tw,h1,h2⟩:=xS (z:=z) r hj'
  rw[hj] at h1
  cases h1
  show Ch z its[j]=true
  rw[h2]
  exact beq_self_eq_true z
 ·intro m hm hmj
  have hm':m<its.length:=by simpa using hm
  obtain⟨w,tw,h1,h2⟩:=xS (z:=z) r hm'
  show Ch z its[m]=false
  rw[h2]
  refine beq_eq_false_iff_ne.mpr fun e=>hno m hmj ?_
  rw[h1,e]
 ·obtain⟨w,tw,rfl⟩:=hall y (by simpa using hy)
  exact SeqAt.EqAt.str_str w tw z t
 ·exact⟨.int _,H,I.tok _,⟨_,rfl⟩,q⟩
end L2
namespace PySem
namespace SeqAt
end SeqAt
end PySem
namespace L2
open PySem PySem.Spec PyProof.Rows
end L2
namespace PySem
open Sem (wp)
open PyProof.Rows
namespace F
end F
end PySem
namespace L2
open PySem PySem.Spec PyProof.Rows
end L2
namespace Lw
open PySem PySem.Spec PyProof.Rows L2 Ma MaR
theorem qJ(cs:List Nat):bX (bL cs)=aV cs:=by unfold bX bL aV;rw[List.map_map];rfl
def zs(n:Nat):List V:=List.replicate n (.int 0)
theorem Co(n:Nat):(List.replicate n [V.int 0]).flatten=zs n:=by
 unfold zs
 induction n with
 | zero=>rfl
 | succ n ih=>rw[List.replicate_succ,List.flatten_cons,ih,List.replicate_succ];rfl
def tR:Sp:=fun vs H Q _=>∃ (fl sc:Addr) (n:Nat),vs=[.ref fl,.int (n:Nat)]∧IsFl H fl sc∧1≤n∧n≤4∧∀ (p:Addr) (c:Nat) (sd:List Nat) (H':Hp),H p=none→GoodB n c sd→sd.length≤8→IsChg H' p c sd→IsFl H' fl sc→Kp fl H H'→Q (.ref p) H'
def BQ:Sp:=fun vs H Q _=>∃ (n:Nat) (p:Addr) (c:Nat) (sd:List Nat),vs=[.ref p]∧1≤n∧n≤4∧IsChg H p c sd∧GoodB n c sd∧sd.length≤8∧∀ (q:Addr) (H':Hp),Same H H'→IsChg H' q (con c) (lD c sd)→Q (.ref q) H'
theorem EU{K:PySem.W.Frag}{H:Hp}{t:Addr}{n:Nat}{Q:VK}(h1:1≤n)(h4:n≤4)(ht:H t=some (.tup [.int 0]))(k:∀ (q:Addr) (H':Hp),Same H H'→H' q=some (.tup (zs n))→Q (.ref q) H'):Dz K (.ref t) (.int (n:Nat)) H Q:=by
 refine⟨t,(n:Nat),[.int 0],rfl,rfl,SqT.of ht,by simp,by omega,by omega,?_,fun e=>?_,fun e p hp=>?_⟩
 ·show 1 * _≤_
  rw[sizeLine_eq]
  omega
 ·have en:n=1:=by omega
  subst en
  exact k t H (Same.refl H) ht
 ·have e2:(List.replicate ((n:Nat):Int).toNat [V.int 0]).flatten=zs n:=by rw[Int.toNat_natCast];exact Co n
  rw[e2]
  exact k p _ (Same.new hp) aC
theorem Hn{K:PySem.W.Frag}{H:Hp}{a b:Addr}{n d:Nat}(ha:H a=some (.tup (zs n)))(hb:H b=some (.tup (zs n)))(hl:n≤100):Lq K H (d+1) (.ref a) (.ref b) :=
 .tup (SqT.of ha) (SqT.of hb) rfl (by unfold zs;rw[List.length_replicate];omega) fun i x y hx hy=>by
  rw[hx] at hy
  cases hy
  have:=List.mem_of_getElem? hx
  rw[(List.mem_replicate.mp this).2]
  exact .flat rfl
theorem IR{a b:Nat}(h:¬ rk b<rk a):BH [a] [b]:=by
 show (if ((1:Nat):Int)=((1:Nat):Int) then HT.lexLt [((rk b:Nat):Int)] [((rk a:Nat):Int)] else _)=false
 rw[if_pos rfl,HT.lexLt_cons]
 by_cases e:((rk b:Nat):Int)=((rk a:Nat):Int)
 ·rw[if_pos e];rfl
 ·rw[if_neg e];exact decide_eq_false (by omega)
theorem GoodB.nodup{n c:Nat}{sd:List Nat}(g:GoodB n c sd):sd.Nodup:=g.ord.imp fun {a b} h e=>by rw[e] at h;exact Nat.lt_irrefl _ h
theorem tQ{n c:Nat}{sd:List Nat}(h1:1≤n)(h4:n≤4)(g:GoodB n c sd){ws:List (List Nat)}(hp:ws.Perm (bL ((sd.filter fun d=>decide (d≠c))++[con c])))(ho:ws.Pairwise BH):ws=bL (lD c sd):=by
 have b:=g.back h1 h4
 refine pN (fun x hx=>?_) (hp.trans ((tH g.nodup g.has).map _).symm) ho ?_
 ·obtain⟨d,hd,rfl⟩:=List.mem_map.mp (hp.mem_iff.mp hx)
  have:=(tH g.nodup g.has).mem_iff.mpr hd
  exact cC (aJ (b.side d this))
 ·unfold bL
  rw[List.pairwise_map]
  exact b.ord.imp fun h=>IR (by omega)
theorem AF{n:Nat}(h1:1≤n)(h4:n≤4):(aK (n:Nat)).Pairwise fun a b=>rk a<rk b:=by
 rcases zO h1 h4 with rfl | rfl | rfl | rfl <;> decide
theorem yM{w:List Nat}{i:Nat}{v:V}(h:(aV w)[i]?=some v):∃ c,w[i]?=some c∧v=.str (S [c]):=by
 unfold aV at h
 rw[List.getElem?_map] at h
 cases hq:w[i]? with
 | none=>rw[hq] at h;cases h
 | some o=>rw[hq] at h;exact⟨o,rfl,(Option.some.inj h).symm⟩
end Lw
namespace PySem
open Sem (wp)
end PySem
namespace L2
open PySem PySem.Spec PyProof.Rows
end L2
namespace Lw
open PySem PySem.Spec PyProof.Rows L2 Ma MaR
theorem uK(a b:Nat)(u v:List Nat):fU [.int (a:Nat),.str (S u)] [.int (b:Nat),.str (S v)]=decide ((a,u)=(b,v)):=by
 have e1:fU [.int (a:Nat),.str (S u)] [.int (b:Nat),.str (S v)]=(decide (((a:Nat):Int)=((b:Nat):Int)) && decide (u=v)):=by
  have:=nK [((a:Nat):Int)] [((b:Nat):Int)]
  have e2:=uC [S u] [S v]
  show (mM (.int (a:Nat)) (.int (b:Nat)) && (mM (.str (S u)) (.str (S v)) && true))=_
  have q1:mM (.int (a:Nat)) (.int (b:Nat))=decide (((a:Nat):Int)=((b:Nat):Int)):=by
   have q:(mM (.int (a:Nat)) (.int (b:Nat)) && true)=decide ([((a:Nat):Int)]=[((b:Nat):Int)]):=this
   rw[Bool.and_true] at q
   rw[q]
   exact decide_eq_decide.mpr ⟨fun z=>by simpa using z,fun z=>by rw[z]⟩
  have q2:mM (.str (S u)) (.str (S v))=decide (u=v):=by
   have q:(mM (.str (S u)) (.str (S v)) && true)=decide ([S u]=[S v]):=e2
   rw[Bool.and_true] at q
   rw[q]
   refine decide_eq_decide.mpr ⟨fun z=>?_,fun z=>by rw[z]⟩
   have z':S u=S v:=by simpa using z
   have:=congrArg (fun y:Str=>y.cps.toList) z'
   simpa [S] using this
  rw[q1,q2,Bool.and_true]
 rw[e1]
 by_cases h1:a=b
 ·by_cases h2:u=v
  ·subst h1 h2;simp
  ·simp[h2]
 ·have:¬ ((a:Nat):Int)=((b:Nat):Int):=by omega
  simp[h1,this]
theorem sB{n:Nat}{i:Int}(h0:0≤i)(h1:i<(n:Nat)):AL n i=some i.toNat:=by
 unfold AL
 rw[if_pos h0,if_pos h1]
theorem xY(ws:List (List Nat))(j:Nat)(w:List Nat):(bX ws).set j (.str (S w))=bX (ws.set j w):=by
 unfold bX
 rw[List.map_set]
section
variable {h:Nat→List Nat}{φ:Nat→List Nat}{ρ rk:Nat→Nat}{L:Nat}{Z:WvS}
theorem hX(I:WI h φ ρ rk L Z)(i j:Nat):AllL (lay (back (φ i)++φ j))∧(lay (back (φ i)++φ j)).length≤2 * L:=by
 obtain⟨a1,a2⟩:=I.fa i
 obtain⟨b1,b2⟩:=I.fa j
 refine⟨dN (AllL.app.mpr ⟨aL a1,b1⟩),?_⟩
 have:=eQ (back (φ i)++φ j)
 rw[List.length_append,bG] at this
 omega
theorem iY(I:WI h φ ρ rk L Z){c:Nat}(hc:bY c)(i j:Nat):AllL (lay (back (φ i)++(h c++φ j)))∧(lay (back (φ i)++(h c++φ j))).length≤3 * L:=by
 obtain⟨a1,a2⟩:=I.fa i
 obtain⟨b1,b2⟩:=I.fa j
 obtain⟨c1,c2⟩:=I.ha c hc
 refine⟨dN (AllL.app.mpr ⟨aL a1,AllL.app.mpr ⟨c1,b1⟩⟩),?_⟩
 have:=eQ (back (φ i)++(h c++φ j))
 rw[List.length_append,List.length_append,bG] at this
 omega
theorem rE{hd ab:Nat}{t:List Nat}(ht:t=lay (back (φ hd)++φ ab)):∀ {es:List vK} {T:WvS},WI h φ ρ rk L T→ab<T.hs.length→(∀ e∈es,bY e.1∧e.2.1<T.hs.length∧e.2.2=lay (back (φ hd)++(h e.1++φ e.2.1)))→WI h φ ρ rk L (cD ab t T es)∧(cD ab t T es).hs=T.hs
 | [],T,I,_,_=>⟨I,rfl⟩
 | e::es,T,I,hab,hes=>by
  obtain⟨ea,hea⟩:∃ ea,T.ws[ab]?=some ea:=⟨_,List.getElem?_eq_getElem (by rw[I.lw];exact hab)⟩
  have hgd:T.ws.getD ab []=ea:=by rw[List.getD_eq_getElem?_getD,hea];rfl
  obtain⟨e1,e2,e3⟩:=hes e List.mem_cons_self
  have htd:lay (back t++e.2.2)=lay (back (φ ab)++(h e.1++φ e.2.1)):=by
   rw[ht,e3]
   exact Iw (I.fa hd).1 (I.fa ab).1 (I.fa e.2.1).1 (I.ha e.1 e1).1
  have I1:=I.lay hea e1 e2 htd
  obtain⟨hhs,_⟩:=gK (S:=T) ab e.1 e.2.1 (lay (back t++e.2.2)) ea
  have key:cD ab t T (e::es)=cD ab t (bD T ab e.1 e.2.1 (lay (back t++e.2.2)) ea) es:=by
   unfold cD
   rw[List.foldl_cons,hgd]
  rw[key]
  obtain⟨o1,o2⟩:=rE ht (es:=es) I1 (by rw[hhs];exact hab) (fun x hx=>by rw[hhs];exact hes x (List.mem_cons_of_mem _ hx))
  exact⟨o1,o2.trans hhs⟩
theorem tM{ab:Nat}{t:List Nat}{T:WvS}{es:List vK}{e:vK}:cD ab t T (es++[e])=bD (cD ab t T es) ab e.1 e.2.1 (lay (back t++e.2.2)) ((cD ab t T es).ws.getD ab []):=by
 unfold cD
 rw[List.foldl_append]
 rfl
end
theorem EI.move{E:Nat→Nat→Nat→Prop}{ρ:Nat→Nat}{Z Z':WvS}(X:EI E ρ Z)(hw:Z'.ws=Z.ws)(ha:Z'.al=Z.al)(hl:Z'.hs.length=Z.hs.length):EI E ρ Z' :=
 ⟨fun p c q h=>by rw[hl];exact X.lt p c q h,fun p c q h=>by rw[hw,ha];exact X.on p c q h,fun i es h e he=>by rw[ha];exact X.of i es (by rw[← hw];exact h) e he⟩
theorem WI.alDrop{h φ:Nat→List Nat}{ρ rk:Nat→Nat}{L:Nat}{Z:WvS}(I:WI h φ ρ rk L Z){l:List (Nat×List Nat×Nat)}(hl:∀ e∈l,e∈Z.al):WI h φ ρ rk L { Z with al:=l } :=
 ⟨I.lt,I.lw,I.hd,I.rt,I.tn,I.wy,fun e he=>I.al e (hl e he),I.fa,I.ha⟩
theorem zD{ρ:Nat→Nat}{hd ab:Nat}(hi:∀ x,ρ (ρ x)=ρ x)(hb:ρ ab=ab)(hne:hd≠ab):∀ x,ρU ρ hd ab (ρU ρ hd ab x)=ρU ρ hd ab x:=fun x=>by
 unfold ρU
 by_cases q:ρ x=hd
 ·rw[if_pos q,hb,if_neg (fun z=>hne z.symm)]
 ·rw[if_neg q,hi x,if_neg q]
def fI:Sp:=fun vs H Q _=>∃ w:List Nat,vs=[.str (S w)]∧AllL w∧w.length≤60000∧∀ H',Same H H'→Q (.str (S (back w))) H'
def kL:Sp:=fun vs H Q _=>∃ u w:List Nat,vs=[.str (S u),.str (S w)]∧AllL u∧AllL w∧u.length+w.length≤60000∧∀ H',Same H H'→Q (.str (S (lay (u++w)))) H'
def FE:WvS:={ hs:=[0],ts:=[[]],ws:=[[]],al:=[] }
def pF(C:Addr):Sp:=fun vs H Q _=>∃ (p dx:Addr),vs=[.ref p]∧H p=some (.ins C dx [])∧∀ (M:List Addr) (H':Hp),(∀ x∈M,H x=none)→Wat C H' p M FE→(∀ b o,H b=some o→b≠p→H' b=some o)→Q .non H'
structure Kept(C:Addr)(h φ:Nat→List Nat)(ρ rk:Nat→Nat)(L:Nat)(p:Addr)(M:List Addr)(H H':Hp)(Z Z':WvS):Prop where
 at':Wat C H' p M Z'
 wi:WI h φ ρ rk L Z'
 ws:Z'.ws=Z.ws
 al:Z'.al=Z.al
 ln:Z'.hs.length=Z.hs.length
 fr:FrW M H H'
def sD(C:Addr):Sp:=fun vs H Q _=>∃ (h φ:Nat→List Nat) (ρ rk:Nat→Nat) (L:Nat) (p:Addr) (M:List Addr) (Z:WvS) (i:Nat) (x:List Nat),vs=[.ref p,.int (i:Nat),.str (S x)]∧Wat C H p M Z∧WI h φ ρ rk L Z∧L≤8000∧i<Z.hs.length∧AllL x∧lay x=x∧x.length≤3 * L ∧
 ∀ (t:Addr) (H':Hp) (Z':WvS),Kept C h φ ρ rk L p M H H' Z Z'→H' t=some (.tup [.int (ρ i:Nat),.str (S (lay (x++(back (φ i)++φ (ρ i)))))])→Q (.ref t) H'
def tD(C:Addr):Sp:=fun vs H Q _=>∃ (h φ:Nat→List Nat) (ρ rk:Nat→Nat) (L:Nat) (p:Addr) (M:List Addr) (Z:WvS) (i:Nat),vs=[.ref p,.int (i:Nat)]∧Wat C H p M Z∧WI h φ ρ rk L Z∧L≤8000∧i<Z.hs.length ∧
 ∀ (H':Hp) (Z':WvS),Kept C h φ ρ rk L p M H H' Z Z'→Q (.int (ρ i:Nat)) H'
def rP(C:Addr):Sp:=fun vs H Q _=>∃ (h φ:Nat→List Nat) (ρ rk:Nat→Nat) (L:Nat) (p:Addr) (M:List Addr) (Z:WvS) (i c:Nat) (es:List vK),vs=[.ref p,.int (i:Nat),.str (S [c])]∧Wat C H p M Z∧WI h φ ρ rk L Z∧L≤8000∧Z.ws[i]?=some es ∧
 ∀ (H':Hp) (Z':WvS),Kept C h φ ρ rk L p M H H' Z Z'→Q (match dH es c with | none=>.non | some r=>.int (ρ r.1:Nat)) H'
def A_(C:Addr):Sp:=fun vs H Q _=>∃ (p:Addr) (M:List Addr) (Z:WvS),vs=[.ref p]∧Wat C H p M Z∧Z.hs.length≤900∧Z.ts.length≤900∧Z.ws.length≤900 ∧
 ∀ (d:Addr) (H':Hp),Wat C H' p (M++[d]) (Bp Z)→H d=none→FrW M H H'→Q (.int (Z.hs.length:Nat)) H'
def vY(C:Addr):Sp:=fun vs H Q _=>∃ (h φ:Nat→List Nat) (ρ rk:Nat→Nat) (L:Nat) (p:Addr) (M:List Addr) (Z:WvS) (i c g:Nat) (t:List Nat) (es:List vK),vs=[.ref p,.int (i:Nat),.str (S [c]),.int (g:Nat),.str (S t)]∧Wat C H p M Z∧WI h φ ρ rk L Z∧L≤8000∧Z.ws[i]?=some es∧bY c∧g<Z.hs.length∧t=lay (back (φ i)++(h c++φ g))∧Z.al.length≤50000 ∧
 ∀ H',Wat C H' p M (bD Z i c g t es)→FrW M H H'→Q .non H'
def A7(C:Addr):Sp:=fun vs H Q _=>∃ (h φ:Nat→List Nat) (ρ rk ρ1 rk1:Nat→Nat) (L:Nat) (p:Addr) (M:List Addr) (Z:WvS) (hd ab:Nat) (t:List Nat) (es:List vK),vs=[.ref p,.int (hd:Nat),.int (ab:Nat),.str (S t)]∧Wat C H p M Z∧WI h φ ρ rk L Z∧WI h φ ρ1 rk1 L (dG Z hd ab t)∧L≤8000∧Z.ws[hd]?=some es∧hd<Z.hs.length∧ab<Z.hs.length∧hd≠ab∧t=lay (back (φ hd)++φ ab)∧Z.al.length≤40000 ∧
 ∀ H',Wat C H' p M (cD ab t (dG Z hd ab t) es)→FrW M H H'→Q .non H'
def sW(C:Addr):Sp:=fun vs H Q _=>∃ (h φ:Nat→List Nat) (rk:Nat→Nat) (L:Nat) (p:Addr) (M:List Addr) (Z:WvS) (E:Nat→Nat→Nat→Prop),vs=[.ref p]∧Wat C H p M Z∧WI h φ (fun x=>x) rk L Z∧EI E (fun x=>x) Z∧L≤8000∧Z.hs.length≤900∧Z.al.length≤10000 ∧
 ∀ (ρ rk':Nat→Nat) (H':Hp) (Z':WvS),Wat C H' p M Z'→WI h φ ρ rk' L Z'→EI E ρ Z'→Z'.al=[]→(∀ x,ρ (ρ x)=ρ x)→Z'.hs.length=Z.hs.length→FrW M H H'→Q .non H'
def tL(C:Addr):Sp:=fun vs H Q _=>∃ (h φ:Nat→List Nat) (ρ rk:Nat→Nat) (L:Nat) (p:Addr) (M:List Addr) (Z:WvS) (c g:Nat) (t:List Nat) (es:List vK),vs=[.ref p,.str (S [c])]∧Wat C H p M Z∧WI h φ ρ rk L Z∧L≤8000∧0<Z.hs.length∧φ 0=[]∧bY c∧Z.ws[ρ 0]?=some es∧dH es c=some (g,t)∧ρ g=ρ 0 ∧
 ∀ (H':Hp) (Z':WvS),Kept C h φ ρ rk L p M H H' Z Z'→Q (.str (S (lay (h c)))) H'
theorem vL{h:List Nat}{f:List Nat}(hh:AllL h)(hf:AllL f):lay (lay f++lay (back f++(h++f))++back (lay f))=lay h:=by
 have bf:=aL hf
 have mid:=AllL.app.mpr ⟨bf,AllL.app.mpr ⟨hh,hf⟩⟩
 rw[← gI hf,hG _ _ _ (dN hf) mid (dN bf),List.append_assoc,eF f _ hf,← List.append_assoc,cP _ _ (AllL.app.mpr ⟨hf,mid⟩) bf]
 have e1:f++(back f++(h++f))++back f=[]++(f++(back f++(h++(f++(back f++[]))))):=by simp only [List.append_assoc,List.nil_append,List.append_nil]
 rw[e1,eE AllL.nil hf (AllL.app.mpr ⟨hh,AllL.app.mpr ⟨hf,AllL.app.mpr ⟨bf,AllL.nil⟩⟩⟩)]
 have e2:=eE (u:=h) (v:=f) (w:=[]) hh hf AllL.nil
 rw[List.append_nil] at e2
 simpa using e2
def Hw(h:Nat→List Nat)(w:List Nat):List Nat:=w.flatMap h
theorem lL{h:Nat→List Nat}(ha:∀ c,bY c→AllL (h c)):∀ {w:List Nat},AllL w→AllL (Hw h w)
 | [],_=>AllL.nil
 | c::w,hw=>by
  obtain⟨a,b⟩:=AllL.cons.mp hw
  show AllL (h c++Hw h w)
  exact AllL.app.mpr ⟨ha c a,lL ha b⟩
theorem yI{h:Nat→List Nat}(w:List Nat)(c:Nat):Hw h (w++[c])=Hw h w++h c:=by
 unfold Hw
 rw[List.flatMap_append]
 simp
theorem xW{x:List Nat}(hx:AllL x):back (lay (back x))=lay x:=by
 rw[← gI (aL hx),dF hx]
theorem zB{h:Nat→List Nat}{u:List Nat}{c:Nat}(hu:AllL (Hw h u))(hc:AllL (h c)):lay (back (lay (back (Hw h u)))++(h c++[]))=lay (Hw h (u++[c])):=by
 rw[xW hu,List.append_nil,eF _ _ hu,yI]
theorem B1{h:Nat→List Nat}{u:List Nat}{c:Nat}(hu:AllL (Hw h u))(hc:AllL (h c)):lay (back (lay (back (Hw h u)))++(h c++lay (back (Hw h (u++[c])))))=[]:=by
 have q:=aL hu
 have q2:=aL hc
 rw[xW hu,eF _ _ hu,yI,cY,← List.append_assoc,cP _ _ (AllL.app.mpr ⟨hu,hc⟩) (AllL.app.mpr ⟨q2,q⟩)]
 have e1:Hw h u++h c++(back (h c)++back (Hw h u))=Hw h u++(h c++(back (h c)++back (Hw h u))):=by simp only [List.append_assoc]
 rw[e1,eE hu hc q]
 exact dY hu
def rQ(C:Addr):Sp:=fun vs H Q _=>∃ (h φ:Nat→List Nat) (rk:Nat→Nat) (L:Nat) (p:Addr) (M:List Addr) (Z:WvS) (E:Nat→Nat→Nat→Prop) (w t:List Nat),vs=[.ref p,.str (S w),.str (S t)]∧Wat C H p M Z∧WI h φ (fun x=>x) rk L Z∧EI E (fun x=>x) Z∧BF E∧L≤8000∧φ 0=[]∧0<Z.hs.length∧Z.hs.length+w.length≤900∧Z.al.length+2 * w.length≤9000∧AllL w ∧
 (∀ c,bY c→h (con c)=back (h c))∧(w≠[]→t=lay (Hw h w))∧(∀ i,i≤w.length→(lay (back (Hw h (w.take i)))).length≤L) ∧
 ∀ (M':List Addr) (H':Hp) (Z':WvS) (φ':Nat→List Nat) (E':Nat→Nat→Nat→Prop),Wat C H' p M' Z'→MU H M M'→FrW M H H'→WI h φ' (fun x=>x) rk L Z'→EI E' (fun x=>x) Z'→BF E'→(∀ p c q,E p c q→E' p c q)→φ' 0=[]→Fw E' (fun x=>x) 0 w 0→Z.hs.length≤Z'.hs.length→Z'.hs.length≤Z.hs.length+w.length→Z'.al.length≤Z.al.length+2 * w.length→Q .non H'
theorem Wat.dom{C:Addr}{H:Hp}{p:Addr}{M:List Addr}{Z:WvS}(w:Wat C H p M Z){x:Addr}(hx:x∈M):∃ o,H x=some o:=by
 obtain⟨dx,hd,tn,wy,al,ds,as,hM,w⟩:=w
 rw[hM] at hx
 rcases List.mem_cons.mp hx with rfl | hx
 ·exact⟨_,w.hh⟩
 rcases List.mem_cons.mp hx with rfl | hx
 ·exact⟨_,w.ht⟩
 rcases List.mem_cons.mp hx with rfl | hx
 ·exact⟨_,w.hw⟩
 rcases List.mem_cons.mp hx with rfl | hx
 ·exact⟨_,w.ha⟩
 ·obtain⟨i,hi⟩:=List.getElem?_of_mem hx
  obtain⟨es,hes⟩:∃ es,Z.ws[i]?=some es:=⟨_,List.getElem?_eq_getElem (by rw[← w.ld];exact(List.getElem?_eq_some_iff.mp hi).1)⟩
  obtain⟨kvs,q,_⟩:=w.dc i x es hi hes
  exact⟨_,q⟩
theorem Wat.new{C:Addr}{H:Hp}{p:Addr}{M:List Addr}{Z:WvS}(w:Wat C H p M Z){x:Addr}(hx:H x=none):x ∉ M:=fun z=>by
 obtain⟨o,e⟩:=w.dom z
 rw[hx] at e;cases e
theorem Wat.out{C:Addr}{H:Hp}{p:Addr}{M:List Addr}{Z:WvS}(w:Wat C H p M Z){b:Addr}{o:HO}(e:H b=some o)(h1:∀ xs,o≠.lst xs)(h2:∀ kvs,o≠.dK kvs):b ∉ M:=by
 obtain⟨dx,hd,tn,wy,al,ds,as,hM,w⟩:=w
 rw[hM]
 exact w.out e h1 h2
theorem Wat.self{C:Addr}{H:Hp}{p:Addr}{M:List Addr}{Z:WvS}(w:Wat C H p M Z):∃ dx hd tn wy al,H p=some (.ins C dx (wf hd tn wy al)):=by
 obtain⟨dx,hd,tn,wy,al,ds,as,hM,w⟩:=w
 exact⟨dx,hd,tn,wy,al,w.ob⟩
theorem Eo{K:PySem.W.Frag}{C:Addr}{H H':Hp}{p:Addr}{M:List Addr}{Z:WvS}(w:Wat C H p M Z)(f:FrW M H H'){t:Addr}{xs:List V}(h:SqT K H t xs):SqT K H' t xs:=by
 rcases h with (h | ⟨o,h⟩) | h
 ·exact .inl (.inl (f _ _ h (w.out h (by intro xs z;cases z) (by intro kvs z;cases z))))
 ·exact .inl (.inr ⟨o,f _ _ h (w.out h (by intro xs z;cases z) (by intro kvs z;cases z))⟩)
 ·exact .inr h
section
variable {C:Addr}{h φ:Nat→List Nat}{ρ rk:Nat→Nat}{L:Nat}{p:Addr}{M:List Addr}{H H1 H2:Hp}{Z Z1 Z2:WvS}
theorem Kept.refl(w:Wat C H p M Z)(I:WI h φ ρ rk L Z):Kept C h φ ρ rk L p M H H Z Z:=⟨w,I,rfl,rfl,rfl,FrW.refl _ _⟩
theorem Kept.trans(a:Kept C h φ ρ rk L p M H H1 Z Z1)(b:Kept C h φ ρ rk L p M H1 H2 Z1 Z2):Kept C h φ ρ rk L p M H H2 Z Z2:=⟨b.at',b.wi,b.ws.trans a.ws,b.al.trans a.al,b.ln.trans a.ln,fun x o e n=>b.fr _ _ (a.fr x o e n) n⟩
theorem Kept.same(a:Kept C h φ ρ rk L p M H H1 Z Z1)(s:Same H1 H2):Kept C h φ ρ rk L p M H H2 Z Z1:=⟨a.at'.same s,a.wi,a.ws,a.al,a.ln,fun x o e n=>s _ _ (a.fr x o e n)⟩
theorem Wat.set(w:Wat C H p M Z){d:Addr}{o:HO}(hd:d ∉ M)(hx:∃ xs,H d=some (.lst xs)):Wat C (L2.upd H d o) p M Z:=by
 obtain⟨xs,ex⟩:=hx
 obtain⟨dx,hd',tn,wy,al,ds,as,hM,w⟩:=w
 rw[hM] at hd
 have nt:∀ {t:Addr} {ys:List V},H t=some (.tup ys)→L2.upd H d o t=some (.tup ys):=fun q=>by rw[aE (dB q ex (by intro z;cases z))];exact q
 have nm:∀ {b:Addr} {u:HO},b∈hd'::tn::wy::al::ds→H b=some u→L2.upd H d o b=some u:=fun hb q=>by rw[aE (fun z=>hd (by rw[← z];exact hb))];exact q
 refine⟨dx,hd',tn,wy,al,ds,as,hM,w.nd,?_,nm (by simp) w.hh,nm (by simp) w.ht,nm (by simp) w.hw,nm (by simp) w.ha,w.ld,fun i d' es h1 h2=>?_,w.la,fun j a e h1 h2=>nt (w.at' j a e h1 h2)⟩
 ·rw[aE (dB w.ob ex (by intro z;cases z))];exact w.ob
 ·obtain⟨kvs,a,b⟩:=w.dc i d' es h1 h2
  exact⟨kvs,nm (by simp[List.mem_of_getElem? h1]) a,b.mono fun t xs q=>nt q⟩
theorem Wat.setD(w:Wat C H p M Z){d:Addr}{o:HO}(hd:d ∉ M)(hx:∃ xs,H d=some (.dK xs)):Wat C (L2.upd H d o) p M Z:=by
 obtain⟨xs,ex⟩:=hx
 obtain⟨dx,hd',tn,wy,al,ds,as,hM,w⟩:=w
 rw[hM] at hd
 have nt:∀ {t:Addr} {ys:List V},H t=some (.tup ys)→L2.upd H d o t=some (.tup ys):=fun q=>by rw[aE (dB q ex (by intro z;cases z))];exact q
 have nm:∀ {b:Addr} {u:HO},b∈hd'::tn::wy::al::ds→H b=some u→L2.upd H d o b=some u:=fun hb q=>by rw[aE (fun z=>hd (by rw[← z];exact hb))];exact q
 refine⟨dx,hd',tn,wy,al,ds,as,hM,w.nd,?_,nm (by simp) w.hh,nm (by simp) w.ht,nm (by simp) w.hw,nm (by simp) w.ha,w.ld,fun i d' es h1 h2=>?_,w.la,fun j a e h1 h2=>nt (w.at' j a e h1 h2)⟩
 ·rw[aE (dB w.ob ex (by intro z;cases z))];exact w.ob
 ·obtain⟨kvs,a,b⟩:=w.dc i d' es h1 h2
  exact⟨kvs,nm (by simp[List.mem_of_getElem? h1]) a,b.mono fun t xs q=>nt q⟩
theorem Kept.set(a:Kept C h φ ρ rk L p M H H1 Z Z1){d:Addr}{o:HO}{xs:List V}(hM:d ∉ M)(hd:H d=none)(hx:H1 d=some (.lst xs)):Kept C h φ ρ rk L p M H (L2.upd H1 d o) Z Z1 :=
 ⟨a.at'.set hM ⟨xs,hx⟩,a.wi,a.ws,a.al,a.ln,fun x u e n=>by rw[aE (aH e hd)];exact a.fr x u e n⟩
theorem Kept.setD(a:Kept C h φ ρ rk L p M H H1 Z Z1){d:Addr}{o:HO}{xs:List (cM×V)}(hM:d ∉ M)(hd:H d=none)(hx:H1 d=some (.dK xs)):Kept C h φ ρ rk L p M H (L2.upd H1 d o) Z Z1 :=
 ⟨a.at'.setD hM ⟨xs,hx⟩,a.wi,a.ws,a.al,a.ln,fun x u e n=>by rw[aE (aH e hd)];exact a.fr x u e n⟩
theorem Kept.free(a:Kept C h φ ρ rk L p M H H1 Z Z1){d:Addr}(hM:d ∉ M)(hd:H1 d=none):H d=none:=by
 cases e:H d with
 | none=>rfl
 | some o=>rw[a.fr d o e hM] at hd;cases hd
end
def Bq(ρ:Nat→Nat)(Z:WvS)(n:Nat):Prop:=∀ c∈aK (n:Nat),∃ es g t,Z.ws[ρ 0]?=some es∧dH es c=some (g,t)∧ρ g=ρ 0
theorem Bq.kept{C:Addr}{h φ:Nat→List Nat}{ρ rk:Nat→Nat}{L:Nat}{p:Addr}{M:List Addr}{H H1:Hp}{Z Z1:WvS}{n:Nat}(b:Bq ρ Z n)(a:Kept C h φ ρ rk L p M H H1 Z Z1):Bq ρ Z1 n:=fun c hc=>by rw[a.ws];exact b c hc
def yS(C:Addr):Sp:=fun vs H Q _=>∃ (h φ:Nat→List Nat) (ρ rk:Nat→Nat) (L:Nat) (n:Nat) (p:Addr) (M:List Addr) (Z:WvS),vs=[.int (n:Nat),.ref p]∧1≤n∧n≤4∧Wat C H p M Z∧WI h φ ρ rk L Z∧L≤8000∧0<Z.hs.length∧Bq ρ Z n ∧
 ∀ (t:Addr) (H':Hp) (Z':WvS),Kept C h φ ρ rk L p M H H' Z Z'→H t=none→H' t=some (.dK [(.inl (ρ 0:Nat),.int 0)])→Q (.ref t) H'
def IY(H:Hp)(t:Addr)(r:Nat):Prop:=∃ o,H t=some (.frz o (.dK [(.inl (r:Nat),.int 0)]))
def uI(C:Addr):Sp:=fun vs H Q _=>∃ (h φ:Nat→List Nat) (ρ rk:Nat→Nat) (L:Nat) (n:Nat) (p:Addr) (M:List Addr) (Z:WvS) (t:Addr),vs=[.int (n:Nat),.ref p,.ref t,.int (ρ 0:Nat)]∧1≤n∧n≤4∧Wat C H p M Z∧WI h φ ρ rk L Z∧L≤8000∧0<Z.hs.length∧Bq ρ Z n∧IY H t (ρ 0) ∧
 ∀ (q:Addr) (H':Hp) (Z':WvS),Kept C h φ ρ rk L p M H H' Z Z'→H q=none→H' q=some (.tup (zs n))→Q (.ref q) H'
structure Alp(n A:Nat)(rs:List (List Nat)):Prop where
 len:rs.length=n
 all:∀ x∈rs,AllL x∧x.length≤A
 gen:∀ c∈aK (n:Nat),∃ v,lay (told rs v)=[c]
def BY(K:PySem.W.Frag):Sp:=fun vs H Q _=>∃ (n A:Nat) (a:Addr) (rs:List (List Nat)),vs=[.int (n:Nat),.ref a]∧1≤n∧n≤4∧Alp n A rs∧A≤100∧SqT K H a (bX rs) ∧
 ∀ (r q:Addr) (H':Hp),Same H H'→H' r=some (.tup [.ref q])→H' q=some (.tup (zs n))→Q (.ref r) H'
def rS(K:PySem.W.Frag):Sp:=fun vs H Q _=>∃ (n A:Nat) (a:Addr) (rs:List (List Nat)),vs=[.ref a]∧1≤n∧n≤4∧Alp n A rs∧A≤100∧SqT K H a (bX rs)∧∀ H',Same H H'→Q (.bl true) H'
theorem yF{E:Nat→Nat→Nat→Prop}{ρ:Nat→Nat}{rs:List (List Nat)}{r:Nat}(hs:BF E)(hr:∀ x∈rs,Fw E ρ r x r):∀ v:List Nat,Fw E ρ r (told rs v) r
 | []=>rfl
 | c::v=>by
  rw[cW]
  refine Fw.app ?_ (yF hs hr v)
  have hx:∀ i,Fw E ρ r (rs.getD i []) r:=fun i=>by
   rw[List.getD_eq_getElem?_getD]
   cases e:rs[i]? with
   | none=>exact rfl
   | some x=>exact hr x (List.mem_of_getElem? e)
  unfold tell
  split
  ·exact hx _
  ·exact(hx _).back hs
theorem DU{h φ:Nat→List Nat}{ρ rk:Nat→Nat}{L:Nat}{Z:WvS}{E:Nat→Nat→Nat→Prop}{n A:Nat}{rs:List (List Nat)}(I:WI h φ ρ rk L Z)(X:EI E ρ Z)(h0:Z.al=[])(hid:∀ x,ρ (ρ x)=ρ x)(hs:BF E)(hA:Alp n A rs)(hr:∀ x∈rs,Fw E ρ (ρ 0) x (ρ 0)):Bq ρ Z n:=fun c hc=>by
 obtain⟨v,hv⟩:=hA.gen c hc
 exact X.loop I h0 hid hs (yF hs hr v) hv
theorem WI.init{h:Nat→List Nat}{L:Nat}(hh:∀ c,bY c→AllL (h c)∧(h c).length≤L):WI h (fun _=>[]) (fun x=>x) (fun _=>0) L FE:=by
 have one:∀ {α:Type} {v y:α} {i:Nat},[v][i]?=some y→i=0∧y=v:=fun {α v y i} e=>by
  cases i with
  | zero=>exact⟨rfl,by simpa using e.symm⟩
  | succ i=>simp at e
 refine⟨rfl,rfl,fun i a e=>?_,fun i hi=>?_,fun i a t e1 e2=>?_,fun i es e=>?_,(fun e he=>by cases he),fun i=>⟨AllL.nil,Nat.zero_le _⟩,hh⟩
 ·obtain⟨rfl,rfl⟩:=one e
  exact⟨by decide,.inl rfl,rfl,fun _=>rfl⟩
 ·have:i<1:=hi
  have:i=0:=by omega
  subst this
  exact⟨by decide,rfl⟩
 ·obtain⟨rfl,rfl⟩:=one e2
  rfl
 ·obtain⟨rfl,rfl⟩:=one e
  exact⟨by simp,fun e he=>by cases he⟩
theorem EI.init:EI (fun _ _ _=>False) (fun x=>x) FE:=by
 refine⟨fun _ _ _ z=>z.elim,fun _ _ _ z=>z.elim,fun i es e x hx=>?_⟩
 cases i with
 | zero =>
  have:es=[]:=by
   have e':some ([]:List vK)=some es:=e
   exact(Option.some.inj e').symm
  subst this
  cases hx
 | succ i=>cases e
structure IvG(n:Nat)(rs bk:List (List Nat))(A B:Nat):Prop where
 rt:RT rs n A
 ro:∀ x∈rs,OfN n x∧lay x=x
 bt:RT bk n B
 bo:∀ x∈bk,OfN n x∧lay x=x
 there:aT rs bk=bN n
 back:aT bk rs=bN n
theorem IvG.symm{n A B:Nat}{rs bk:List (List Nat)}(h:IvG n rs bk A B):IvG n bk rs B A:=⟨h.bt,h.bo,h.rt,h.ro,h.back,h.there⟩
theorem IvG.alp{n A B:Nat}{rs bk:List (List Nat)}(h1:1≤n)(h4:n≤4)(h:IvG n rs bk A B):Alp n A rs:=by
 refine⟨h.rt.len,fun x hx=>⟨h.rt.all x hx,h.rt.le x hx⟩,fun c hc=>⟨tell bk c,?_⟩⟩
 rw[← qN h.bt h.rt,h.back,qZ h1 h4 hc]
theorem B6{h:Nat→List Nat}{x:List Nat}{A B c:Nat}(hB:∀ d,(h d).length≤B)(ha:∀ d,bY d→AllL (h d))(hx:AllL x)(hl:x.length≤A)(hc:bY c)(he:lay (Hw h x)=[c])(j:Nat):(lay (back (Hw h (x.take j)))).length≤A / 2 * B+1:=by
 have len:∀ w:List Nat,(Hw h w).length≤w.length * B:=fun w=>by
  induction w with
  | nil=>exact Nat.zero_le _
  | cons d w ih =>
   show (h d++Hw h w).length≤_
   rw[List.length_append,List.length_cons,Nat.succ_mul]
   have:=hB d
   omega
 have uA:AllL (Hw h (x.take j)):=lL ha fun d hd=>hx d (List.mem_of_mem_take hd)
 have vA:AllL (Hw h (x.drop j)):=lL ha fun d hd=>hx d (List.mem_of_mem_drop hd)
 by_cases q:(x.take j).length≤A / 2
 ·have h1:=eQ (back (Hw h (x.take j)))
  rw[bG] at h1
  have h2:=len (x.take j)
  have h3:(x.take j).length * B≤A / 2 * B:=Nat.mul_le_mul_right B q
  omega
 ·have hd:(x.drop j).length≤A / 2:=by
   have:(x.take j).length+(x.drop j).length=x.length:=by rw[← List.length_append,List.take_append_drop]
   omega
  have e:lay (back (Hw h (x.take j)))=lay (Hw h (x.drop j)++[con c]):=by
   have hxx:Hw h x=Hw h (x.take j)++Hw h (x.drop j):=by
    unfold Hw
    rw[← List.flatMap_append,List.take_append_drop]
   have cA:AllL [c]:=fun d hd=>by rw[List.mem_singleton.mp hd];exact hc
   have bc:back [c]=[con c]:=rfl
   have q1:=aL uA
   have e1:lay (back (Hw h (x.take j))++(Hw h (x.take j)++(Hw h (x.drop j)++[con c])))=lay (Hw h (x.drop j)++[con c]):=by
    have:=uE (u:=[]) AllL.nil uA (AllL.app.mpr ⟨vA,fun d hd=>by rw[List.mem_singleton.mp hd];exact cB hc⟩)
    simpa using this
   rw[← e1]
   have e2:back (Hw h (x.take j))++(Hw h (x.take j)++(Hw h (x.drop j)++[con c]))=back (Hw h (x.take j))++(Hw h x++[con c]):=by rw[hxx];simp only [List.append_assoc]
   have xA:AllL (Hw h x):=lL ha hx
   have cA':AllL [con c]:=fun d hd=>by rw[List.mem_singleton.mp hd];exact cB hc
   rw[e2,← cP _ _ q1 (AllL.app.mpr ⟨xA,cA'⟩),← eF (Hw h x) _ xA,he]
   have:lay ([c]++[con c])=[]:=dY cA
   rw[this,List.append_nil]
  rw[e]
  have h1:=eQ (Hw h (x.drop j)++[con c])
  rw[List.length_append] at h1
  have h2:=len (x.drop j)
  have h3:(x.drop j).length * B≤A / 2 * B:=Nat.mul_le_mul_right B hd
  simp only [List.length_singleton] at h1
  omega
def yR(K:PySem.W.Frag):Sp:=fun vs H Q _=>∃ (n A B:Nat) (a:Addr) (rs bk:List (List Nat)),vs=[.ref a]∧1≤n∧n≤4∧IvG n rs bk A B∧A≤100∧B≤8000∧A / 2 * B+1≤8000∧SqT K H a (bX rs)∧∀ (q:Addr) (H':Hp),H q=none→Same H H'→H' q=some (.tup (bX bk))→Q (.ref q) H'
end Lw
namespace L2
open PySem PySem.Spec PyProof.Rows
section
variable {X:Cx}{K:PySem.W.Frag}
theorem rD(hK:X.K=K)(hc:X.calm=true):fX X (.builtin "max") (fun xs H Q=>∃ (a:Addr) (ns:List Int),xs=[.ref a]∧SqL K H a (ns.map V.int)∧0<ns.length∧∀ m:Int,(∀ x∈ns,x≤m)→Q (.int m) H):=by
 subst hK
 intro pins s σ H xs us Q I r h
 obtain⟨a,ns,rfl,hq,hn0,q⟩:=h
 obtain⟨u,rfl,ru⟩:=r.one
 cases ru
 obtain⟨its,rv,pl,_⟩:=I.list hq
 have hl:=pl.isList
 obtain⟨hn,hi⟩:=xM rv
 obtain⟨ps,hps⟩:=AllInts.items (vs:=its.toArray) (fun v hv=>by
  obtain⟨i,hi',rfl⟩:=List.getElem_of_mem (List.mem_toArray.mp hv)
  obtain⟨t,e⟩:=hi i _ (List.getElem?_eq_getElem hi')
  exact⟨_,t,e⟩)
 rw[hps] at hl
 have hsz0:ps.size=ns.length:=by
  have:=congrArg Array.size hps
  simp[intItems] at this
  omega
 have hnum:∀ i,i<ns.length→numAt ps i=(ns[i]?).getD 0:=fun i hi'=>by
  obtain⟨v,hv⟩:∃ v,its[i]?=some v:=⟨_,List.getElem?_eq_getElem (by omega)⟩
  obtain⟨t,e⟩:=hi i v hv
  have h2:(intItems ps)[i]?=some v:=by rw[← hps];simpa using hv
  obtain⟨t2,e2⟩:=intItems_at h2
  rw[e] at e2
  exact(Value.int.inj e2).1.symm
 refine max_intList (I.ok.hd hc) hl (by omega) fun v h' tk hv hk=>?_
 obtain⟨t,rfl⟩:=intItems_at hv
 refine⟨.int _,H,I.kept (t':=tk) hk,⟨_,rfl⟩,q _ fun x hx=>?_⟩
 obtain⟨j,hj⟩:=List.getElem?_of_mem hx
 have hjl:j<ns.length:=(List.getElem?_eq_some_iff.mp hj).1
 have:=(argBest_gt (numAt ps) (ps.size - 1)).2 j (by omega)
 rw[hnum j hjl,hj] at this
 exact this
end
end L2
namespace Lw
open PySem PySem.Spec PyProof.Rows L2 Ma MaR
section
variable {n:Nat}(h1:1≤n)(h4:n≤4)
include h1 h4
theorem xK{f fb s sb:List (List Nat)}{A B C D:Nat}(hf:RT f n A∧∀ x∈f,OfN n x)(hfb:RT fb n B∧∀ x∈fb,OfN n x)(hs:RT s n C∧∀ x∈s,OfN n x)(hsb:RT sb n D∧∀ x∈sb,OfN n x)(e1:aT f fb=bN n)(e2:aT s sb=bN n):aT (aT f s) (aT sb fb)=bN n:=by
 rw[lT hf.1 hs.1 (rR hsb.1 hfb.1),← lT hs.1 hsb.1 hfb.1,e2]
 have:aT f (aT (bN n) fb)=aT (aT f (bN n)) fb:=(lT hf.1 (iP h1 h4) hfb.1).symm
 rw[this]
 refine Eq.trans ?_ e1
 unfold aT
 rw[List.map_map]
 refine List.map_congr_left fun x hx=>?_
 show retl fb (lay (told (bN n) x))=retl fb x
 rw[qY h1 h4 (hf.2 x hx)]
 exact nB hfb.1 (hf.1.all x hx)
theorem IvG.comp{f fb s sb:List (List Nat)}{A B C D:Nat}(hf:IvG n f fb A B)(hs:RT s n C∧∀ x∈s,OfN n x)(hsb:RT sb n D∧∀ x∈sb,OfN n x)(e1:aT s sb=bN n)(e2:aT sb s=bN n):IvG n (aT f s) (aT sb fb) (A * C) (D * B):=by
 have a:RT f n A∧∀ x∈f,OfN n x:=⟨hf.rt,fun x hx=>(hf.ro x hx).1⟩
 have b:RT fb n B∧∀ x∈fb,OfN n x:=⟨hf.bt,fun x hx=>(hf.bo x hx).1⟩
 refine⟨rR hf.rt hs.1,fun x hx=>⟨tJ h1 h4 hs.2 x hx,dU (oT _ _ x hx)⟩,rR hsb.1 hf.bt,fun x hx=>⟨tJ h1 h4 b.2 x hx,dU (oT _ _ x hx)⟩,xK h1 h4 a b hs hsb hf.there e1,xK h1 h4 hsb hs b a e2 hf.back⟩
theorem IvG.low(A B:Nat)(hA:1≤A)(hB:1≤B):IvG n (bN n) (bN n) A B:=by
 have r:=iP h1 h4
 have o:∀ x∈bN n,OfN n x∧lay x=x:=fun x hx=>by
  refine⟨?_,dU (nP n x hx)⟩
  obtain⟨c,hc,rfl⟩:=List.mem_map.mp hx
  intro d hd
  rw[List.mem_singleton.mp hd]
  exact cZ h1 h4 hc
 have e:aT (bN n) (bN n)=bN n:=BN h1 h4 (fun x hx=>(o x hx).1) (nP n)
 exact⟨⟨r.len,r.all,fun x hx=>Nat.le_trans (r.le x hx) hA⟩,o,⟨r.len,r.all,fun x hx=>Nat.le_trans (r.le x hx) hB⟩,o,e,e⟩
omit h1 h4 in
theorem IvG.le{f fb:List (List Nat)}{A B C D:Nat}(hf:IvG n f fb A B)(h1:∀ x∈f,x.length≤C)(h2:∀ x∈fb,x.length≤D):IvG n f fb C D:=⟨⟨hf.rt.len,hf.rt.all,h1⟩,hf.ro,⟨hf.bt.len,hf.bt.all,h2⟩,hf.bo,hf.there,hf.back⟩
theorem IvG.turn{f fb:List (List Nat)}{A B:Nat}(hf:IvG n f fb A B){g:List Nat}(hg:OfN n g):IvG n (aT f (dC n g)) (aT (dC n (Ma.back g)) fb) (A * (2 * g.length+1)) ((2 * g.length+1) * B):=by
 have gA:=hg.all
 have bo:OfN n (Ma.back g):=fun c hc=>by
  unfold Ma.back at hc
  obtain⟨d,hd,rfl⟩:=List.mem_map.mp (List.mem_reverse.mp hc)
  exact dE (by omega) (by omega) (hg d hd)
 have r2:=hV (n:=n) (g:=Ma.back g) h4 (aL gA)
 rw[bG] at r2
 refine hf.comp h1 h4 ⟨hV h4 gA,kY h1 h4 hg⟩ ⟨r2,kY h1 h4 bo⟩ (pY h1 h4 hg) ?_
 have:=pY h1 h4 bo
 rwa [dF gA] at this
end
def dJ(H:Hp)(a:Addr)(f:List (List Nat)):Prop:=H a=some (.tup (bX f))
def A8:Sp:=fun vs H Q _=>∃ (fl sc:Addr) (n mo:Nat) (st:Int),vs=[.ref fl,.int (n:Nat),.int st,.int (mo:Nat)]∧IsFl H fl sc∧1≤n∧n≤4∧1≤mo∧mo≤8∧0≤st∧st≤100 ∧
 ∀ (p a b:Addr) (f fb:List (List Nat)) (H':Hp),H' p=some (.tup [.ref a,.ref b])→dJ H' a f→dJ H' b fb→IvG n f fb mo mo→IsFl H' fl sc→Kp fl H H'→Q (.ref p) H'
def Bm:Sp:=fun vs H Q _=>∃ (fl sc:Addr) (n mo:Nat) (st:Int),vs=[.ref fl,.int (n:Nat),.int st,.int (mo:Nat)]∧IsFl H fl sc∧1≤n∧n≤4∧1≤mo∧mo≤8∧0≤st∧st≤100 ∧
 ∀ (p a b:Addr) (f fb:List (List Nat)) (H':Hp),H' p=some (.tup [.ref a,.ref b])→dJ H' a f→dJ H' b fb→IvG n f fb mo (5 * mo)→IsFl H' fl sc→Kp fl H H'→Q (.ref p) H'
def yV:Sp:=fun vs H Q _=>∃ (n:Nat) (a:Addr) (cs:List Nat),vs=[.ref a]∧1≤n∧n≤4∧Exch n cs∧H a=some (.tup (aV cs))∧∀ (q:Addr) (H':Hp),H q=none→Same H H'→H' q=some (.tup (aV (xB n cs)))→Q (.ref q) H'
theorem gC{H H':Hp}{fl sc a:Addr}{f:List (List Nat)}(i:IsFl H fl sc)(k:Kp fl H H')(h:dJ H a f):dJ H' a f:=ER i k h
theorem A3{f fb:List (List Nat)}{m:Nat}{ns:List Int}{mx:Int}(hns:ns=(f++fb).map fun x=>((x.length:Nat):Int))(h:∀ x∈ns,x≤mx)(hm:mx≤(m:Nat)):(∀ x∈f,x.length≤m)∧∀ x∈fb,x.length≤m:=by
 have key:∀ x∈f++fb,x.length≤m:=fun x hx=>by
  have:=h ((x.length:Nat):Int) (by rw[hns];exact List.mem_map.mpr ⟨x,hx,rfl⟩)
  omega
 exact⟨fun x hx=>key x (List.mem_append_left _ hx),fun x hx=>key x (List.mem_append_right _ hx)⟩
theorem CB{n:Nat}(h1:1≤n)(h4:n≤4){cs:List Nat}(ex:Exch n cs){d:Nat}(hd:d∈bW n):∃ j e,j<n∧cs[j]?=some e∧bY e∧(cs.map lo)[j]?=some d∧(∀ m,m<j→(cs.map lo)[m]?≠some d)∧(bH e=true→tX cs d=97+j)∧(bH e=false→tX cs d=65+j):=by
 have nd0:(bW n).Nodup:=by
  have:n=1∨n=2∨n=3∨n=4:=by omega
  rcases this with rfl | rfl | rfl | rfl <;> decide
 have nd:(cs.map lo).Nodup:=(ex.perm.nodup_iff).mpr nd0
 have hdL:=eR hd
 have hdl:=fH hd
 have un:∀ {j:Nat},(cs.map lo)[j]?=some d→∀ m,m<j→(cs.map lo)[m]?≠some d:=fun {j} hj m hm z=>by
  obtain⟨l1,e1⟩:=List.getElem?_eq_some_iff.mp z
  obtain⟨l2,e2⟩:=List.getElem?_eq_some_iff.mp hj
  have:=(List.getElem_inj nd).mp (e1.trans e2.symm)
  omega
 have at':∀ {e:Nat},e∈cs→cs[cs.idxOf e]?=some e∧cs.idxOf e<n:=fun {e} he=>by
  have hj:cs.idxOf e<cs.length:=List.idxOf_lt_length_of_mem he
  exact⟨by rw[List.getElem?_eq_getElem hj,List.getElem_idxOf hj],by rw[← ex.len];exact hj⟩
 by_cases hin:d∈cs
 ·obtain⟨a,b⟩:=at' hin
  have hl:(cs.map lo)[cs.idxOf d]?=some d:=by rw[List.getElem?_map,a,Option.map_some,xE hdL hdl]
  exact⟨_,d,b,a,hdL,hl,un hl,fun _=>by unfold tX;rw[if_pos hin],fun z=>by rw[hdl] at z;cases z⟩
 ·have hin2:con d∈cs:=(ex.has h1 h4 hd).resolve_left hin
  obtain⟨a,b⟩:=at' hin2
  have hcl:bH (con d)=false∧lo (con d)=d:=by
   have hb:97≤d∧d≤100:=by
    have:n=1∨n=2∨n=3∨n=4:=by omega
    have key:∀ d∈bW n,97≤d∧d≤100:=by rcases this with rfl | rfl | rfl | rfl <;> decide
    exact key d hd
   have:d=97∨d=98∨d=99∨d=100:=by omega
   rcases this with rfl | rfl | rfl | rfl <;> decide
  have hl:(cs.map lo)[cs.idxOf (con d)]?=some d:=by rw[List.getElem?_map,a,Option.map_some,hcl.2]
  exact⟨_,con d,b,a,cB hdL,hl,un hl,(fun z=>by rw[hcl.1] at z;cases z),fun _=>by unfold tX;rw[if_neg hin]⟩
theorem oG{n A B:Nat}(h1:1≤n)(h4:n≤4){o b:List (List Nat)}(iv:IvG n o b A B){w:List Nat}(ho:OfN n w)(hp:bI w):retl b (retl o w)=w:=by
 rw[← qC iv.rt iv.bt,iv.there,pT h1 h4 ho hp]
theorem kM{K:PySem.W.Frag}{H:Hp}{ws:List (List Nat)}(i:Nat)(x y:V)(hx:(bX ws)[i]?=some x)(hy:(bX ws)[i]?=some y):Lq K H 0 x y:=by
 rw[hx] at hy
 cases hy
 obtain⟨w,_,rfl⟩:=dQ hx
 exact .flat rfl
end Lw
namespace Lw
open PySem PySem.Spec PyProof.Rows L2 Ma
def fT(i:Nat):Stmt:=PySem.Challenge.pw_newletters_k19_whole_there_and_back.main.body.getD i (.Pass ⟨0,0,0,0⟩)
abbrev F0(x:Str)(st:Stmt)(kV dc pm:Value)(an:Option Addr)(cd ct:Value):FuncData:=PySem.W.fnOf x x (dS st) (dL st) (aF st) .none kV dc pm an cd ct
theorem Ja{K:PySem.W.Frag}{mg:Str→Option Value}{x:Str}{st:Stmt}{ps:List Str}{f:Addr}{oc:Value}{od an:Option Addr}{osl:Array (Option Value)}{kV doc pm cdv ct:Value}(l:K.lookup f=some ⟨oc,od,.func (F0 x st kV doc pm an cdv ct),osl⟩)
  (c:PySem.W.codeIn K cdv x=true) (k:PySem.W.keepIn K (.ref f)=true) (m:mg x=some (.ref f)) (h:∀ (kV doc pm:Value) (an:Option Addr) (cdv ct:Value) (us:List Value),us.length=ps.length→bindArgs (F0 x st kV doc pm an cdv ct) ⟨us,[]⟩=pure (ps.zip us)):Df K mg x st ps f (F0 x st kV doc pm an cdv ct) :=
 ⟨lY l c k,(lY l c k).binds h,m⟩
abbrev EF:Stmt:=fT 6
theorem F9:FnScope ["n"] ["n"] (aF EF):=fR (by decide +kernel)
abbrev D7:Stmt:=fT 7
theorem Gy:FnScope ["n"] ["n"] (aF D7):=fR (by decide +kernel)
abbrev FA:Stmt:=fT 8
theorem GH:FnScope ["letter"] ["letter"] (aF FA):=fR (by decide +kernel)
abbrev BW:Stmt:=fT 10
theorem sc_zd1:FnScope ["text","kept","letter"] ["text"] (aF BW):=fR (by decide +kernel)
abbrev CO:Stmt:=fT 11
theorem GW:FnScope ["word"] ["word"] (aF CO):=fR (by decide +kernel)
abbrev AG:Stmt:=fT 12
theorem DW:FnScope ["one","other"] ["one","other"] (aF AG):=fR (by decide +kernel)
abbrev EH:Stmt:=jB (fT 14) 0
theorem Hg:FnScope ["self"] ["self"] (aF EH):=fR (by decide +kernel)
abbrev E5:Stmt:=jB (fT 14) 1
theorem sc_zv:FnScope ["self","place","told","above"] ["self","place","told"] (aF E5):=fR (by decide +kernel)
abbrev D2:Stmt:=jB (fT 14) 2
theorem Gq:FnScope ["self","place"] ["self","place"] (aF D2):=fR (by decide +kernel)
abbrev Et:Stmt:=jB (fT 14) 3
theorem sc_zm:FnScope ["self","head","letter","way"] ["self","head","letter"] (aF Et):=fR (by decide +kernel)
abbrev EG:Stmt:=jB (fT 14) 4
theorem sc_zh:FnScope ["self","place"] ["self"] (aF EG):=fR (by decide +kernel)
abbrev Fx:Stmt:=jB (fT 14) 5
theorem sc_zo:FnScope ["self","place","letter","goal","told","known"] ["self","place","letter","goal","told"] (aF Fx):=fR (by decide +kernel)
abbrev DZ:Stmt:=jB (fT 14) 6
theorem sc_zk:FnScope ["self","word","told","here","number","letter","is_last","goal","part"] ["self","word","told"] (aF DZ):=fR (by decide +kernel)
abbrev E6:Stmt:=jB (fT 14) 7
theorem sc_zf:FnScope ["self","head","above","turn","letter","way"] ["self","head","above","turn"] (aF E6):=fR (by decide +kernel)
abbrev Ev:Stmt:=jB (fT 14) 8
theorem sc_z1:FnScope ["self","pair","one","other"] ["self"] (aF Ev):=fR (by decide +kernel)
abbrev Eu:Stmt:=jB (fT 14) 9
theorem sc_zc:FnScope ["self","letter","begin","way","end"] ["self","letter"] (aF Eu):=fR (by decide +kernel)
abbrev Es:Stmt:=fT 15
theorem sc_zd:FnScope ["n","weave","heads","numbers","done","letter","goal"] ["n","weave"] (aF Es):=fR (by decide +kernel)
abbrev AH:Stmt:=fT 16
theorem sc_zz:FnScope ["n","weave","numbers","head","goals"] ["n","weave","numbers","head"] (aF AH):=fR (by decide +kernel)
abbrev xL:Stmt:=fT 17
theorem sc_zg1:FnScope ["n","words","weave","word","numbers"] ["n","words"] (aF xL):=fR (by decide +kernel)
abbrev DV:Stmt:=fT 19
theorem sc_zq:FnScope ["retelling","n","web"] ["retelling"] (aF DV):=fR (by decide +kernel)
abbrev C2:Stmt:=fT 20
theorem sc_zw:FnScope ["retelling","letters","weave","letter","word"] ["retelling"] (aF C2):=fR (by decide +kernel)
abbrev Ez:Stmt:=fT 22
theorem sc_zg:FnScope ["retelling","told","letter","word"] ["retelling"] (aF Ez):=fR (by decide +kernel)
abbrev yT:Stmt:=fT 23
theorem sc_zi1:FnScope ["retelling","word","told"] ["retelling","word"] (aF yT):=fR (by decide +kernel)
abbrev CH:Stmt:=fT 24
theorem FK:FnScope ["one","other"] ["one","other"] (aF CH):=fR (by decide +kernel)
abbrev Em:Stmt:=fT 25
theorem GN:FnScope ["n"] ["n"] (aF Em):=fR (by decide +kernel)
abbrev CY:Stmt:=fT 26
theorem sc_z5:FnScope ["n","word","back"] ["n","word"] (aF CY):=fR (by decide +kernel)
abbrev Fr:Stmt:=fT 28
theorem G_:FnScope ["_law_script"] ["_law_script"] (aF Fr):=fR (by decide +kernel)
abbrev Fo:Stmt:=fT 29
theorem sc_z7:FnScope ["_law_flow_here","_law_many","_law_cell","_law_digit"] ["_law_flow_here","_law_many"] (aF Fo):=fR (by decide +kernel)
abbrev Ff:Stmt:=fT 30
theorem Hl:FnScope ["_law_n"] ["_law_n"] (aF Ff):=fR (by decide +kernel)
abbrev DX:Stmt:=fT 31
theorem FV:FnScope ["_law_letter"] ["_law_letter"] (aF DX):=fR (by decide +kernel)
abbrev yG:Stmt:=fT 32
theorem En:FnScope ["_law_word_here"] ["_law_word_here"] (aF yG):=fR (by decide +kernel)
abbrev yC:Stmt:=fT 33
theorem Fi:FnScope ["_law_word_here"] ["_law_word_here"] (aF yC):=fR (by decide +kernel)
abbrev BE:Stmt:=fT 34
theorem sc_zc1:FnScope ["_law_text","_law_found","_law_letter"] ["_law_text"] (aF BE):=fR (by decide +kernel)
abbrev Dv:Stmt:=fT 35
theorem sc_z8:FnScope ["_law_flow_here","_law_n","_law_most","_law_found","_law_letters_here","_law_k","_law_some"] ["_law_flow_here","_law_n","_law_most"] (aF Dv):=fR (by decide +kernel)
abbrev Ei:Stmt:=fT 36
theorem sc_z2:FnScope ["_law_retelling","_law_word_here","_law_found","_law_letter","_law_told"] ["_law_retelling","_law_word_here"] (aF Ei):=fR (by decide +kernel)
abbrev yQ:Stmt:=fT 37
theorem D4:FnScope ["_law_one","_law_other"] ["_law_one","_law_other"] (aF yQ):=fR (by decide +kernel)
abbrev B4:Stmt:=fT 38
theorem Fs:FnScope ["_law_n"] ["_law_n"] (aF B4):=fR (by decide +kernel)
abbrev Fm:Stmt:=fT 39
theorem sc_ze:FnScope ["_law_flow_here","_law_n","_law_letter","_law_side","_law_other"] ["_law_flow_here","_law_n"] (aF Fm):=fR (by decide +kernel)
abbrev EM:Stmt:=fT 40
theorem sc_zj:FnScope ["_law_n","_law_change","_law_letter","_law_side","_law_found","_law_other","_law_told"] ["_law_n","_law_change"] (aF EM):=fR (by decide +kernel)
abbrev CT:Stmt:=fT 41
theorem sc_zi:FnScope ["_law_change","_law_letter","_law_side","_law_other"] ["_law_change"] (aF CT):=fR (by decide +kernel)
abbrev Cz:Stmt:=fT 42
theorem sc_zt:FnScope ["_law_flow_here","_law_n","_law_steps","_law_most","_law_found","_law_back_here","_law_k","_law_change","_law_further","_law_further_back"] ["_law_flow_here","_law_n","_law_steps","_law_most"] (aF Cz):=fR (by decide +kernel)
abbrev Ft:Stmt:=fT 43
theorem sc_zs:FnScope ["_law_flow_here","_law_n","_law_left","_law_found","_law_k","_law_letter"] ["_law_flow_here","_law_n"] (aF Ft):=fR (by decide +kernel)
abbrev Cr:Stmt:=fT 44
theorem GG:FnScope ["_law_n","_law_g"] ["_law_n","_law_g"] (aF Cr):=fR (by decide +kernel)
abbrev Ci:Stmt:=fT 45
theorem sc_zb:FnScope ["_law_told","_law_found","_law_letter","_law_small"] ["_law_told"] (aF Ci):=fR (by decide +kernel)
abbrev C7:Stmt:=fT 46
theorem sc_za:FnScope ["_law_flow_here","_law_n","_law_steps","_law_most","_law_found","_law_back_here","_law_told","_law_g","_law_further"] ["_law_flow_here","_law_n","_law_steps","_law_most"] (aF C7):=fR (by decide +kernel)
abbrev tY:Stmt:=fT 47
theorem sc_law:FnScope ["_law_script","_law_flow_here","_law_n","_law_one","_law_other","_law_word_here","_law_backs","_law_retelling","_law_back_here","_law_g","_law_due"] ["_law_script"] (aF tY):=fR (by decide +kernel)
structure Txt(P:Program)(w:World)(K:PySem.W.Frag)(mg:Str→Option Value)(Ji:Addr)(Jj:Addr)(Jk:Addr):Prop where
 m_Weave:mg "Weave"=some (.ref Jk)
 o_Weave:Own K Jk
 n_Weave_heads:NoAttr K Jk "heads"
 n_Weave_turns:NoAttr K Jk "turns"
 n_Weave_ways:NoAttr K Jk "ways"
 n_Weave_alike:NoAttr K Jk "alike"
 b_enumerate:mg "enumerate"=none
 b_int:mg "int"=none
 b_len:mg "len"=none
 b_list:mg "list"=none
 b_max:mg "max"=none
 b_range:mg "range"=none
 b_reversed:mg "reversed"=none
 b_sorted:mg "sorted"=none
 b_tuple:mg "tuple"=none
 b_zip:mg "zip"=none
 m_CONTRARIES:mg "CONTRARIES"=some (.ref Ji)
 t_CONTRARIES:∀ h,K.In h→StrTab P w h Ji AJ
 m_LETTERS:mg "LETTERS"=some (.ref Jj)
 t_LETTERS:∀ H,SqT K H Jj letV
section
variable {P:Program}{w:World}{K:PySem.W.Frag}{mg:Str→Option Value}{base:Heap}{Ji:Addr}{Jj:Addr}{Jk:Addr}
theorem FW{f:Addr}{fd:FuncData}(D:Df K mg "_law_flow" Fr ["_law_script"] f fd)(T:Txt P w K mg Ji Jj Jk):Cl P w K mg base "_law_flow" ["_law_script"] 1 (Cb K):=by
 refine D.cl (D.F.ok G_ (fun vs H Q E h=>?_) (fun cdv A outer s H vs Q E hr h=>?_))
 ·obtain⟨a,ns,rfl,_⟩:=h
  rfl
 ·obtain⟨a,ns,rfl,hs,hl,k⟩:=h
  refine⟨_,(aG (aS (dW (aA (bB (xG (K:=K) rfl) (by rfl) T.b_list boot_list (aA (pv 0) aB)) (aA aI (aA aI (aA aI (aA aI aB)))))))),?_⟩
  refine⟨_,rfl,a,_,rfl,.inl hs,fun l hl0=>⟨aN (by simp),fun fl hf=>?_⟩⟩
  have ne:l≠fl:=(aH (aC (H:=H) (a:=l) (o:=HO.lst (ns.map V.int))) hf)
  have hH:H fl=none:=by rw[aE ne.symm] at hf;exact hf
  refine k fl l _ hH ((Same.new hl0).upd' hf) ⟨ns,0,0,1,0,aC,?_,hl,by decide,by decide,by decide⟩
  rw[aE ne,aC]
theorem GS{f:Addr}{fd:FuncData}(D:Df K mg "_law_pick" Fo ["_law_flow_here","_law_many"] f fd)(T:Txt P w K mg Ji Jj Jk):Cl P w K mg base "_law_pick" ["_law_flow_here","_law_many"] 1 lS:=by
 refine D.cl (D.F.ok sc_z7 (fun vs H Q E h=>?_) (fun cdv A outer s H vs Q E hr h=>?_))
 ·obtain⟨fl,sc,m,rfl,_⟩:=h
  rfl
 ·obtain⟨fl,sc,m,rfl,hf,h0,hm,k⟩:=h
  obtain⟨ns,i,a,b,c,h1,h2,hl,hi,ha,hb⟩:=id hf
  have hne:sc≠fl:=dB h2 h1 (by intro z;cases ns with | nil=>cases z | cons n ns=>cases z)
  refine⟨_,(iT (eG (pw_and (aY nC (aR (aO (K:=K) rfl) (pv 0) aI (fun _ _=>rfl)) aI (bC _)) (pw_and1 (aY DS (aR (aO (K:=K) rfl) (pv 0) aI (fun _ _=>rfl)) (bR (cJ (K:=K) rfl) (by rfl) T.b_len PySem.boot_len (aA (aR (aO (K:=K) rfl) (pv 0) aI (fun _ _=>rfl)) aB)) (bC _)))).pt (aD (aM (i:=2) sc_z7.nd rfl (Or.inl rfl) (aR (aO (K:=K) rfl) (aR (aO (K:=K) rfl) (pv 0) aI (fun _ _=>rfl)) (aR (aO (K:=K) rfl) (pv 0) aI (fun _ _=>rfl)) (fun _ _=>rfl)))
   (aD (eK (bE fQ (aR (aO (K:=K) rfl) (pv 0) aI (fun _ _=>rfl)) aI) (gE (pv 0) aI dP))
   (aG (eG (aY FQ (pv 2) (bE Fn aI aI) (bC _)) (aG (eK (pv 2) (gE (pv 0) aI dP))) (aG (eK (bE jP (bE fQ (bE fQ (bE jH (aR (aO (K:=K) rfl) (pv 0) aI (fun _ _=>rfl)) aI) (bE jP (pv 2) aI)) aI) aI) (gE (pv 0) aI dP))))))) cU)
   (aD (eG (aY xP (aR (aO (K:=K) rfl) (pv 0) aI (fun _ _=>rfl)) aI (bC _)) (aD (aM (i:=3) sc_z7.nd rfl (Or.inl rfl) (bE jP (aR (aO (K:=K) rfl) (pv 0) aI (fun _ _=>rfl)) (pv 1)))
   (aD (eK (bE sC (aR (aO (K:=K) rfl) (pv 0) aI (fun _ _=>rfl)) (pv 1)) (gE (pv 0) aI dP))
   (aG (aS (pv 3))))) cU)
   (aD (eK (bE fQ (aR (aO (K:=K) rfl) (pv 0) aI (fun _ _=>rfl)) aI) (gE (pv 0) aI dP))
   (aD (eK (bE jP (bE fQ (bE fQ (bE jH (aR (aO (K:=K) rfl) (pv 0) aI (fun _ _=>rfl)) aI) aI) (aR (aO (K:=K) rfl) (pv 0) aI (fun _ _=>rfl))) aI) (gE (pv 0) aI dP))
   (aG (aS (bE jP (bE sC (bE jP (bE jH (bE fQ (bE jP (aR (aO (K:=K) rfl) (pv 0) aI (fun _ _=>rfl)) aI) aI) (bE fQ (bE sC (aR (aO (K:=K) rfl) (pv 0) aI (fun _ _=>rfl)) aI) aI)) aI) aI) (pv 1)))))))),?_⟩
  refine⟨fun σ H1=>(∃ v,σ=[some (.ref fl),some (.int m),v,none])∧IsFl H1 fl sc∧Kp fl H H1,?_,?_⟩
  ·refine⟨_,rfl,fl,_,2,_,rfl,rfl,SqL.of h1,rfl,rfl,_,rfl,gQ (fun e=>?_) (fun _=>gF ⟨⟨none,rfl⟩,hf,Kp.refl _ _⟩)⟩
   refine⟨_,rfl,fl,_,1,_,rfl,rfl,SqL.of h1,rfl,_,rfl,fl,_,0,_,rfl,rfl,SqL.of h1,rfl,sc,_,rfl,.inl (SqL.of h2),_,_,rfl,rfl,_,rfl,gQ (fun e2=>?_) (fun _=>⟨⟨none,rfl⟩,hf,Kp.refl _ _⟩)⟩
   have hlt:i<((ns.map V.int).length:Int):=of_decide_eq_true e2
   rw[List.length_map] at hlt
   have hil:i.toNat<ns.length:=by omega
   have hat:vJ (ns.map V.int) i=some (.int ns[i.toNat]):=by
    have q:(ns.map V.int)[i.toNat]?=some (.int ns[i.toNat]):=by rw[List.getElem?_map,List.getElem?_eq_getElem hil];rfl
    have q2:=cT q
    rwa [Int.toNat_of_nonneg hi] at q2
   refine⟨_,rfl,fl,_,0,_,rfl,rfl,SqL.of h1,rfl,_,rfl,fl,_,1,_,rfl,rfl,SqL.of h1,rfl,sc,_,i,_,rfl,rfl,SqL.of h2,hat,?_⟩
   refine⟨_,rfl,fl,_,1,_,rfl,rfl,SqL.of h1,rfl,_,_,rfl,rfl,_,rfl,fl,_,1,1,rfl,rfl,h1,rfl,?_⟩
   refine⟨_,rfl,_,_,rfl,rfl,⟨by decide,by decide,by decide⟩,_,_,rfl,rfl,_,rfl,gQ (fun e3=>?_) (fun _=>?_)⟩
   ·have hc:(10:Int) ^ (18:Int).toNat≤ns[i.toNat]:=of_decide_eq_true e3
    have hp:(0:Int)≤10 ^ (18:Int).toNat:=by decide
    refine⟨_,rfl,_,rfl,fl,_,2,2,rfl,rfl,aC,rfl,⟨_,rfl⟩,⟨ns,i+1,ns[i.toNat],b,c,aC,?_,hl,by omega,by omega,hb⟩,((Kp.refl fl H).self).self⟩
    rw[aE hne,aE hne];exact h2
   ·refine⟨_,rfl,fl,_,3,_,rfl,rfl,SqL.of aC,rfl,_,_,rfl,rfl,.inr ⟨by decide,by decide⟩,_,rfl,_,_,rfl,rfl,(by show (0:Int)<1000003;decide),_,_,rfl,rfl,_,_,rfl,rfl,_,_,rfl,rfl,(by show (0:Int)<2147483647;decide),_,rfl,fl,_,3,3,rfl,rfl,aC,rfl,⟨_,rfl⟩,⟨ns,i+1,a,_,c,aC,?_,hl,by omega,ha,Int.emod_nonneg _ (by decide)⟩,((Kp.refl fl H).self).self⟩
    rw[aE hne,aE hne];exact h2
  ·rintro _ H1 ⟨⟨v,rfl⟩,⟨ns,i,a,b,c,h1,h2,hl,hi,ha,hb⟩,kp⟩
   have hne:sc≠fl:=dB h2 h1 (by intro z;cases ns with | nil=>cases z | cons n ns=>cases z)
   refine⟨_,rfl,fl,_,2,_,rfl,rfl,SqL.of h1,rfl,_,_,rfl,rfl,_,rfl,gQ (fun e=>?_) (fun _=>?_)⟩
   ·refine⟨_,rfl,fl,_,2,_,rfl,rfl,SqL.of h1,rfl,_,rfl,_,_,rfl,rfl,h0,?_⟩
    refine⟨_,rfl,fl,_,2,_,rfl,rfl,SqL.of h1,rfl,_,rfl,_,_,rfl,rfl,⟨h0,hm⟩,_,rfl,fl,_,2,2,rfl,rfl,h1,rfl,?_⟩
    refine⟨_,rfl,k _ _ (Int.emod_nonneg _ (by omega)) (Int.emod_lt_of_pos _ h0) ⟨ns,i,a / m,b,c,aC,?_,hl,hi,Int.ediv_nonneg ha (by omega),hb⟩ kp.self⟩
    rw[aE hne];exact h2
   ·refine⟨_,rfl,fl,_,4,_,rfl,rfl,SqL.of h1,rfl,_,_,rfl,rfl,_,rfl,fl,_,4,4,rfl,rfl,h1,rfl,?_⟩
    refine⟨_,rfl,fl,_,3,_,rfl,rfl,SqL.of aC,rfl,_,_,rfl,rfl,.inr ⟨by decide,by decide⟩,_,_,rfl,rfl,_,rfl,fl,_,4,_,rfl,rfl,SqL.of aC,rfl,_,_,rfl,rfl,_,_,rfl,rfl,(by show (0:Int)<2147483647;decide),_,rfl,fl,_,3,3,rfl,rfl,aC,rfl,?_⟩
    have hb3:∀ x:Int,0≤x % 2147483647∧x % 2147483647<2147483647:=fun x=>⟨Int.emod_nonneg _ (by decide),Int.emod_lt_of_pos _ (by decide)⟩
    refine⟨_,rfl,fl,_,3,_,rfl,rfl,SqL.of aC,rfl,_,_,rfl,rfl,(by show (0:Int)<65521;decide),_,_,rfl,rfl,_,rfl,fl,_,3,_,rfl,rfl,SqL.of aC,rfl,_,_,rfl,rfl,⟨by decide,by decide⟩,_,_,rfl,rfl,_,_,rfl,rfl,.inl ⟨?_,?_⟩,_,_,rfl,rfl,(by show (0:Int)<1000003;decide),_,_,rfl,rfl,⟨by decide,by decide⟩,_,rfl,_,_,rfl,rfl,h0,?_⟩
    ·have:=Int.emod_nonneg ((b * 48271+12820163+(c+1)) % 2147483647) (show (65521:Int)≠0 by decide);omega
    ·have:=Int.emod_lt_of_pos ((b * 48271+12820163+(c+1)) % 2147483647) (show (0:Int)<65521 by decide);omega
    ·refine k _ _ (Int.emod_nonneg _ (by omega)) (Int.emod_lt_of_pos _ h0) ⟨ns,i,a,_,c+1,aC,?_,hl,hi,ha,(hb3 _).1⟩ kp.self.self
     rw[aE hne,aE hne];exact h2
theorem Ga{f:Addr}{fd:FuncData}(D:Df K mg "_law_contrary" DX ["_law_letter"] f fd)(T:Txt P w K mg Ji Jj Jk):Cl P w K mg base "_law_contrary" ["_law_letter"] 1 hZ:=by
 refine D.cl (D.F.ok FV (fun vs H Q E h=>?_) (fun cdv A outer s H vs Q E hr h=>?_))
 ·obtain⟨c,rfl,_⟩:=h
  rfl
 ·obtain⟨c,rfl,hc,k⟩:=h
  refine⟨_,(aD (eG (rN (eC (K:=K) rfl PySem.F.plainAttrs_str PySem.F.slot_str_islower PySem.F.type_str_islower vU (pv 0))) (aG (aS (eC (K:=K) rfl PySem.F.plainAttrs_str PySem.F.slot_str_upper PySem.F.type_str_upper vD (pv 0)))) cU)
   (aG (aS (eC (K:=K) rfl PySem.F.plainAttrs_str PySem.F.slot_str_lower PySem.F.type_str_lower jY (pv 0))))),?_⟩
  refine⟨_,rfl,rfl,_,rfl,rfl,_,rfl,?_⟩
  dsimp only
  rw[zX hc]
  refine gQ (fun e=>?_) (fun e=>?_)
  ·refine⟨_,rfl,rfl,_,rfl,rfl,?_,?_⟩
   ·rw[nA hc e];exact wC _
   ·rw[nA hc e];exact k H (Same.refl H)
  ·have e':bH c=false:=by simpa using e
   refine⟨_,rfl,rfl,_,rfl,rfl,?_,?_⟩
   ·rw[yH hc e'];exact wC _
   ·rw[yH hc e'];exact k H (Same.refl H)
theorem Hs{f:Addr}{fd:FuncData}(D:Df K mg "_law_letters" Ff ["_law_n"] f fd)(T:Txt P w K mg Ji Jj Jk):Cl P w K mg base "_law_letters" ["_law_n"] 1 lC:=by
 refine D.cl (D.F.ok Hl (fun vs H Q E h=>?_) (fun cdv A outer s H vs Q E hr h=>?_))
 ·obtain⟨n,rfl,_⟩:=h
  rfl
 ·obtain⟨n,rfl,h1,h4,k⟩:=h
  refine⟨_,(aG (aS (bB (jQ rfl) (by rfl) T.b_list boot_list (aA (fM lB cE fV (fE (bE jH aI (pv 0)))) aB)))),?_⟩
  have e:Txt.slice (Str.ofString "aAbBcCdD") none (some (2 * n))=S (aK n):=by
   rw[show Str.ofString "aAbBcCdD"=S lets by decide +kernel,gJ lets (by omega) (by show (2 * n)≤(8:Int);omega)]
   rfl
  refine⟨_,rfl,_,_,rfl,rfl,.inl ⟨by decide,by decide⟩,_,rfl,_,rfl,by decide +kernel,aK n,by rw[e],?_,fun l hl=>k l _ hl (Same.new hl) aC⟩
  rw[iO h1 h4];omega
theorem Fk{f:Addr}{fd:FuncData}(D:Df K mg "_law_laid" BE ["_law_text"] f fd)(T:Txt P w K mg Ji Jj Jk)(c_zu:Cl P w K mg base "_law_contrary" ["_law_letter"] 1 hZ):Cl P w K mg base "_law_laid" ["_law_text"] 2 mB:=by
 refine D.cl (D.F.ok sc_zc1 (fun vs H Q E h=>?_) (fun cdv A outer s H vs Q E hr h=>?_))
 ·obtain⟨x,rfl,_⟩:=h
  rfl
 ·obtain⟨x,rfl,hx,hlen,k⟩:=h
  refine⟨_,(aD (aM (i:=1) sc_zc1.nd rfl (Or.inl rfl) (dW aB))
   (aD (dO PassesOwn.never rfl (iE (pv 0)) (bF (i:=2) sc_zc1.nd rfl (Or.inl rfl)) (aG (eG (pw_and (aY xP (bR (cJ (K:=K) rfl) (by rfl) T.b_len PySem.boot_len (aA (pv 1) aB)) aI (bC _)) (pw_and1 (aY nC (aR (aO (K:=K) rfl) (pv 1) (Bv vQ aI) (fun _ _=>rfl)) (pC c_zu hr (aA (pv 2) aB)) (bC _)))).pt (aG (bU (eC (K:=K) rfl PySem.F.plainAttrs_list PySem.F.slot_list_pop PySem.F.type_list_pop BG (pv 1)))) (aG (bU (cS (K:=K) rfl PySem.F.plainAttrs_list PySem.F.slot_list_append PySem.F.type_list_append cO (pv 1) (aA (pv 2) aB)))))))
   (aG (aS (cS (K:=K) rfl PySem.F.plainAttrs_str PySem.F.slot_str_join PySem.F.type_str_join (iL (K:=K) rfl) cE (aA (pv 1) aB)))))),?_⟩
  refine⟨aN (by simp),fun l hl=>?_⟩
  refine⟨_,rfl,S x,rfl,kK (w:=x) (fun i σ H1=>(∃ v,σ=[some (.str (S x)),some (.ref l),v])∧Same H H1∧H1 l=some (.lst (aV (act [] (x.take i)).reverse))) ⟨⟨none,rfl⟩,Same.new hl,aC⟩ ?_ ?_⟩
  ·rintro i c σ H1 hc ⟨⟨v,rfl⟩,s1,e1⟩
   have hi:i<x.length:=(List.getElem?_eq_some_iff.mp hc).1
   have hcL:bY c:=hx c (List.mem_of_getElem? hc)
   have hn:act [] (x.take (i+1))=push (act [] (x.take i)) c:=by rw[bM hc,fL]
   have hsz:(act [] (x.take i)).length≤60000:=by
    have:=mS (x.take i) []
    rw[List.length_take] at this
    simp at this
    omega
   refine⟨_,rfl,l,_,rfl,.inl (SqL.of e1),_,_,rfl,rfl,_,rfl,gQ (fun e=>?_) (fun e=>?_)⟩
   ·have hne:0<(act [] (x.take i)).length:=by
     have e':=of_decide_eq_true e
     rw[aX,List.length_reverse] at e'
     omega
    obtain⟨y,r,hk⟩:∃ y r,act [] (x.take i)=y::r:=by
     cases hq:act [] (x.take i) with
     | nil=>rw[hq] at hne;simp at hne
     | cons y r=>exact⟨y,r,rfl⟩
    rw[hk] at e1 hn hsz
    have e2:H1 l=some (.lst (aV r.reverse++[.str (S [y])])):=by rw[e1,List.reverse_cons,bV]
    refine⟨_,rfl,_,rfl,l,_,_,_,rfl,rfl,SqL.of e2,nD _ _,_,rfl,c,rfl,hcL,fun H2 s2=>⟨rfl,_,rfl,gQ (fun q=>?_) (fun q=>?_)⟩⟩
    ·rw[eZ] at q
     have q':y=con c:=by simpa using q
     have hp:push (y::r) c=r:=by unfold push;dsimp only;rw[if_pos q']
     rw[hp] at hn
     refine⟨_,rfl,.inl ⟨rfl,_,SqL.of (s2 _ _ e2)⟩,l,_,_,rfl,rfl,s2 _ _ e2,by simp;rfl,⟨_,rfl⟩,(s1.trans s2).upd hl,?_⟩
     rw[aC,hn]
     simp
    ·rw[eZ] at q
     have q':¬ y=con c:=by simpa using q
     have hp:push (y::r) c=c::y::r:=by unfold push;dsimp only;rw[if_neg q']
     rw[hp] at hn
     refine⟨_,rfl,.inl ⟨rfl,_,SqL.of (s2 _ _ e2)⟩,_,rfl,l,_,_,rfl,rfl,s2 _ _ e2,?_,⟨_,rfl⟩,(s1.trans s2).upd hl,?_⟩
     ·rw[List.length_append,aX,List.length_reverse]
      rw[List.length_cons] at hsz
      have h9:r.length+1≤100000:=by omega
      exact Nat.lt_of_le_of_lt h9 (by decide)
     ·rw[aC,hn,List.reverse_cons,List.reverse_cons,bV,bV]
   ·have hk:act [] (x.take i)=[]:=by
     cases hq:act [] (x.take i) with
     | nil=>rfl
     | cons y r =>
      exfalso
      apply e
      apply decide_eq_true
      rw[aX,List.length_reverse,hq]
      simp
    rw[hk] at e1 hn
    refine gF ⟨_,rfl,.inl ⟨rfl,_,SqL.of e1⟩,_,rfl,l,_,_,rfl,rfl,e1,?_,⟨_,rfl⟩,s1.upd hl,?_⟩
    ·show (0:Nat)<sizeLine;decide
    ·rw[aC,hn]
     rfl
  ·rintro σ H1 ⟨⟨v,rfl⟩,s1,e1⟩
   rw[List.take_length] at e1
   have e2:SqL K H1 l ((lay x).map (fun c=>S [c]) |>.map V.str):=by
    rw[← kW];exact SqL.of e1
   refine⟨rfl,_,rfl,_,l,_,rfl,rfl,e2,hU _ (Nat.le_trans (eQ x) (by omega)),?_⟩
   rw[iR]
   exact k H1 s1
theorem F6{f:Addr}{fd:FuncData}(D:Df K mg "_law_word" Dv ["_law_flow_here","_law_n","_law_most"] f fd)(T:Txt P w K mg Ji Jj Jk)(c_z7:Cl P w K mg base "_law_pick" ["_law_flow_here","_law_many"] 1 lS)(c_zy:Cl P w K mg base "_law_letters" ["_law_n"] 1 lC)(c_zu:Cl P w K mg base "_law_contrary" ["_law_letter"] 1 hZ):Cl P w K mg base "_law_word" ["_law_flow_here","_law_n","_law_most"] 2 wG:=by
 refine D.cl (D.F.ok sc_z8 (fun vs H Q E h=>?_) (fun cdv A outer s H vs Q E hr h=>?_))
 ·obtain⟨fl,sc,n,most,rfl,_⟩:=h
  rfl
 ·obtain⟨fl,sc,n,most,rfl,hf,h1,h4,hm,hm2,k⟩:=h
  refine⟨_,(aD (aM (i:=3) sc_z8.nd rfl (Or.inr rfl) cE)
   (aD (aM (i:=4) sc_z8.nd rfl (Or.inl rfl) (pC c_zy hr (aA (pv 1) aB)))
   (aD (dO PassesOwn.never rfl (lG (by rfl) T.b_range (aA (pC c_z7 hr (aA (pv 0) (aA (bE fQ (pv 2) aI) aB))) aB)) (bF (i:=5) sc_z8.nd rfl (Or.inl rfl)) (aD (nZ (i:=6) (sc0:=aF Dv) (N:=["_law_flow_here","_law_n","_law_most","_law_found","_law_letters_here","_law_k","_law_some"]) (ix:=[3]) sc_z8.nd rfl rfl (by decide +kernel) rfl rfl rfl (kJ (K:=K) rfl (pv 4)) (fun _ _ _=>uY (pw_or (aY nC (pv 1) cE (bC _)) (pw_or1 (aY mH (pv 0) (pC c_zu hr (aA (aR wV (pv 1) (Bv vQ aI) (fun _ _=>rfl)) aB)) (bC _)))).pt) (fun _ _ _=>(pv 0)))
   (aG (aM (i:=3) sc_z8.nd rfl (Or.inr rfl) (bE cK (pv 3) (aR (aO (K:=K) rfl) (pv 6) (pC c_z7 hr (aA (pv 0) (aA (bR (cJ (K:=K) rfl) (by rfl) T.b_len PySem.boot_len (aA (pv 6) aB)) aB))) (fun _ _=>rfl)))))))
   (aG (aS (pv 3)))))),?_⟩
  refine⟨_,rfl,n,rfl,h1,h4,fun l H1 hl s1 e1=>?_⟩
  have hlf:l≠fl:=hf.ne hl
  refine⟨_,rfl,_,rfl,_,_,rfl,rfl,fl,sc,most+1,rfl,hf.same s1,by omega,by omega,fun d H2 d0 d1 f2 k2=>⟨d,rfl,by omega,by omega,?_⟩⟩
  refine lX (lo:=0) (n:=d.toNat) (fun i σ H3=>∃ (x:List Nat) (v5 v6:Option V),σ=[some (.ref fl),some (.int n),some (.int most),some (.str (S x)),some (.ref l),v5,v6]∧OfN n x∧bI x∧x.length=i∧IsFl H3 fl sc∧Kp fl H H3∧H3 l=some (.lst (aV (aK n)))) ?_ ?_ ?_
  ·refine⟨[],none,none,?_,fun c hc=>(nomatch hc),trivial,rfl,f2,(s1.kp).trans k2,k2 _ _ e1 hlf⟩
   rw[← oR];rfl
  ·rintro i _ H3 hi ⟨x,v5,v6,rfl,ho,hp,hxl,f3,k3,e3⟩
   have hxd:(x.length:Int)<most+1:=by omega
   refine⟨_,rfl,l,rfl,⟨_,SqL.of e3⟩,fun Dd hD=>mE (xs:=aV (aK n)) (fun j H4=>Same H3 H4∧H4 Dd=some (.lst (aV (((aK n).take j).filter (kZ x))))) ⟨Same.new hD,aC⟩ (fun j H4 _ p=>SqL.of (p.1 _ _ e3)) ?_ ?_⟩
   ·rintro j y H4 hy ⟨s4,e4⟩
    obtain⟨c,hc,rfl⟩:∃ c,(aK n)[j]?=some c∧y=.str (S [c]):=by
     unfold aV at hy
     rw[List.getElem?_map] at hy
     cases hq:(aK n)[j]? with
     | none=>rw[hq] at hy;cases hy
     | some c=>rw[hq] at hy;exact⟨c,rfl,(Option.some.inj hy).symm⟩
    have hcL:bY c:=aJ (List.mem_of_getElem? hc)
    have ht:((aK n).take (j+1)).filter (kZ x)=((aK n).take j).filter (kZ x)++(if kZ x c then [c] else []):=take_succ_filter (kZ x) (aK n) j c hc
    have hsz:(((aK n).take j).filter (kZ x)).length≤100:=by
     have q1:=List.length_filter_le (kZ x) ((aK n).take j)
     have q2:((aK n).take j).length≤(aK n).length:=by rw[List.length_take];omega
     rw[iO h1 h4] at q2
     omega
    have app:kZ x c=true→∀ H5,Same H4 H5→∃ ys,H5 Dd=some (.lst ys)∧ys.length<sizeLine∧Same H3 (upd H5 Dd (.lst (ys++[.str (S [c])])))∧upd H5 Dd (.lst (ys++[.str (S [c])])) Dd=some (.lst (aV (((aK n).take (j+1)).filter (kZ x)))):=fun ok H5 s5=>by
     refine⟨_,s5 _ _ e4,?_,(s4.trans s5).upd hD,?_⟩
     ·rw[aX];exact aU (by omega)
     ·rw[aC,ht,ok]
      show some (HO.lst _)=some (HO.lst (aV (_++[c])))
      rw[bV]
    refine⟨_,rfl,rfl,_,rfl,gQ (fun e=>?_) (fun e=>?_)⟩
    ·rw[oR,eZ] at e
     have e':x=[]:=by simpa using e
     refine sT ⟨_,rfl,app (by rw[e'];rfl) H4 (Same.refl _)⟩
    ·rw[oR,eZ] at e
     have e':x≠[]:=by simpa using e
     obtain⟨u,z,rfl⟩:∃ u z,x=u++[z]:=⟨x.dropLast,x.getLast e',(List.dropLast_concat_getLast e').symm⟩
     have hz:bY z:=aJ (ho z (by simp))
     refine⟨_,rfl,_,rfl,_,rfl,_,_,z,rfl,rfl,by rw[bP];exact aN (by simp at hxd ⊢;omega),by rw[GQ];exact nD u z,z,rfl,hz,fun H5 s5=>⟨rfl,_,rfl,?_⟩⟩
     rw[eZ]
     have ok:kZ (u++[z]) c=!decide ([c]=[con z]):=by
      unfold kZ
      simp
     rw[← ok]
     refine gQ (fun q=>⟨_,rfl,app q H5 s5⟩) (fun q=>⟨s4.trans s5,?_⟩)
     have q':kZ (u++[z]) c=false:=by simpa using q
     rw[s5 _ _ e4,ht,q']
     simp
   ·rintro H4 ⟨s4,e4⟩
    rw[aX,List.take_length] at e4
    have hpos:=Cu (x:=x) h1 h4
    have hsz:((aK n).filter (kZ x)).length≤8:=by
     have q1:=List.length_filter_le (kZ x) (aK n)
     rw[iO h1 h4] at q1
     omega
    have hDf:Dd≠fl:=f3.ne hD
    refine⟨_,rfl,_,rfl,_,rfl,_,rfl,Dd,_,rfl,.inl (SqL.of e4),fl,sc,_,rfl,f3.same s4,?_,?_,fun g H5 g0 g1 f5 k5=>?_⟩
    ·rw[aX];omega
    ·rw[aX];omega
    rw[aX] at g1
    have hg:g.toNat<((aK n).filter (kZ x)).length:=by omega
    have hmem:=List.getElem_mem hg
    have hat:vJ (aV ((aK n).filter (kZ x))) g=some (.str (S [((aK n).filter (kZ x))[g.toNat]])):=Bg g0 (kR (List.getElem?_eq_getElem hg))
    generalize ((aK n).filter (kZ x))[g.toNat]=c at hat hmem
    obtain⟨hm1,hm2⟩:=List.mem_filter.mp hmem
    refine⟨Dd,_,g,_,rfl,rfl,SqL.of (k5 _ _ e4 hDf),hat,_,_,rfl,rfl,?_,?_⟩
    ·rw[bP,bP];exact aN (by simp;omega)
    ·rw[fW]
     refine⟨x++[c],_,_,rfl,?_,lQ (OfN.all ho) (aJ hm1) hp hm2,?_,f5,(k3.trans s4.kp).trans k5,k5 _ _ (s4 _ _ e3) hlf⟩
     ·intro c' hc'
      rcases List.mem_append.mp hc' with q | q
      ·exact ho c' q
      ·rw[List.mem_singleton.mp q];exact hm1
     ·rw[List.length_append,hxl];rfl
  ·rintro _ H3 ⟨x,v5,v6,rfl,ho,hp,hxl,f3,k3,e3⟩
   exact⟨_,rfl,k x H3 ho hp (by omega) f3 k3⟩
theorem EC{f:Addr}{fd:FuncData}(D:Df K mg "_law_back" yC ["_law_word_here"] f fd)(T:Txt P w K mg Ji Jj Jk)(c_zu:Cl P w K mg base "_law_contrary" ["_law_letter"] 1 hZ):Cl P w K mg base "_law_back" ["_law_word_here"] 2 rX:=by
 refine D.cl (D.F.ok Fi (fun vs H Q E h=>?_) (fun cdv A outer s H vs Q E hr h=>?_))
 ·obtain⟨x,rfl,_⟩:=h
  rfl
 ·obtain⟨x,rfl,hx,hlen,k⟩:=h
  refine⟨_,(aG (aS (cS (K:=K) rfl PySem.F.plainAttrs_str PySem.F.slot_str_join PySem.F.type_str_join (iL (K:=K) rfl) cE (aA (cL (sc0:=aF yC) (N:=["_law_word_here"]) (ix:=[]) (by decide +kernel) rfl rfl rfl (Fz (by rfl) T.b_reversed (aA (pv 0) aB)) (fun _ _ _=>cG) (fun _ _ _=>(pC c_zu hr (aA (pv 0) aB)))) aB)))),?_⟩
  refine⟨rfl,_,rfl,S x,rfl,by rw[bP];exact hlen,fun Dd hD=>?_⟩
  refine nS (w:=x) (fun i H1=>Same H H1∧H1 Dd=some (.lst (aV ((x.reverse.take i).map con)))) ⟨Same.new hD,aC⟩ ?_ ?_
  ·rintro i c H1 hc ⟨s1,e1⟩
   have hcL:bY c:=hx c (List.mem_reverse.mp (List.mem_of_getElem? hc))
   have hi:i<x.length:=by have:=(List.getElem?_eq_some_iff.mp hc).1;simpa using this
   refine⟨_,rfl,c,rfl,hcL,fun H2 s2=>⟨_,s2 _ _ e1,?_,(s1.trans s2).upd hD,?_⟩⟩
   ·rw[aX,List.length_map,List.length_take];exact aU (by omega)
   ·rw[aC,bM hc,List.map_append,← bV];rfl
  ·rintro H1 ⟨s1,e1⟩
   have eb:(x.reverse.take x.length).map con=back x:=by
    rw[List.take_of_length_le (by simp)]
    unfold back
    rw[List.map_reverse]
   rw[eb] at e1
   have e2:SqL K H1 Dd (((back x).map fun c=>S [c]).map V.str):=by rw[← kW];exact SqL.of e1
   refine⟨_,Dd,_,rfl,rfl,e2,hU _ (by rw[bG];omega),?_⟩
   rw[iR]
   exact k H1 s1
theorem GM{f:Addr}{fd:FuncData}(D:Df K mg "contrary" FA ["letter"] f fd)(T:Txt P w K mg Ji Jj Jk):Cl P w K mg base "contrary" ["letter"] 1 hZ:=by
 refine D.cl (D.F.ok GH (fun vs H Q E h=>?_) (fun cdv A outer s H vs Q E hr h=>?_))
 ·obtain⟨c,rfl,_⟩:=h
  rfl
 ·obtain⟨c,rfl,hc,k⟩:=h
  refine⟨_,(aG (aS (aR (Er T.t_CONTRARIES) (mN (v:=.ref Ji) (by rfl) T.m_CONTRARIES rfl) (pv 0) (fun _ _=>rfl)))),?_⟩
  exact⟨_,rfl,rfl,_,rfl,.inl ⟨_,uT hc,k H (Same.refl H)⟩⟩
theorem Ef{f:Addr}{fd:FuncData}(D:Df K mg "laid_out" BW ["text"] f fd)(T:Txt P w K mg Ji Jj Jk)(c_z9:Cl P w K mg base "contrary" ["letter"] 1 hZ):Cl P w K mg base "laid_out" ["text"] 2 mB:=by
 refine D.cl (D.F.ok sc_zd1 (fun vs H Q E h=>?_) (fun cdv A outer s H vs Q E hr h=>?_))
 ·obtain⟨x,rfl,_⟩:=h
  rfl
 ·obtain⟨x,rfl,hx,hlen,k⟩:=h
  refine⟨_,(aD (aM (i:=1) sc_zd1.nd rfl (Or.inl rfl) (dW aB))
   (aD (dO PassesOwn.never rfl (iE (pv 0)) (bF (i:=2) sc_zd1.nd rfl (Or.inl rfl)) (aG (eG (pw_and (aY xP (bR (cJ (K:=K) rfl) (by rfl) T.b_len PySem.boot_len (aA (pv 1) aB)) aI (bC _)) (pw_and1 (aY nC (aR (aO (K:=K) rfl) (pv 1) (Bv vQ aI) (fun _ _=>rfl)) (pC c_z9 hr (aA (pv 2) aB)) (bC _)))).pt (aG (bU (eC (K:=K) rfl PySem.F.plainAttrs_list PySem.F.slot_list_pop PySem.F.type_list_pop BG (pv 1)))) (aG (bU (cS (K:=K) rfl PySem.F.plainAttrs_list PySem.F.slot_list_append PySem.F.type_list_append cO (pv 1) (aA (pv 2) aB)))))))
   (aG (aS (cS (K:=K) rfl PySem.F.plainAttrs_str PySem.F.slot_str_join PySem.F.type_str_join (iL (K:=K) rfl) cE (aA (pv 1) aB)))))),?_⟩
  refine⟨aN (by simp),fun l hl=>?_⟩
  refine⟨_,rfl,S x,rfl,kK (w:=x) (fun i σ H1=>(∃ v,σ=[some (.str (S x)),some (.ref l),v])∧Same H H1∧H1 l=some (.lst (aV (act [] (x.take i)).reverse))) ⟨⟨none,rfl⟩,Same.new hl,aC⟩ ?_ ?_⟩
  ·rintro i c σ H1 hc ⟨⟨v,rfl⟩,s1,e1⟩
   have hi:i<x.length:=(List.getElem?_eq_some_iff.mp hc).1
   have hcL:bY c:=hx c (List.mem_of_getElem? hc)
   have hn:act [] (x.take (i+1))=push (act [] (x.take i)) c:=by rw[bM hc,fL]
   have hsz:(act [] (x.take i)).length≤60000:=by
    have:=mS (x.take i) []
    rw[List.length_take] at this
    simp at this
    omega
   refine⟨_,rfl,l,_,rfl,.inl (SqL.of e1),_,_,rfl,rfl,_,rfl,gQ (fun e=>?_) (fun e=>?_)⟩
   ·have hne:0<(act [] (x.take i)).length:=by
     have e':=of_decide_eq_true e
     rw[aX,List.length_reverse] at e'
     omega
    obtain⟨y,r,hk⟩:∃ y r,act [] (x.take i)=y::r:=by
     cases hq:act [] (x.take i) with
     | nil=>rw[hq] at hne;simp at hne
     | cons y r=>exact⟨y,r,rfl⟩
    rw[hk] at e1 hn hsz
    have e2:H1 l=some (.lst (aV r.reverse++[.str (S [y])])):=by rw[e1,List.reverse_cons,bV]
    refine⟨_,rfl,_,rfl,l,_,_,_,rfl,rfl,SqL.of e2,nD _ _,_,rfl,c,rfl,hcL,fun H2 s2=>⟨rfl,_,rfl,gQ (fun q=>?_) (fun q=>?_)⟩⟩
    ·rw[eZ] at q
     have q':y=con c:=by simpa using q
     have hp:push (y::r) c=r:=by unfold push;dsimp only;rw[if_pos q']
     rw[hp] at hn
     refine⟨_,rfl,.inl ⟨rfl,_,SqL.of (s2 _ _ e2)⟩,l,_,_,rfl,rfl,s2 _ _ e2,by simp;rfl,⟨_,rfl⟩,(s1.trans s2).upd hl,?_⟩
     rw[aC,hn]
     simp
    ·rw[eZ] at q
     have q':¬ y=con c:=by simpa using q
     have hp:push (y::r) c=c::y::r:=by unfold push;dsimp only;rw[if_neg q']
     rw[hp] at hn
     refine⟨_,rfl,.inl ⟨rfl,_,SqL.of (s2 _ _ e2)⟩,_,rfl,l,_,_,rfl,rfl,s2 _ _ e2,?_,⟨_,rfl⟩,(s1.trans s2).upd hl,?_⟩
     ·rw[List.length_append,aX,List.length_reverse]
      rw[List.length_cons] at hsz
      have h9:r.length+1≤100000:=by omega
      exact Nat.lt_of_le_of_lt h9 (by decide)
     ·rw[aC,hn,List.reverse_cons,List.reverse_cons,bV,bV]
   ·have hk:act [] (x.take i)=[]:=by
     cases hq:act [] (x.take i) with
     | nil=>rfl
     | cons y r =>
      exfalso
      apply e
      apply decide_eq_true
      rw[aX,List.length_reverse,hq]
      simp
    rw[hk] at e1 hn
    refine gF ⟨_,rfl,.inl ⟨rfl,_,SqL.of e1⟩,_,rfl,l,_,_,rfl,rfl,e1,?_,⟨_,rfl⟩,s1.upd hl,?_⟩
    ·show (0:Nat)<sizeLine;decide
    ·rw[aC,hn]
     rfl
  ·rintro σ H1 ⟨⟨v,rfl⟩,s1,e1⟩
   rw[List.take_length] at e1
   have e2:SqL K H1 l ((lay x).map (fun c=>S [c]) |>.map V.str):=by
    rw[← kW];exact SqL.of e1
   refine⟨rfl,_,rfl,_,l,_,rfl,rfl,e2,hU _ (Nat.le_trans (eQ x) (by omega)),?_⟩
   rw[iR]
   exact k H1 s1
theorem GY{f:Addr}{fd:FuncData}(D:Df K mg "turned_back" CO ["word"] f fd)(T:Txt P w K mg Ji Jj Jk)(c_z9:Cl P w K mg base "contrary" ["letter"] 1 hZ):Cl P w K mg base "turned_back" ["word"] 2 fI:=by
 refine D.cl (D.F.ok GW (fun vs H Q E h=>?_) (fun cdv A outer s H vs Q E hr h=>?_))
 ·obtain⟨x,rfl,_⟩:=h
  rfl
 ·obtain⟨x,rfl,hx,hlen,k⟩:=h
  refine⟨_,(aG (aS (cS (K:=K) rfl PySem.F.plainAttrs_str PySem.F.slot_str_join PySem.F.type_str_join (iL (K:=K) rfl) cE (aA (cL (sc0:=aF CO) (N:=["word"]) (ix:=[]) (by decide +kernel) rfl rfl rfl (Dw (by rfl) T.b_reversed (aA (pv 0) aB)) (fun _ _ _=>cG) (fun _ _ _=>(pC c_z9 hr (aA (pv 0) aB)))) aB)))),?_⟩
  refine⟨rfl,_,rfl,S x,rfl,by rw[bP];exact hlen,fun Dd hD=>?_⟩
  refine nS (w:=x) (fun i H1=>Same H H1∧H1 Dd=some (.lst (aV ((x.reverse.take i).map con)))) ⟨Same.new hD,aC⟩ ?_ ?_
  ·rintro i c H1 hc ⟨s1,e1⟩
   have hcL:bY c:=hx c (List.mem_reverse.mp (List.mem_of_getElem? hc))
   have hi:i<x.length:=by have:=(List.getElem?_eq_some_iff.mp hc).1;simpa using this
   refine⟨_,rfl,c,rfl,hcL,fun H2 s2=>⟨_,s2 _ _ e1,?_,(s1.trans s2).upd hD,?_⟩⟩
   ·rw[aX,List.length_map,List.length_take];exact Nat.lt_of_le_of_lt (show _≤60000 by omega) (by decide)
   ·rw[aC,bM hc,List.map_append,← bV];rfl
  ·rintro H1 ⟨s1,e1⟩
   have eb:(x.reverse.take x.length).map con=back x:=by
    rw[List.take_of_length_le (by simp)]
    unfold back
    rw[List.map_reverse]
   rw[eb] at e1
   have e2:SqL K H1 Dd (((back x).map fun c=>S [c]).map V.str):=by rw[← kW];exact SqL.of e1
   refine⟨_,Dd,_,rfl,rfl,e2,hU _ (by rw[bG];omega),?_⟩
   rw[iR]
   exact k H1 s1
theorem E8{f:Addr}{fd:FuncData}(D:Df K mg "joined" AG ["one","other"] f fd)(T:Txt P w K mg Ji Jj Jk)(c_zd1:Cl P w K mg base "laid_out" ["text"] 2 mB):Cl P w K mg base "joined" ["one","other"] 3 kL:=by
 refine D.cl (D.F.ok DW (fun vs H Q E h=>?_) (fun cdv A outer s H vs Q E hr h=>?_))
 ·obtain⟨u,x,rfl,_⟩:=h
  rfl
 ·obtain⟨u,x,rfl,hu,hx,hlen,k⟩:=h
  refine⟨_,(aG (aS (pC c_zd1 hr (aA (bE cK (pv 0) (pv 1)) aB)))),?_⟩
  refine⟨_,rfl,_,rfl,_,_,rfl,rfl,by rw[bP,bP];exact aN (by omega),u++x,by rw[fW];rfl,AllL.app.mpr ⟨hu,hx⟩,by rw[List.length_append];omega,k⟩
theorem FR{f:Addr}{fd:FuncData}(D:Df K mg "letters_of" EF ["n"] f fd)(T:Txt P w K mg Ji Jj Jk):Cl P w K mg base "letters_of" ["n"] 1 (AU K):=by
 refine D.cl (D.F.ok F9 (fun vs H Q E h=>?_) (fun cdv A outer s H vs Q E hr h=>?_))
 ·obtain⟨n,rfl,_⟩:=h
  rfl
 ·obtain⟨n,rfl,h1,h4,k⟩:=h
  refine⟨_,(aG (aS (fM (Dh (K:=K) rfl) (mN (v:=.ref Jj) (by rfl) T.m_LETTERS rfl) fV (fE (bE jH aI (pv 0)))))),?_⟩
  refine⟨_,rfl,_,_,rfl,rfl,.inl ⟨by decide,by decide⟩,_,rfl,Jj,letV,2 * n,rfl,T.t_LETTERS _,rfl,?_,?_,fun _ p hp=>?_,fun e=>?_⟩
  ·show some (2 * ((n:Nat):Int))=_;congr 1
  ·rw[uG];omega
  ·exact k p _ (Same.new hp) (by rw[← rK h1 h4];exact SqT.of aC)
  ·refine k _ _ (Same.refl H) ?_
   rw[← rK h1 h4,List.take_of_length_le (by omega)]
   exact T.t_LETTERS _
theorem Gn{f:Addr}{fd:FuncData}(D:Df K mg "first_letters" D7 ["n"] f fd)(T:Txt P w K mg Ji Jj Jk):Cl P w K mg base "first_letters" ["n"] 1 eT:=by
 refine D.cl (D.F.ok Gy (fun vs H Q E h=>?_) (fun cdv A outer s H vs Q E hr h=>?_))
 ·obtain⟨n,rfl,_⟩:=h
  rfl
 ·obtain⟨n,rfl,h1,h4,k⟩:=h
  refine⟨_,(aG (aS (Ae (Bx (K:=K) rfl) (mN (v:=.ref Jj) (by rfl) T.m_LETTERS rfl) fV (fE (bE jH aI (pv 0))) (fE aI)))),?_⟩
  refine⟨_,rfl,_,_,rfl,rfl,.inl ⟨by decide,by decide⟩,_,rfl,_,rfl,Jj,letV,2 * n,rfl,T.t_LETTERS _,rfl,?_,rfl,?_,fun p hp=>?_⟩
  ·show some (2 * ((n:Nat):Int))=_;congr 1
  ·rw[uG];omega
  ·rw[zQ h1 h4]
   exact k p _ hp (Same.new hp) aC
theorem Gm{f:Addr}{fd:FuncData}(D:Df K mg "told_same" Em ["n"] f fd)(T:Txt P w K mg Ji Jj Jk)(c_zp:Cl P w K mg base "first_letters" ["n"] 1 eT):Cl P w K mg base "told_same" ["n"] 2 eT:=by
 refine D.cl (D.F.ok GN (fun vs H Q E h=>?_) (fun cdv A outer s H vs Q E hr h=>?_))
 ·obtain⟨n,rfl,_⟩:=h
  rfl
 ·obtain⟨n,rfl,h1,h4,k⟩:=h
  refine⟨_,(aG (aS (pC c_zp hr (aA (pv 0) aB)))),?_⟩
  exact⟨_,rfl,n,rfl,h1,h4,k⟩
theorem Hb{f:Addr}{fd:FuncData}(D:Df K mg "words_by_letter" Ez ["retelling"] f fd)(T:Txt P w K mg Ji Jj Jk)(c_zp:Cl P w K mg base "first_letters" ["n"] 1 eT)(c_z9:Cl P w K mg base "contrary" ["letter"] 1 hZ)(c_zx:Cl P w K mg base "turned_back" ["word"] 2 fI):Cl P w K mg base "words_by_letter" ["retelling"] 3 (DQ K):=by
 refine D.cl (D.F.ok sc_zg (fun vs H Q E h=>?_) (fun cdv A outer s H vs Q E hr h=>?_))
 ·obtain⟨a,rs,n,M,rfl,_⟩:=h
  rfl
 ·obtain⟨a,rs,n,M,rfl,hq,hr0,h1,h4,hM,k⟩:=h
  refine⟨_,(aD (aM (i:=1) sc_zg.nd rfl (Or.inl rfl) oP)
   (aD (dO PassesOwn.never rfl (AC (K:=K) rfl (by rfl) T.b_zip (aA (pC c_zp hr (aA (bR (cJ (K:=K) rfl) (by rfl) T.b_len PySem.boot_len (aA (pv 0) aB)) aB)) (aA (pv 0) aB))) (iM (K:=K) rfl rfl (cF (bF (i:=2) sc_zg.nd rfl (Or.inl rfl)) (cF (bF (i:=3) sc_zg.nd rfl (Or.inl rfl)) gB))) (aD (rW (Nat.lt_of_le_of_lt (Nat.add_le_add_left (by decide:1≤64) _) hr.units) (pv 1) (pv 2) (pv 3) (by rfl))
   (aG (rW (Nat.lt_of_le_of_lt (Nat.add_le_add_left (by decide:1≤64) _) hr.units) (pv 1) (pC c_z9 hr (aA (pv 2) aB)) (pC c_zx hr (aA (pv 3) aB)) (by rfl)))))
   (aG (aS (pv 1))))),?_⟩
  refine fun p hp=>?_
  have hq1:SqT K (upd H p (.dK [])) a (bX rs):=Lw.SqT.new hq hp
  refine⟨_,rfl,a,_,rfl,.inr hq1,n,by rw[aW,hr0.len];rfl,h1,h4,fun t H1 ht s1 et=>⟨_,rfl,t,a,rfl,⟨_,SqT.of et⟩,⟨_,L2.SqT.same s1 hq1⟩,?_⟩⟩
  have ll:(bN n).length=n:=(iP h1 h4).len
  have hpt:p≠t:=aH (aC (H:=H) (a:=p) (o:=HO.dK [])) ht
  refine xX (K:=K) (t:=t) (u:=a) (xs:=bX (bN n)) (ys:=bX rs) (fun i σ H2=>∃ (v2 v3:Option V) (kvs:List (cM×V)),σ=[some (.ref a),some (.ref p),v2,v3]∧Same H H2∧H2 p=some (.dK kvs)∧H2 t=some (.tup (bX (bN n)))∧kvs.length≤2 * i∧Dm kvs rs i) ?_ ?_ ?_ ?_
  ·exact⟨none,none,[],rfl,(Same.new hp).trans s1,s1 _ _ aC,et,Nat.le_refl _,fun j hj=>absurd hj (Nat.not_lt_zero _)⟩
  ·rintro i _ H2 _ ⟨v2,v3,kvs,rfl,s2,e2,t2,_⟩
   exact⟨SqT.of t2,L2.SqT.same s2 hq⟩
  ·rintro i x y q _ H2 hx hy hq2 ⟨v2,v3,kvs,rfl,s2,e2,t2,hl,htab⟩
   obtain⟨rfl,hi⟩:=kQ h4 hx
   obtain⟨r,hri,rfl⟩:=dQ hy
   have hra:=hr0.all r (List.mem_of_getElem? hri)
   have hrl:=hr0.le r (List.mem_of_getElem? hri)
   have hcL:bY (97+i):=by unfold bY;omega
   have e3:upd H2 q (.tup [.str (S [97+i]),.str (S r)]) p=some (.dK kvs):=by rw[aE (aH e2 hq2)];exact e2
   have s3:Same H (upd H2 q (.tup [.str (S [97+i]),.str (S r)])):=s2.upd' hq2
   have t3:upd H2 q (.tup [.str (S [97+i]),.str (S r)]) t=some (.tup (bX (bN n))):=by rw[aE (aH t2 hq2)];exact t2
   refine⟨q,_,rfl,.inr (SqT.of aC),rfl,_,_,rfl,_,_,rfl,rfl,?_⟩
   generalize upd H2 q (.tup [.str (S [97+i]),.str (S r)])=H3 at e3 s3 t3
   refine⟨_,rfl,_,rfl,_,rfl,p,_,rfl,DPut.k (k:=.inr (S [97+i])) e3 (aU (by omega)),?_⟩
   have s4:Same H (upd H3 p (.dK (dM kvs (.inr (S [97+i])) (.str (S r))))):=s3.upd hp
   have t4:upd H3 p (.dK (dM kvs (.inr (S [97+i])) (.str (S r)))) t=some (.tup (bX (bN n))):=by rw[aE hpt.symm];exact t3
   have e4:upd H3 p (.dK (dM kvs (.inr (S [97+i])) (.str (S r)))) p=some (.dK (dM kvs (.inr (S [97+i])) (.str (S r)))):=aC
   generalize upd H3 p (.dK (dM kvs (.inr (S [97+i])) (.str (S r))))=H4 at s4 t4 e4
   have l1:=dZ kvs (.inr (S [97+i])) (.str (S r))
   have l2:=dZ (dM kvs (.inr (S [97+i])) (.str (S r))) (.inr (S [con (97+i)])) (.str (S (back r)))
   refine⟨_,rfl,r,rfl,hra,by omega,fun H5 s5=>⟨_,rfl,_,rfl,97+i,rfl,hcL,fun H6 s6=>⟨p,_,rfl,DPut.k (k:=.inr (S [con (97+i)])) (s6 _ _ (s5 _ _ e4)) (aU (by omega)),?_⟩⟩⟩
   exact⟨_,_,_,rfl,((s4.trans s5).trans s6).upd hp,aC,by rw[aE hpt.symm];exact s6 _ _ (s5 _ _ t4),by omega,Db hri (by omega) htab⟩
  ·rintro _ H2 ⟨v2,v3,kvs,rfl,s2,e2,t2,hl,htab⟩
   have em:min (bX (bN n)).length (bX rs).length=n:=by rw[aW,aW,ll,hr0.len,Nat.min_self]
   rw[em] at htab
   exact⟨_,rfl,k p kvs H2 hp s2 e2 (C5 hr0.len h1 h4 htab)⟩
theorem E9{f:Addr}{fd:FuncData}(D:Df K mg "retold" yT ["retelling","word"] f fd)(T:Txt P w K mg Ji Jj Jk)(c_zd1:Cl P w K mg base "laid_out" ["text"] 2 mB)(c_zg:Cl P w K mg base "words_by_letter" ["retelling"] 3 (DQ K)):Cl P w K mg base "retold" ["retelling","word"] 4 (iJ K):=by
 refine D.cl (D.F.ok sc_zi1 (fun vs H Q E h=>?_) (fun cdv A outer s H vs Q E hr h=>?_))
 ·obtain⟨a,rs,n,M,x,rfl,_⟩:=h
  rfl
 ·obtain⟨a,rs,n,M,x,rfl,hq,hr0,h1,h4,hM,hox,hxl,hxm,k⟩:=h
  refine⟨_,(aD (aM (i:=2) sc_zi1.nd rfl (Or.inr rfl) (pC c_zg hr (aA (pv 0) aB)))
   (aG (aS (pC c_zd1 hr (aA (cS (K:=K) rfl PySem.F.plainAttrs_str PySem.F.slot_str_join PySem.F.type_str_join (iL (K:=K) rfl) cE (aA (cL (sc0:=aF yT) (N:=["retelling","word","told"]) (ix:=[2]) (by decide +kernel) rfl rfl rfl (iE (pv 1)) (fun _ _ _=>cG) (fun _ _ _=>(sQ (Nat.lt_of_le_of_lt (Nat.add_le_add_left (by decide:1≤64) _) hr.units) (pv 1) (pv 0) (fun _ _=>rfl)))) aB)) aB))))),?_⟩
  refine⟨_,rfl,a,rs,n,M,rfl,hq,hr0,h1,h4,hM,fun p kvs H1 hp s1 e1 htab=>?_⟩
  have tl:=kA hr0 x
  have ta:=eY hr0 x
  refine⟨rfl,_,rfl,S x,rfl,fun Dd hD=>jK (w:=x) (fun i H2=>Same H1 H2∧H2 Dd=some (.lst (bX ((x.take i).map (tell rs))))) ⟨Same.new hD,aC⟩ ?_ ?_⟩
  ·rintro i c H2 hc ⟨s2,e2⟩
   have hi:i<x.length:=(List.getElem?_eq_some_iff.mp hc).1
   have hcn:c∈aK rs.length:=by rw[hr0.len];exact hox c (List.mem_of_getElem? hc)
   refine⟨_,rfl,_,rfl,p,.str (S (tell rs c)),rfl,?_,_,e2,?_,s2.upd hD,?_⟩
   ·have:=DGet.k (k:=.inr (S [c])) (s2 _ _ e1)
    rw[htab c hcn] at this
    exact this
   ·rw[aW,List.length_map,List.length_take];exact Nat.lt_of_lt_of_le (show _<100000 by omega) (aN (Nat.le_refl _))
   ·rw[aC,bM hc,List.map_append]
    unfold bX
    rw[List.map_append]
    rfl
  ·rintro H2 ⟨s2,e2⟩
   rw[List.take_length] at e2
   have e3:SqL K H2 Dd (((x.map (tell rs)).map S).map V.str):=by
    have:((x.map (tell rs)).map S).map V.str=bX (x.map (tell rs)):=by unfold bX;rw[List.map_map];rfl
    rw[this];exact SqL.of e2
   have ef:(x.map (tell rs)).flatten=told rs x:=by unfold told;rw[List.flatMap_def]
   refine⟨_,Dd,_,rfl,rfl,e3,?_,told rs x,?_,ta,by omega,fun H3 s3=>k H3 ((s1.trans s2).trans s3)⟩
   ·rw[xZ,ef,oR,bP]
    simp
    omega
   ·rw[oR,wN,ef];rfl
theorem Hr{f:Addr}{fd:FuncData}(D:Df K mg "told_then" CH ["one","other"] f fd)(T:Txt P w K mg Ji Jj Jk)(c_zi1:Cl P w K mg base "retold" ["retelling","word"] 4 (iJ K)):Cl P w K mg base "told_then" ["one","other"] 5 (nX K):=by
 refine D.cl (D.F.ok FK (fun vs H Q E h=>?_) (fun cdv A outer s H vs Q E hr h=>?_))
 ·obtain⟨a,b,f,s,n,M,L,rfl,_⟩:=h
  rfl
 ·obtain⟨a,b,f0,s0,n,M,L,rfl,ha,hb,hf0,hs0,hfo,h1,h4,hM,hL,hML,k⟩:=h
  refine⟨_,(aG (aS (bB (bS (K:=K) rfl) (by rfl) T.b_tuple boot_tuple (aA (cL (sc0:=aF CH) (N:=["one","other"]) (ix:=[1]) (by decide +kernel) rfl rfl rfl (dR (K:=K) rfl (pv 0)) (fun _ _ _=>cG) (fun _ _ _=>(pC c_zi1 hr (aA (pv 1) (aA (pv 0) aB))))) aB)))),?_⟩
  refine⟨_,rfl,a,rfl,⟨_,ha⟩,fun Dd hD=>cR (xs:=bX f0) (fun i H1=>Same H H1∧H1 Dd=some (.lst (bX ((f0.take i).map (retl s0))))) ⟨Same.new hD,aC⟩ (fun i H1 _ h=>L2.SqT.same h.1 ha) ?_ ?_⟩
  ·rintro i v H1 hv ⟨s1,e1⟩
   obtain⟨x,hx,rfl⟩:=dQ hv
   have hxm:=List.mem_of_getElem? hx
   have hi:i<f0.length:=(List.getElem?_eq_some_iff.mp hx).1
   have hxl:=hf0.le x hxm
   refine⟨_,rfl,_,rfl,b,s0,n,L,x,rfl,L2.SqT.same s1 hb,hs0,h1,h4,hL,hfo x hxm,by omega,Nat.le_trans (Nat.mul_le_mul_right _ hxl) (Nat.le_trans hML (by decide)),fun H2 s2=>⟨_,s2 _ _ e1,?_,(s1.trans s2).upd hD,?_⟩⟩
   ·have:=hf0.len
    rw[aW,List.length_map,List.length_take];exact aU (by omega)
   ·rw[aC,List.take_add_one,hx,List.map_append]
    unfold bX
    rw[List.map_append]
    rfl
  ·rintro H1 ⟨s1,e1⟩
   rw[aW,List.take_length] at e1
   refine⟨Dd,_,rfl,.inl ⟨SqL.of e1,fun q hq=>k q _ (s1.free hq) (s1.upd' hq) aC⟩⟩
theorem Gj{f:Addr}{fd:FuncData}(D:DfM K Jk "__init__" "Weave.__init__" EH ["self"] f fd)(T:Txt P w K mg Ji Jj Jk):jS P w K mg base Jk "__init__" ["self"] 1 (pF Jk):=by
 refine D.cl (D.F.ok Hg (fun vs H Q E h=>?_) (fun cdv A outer s H vs Q E hr h=>?_))
 ·obtain⟨p,dx,rfl,_⟩:=h
  rfl
 ·obtain⟨p,dx,rfl,hp,k⟩:=h
  refine⟨_,(aD (mZ (K:=K) rfl (pv 0) (dW (aA aI aB)) rfl)
   (aD (mZ (K:=K) rfl (pv 0) (dW (aA cE aB)) rfl)
   (aD (mZ (K:=K) rfl (pv 0) (dW (aA oP aB)) rfl)
   (aG (mZ (K:=K) rfl (pv 0) (dW aB) rfl))))),?_⟩
  refine⟨by decide,fun q1 h1=>?_⟩
  have F1:=mW (HO.lst [.int 0]) (.ins Jk dx (eX "heads" (.ref q1) [])) hp h1
  refine⟨_,rfl,p,Jk,dx,[],rfl,gR _ hp h1,T.o_Weave.cl,T.n_Weave_heads,(by show 0<1000;decide),?_⟩
  refine⟨by decide,fun q2 h2=>?_⟩
  have F2:=mW (HO.lst [.str (S [])]) (.ins Jk dx (eX "turns" (.ref q2) (eX "heads" (.ref q1) []))) F1.1 h2
  refine⟨_,rfl,p,Jk,dx,_,rfl,gR _ F1.1 h2,T.o_Weave.cl,T.n_Weave_turns,(by show 1<1000;decide),?_⟩
  intro d hd
  have hpd:=gR (.dK []) F2.1 hd
  refine⟨(by show 1≤sizeLine;decide),fun q3 h3=>?_⟩
  have F3:=mW (HO.lst [.ref d]) (.ins Jk dx (eX "ways" (.ref q3) (eX "turns" (.ref q2) (eX "heads" (.ref q1) [])))) hpd h3
  refine⟨_,rfl,p,Jk,dx,_,rfl,gR _ hpd h3,T.o_Weave.cl,T.n_Weave_ways,(by show 2<1000;decide),?_⟩
  refine⟨by decide,fun q4 h4=>?_⟩
  have F4:=mW (HO.lst []) (.ins Jk dx (wf q1 q2 q3 q4)) F3.1 h4
  refine⟨_,rfl,p,Jk,dx,_,rfl,gR _ F3.1 h4,T.o_Weave.cl,T.n_Weave_alike,(by show 3<1000;decide),?_⟩
  have n1:q1≠p:=(aH hp h1).symm
  have n2:q2≠p:=(aH F1.1 h2).symm
  have n3:d≠p:=(aH F2.1 hd).symm
  have n4:q3≠p:=(aH hpd h3).symm
  have m1:∀ {x:Addr},x≠p→(∀ o,H x=some o→False)→H x=none:=fun {x} _ z=>by
   cases e:H x with
   | none=>rfl
   | some o=>exact(z o e).elim
  have z1:H q1=none:=h1
  have s1:∀ b o,H b=some o→b≠p→_:=fun b o e hb=>F1.2.2 b o e hb
  have s2:∀ b o,H b=some o→b≠p→_:=fun b o e hb=>F2.2.2 b o (s1 b o e hb) hb
  have s3:∀ b o,H b=some o→b≠p→_:=fun b o e hb=>gR (.dK []) (s2 b o e hb) hd
  have s4:∀ b o,H b=some o→b≠p→_:=fun b o e hb=>F3.2.2 b o (s3 b o e hb) hb
  have kp:∀ b o,H b=some o→b≠p→_:=fun b o e hb=>F4.2.2 b o (s4 b o e hb) hb
  have e1:=F4.2.2 _ _ (F3.2.2 _ _ (gR (.dK []) (F2.2.2 _ _ F1.2.1 n1) hd) n1) n1
  have e2:=F4.2.2 _ _ (F3.2.2 _ _ (gR (.dK []) F2.2.1 hd) n2) n2
  have e3:=F4.2.2 _ _ F3.2.1 n4
  have ed:=F4.2.2 _ _ (F3.2.2 _ _ aC n3) n3
  refine k [q1,q2,q3,q4,d] _ (fun x hx=>?_) ⟨dx,q1,q2,q3,q4,[d],[],rfl,⟨?_,F4.1,e1,e2,e3,F4.2.1,rfl,fun i d' es h1' h2'=>?_,rfl,fun j a' e h1' h2'=>(by simp at h1')⟩⟩ kp
  ·simp only [List.mem_cons,List.not_mem_nil,or_false] at hx
   rcases hx with rfl | rfl | rfl | rfl | rfl
   ·exact h1
   ·exact m1 n2 fun o e=>by have:=h2.symm.trans (s1 _ o e n2);cases this
   ·exact m1 n4 fun o e=>by have:=h3.symm.trans (s3 _ o e n4);cases this
   ·have n5:x≠p:=(aH F3.1 h4).symm
    exact m1 n5 fun o e=>by have:=h4.symm.trans (s4 _ o e n5);cases this
   ·exact m1 n3 fun o e=>by have:=hd.symm.trans (s2 _ o e n3);cases this
  ·have v1:(HO.lst [V.int 0])≠.lst [.str (S [])]:=by intro z;cases z
   have v2:(HO.lst [V.int 0])≠.lst [.ref d]:=by intro z;cases z
   have v3:(HO.lst [V.int 0])≠.lst []:=by intro z;cases z
   have v4:(HO.lst [V.str (S [])])≠.lst [.ref d]:=by intro z;cases z
   have v5:(HO.lst [V.str (S [])])≠.lst []:=by intro z;cases z
   have v6:(HO.lst [V.ref d])≠.lst []:=by intro z;cases z
   have w1:=dB e1 e2 v1
   have w2:=dB e1 e3 v2
   have w3:=dB e1 F4.2.1 v3
   have w4:=dB e1 ed (by intro z;cases z)
   have w5:=dB e2 e3 v4
   have w6:=dB e2 F4.2.1 v5
   have w7:=dB e2 ed (by intro z;cases z)
   have w8:=dB e3 F4.2.1 v6
   have w9:=dB e3 ed (by intro z;cases z)
   have w10:=dB F4.2.1 ed (by intro z;cases z)
   simp[w1,w2,w3,w4,w5,w6,w7,w8,w9,w10]
  ·cases i with
   | zero =>
    have q1':d=d':=by simpa using h1'
    have q2':([]:List vK)=es:=by simpa [FE] using h2'
    subst q1' q2'
    exact⟨[],ed,.nil⟩
   | succ i=>simp at h1'
theorem GK{f:Addr}{fd:FuncData}(D:DfM K Jk "end_of" "Weave.end_of" E5 ["self","place","told"] f fd)(T:Txt P w K mg Ji Jj Jk)(c_zh1:Cl P w K mg base "joined" ["one","other"] 3 kL):jS P w K mg base Jk "end_of" ["self","place","told"] 4 (sD Jk):=by
 refine D.cl (D.F.ok sc_zv (fun vs H Q E h=>?_) (fun cdv A outer s H vs Q E hr h=>?_))
 ·obtain⟨_,_,_,_,_,p,M,Z,i,x,rfl,_⟩:=h
  rfl
 ·obtain⟨hf,φ,ρ,rk,L,p,M,Z,i,x,rfl,hW,I,hL,hi,hx,hxp,hxl,k⟩:=h
  refine⟨_,(aD (nU PassesOwn.never (aY mH (aR (aO (K:=K) rfl) (bT (K:=K) rfl (pv 0) rfl) (pv 1) (fun _ _=>rfl)) (pv 1) (bC _)) (aD (aM (i:=3) sc_zv.nd rfl (Or.inl rfl) (aR (aO (K:=K) rfl) (bT (K:=K) rfl (pv 0) rfl) (pv 1) (fun _ _=>rfl)))
   (aD (eK (pC c_zh1 hr (aA (aR (aO (K:=K) rfl) (bT (K:=K) rfl (pv 0) rfl) (pv 1) (fun _ _=>rfl)) (aA (aR (aO (K:=K) rfl) (bT (K:=K) rfl (pv 0) rfl) (pv 3) (fun _ _=>rfl)) aB))) (gE (bT (K:=K) rfl (pv 0) rfl) (pv 1) dP))
   (aD (eK (aR (aO (K:=K) rfl) (bT (K:=K) rfl (pv 0) rfl) (pv 3) (fun _ _=>rfl)) (gE (bT (K:=K) rfl (pv 0) rfl) (pv 1) dP))
   (aD (aM (i:=2) sc_zv.nd rfl (Or.inl rfl) (pC c_zh1 hr (aA (pv 2) (aA (aR (aO (K:=K) rfl) (bT (K:=K) rfl (pv 0) rfl) (pv 1) (fun _ _=>rfl)) aB))))
   (aG (aM (i:=1) sc_zv.nd rfl (Or.inl rfl) (aR (aO (K:=K) rfl) (bT (K:=K) rfl (pv 0) rfl) (pv 1) (fun _ _=>rfl)))))))))
   (aG (aS (eO (aA (pv 1) (aA (pv 2) aB)))))),?_⟩
  refine⟨fun m σ H'=>∃ (j:Nat) (Z':WvS) (y:List Nat) (v3:Option V),m=rk j∧σ=[some (.ref p),some (.int (j:Nat)),some (.str (S y)),v3]∧Kept Jk hf φ ρ rk L p M H H' Z Z'∧j<Z.hs.length∧ρ j=ρ i∧AllL y∧y=lay (x++(back (φ i)++φ j)),⟨rk i,i,Z,x,none,rfl,rfl,⟨hW,I,rfl,rfl,rfl,FrW.refl _ _⟩,hi,rfl,hx,?_⟩,?_⟩
  ·rw[← cP x _ hx (AllL.app.mpr ⟨aL (I.fa i).1,(I.fa i).1⟩),dX (I.fa i).1,List.append_nil,hxp]
  rintro m _ H1 ⟨j,Z1,y,v3,rfl,rfl,K1,hj,hρ,hy,hye⟩
  obtain⟨dx,hd,tn,wy,al,ds,as,hM,w1⟩:=id K1.at'
  have I1:=K1.wi
  have hj1:j<Z1.hs.length:=by rw[K1.ln];exact hj
  obtain⟨a,ha⟩:∃ a,Z1.hs[j]?=some a:=⟨_,List.getElem?_eq_getElem hj1⟩
  obtain⟨a1,a2,a3,a4⟩:=I1.hd j a ha
  refine⟨_,rfl,p,Jk,dx,_,_,rfl,w1.ob,T.o_Weave.cl,T.n_Weave_heads,eW _ _ _ _,_,rfl,hd,_,_,_,rfl,rfl,SqL.of w1.hh,cT (mR ha),_,rfl,rfl,_,rfl,?_⟩
  by_cases hja:a=j
  ·subst hja
   rw[show decide (V.int ((a:Nat):Int)=V.int ((a:Nat):Int))=true from decide_eq_true rfl]
   refine gF ?_
   have hr:ρ i=a:=by rw[← hρ];exact a4 rfl
   refine⟨_,rfl,_,rfl,(by show 2≤sizeLine;decide),fun t ht=>?_⟩
   have s2:=Same.new (o:=HO.tup [.int ((a:Nat):Int),.str (S y)]) ht
   refine k t _ Z1 ⟨K1.at'.same s2,I1,K1.ws,K1.al,K1.ln,fun b o e n=>s2 _ _ (K1.fr b o e n)⟩ ?_
   rw[aC,hr,← hye]
  ·rw[show decide (V.int ((a:Nat):Int)=V.int ((j:Nat):Int))=false from decide_eq_false (fun z=>hja (by have:=V.int.inj z;omega))]
   refine sT ?_
   refine⟨fun σ' H'=>∃ (j':Nat) (Z':WvS) (y':List Nat) (v3:Option V),rk j' < rk j∧σ'=[some (.ref p),some (.int (j':Nat)),some (.str (S y')),v3]∧Kept Jk hf φ ρ rk L p M H H' Z Z'∧j' < Z.hs.length∧ρ j'=ρ i∧AllL y'∧y'=lay (x++(back (φ i)++φ j')),fun σ' H' ⟨j',Z',y',v3,q0,q1⟩=>⟨rk j',q0,j',Z',y',v3,rfl,q1⟩,?_⟩
   have ha1:a<Z1.hs.length:=a1
   obtain⟨b,hb⟩:∃ b,Z1.hs[a]?=some b:=⟨_,List.getElem?_eq_getElem ha1⟩
   obtain⟨t,ht⟩:∃ t,Z1.ts[j]?=some t:=⟨_,List.getElem?_eq_getElem (by rw[I1.lt];exact hj1)⟩
   obtain⟨u,hu⟩:∃ u,Z1.ts[a]?=some u:=⟨_,List.getElem?_eq_getElem (by rw[I1.lt];exact ha1)⟩
   obtain⟨I2,et,hrb,hρb⟩:=I1.comp ha hja hb ht hu
   obtain⟨tA,tl⟩:AllL t∧t.length≤2 * L:=by rw[I1.tn j a t ha ht];exact hX I1 j a
   obtain⟨uA,ul⟩:AllL u∧u.length≤2 * L:=by rw[I1.tn a b u hb hu];exact hX I1 a b
   refine⟨_,rfl,p,Jk,dx,_,_,rfl,w1.ob,T.o_Weave.cl,T.n_Weave_heads,eW _ _ _ _,_,rfl,hd,_,_,_,rfl,rfl,SqL.of w1.hh,cT (mR ha),?_⟩
   refine⟨_,rfl,p,Jk,dx,_,_,rfl,w1.ob,T.o_Weave.cl,T.n_Weave_turns,gG _ _ _ _,_,rfl,tn,_,_,_,rfl,rfl,SqL.of w1.ht,cT (sF ht),?_⟩
   refine⟨_,rfl,p,Jk,dx,_,_,rfl,w1.ob,T.o_Weave.cl,T.n_Weave_turns,gG _ _ _ _,_,rfl,tn,_,_,_,rfl,rfl,SqL.of w1.ht,cT (sF hu),?_⟩
   refine⟨t,u,rfl,tA,uA,by omega,fun H2 s2=>?_⟩
   have w2:=w1.same s2
   refine⟨_,rfl,p,Jk,dx,_,_,rfl,w2.ob,T.o_Weave.cl,T.n_Weave_turns,gG _ _ _ _,_,rfl,tn,_,_,j,rfl,rfl,w2.ht,sB (by omega) (by rw[aW,I1.lt];omega),?_⟩
   rw[xY]
   have w3:=w2.upTn (Z1.ts.set j (lay (t++u)))
   have f3:FrW M H2 (upd H2 tn (.lst (bX (Z1.ts.set j (lay (t++u)))))):=by rw[hM];exact WvC.put1 (by simp)
   generalize upd H2 tn (.lst (bX (Z1.ts.set j (lay (t++u)))))=H3 at w3 f3
   refine⟨_,rfl,p,Jk,dx,_,_,rfl,w3.ob,T.o_Weave.cl,T.n_Weave_heads,eW _ _ _ _,_,rfl,hd,_,_,_,rfl,rfl,SqL.of w3.hh,cT (mR hb),?_⟩
   refine⟨_,rfl,p,Jk,dx,_,_,rfl,w3.ob,T.o_Weave.cl,T.n_Weave_heads,eW _ _ _ _,_,rfl,hd,_,_,j,rfl,rfl,w3.hh,sB (by omega) (by rw[jU];show ((j:Nat):Int)<((Z1.hs.length:Nat):Int);omega),?_⟩
   rw[tS]
   have w4:=w3.upHd (Z1.hs.set j b)
   have f4:FrW M H3 (upd H3 hd (.lst (fN (Z1.hs.set j b)))):=by rw[hM];exact WvC.put1 (by simp)
   show vZ _ _ _ _ (upd H3 hd (.lst (fN (Z1.hs.set j b))))
   generalize upd H3 hd (.lst (fN (Z1.hs.set j b)))=H4 at w4 f4
   have hjt:(Z1.ts.set j (lay (t++u)))[j]?=some (lay (t++u)):=List.getElem?_set_self (by rw[I1.lt];exact hj1)
   have hjh:(Z1.hs.set j b)[j]?=some b:=List.getElem?_set_self hj1
   refine⟨_,rfl,_,rfl,p,Jk,dx,_,_,rfl,w4.ob,T.o_Weave.cl,T.n_Weave_turns,gG _ _ _ _,_,rfl,tn,_,_,_,rfl,rfl,SqL.of w4.ht,cT (sF hjt),?_⟩
   have yl:y.length≤5 * L:=by
    rw[hye]
    have:=eQ (x++(back (φ i)++φ j))
    rw[List.length_append,List.length_append,bG] at this
    have:=(I.fa i).2
    have:=(I.fa j).2
    omega
   obtain⟨vA,vl⟩:AllL (lay (t++u))∧(lay (t++u)).length≤2 * L:=by rw[et];exact hX I1 j b
   refine⟨y,lay (t++u),rfl,hy,vA,by omega,fun H5 s5=>?_⟩
   have w5:=w4.same s5
   refine⟨_,rfl,p,Jk,dx,_,_,rfl,w5.ob,T.o_Weave.cl,T.n_Weave_heads,eW _ _ _ _,_,rfl,hd,_,_,_,rfl,rfl,SqL.of w5.hh,cT (mR hjh),?_⟩
   have f5:FrW M H H5:=fun b o e n=>s5 _ _ (f4 _ _ (f3 _ _ (s2 _ _ (K1.fr b o e n)) n) n)
   refine⟨b,_,lay (y++lay (t++u)),_,hrb,rfl,⟨⟨dx,hd,tn,wy,al,ds,as,hM,w5⟩,I2,K1.ws,K1.al,by show (Z1.hs.set j b).length=_;rw[List.length_set];exact K1.ln,f5⟩,by rw[← K1.ln];exact(I1.hd a b hb).1,hρb.trans hρ,dN (AllL.app.mpr ⟨hy,vA⟩),?_⟩
   rw[et,hye]
   have:=GP (a:=x++back (φ i)) (b:=φ j) (c:=φ b) (AllL.app.mpr ⟨hx,aL (I.fa i).1⟩) (I.fa j).1 (I.fa b).1
   simp only [List.append_assoc] at this
   exact this
theorem Hi{f:Addr}{fd:FuncData}(D:DfM K Jk "head_of" "Weave.head_of" D2 ["self","place"] f fd)(T:Txt P w K mg Ji Jj Jk)(c_zv:jS P w K mg base Jk "end_of" ["self","place","told"] 4 (sD Jk)):jS P w K mg base Jk "head_of" ["self","place"] 5 (tD Jk):=by
 obtain⟨f_zv,fd_zv,G_zv,m_zv,b_zv⟩:=c_zv
 refine D.cl (D.F.ok Gq (fun vs H Q E h=>?_) (fun cdv A outer s H vs Q E hr h=>?_))
 ·obtain⟨_,_,_,_,_,p,M,Z,i,rfl,_⟩:=h
  rfl
 ·obtain⟨hf,φ,ρ,rk,L,p,M,Z,i,rfl,hW,I,hL,hi,k⟩:=h
  refine⟨_,(aG (aS (aR (bK (K:=K) rfl) (cV (pv 0) T.o_Weave.cl m_zv G_zv (hr.mono (by decide)) b_zv .nil dI (aA (pv 1) (aA cE aB))) aI (fun _ _=>rfl)))),?_⟩
  obtain⟨dx,hd,tn,wy,al,ds,as,hM,w1⟩:=id hW
  refine⟨_,rfl,p,dx,_,rfl,w1.ob,eB _ _ _ _ (by decide +kernel) (by decide +kernel) (by decide +kernel) (by decide +kernel),_,rfl,hf,φ,ρ,rk,L,p,M,Z,i,[],rfl,hW,I,hL,hi,AllL.nil,rfl,by simp,fun t H1 Z1 K1 et=>?_⟩
  exact⟨t,_,0,.int (ρ i:Nat),rfl,rfl,SqT.of et,rfl,k H1 Z1 K1⟩
theorem GJ{f:Addr}{fd:FuncData}(D:DfM K Jk "goal_of" "Weave.goal_of" Et ["self","head","letter"] f fd)(T:Txt P w K mg Ji Jj Jk)(c_zr:jS P w K mg base Jk "head_of" ["self","place"] 5 (tD Jk)):jS P w K mg base Jk "goal_of" ["self","head","letter"] 6 (rP Jk):=by
 obtain⟨f_zr,fd_zr,G_zr,m_zr,b_zr⟩:=c_zr
 refine D.cl (D.F.ok sc_zm (fun vs H Q E h=>?_) (fun cdv A outer s H vs Q E hr h=>?_))
 ·obtain⟨_,_,_,_,_,p,M,Z,i,c,es,rfl,_⟩:=h
  rfl
 ·obtain⟨hf,φ,ρ,rk,L,p,M,Z,i,c,es,rfl,hW,I,hL,hes,k⟩:=h
  refine⟨_,(aD (aM (i:=3) sc_zm.nd rfl (Or.inl rfl) (Cd (Nat.lt_of_le_of_lt (Nat.add_le_add_left (by decide:1≤64) _) hr.units) (aR (aO (K:=K) rfl) (bT (K:=K) rfl (pv 0) rfl) (pv 1) (fun _ _=>rfl)) (pv 2) ⟨rfl,rfl,rfl,rfl⟩))
   (aG (aS (kH (aY AS (pv 3) oS (bC _)) oS (cV (pv 0) T.o_Weave.cl m_zr G_zr (hr.mono (by decide)) b_zr .nil dI (aA (aR (bK (K:=K) rfl) (pv 3) aI (fun _ _=>rfl)) aB)))))),?_⟩
  obtain⟨dx,hd,tn,wy,al,ds,as,hM,w1⟩:=id hW
  obtain⟨d,hd'⟩:∃ d,ds[i]?=some d:=⟨_,List.getElem?_eq_getElem (by rw[w1.ld];exact(List.getElem?_eq_some_iff.mp hes).1)⟩
  obtain⟨kvs,a6,hk⟩:=w1.dc i d es hd' hes
  refine⟨_,rfl,p,Jk,dx,_,_,rfl,w1.ob,T.o_Weave.cl,T.n_Weave_ways,kB _ _ _ _,_,rfl,wy,_,_,.ref d,rfl,rfl,SqL.of w1.hw,cT (by rw[List.getElem?_map,hd'];rfl),d,rfl,.inl ⟨kvs,.inl a6⟩,_,rfl,_,DGet.k (k:=.inr (S [c])) a6,?_⟩
  have hv:=hk.val (c:=c)
  refine⟨_,rfl,rfl,_,rfl,?_⟩
  cases e:dH es c with
  | none =>
   rw[e] at hv
   have hv:cX kvs (Sum.inr (S [c]))=none:=hv
   rw[hv]
   show Q .non H
   have:=k H Z ⟨hW,I,rfl,rfl,rfl,FrW.refl _ _⟩
   rw[e] at this
   exact this
  | some r =>
   rw[e] at hv
   obtain⟨t,hv,ht⟩:=(show ∃ t,cX kvs (Sum.inr (S [c]))=some (V.ref t)∧H t=some (HO.tup [V.int (r.1:Nat),V.str (S r.2)]) from hv)
   rw[hv]
   rw[e] at k
   have hg:=((I.wy i es hes).2 _ (eN e)).2.1
   refine⟨_,rfl,p,dx,_,rfl,w1.ob,eB _ _ _ _ (by decide +kernel) (by decide +kernel) (by decide +kernel) (by decide +kernel),_,rfl,t,_,0,.int (r.1:Nat),rfl,rfl,SqT.of ht,rfl,hf,φ,ρ,rk,L,p,M,Z,r.1,rfl,hW,I,hL,hg,fun H1 Z1 K1=>k H1 Z1 K1⟩
theorem Hm{f:Addr}{fd:FuncData}(D:DfM K Jk "new_place" "Weave.new_place" EG ["self"] f fd)(T:Txt P w K mg Ji Jj Jk):jS P w K mg base Jk "new_place" ["self"] 1 (A_ Jk):=by
 refine D.cl (D.F.ok sc_zh (fun vs H Q E h=>?_) (fun cdv A outer s H vs Q E hr h=>?_))
 ·obtain⟨p,M,Z,rfl,_⟩:=h
  rfl
 ·obtain⟨p,M,Z,rfl,hW,l1,l2,l3,k⟩:=h
  refine⟨_,(aD (aM (i:=1) sc_zh.nd rfl (Or.inl rfl) (bR (cJ (K:=K) rfl) (by rfl) T.b_len PySem.boot_len (aA (bT (K:=K) rfl (pv 0) rfl) aB)))
   (aD (bU (cS (K:=K) rfl PySem.F.plainAttrs_list PySem.F.slot_list_append PySem.F.type_list_append cO (bT (K:=K) rfl (pv 0) rfl) (aA (pv 1) aB)))
   (aD (bU (cS (K:=K) rfl PySem.F.plainAttrs_list PySem.F.slot_list_append PySem.F.type_list_append cO (bT (K:=K) rfl (pv 0) rfl) (aA cE aB)))
   (aD (bU (cS (K:=K) rfl PySem.F.plainAttrs_list PySem.F.slot_list_append PySem.F.type_list_append cO (bT (K:=K) rfl (pv 0) rfl) (aA oP aB)))
   (aG (aS (pv 1))))))),?_⟩
  obtain⟨dx,hd,tn,wy,al,ds,as,hM,w1⟩:=id hW
  refine⟨_,rfl,p,Jk,dx,_,_,rfl,w1.ob,T.o_Weave.cl,T.n_Weave_heads,eW _ _ _ _,hd,_,rfl,.inl (SqL.of w1.hh),?_⟩
  have hlen:(V.int (((fN Z.hs).length:Nat):Int))=V.int ((Z.hs.length:Nat):Int):=by rw[jU]
  rw[hlen]
  refine⟨_,rfl,p,Jk,dx,_,_,rfl,w1.ob,T.o_Weave.cl,T.n_Weave_heads,eW _ _ _ _,.inl ⟨rfl,_,SqL.of w1.hh⟩,_,rfl,hd,_,_,rfl,rfl,w1.hh,by rw[jU];exact aU (by omega),?_⟩
  rw[Bt]
  have w2:=w1.upHd (Z.hs++[Z.hs.length])
  have f2:FrW M H (upd H hd (.lst (fN (Z.hs++[Z.hs.length])))):=by rw[hM];exact WvC.put1 (by simp)
  show vZ _ _ _ _ (upd H hd (.lst (fN (Z.hs++[Z.hs.length]))))
  generalize upd H hd (.lst (fN (Z.hs++[Z.hs.length])))=H2 at w2 f2
  refine⟨_,rfl,p,Jk,dx,_,_,rfl,w2.ob,T.o_Weave.cl,T.n_Weave_turns,gG _ _ _ _,.inl ⟨rfl,_,SqL.of w2.ht⟩,tn,_,_,rfl,rfl,w2.ht,by rw[aW];exact aU (by show Z.ts.length≤_;omega),?_⟩
  have et:bX Z.ts++[.str (Str.ofString "")]=bX (Z.ts++[[]]):=by unfold bX;rw[List.map_append];rfl
  show vZ _ _ _ _ (upd H2 tn (.lst (bX Z.ts++[.str (Str.ofString "")])))
  rw[et]
  have w3:=w2.upTn (Z.ts++[[]])
  have f3:FrW M H2 (upd H2 tn (.lst (bX (Z.ts++[[]])))):=by rw[hM];exact WvC.put1 (by simp)
  generalize upd H2 tn (.lst (bX (Z.ts++[[]])))=H3 at w3 f3
  refine⟨_,rfl,p,Jk,dx,_,_,rfl,w3.ob,T.o_Weave.cl,T.n_Weave_ways,kB _ _ _ _,.inl ⟨rfl,_,SqL.of w3.hw⟩,fun d hd0=>?_⟩
  have hw3:upd H3 d (.dK []) wy=some (.lst (ds.map V.ref)):=gR _ w3.hw hd0
  refine⟨wy,_,_,rfl,rfl,hw3,by rw[List.length_map,w3.ld];exact aU (by show Z.ws.length≤_;omega),?_⟩
  have w4:=w3.upNew hd0
  have ed:ds.map V.ref++[V.ref d]=(ds++[d]).map V.ref:=by rw[List.map_append];rfl
  refine⟨_,rfl,?_⟩
  show Q _ (upd (upd H3 d (.dK [])) wy (.lst (ds.map V.ref++[V.ref d])))
  rw[ed]
  have hdH:H d=none:=by
   cases e:H d with
   | none=>rfl
   | some o =>
    by_cases q:d∈M
    ·exfalso
     have:d∈hd::tn::wy::al::ds:=by rw[← hM];exact q
     rcases List.mem_cons.mp this with rfl | this
     ·rw[w3.hh] at hd0;cases hd0
     rcases List.mem_cons.mp this with rfl | this
     ·rw[w3.ht] at hd0;cases hd0
     rcases List.mem_cons.mp this with rfl | this
     ·rw[w3.hw] at hd0;cases hd0
     rcases List.mem_cons.mp this with rfl | this
     ·rw[w3.ha] at hd0;cases hd0
     ·obtain⟨i,hi⟩:=List.getElem?_of_mem this
      obtain⟨es,hes⟩:∃ es,Z.ws[i]?=some es:=⟨_,List.getElem?_eq_getElem (by rw[← w1.ld];exact(List.getElem?_eq_some_iff.mp hi).1)⟩
      obtain⟨kvs,z,_⟩:=w3.dc i d es hi hes
      rw[z] at hd0;cases hd0
    ·rw[f3 _ _ (f2 _ _ e q) q] at hd0;cases hd0
  refine k d _ ⟨dx,hd,tn,wy,al,ds++[d],as,by rw[hM];rfl,w4⟩ hdH fun b o e n=>?_
  have n1:b≠wy:=fun z=>n (by rw[z,hM];simp)
  rw[aE n1,aE (aH (f3 _ _ (f2 _ _ e n) n) hd0)]
  exact f3 _ _ (f2 _ _ e n) n
theorem Hj{f:Addr}{fd:FuncData}(D:DfM K Jk "lay_way" "Weave.lay_way" Fx ["self","place","letter","goal","told"] f fd)(T:Txt P w K mg Ji Jj Jk)(c_zx:Cl P w K mg base "turned_back" ["word"] 2 fI)(c_zh1:Cl P w K mg base "joined" ["one","other"] 3 kL):jS P w K mg base Jk "lay_way" ["self","place","letter","goal","told"] 4 (vY Jk):=by
 refine D.cl (D.F.ok sc_zo (fun vs H Q E h=>?_) (fun cdv A outer s H vs Q E hr h=>?_))
 ·obtain⟨_,_,_,_,_,p,M,Z,i,c,g,t,es,rfl,_⟩:=h
  rfl
 ·obtain⟨hf,φ,ρ,rk,L,p,M,Z,i,c,g,t,es,rfl,hW,I,hL,hes,hc,hg,ht,hal,k⟩:=h
  refine⟨_,(aD (aM (i:=5) sc_zo.nd rfl (Or.inl rfl) (AB (aR (aO (K:=K) rfl) (bT (K:=K) rfl (pv 0) rfl) (pv 1) (fun _ _=>rfl)) (pv 2) (eO (aA (pv 3) (aA (pv 4) aB))) ⟨rfl,rfl,rfl,rfl⟩))
   (aG (eG (aY (Ck (K:=K) rfl hr.units0) (pv 5) (eO (aA (pv 3) (aA (pv 4) aB))) (bC _)) (aG (bU (cS (K:=K) rfl PySem.F.plainAttrs_list PySem.F.slot_list_append PySem.F.type_list_append cO (bT (K:=K) rfl (pv 0) rfl) (aA (eO (aA (pv 3) (aA (pC c_zh1 hr (aA (pC c_zx hr (aA (pv 4) aB)) (aA (aR (bK (K:=K) rfl) (pv 5) aI (fun _ _=>rfl)) aB))) (aA (aR (bK (K:=K) rfl) (pv 5) aI (fun _ _=>rfl)) aB)))) aB)))) cU))),?_⟩
  obtain⟨dx,hd,tn,wy,al,ds,as,hM,w1⟩:=id hW
  obtain⟨d,hd'⟩:∃ d,ds[i]?=some d:=⟨_,List.getElem?_eq_getElem (by rw[w1.ld];exact(List.getElem?_eq_some_iff.mp hes).1)⟩
  obtain⟨kvs,a6,hk⟩:=w1.dc i d es hd' hes
  have el:es.length≤8:=sR (I.wy i es hes).1 fun e he=>((I.wy i es hes).2 e he).1
  have kl:kvs.length≤8:=by rw[Paired.length hk];exact el
  refine⟨_,rfl,p,Jk,dx,_,_,rfl,w1.ob,T.o_Weave.cl,T.n_Weave_ways,kB _ _ _ _,_,rfl,wy,_,_,.ref d,rfl,rfl,SqL.of w1.hw,cT (by rw[List.getElem?_map,hd'];rfl),d,rfl,.inl ⟨kvs,.inl a6⟩,_,rfl,_,rfl,_,rfl,(by show 2≤sizeLine;decide),fun q hq=>?_⟩
  have s1:=Same.new (o:=HO.tup [.int ((g:Nat):Int),.str (S t)]) hq
  have e1:upd H q (.tup [.int ((g:Nat):Int),.str (S t)]) q=some (.tup [.int ((g:Nat):Int),.str (S t)]):=aC
  generalize upd H q (.tup [.int ((g:Nat):Int),.str (S t)])=H1 at s1 e1
  have w2:=w1.same s1
  have hk1:DcIs H1 kvs es:=hk.mono fun t xs z=>s1 _ _ z
  have hv:=hk1.val (c:=c)
  refine⟨kvs,.inr (S [c]),s1 _ _ a6,(by rw[sizeLine_eq];omega),rfl,?_,?_⟩
  ·intro v e
   cases ew:dH es c with
   | none =>
    rw[ew] at hv
    rw[show cX kvs (Sum.inr (S [c]))=none from hv] at e
    cases e
   | some r =>
    rw[ew] at hv
    obtain⟨q2,hv2,ht2⟩:=(show ∃ t,cX kvs (Sum.inr (S [c]))=some (V.ref t)∧H1 t=some (HO.tup [V.int (r.1:Nat),V.str (S r.2)]) from hv)
    rw[hv2] at e
    cases e
    have hr:=(I.wy i es hes).2 _ (eN ew)
    refine⟨_,rfl,_,rfl,_,rfl,(by show 2≤sizeLine;decide),fun q3 hq3=>?_⟩
    have s3:=Same.new (o:=HO.tup [.int ((g:Nat):Int),.str (S t)]) hq3
    have e3:upd H1 q3 (.tup [.int ((g:Nat):Int),.str (S t)]) q3=some (.tup [.int ((g:Nat):Int),.str (S t)]):=aC
    generalize upd H1 q3 (.tup [.int ((g:Nat):Int),.str (S t)])=H3 at s3 e3
    refine⟨q2,q3,_,_,rfl,rfl,.inr ⟨SqT.of (s3 _ _ ht2),SqT.of e3⟩,rfl,rfl,_,rfl,?_⟩
    have w3:=w2.same s3
    have s13:=s1.trans s3
    show (if (!fU [.int ((r.1:Nat):Int),.str (S r.2)] [.int ((g:Nat):Int),.str (S t)])=true then _ else _)
    rw[uK]
    by_cases hsame:(r.1,r.2)=(g,t)
    ·rw[decide_eq_true hsame]
     refine gF ?_
     have hl:bD Z i c g t es=Z:=by unfold bD;rw[ew];exact if_pos hsame
     have:=k H3 (by rw[hl];exact(hW.same s1).same s3) (FrW.ofSame s13)
     exact this
    ·rw[decide_eq_false hsame]
     refine sT ?_
     obtain⟨tA,tl⟩:AllL t∧t.length≤3 * L:=by rw[ht];exact iY I hc i g
     obtain⟨rA,rl⟩:AllL r.2∧r.2.length≤3 * L:=by rw[show r.2=_ from hr.2.2];exact iY I hc i r.1
     refine⟨_,rfl,p,Jk,dx,_,_,rfl,w3.ob,T.o_Weave.cl,T.n_Weave_alike,oJ _ _ _ _,.inl ⟨rfl,_,SqL.of w3.ha⟩,_,rfl,_,rfl,t,rfl,tA,by omega,fun H4 s4=>?_⟩
     have ht4:=s4 _ _ (s3 _ _ ht2)
     refine⟨_,rfl,q2,_,1,.str (S r.2),rfl,rfl,SqT.of ht4,rfl,back t,r.2,rfl,aL tA,rA,by rw[bG];omega,fun H5 s5=>?_⟩
     refine⟨_,rfl,q2,_,0,.int (r.1:Nat),rfl,rfl,SqT.of (s5 _ _ ht4),rfl,(by show 3≤sizeLine;decide),fun q4 hq4=>?_⟩
     have s6:=Same.new (o:=HO.tup [.int ((g:Nat):Int),.str (S (lay (back t++r.2))),.int ((r.1:Nat):Int)]) hq4
     have e6:upd H5 q4 (.tup [.int ((g:Nat):Int),.str (S (lay (back t++r.2))),.int ((r.1:Nat):Int)]) q4=some (.tup [.int ((g:Nat):Int),.str (S (lay (back t++r.2))),.int ((r.1:Nat):Int)]):=aC
     generalize upd H5 q4 (.tup [.int ((g:Nat):Int),.str (S (lay (back t++r.2))),.int ((r.1:Nat):Int)])=H6 at s6 e6
     have w6:=((w3.same s4).same s5).same s6
     refine⟨al,_,_,rfl,rfl,w6.ha,by rw[List.length_map,w6.la];exact Nat.lt_of_le_of_lt hal (by decide),?_⟩
     have w7:=w6.upAl (as++[q4]) (Z.al++[(g,lay (back t++r.2),r.1)]) (by rw[List.length_append,List.length_append,w6.la];rfl) (fun j b e h1 h2=>by
      rcases eU h2 with ⟨z,h2⟩ | ⟨z,rfl⟩
      ·rw[List.getElem?_append_left (by rw[w6.la];exact z)] at h1
       exact w6.at' j b e h1 h2
      ·rcases eU h1 with ⟨z',_⟩ | ⟨_,rfl⟩
       ·rw[w6.la] at z';omega
       ·exact e6)
     have ea:as.map V.ref++[V.ref q4]=(as++[q4]).map V.ref:=by rw[List.map_append];rfl
     show DM _ _ (upd H6 al (.lst (as.map V.ref++[V.ref q4])))
     rw[ea]
     have hl:bD Z i c g t es={ Z with al:=Z.al++[(g,lay (back t++r.2),r.1)] }:=by unfold bD;rw[ew];exact if_neg hsame
     refine k _ (by rw[hl];exact⟨dx,hd,tn,wy,al,ds,as++[q4],hM,w7⟩) fun b o e n=>?_
     rw[aE (fun z=>n (by rw[z,hM];simp))]
     exact s6 _ _ (s5 _ _ (s4 _ _ (s13 _ _ e)))
  ·intro e
   cases ew:dH es c with
   | some r =>
    rw[ew] at hv
    obtain⟨q2,hv2,ht2⟩:=(show ∃ t,cX kvs (Sum.inr (S [c]))=some (V.ref t)∧H1 t=some (HO.tup [V.int (r.1:Nat),V.str (S r.2)]) from hv)
    rw[hv2] at e
    cases e
   | none =>
    have w3:=w2.upDc hd' (dM kvs (.inr (S [c])) (.ref q)) (es++[(c,g,t)]) (hk1.put ew e1)
    have f3:FrW M H1 (upd H1 d (.dK (dM kvs (.inr (S [c])) (.ref q)))):=by rw[hM];exact WvC.put1 (by simp[List.mem_of_getElem? hd'])
    have e2:upd H1 d (.dK (dM kvs (.inr (S [c])) (.ref q))) q=some (.tup [.int ((g:Nat):Int),.str (S t)]):=by rw[aE (dB e1 (s1 _ _ a6) (by intro z;cases z))];exact e1
    generalize upd H1 d (.dK (dM kvs (.inr (S [c])) (.ref q)))=H2 at w3 f3 e2
    refine⟨_,rfl,_,rfl,_,rfl,(by show 2≤sizeLine;decide),fun q3 hq3=>?_⟩
    have s3:=Same.new (o:=HO.tup [.int ((g:Nat):Int),.str (S t)]) hq3
    have e3:upd H2 q3 (.tup [.int ((g:Nat):Int),.str (S t)]) q3=some (.tup [.int ((g:Nat):Int),.str (S t)]):=aC
    generalize upd H2 q3 (.tup [.int ((g:Nat):Int),.str (S t)])=H3 at s3 e3
    refine⟨q,q3,_,_,rfl,rfl,.inr ⟨SqT.of (s3 _ _ e2),SqT.of e3⟩,rfl,rfl,_,rfl,?_⟩
    show (if (!fU [.int ((g:Nat):Int),.str (S t)] [.int ((g:Nat):Int),.str (S t)])=true then _ else _)
    rw[uK,decide_eq_true rfl]
    refine gF ?_
    have hl:bD Z i c g t es={ Z with ws:=Z.ws.set i (es++[(c,g,t)]) }:=by unfold bD;rw[ew]
    refine k H3 (by rw[hl];exact⟨dx,hd,tn,wy,al,ds,as,hM,w3.same s3⟩) fun b o e n=>s3 _ _ (f3 _ _ (s1 _ _ e) n)
theorem Gg{f:Addr}{fd:FuncData}(D:DfM K Jk "put_under" "Weave.put_under" E6 ["self","head","above","turn"] f fd)(T:Txt P w K mg Ji Jj Jk)(c_zx:Cl P w K mg base "turned_back" ["word"] 2 fI)(c_zh1:Cl P w K mg base "joined" ["one","other"] 3 kL)(c_zo:jS P w K mg base Jk "lay_way" ["self","place","letter","goal","told"] 4 (vY Jk)):jS P w K mg base Jk "put_under" ["self","head","above","turn"] 5 (A7 Jk):=by
 obtain⟨f_zo,fd_zo,G_zo,m_zo,b_zo⟩:=c_zo
 refine D.cl (D.F.ok sc_zf (fun vs H Q E h=>?_) (fun cdv A outer s H vs Q E hr h=>?_))
 ·obtain⟨_,_,_,_,_,_,_,p,M,Z,hd,ab,t,es,rfl,_⟩:=h
  rfl
 ·obtain⟨hf,φ,ρ,rk,ρ1,rk1,L,p,M,Z,ho,ab,t,es,rfl,hW,I,I1,hL,hes,hho,hab,hne,ht,hal,k⟩:=h
  refine⟨_,(aD (eK (pv 2) (gE (bT (K:=K) rfl (pv 0) rfl) (pv 1) dP))
   (aD (eK (pv 3) (gE (bT (K:=K) rfl (pv 0) rfl) (pv 1) dP))
   (aG (dO PassesOwn.never rfl (kJ (K:=K) rfl (bB (vV rfl) (by rfl) T.b_list boot_list (aA (Aq (aR (aO (K:=K) rfl) (bT (K:=K) rfl (pv 0) rfl) (pv 1) (fun _ _=>rfl))) aB))) (iM (K:=K) rfl rfl (cF (bF (i:=4) sc_zf.nd rfl (Or.inl rfl)) (cF (bF (i:=5) sc_zf.nd rfl (Or.inl rfl)) gB))) (aG (bU (cV (pv 0) T.o_Weave.cl m_zo G_zo (hr.mono (by decide)) b_zo .nil dI (aA (pv 2) (aA (pv 4) (aA (aR (bK (K:=K) rfl) (pv 5) aI (fun _ _=>rfl)) (aA (pC c_zh1 hr (aA (pC c_zx hr (aA (pv 3) aB)) (aA (aR (bK (K:=K) rfl) (pv 5) aI (fun _ _=>rfl)) aB))) aB))))))))))),?_⟩
  obtain⟨dx,hd,tn,wy,al,ds,as,hM,w1⟩:=id hW
  obtain⟨tA,tl⟩:AllL t∧t.length≤2 * L:=by rw[ht];exact hX I ho ab
  have el:es.length≤8:=sR (I.wy ho es hes).1 fun e he=>((I.wy ho es hes).2 e he).1
  refine⟨_,rfl,_,rfl,p,Jk,dx,_,_,rfl,w1.ob,T.o_Weave.cl,T.n_Weave_heads,eW _ _ _ _,_,rfl,hd,_,_,ho,rfl,rfl,w1.hh,sB (by omega) (by rw[jU];omega),?_⟩
  rw[tS]
  have w2:=w1.upHd (Z.hs.set ho ab)
  have f2:FrW M H (upd H hd (.lst (fN (Z.hs.set ho ab)))):=by rw[hM];exact WvC.put1 (by simp)
  show vZ _ _ _ _ (upd H hd (.lst (fN (Z.hs.set ho ab))))
  generalize upd H hd (.lst (fN (Z.hs.set ho ab)))=H2 at w2 f2
  refine⟨_,rfl,_,rfl,p,Jk,dx,_,_,rfl,w2.ob,T.o_Weave.cl,T.n_Weave_turns,gG _ _ _ _,_,rfl,tn,_,_,ho,rfl,rfl,w2.ht,sB (by omega) (by rw[aW];show ((ho:Nat):Int)<((Z.ts.length:Nat):Int);rw[I.lt];omega),?_⟩
  rw[xY]
  have w3:=w2.upTn (Z.ts.set ho t)
  have f3:FrW M H2 (upd H2 tn (.lst (bX (Z.ts.set ho t)))):=by rw[hM];exact WvC.put1 (by simp)
  dsimp only
  generalize upd H2 tn (.lst (bX (Z.ts.set ho t)))=H3 at w3 f3
  have w3:WvC Jk H3 p dx hd tn wy al ds as (dG Z ho ab t):=w3
  have f13:FrW M H H3:=fun b o e n=>f3 _ _ (f2 _ _ e n) n
  obtain⟨d,hd'⟩:∃ d,ds[ho]?=some d:=⟨_,List.getElem?_eq_getElem (by rw[w1.ld];exact(List.getElem?_eq_some_iff.mp hes).1)⟩
  obtain⟨kvs,a6,hk⟩:=w3.dc ho d es hd' hes
  refine⟨_,rfl,p,Jk,dx,_,_,rfl,w3.ob,T.o_Weave.cl,T.n_Weave_ways,kB _ _ _ _,_,rfl,wy,_,_,.ref d,rfl,rfl,SqL.of w3.hw,cT (by rw[List.getElem?_map,hd'];rfl),d,kvs,rfl,a6,fun v hv=>?_⟩
  have s4:=Same.new (o:=HO.ext fun h=>h.IsItemsView v d) hv
  refine⟨v,d,kvs,rfl,aC,s4 _ _ a6,fun l ps H5 hl s5 e5 hlen hat=>?_⟩
  have s35:=s4.trans s5
  have w5:=w3.same s35
  have hlM:l ∉ M:=fun z=>by
   rw[hM] at z
   have no:∀ {o:HO},H3 l=some o→False:=fun q=>by rw[s4 _ _ q] at hl;cases hl
   rcases List.mem_cons.mp z with rfl | z
   ·exact no w3.hh
   rcases List.mem_cons.mp z with rfl | z
   ·exact no w3.ht
   rcases List.mem_cons.mp z with rfl | z
   ·exact no w3.hw
   rcases List.mem_cons.mp z with rfl | z
   ·exact no w3.ha
   ·obtain⟨i,hi⟩:=List.getElem?_of_mem z
    obtain⟨es',hes'⟩:∃ es,Z.ws[i]?=some es:=⟨_,List.getElem?_eq_getElem (by rw[← w1.ld];exact(List.getElem?_eq_some_iff.mp hi).1)⟩
    obtain⟨kvs',q,_⟩:=w3.dc i l es' hi hes'
    exact no q
  refine⟨l,rfl,⟨_,SqL.of e5⟩,uX (K:=K) (a:=l) (xs:=ps.map V.ref) (fun i σ H6=>∃ v4 v5:Option V,σ=[some (.ref p),some (.int (ho:Nat)),some (.int (ab:Nat)),some (.str (S t)),v4,v5]∧Wat Jk H6 p M (cD ab t (dG Z ho ab t) (es.take i))∧FrW M H5 H6) ⟨none,none,rfl,⟨dx,hd,tn,wy,al,ds,as,hM,w5⟩,FrW.refl _ _⟩ (fun i σ H6 _ ⟨_,_,_,_,f⟩=>SqL.of (f _ _ e5 hlM)) ?_ ?_⟩
  ·rintro i x _ H6 hx ⟨v4,v5,rfl,W6,f6⟩
   rw[List.getElem?_map] at hx
   obtain⟨q,hq,rfl⟩:=Option.map_eq_some_iff.mp hx
   have hi:i<es.length:=by
    have:=(List.getElem?_eq_some_iff.mp hq).1
    rw[hlen,Paired.length hk] at this
    exact this
   obtain⟨e,he⟩:∃ e,es[i]?=some e:=⟨_,List.getElem?_eq_getElem hi⟩
   obtain⟨kv,hkv,ek,wt,ew,ewt⟩:=lA hk he
   have hem:=List.mem_of_getElem? he
   obtain⟨c1,c2,c3⟩:=(I.wy ho es hes).2 e hem
   have ea:=hat i q kv hq hkv
   rw[ek,ew] at ea
   have ea:H5 q=some (.tup [.str (S [e.1]),.ref wt]):=ea
   have qM:∀ {b:Addr} {xs:List V},H5 b=some (.tup xs)→b ∉ M:=fun {b xs} z=>by rw[hM];exact w5.out z (by intro xs z;cases z) (by intro kvs z;cases z)
   have ea6:=f6 _ _ ea (qM ea)
   have ewt5:=s35 _ _ ewt
   have ewt6:=f6 _ _ ewt5 (qM ewt5)
   refine⟨q,_,rfl,.inr (SqT.of ea6),rfl,_,_,rfl,_,_,rfl,rfl,?_⟩
   obtain⟨dx',hd6,tn6,wy6,al6,ds6,as6,hM6,w6⟩:=id W6
   have hes':∀ x∈es.take i,bY x.1∧x.2.1<(dG Z ho ab t).hs.length∧x.2.2=lay (back (φ ho)++(hf x.1++φ x.2.1)):=fun x hx=>by
    obtain⟨z1,z2,z3⟩:=(I.wy ho es hes).2 x (List.mem_of_mem_take hx)
    refine⟨z1,?_,z3⟩
    show x.2.1<(Z.hs.set ho ab).length
    rw[List.length_set];exact z2
   have lu:(dG Z ho ab t).hs.length=Z.hs.length:=by show (Z.hs.set ho ab).length=_;rw[List.length_set]
   obtain⟨I6,h6⟩:=rE ht I1 (by rw[lu];exact hab) hes'
   obtain⟨ea',hea'⟩:∃ ea,(cD ab t (dG Z ho ab t) (es.take i)).ws[ab]?=some ea:=⟨_,List.getElem?_eq_getElem (by rw[I6.lw,h6,lu];exact hab)⟩
   have hgd:(cD ab t (dG Z ho ab t) (es.take i)).ws.getD ab []=ea':=by rw[List.getD_eq_getElem?_getD,hea'];rfl
   obtain⟨eA,e3l⟩:AllL e.2.2∧e.2.2.length≤3 * L:=by rw[c3];exact iY I c1 ho e.2.1
   have hal6:=jG (ab:=ab) (t:=t) (es:=es.take i) (T:=dG Z ho ab t)
   have htl:(es.take i).length≤8:=by rw[List.length_take];omega
   have hal7:(dG Z ho ab t).al.length=Z.al.length:=rfl
   refine⟨_,rfl,p,dx',_,rfl,w6.ob,eB _ _ _ _ (by decide +kernel) (by decide +kernel) (by decide +kernel) (by decide +kernel),_,rfl,_,rfl,_,rfl,wt,_,0,.int (e.2.1:Nat),rfl,rfl,SqT.of ewt6,rfl,_,rfl,t,rfl,tA,by omega,fun H7 s7=>?_⟩
   refine⟨_,rfl,wt,_,1,.str (S e.2.2),rfl,rfl,SqT.of (s7 _ _ ewt6),rfl,back t,e.2.2,rfl,aL tA,eA,by rw[bG];omega,fun H8 s8=>?_⟩
   refine⟨hf,φ,ρ1,rk1,L,p,M,_,ab,e.1,e.2.1,lay (back t++e.2.2),ea',rfl,(W6.same s7).same s8,I6,hL,hea',c1,by rw[h6,lu];exact c2,?_,by omega,fun H9 W9 f9=>?_⟩
   ·rw[ht,c3]
    exact Iw (I.fa ho).1 (I.fa ab).1 (I.fa e.2.1).1 (I.ha e.1 c1).1
   ·have tk:es.take (i+1)=es.take i++[e]:=by rw[List.take_add_one,he];rfl
    refine⟨_,_,rfl,?_,fun b o z n=>f9 _ _ (s8 _ _ (s7 _ _ (f6 b o z n))) n⟩
    rw[tk,tM,hgd]
    exact W9
  ·rintro _ H6 ⟨v4,v5,rfl,W6,f6⟩
   rw[List.length_map,hlen,Paired.length hk,List.take_length] at W6
   exact k H6 W6 fun b o z n=>f6 _ _ (s35 _ _ (f13 b o z n)) n
theorem Gf{f:Addr}{fd:FuncData}(D:DfM K Jk "fold" "Weave.fold" Ev ["self"] f fd)(T:Txt P w K mg Ji Jj Jk)(c_zx:Cl P w K mg base "turned_back" ["word"] 2 fI)(c_zh1:Cl P w K mg base "joined" ["one","other"] 3 kL)(c_zv:jS P w K mg base Jk "end_of" ["self","place","told"] 4 (sD Jk))(c_zf:jS P w K mg base Jk "put_under" ["self","head","above","turn"] 5 (A7 Jk)):jS P w K mg base Jk "fold" ["self"] 6 (sW Jk):=by
 obtain⟨f_zv,fd_zv,G_zv,m_zv,b_zv⟩:=c_zv
 obtain⟨f_zf,fd_zf,G_zf,m_zf,b_zf⟩:=c_zf
 refine D.cl (D.F.ok sc_z1 (fun vs H Q E h=>?_) (fun cdv A outer s H vs Q E hr h=>?_))
 ·obtain⟨_,_,_,_,p,M,Z,E',rfl,_⟩:=h
  rfl
 ·obtain⟨hf,φ,rk,L,p,M,Z,E',rfl,hW,I,X,hL,hN,hal,k⟩:=h
  refine⟨_,(aG (nU PassesOwn.never (aY xP (bR (cJ (K:=K) rfl) (by rfl) T.b_len PySem.boot_len (aA (bT (K:=K) rfl (pv 0) rfl) aB)) aI (bC _)) (aD (aM (i:=1) sc_z1.nd rfl (Or.inl rfl) (cS (K:=K) rfl PySem.F.plainAttrs_list PySem.F.slot_list_pop PySem.F.type_list_pop tI (bT (K:=K) rfl (pv 0) rfl) (aA aI aB)))
   (aD (aM (i:=2) sc_z1.nd rfl (Or.inl rfl) (cV (pv 0) T.o_Weave.cl m_zv G_zv (hr.mono (by decide)) b_zv .nil dI (aA (aR (bK (K:=K) rfl) (pv 1) aI (fun _ _=>rfl)) (aA cE aB))))
   (aD (aM (i:=3) sc_z1.nd rfl (Or.inl rfl) (cV (pv 0) T.o_Weave.cl m_zv G_zv (hr.mono (by decide)) b_zv .nil dI (aA (aR (bK (K:=K) rfl) (pv 1) aI (fun _ _=>rfl)) (aA (aR (bK (K:=K) rfl) (pv 1) aI (fun _ _=>rfl)) aB))))
   (aG (eG (aY mH (aR (bK (K:=K) rfl) (pv 2) aI (fun _ _=>rfl)) (aR (bK (K:=K) rfl) (pv 3) aI (fun _ _=>rfl)) (bC _)) (aG (bU (cV (pv 0) T.o_Weave.cl m_zf G_zf (hr.mono (by decide)) b_zf .nil dI (aA (aR (bK (K:=K) rfl) (pv 2) aI (fun _ _=>rfl)) (aA (aR (bK (K:=K) rfl) (pv 3) aI (fun _ _=>rfl)) (aA (pC c_zh1 hr (aA (pC c_zx hr (aA (aR (bK (K:=K) rfl) (pv 2) aI (fun _ _=>rfl)) aB)) (aA (aR (bK (K:=K) rfl) (pv 3) aI (fun _ _=>rfl)) aB))) aB)))))) cU))))))),?_⟩
  refine⟨fun m σ H'=>∃ (ρ rk':Nat→Nat) (Z':WvS) (v1 v2 v3:Option V),m=9 * vR ρ Z.hs.length+Z'.al.length∧m≤18100∧σ=[some (.ref p),v1,v2,v3]∧Wat Jk H' p M Z'∧WI hf φ ρ rk' L Z'∧EI E' ρ Z'∧(∀ x,ρ (ρ x)=ρ x)∧Z'.hs.length=Z.hs.length∧FrW M H H',⟨_,(fun x=>x),rk,Z,none,none,none,rfl,?_,rfl,hW,I,X,(fun _=>rfl),rfl,FrW.refl _ _⟩,?_⟩
  ·have:=Ed (ρ:=fun x=>x) Z.hs.length
   omega
  rintro m _ H1 ⟨ρ,rk1,Z1,v1,v2,v3,hm,hm2,rfl,W1,I1,X1,hid,hl1,f1⟩
  obtain⟨dx,hd,tn,wy,al,ds,as,hM,w1⟩:=id W1
  refine⟨_,rfl,p,Jk,dx,_,_,rfl,w1.ob,T.o_Weave.cl,T.n_Weave_alike,oJ _ _ _ _,al,_,rfl,.inl (SqL.of w1.ha),_,_,rfl,rfl,_,rfl,?_⟩
  cases hal1:Z1.al with
  | nil =>
   have has:as=[]:=List.length_eq_zero_iff.mp (by rw[w1.la,hal1];rfl)
   subst has
   refine gF ?_
   exact k ρ rk1 H1 Z1 W1 I1 X1 hal1 hid hl1 f1
  | cons pr rest =>
   obtain⟨a,tt,b⟩:=pr
   obtain⟨q0,as',rfl⟩:∃ q0 as',as=q0::as':=by
    cases as with
    | nil=>have:=w1.la;rw[hal1] at this;simp at this
    | cons q0 as'=>exact⟨q0,as',rfl⟩
   refine gQ (fun _=>?_) (fun z=>absurd (decide_eq_true (show (0:Int)<(((q0::as').map V.ref).length:Nat) by rw[List.length_map,List.length_cons];omega)) z)
   have hq0:H1 q0=some (.tup [.int (a:Nat),.str (S tt),.int (b:Nat)]):=w1.at' 0 q0 (a,tt,b) rfl (by rw[hal1];rfl)
   obtain⟨p1,p2,p3⟩:=I1.al (a,tt,b) (by rw[hal1];exact List.mem_cons_self)
   have p1:a<Z1.hs.length:=p1
   have p2:b<Z1.hs.length:=p2
   have p3:tt=lay (back (φ a)++φ b):=p3
   obtain⟨tA,tl⟩:AllL tt∧tt.length≤2 * L:=by rw[p3];exact hX I1 a b
   refine⟨fun σ' H'=>∃ (ρ' rk':Nat→Nat) (Z':WvS) (v1 v2 v3:Option V),9 * vR ρ' Z.hs.length+Z'.al.length<m∧σ'=[some (.ref p),v1,v2,v3]∧Wat Jk H' p M Z'∧WI hf φ ρ' rk' L Z'∧EI E' ρ' Z'∧(∀ x,ρ' (ρ' x)=ρ' x)∧Z'.hs.length=Z.hs.length∧FrW M H H',fun σ' H' ⟨ρ',rk',Z',v1,v2,v3,q0,q1⟩=>⟨_,q0,ρ',rk',Z',v1,v2,v3,rfl,by omega,q1⟩,?_⟩
   refine⟨_,rfl,p,Jk,dx,_,_,rfl,w1.ob,T.o_Weave.cl,T.n_Weave_alike,oJ _ _ _ _,.inl ⟨rfl,_,SqL.of w1.ha⟩,al,_,0,0,.ref q0,rfl,rfl,w1.ha,by decide,by decide,PySem.StrLaws.seqIndex_nonneg (by decide) (by rw[List.length_map,List.length_cons];omega),rfl,?_⟩
   have w2:=w1.upAl as' rest (by have:=w1.la;rw[hal1] at this;simpa using this) (fun j x e h1 h2=>w1.at' (j+1) x e h1 (by rw[hal1];exact h2))
   have f2:FrW M H1 (upd H1 al (.lst (as'.map V.ref))):=by rw[hM];exact WvC.put1 (by simp)
   show vZ _ _ _ _ (upd H1 al (.lst (as'.map V.ref)))
   generalize upd H1 al (.lst (as'.map V.ref))=H2 at w2 f2
   have q0M:q0 ∉ M:=by rw[hM];exact w1.out hq0 (by intro xs z;cases z) (by intro kvs z;cases z)
   have hq2:=f2 _ _ hq0 q0M
   have I2:WI hf φ ρ rk1 L { Z1 with al:=rest }:=I1.alDrop fun e he=>by rw[hal1];exact List.mem_cons_of_mem _ he
   have W2:Wat Jk H2 p M { Z1 with al:=rest }:=⟨dx,hd,tn,wy,al,ds,as',hM,w2⟩
   refine⟨_,rfl,p,dx,_,rfl,w2.ob,eB _ _ _ _ (by decide +kernel) (by decide +kernel) (by decide +kernel) (by decide +kernel),_,rfl,q0,_,0,.int (a:Nat),rfl,rfl,SqT.of hq2,rfl,hf,φ,ρ,rk1,L,p,M,_,a,[],rfl,W2,I2,hL,p1,AllL.nil,rfl,by simp,fun t1 H3 Z3 K3 e3=>?_⟩
   have e3:H3 t1=some (.tup [.int (ρ a:Nat),.str (S (lay (back (φ a)++φ (ρ a))))]):=e3
   obtain⟨dx3,hd3,tn3,wy3,al3,ds3,as3,hM3,w3⟩:=id K3.at'
   have hq3:=K3.fr _ _ hq2 q0M
   refine⟨_,rfl,p,dx3,_,rfl,w3.ob,eB _ _ _ _ (by decide +kernel) (by decide +kernel) (by decide +kernel) (by decide +kernel),_,rfl,q0,_,2,.int (b:Nat),rfl,rfl,SqT.of hq3,rfl,_,rfl,q0,_,1,.str (S tt),rfl,rfl,SqT.of hq3,rfl,hf,φ,ρ,rk1,L,p,M,_,b,tt,rfl,K3.at',K3.wi,hL,by rw[K3.ln];exact p2,tA,by rw[p3,yJ],by omega,fun t2 H4 Z4 K4 e4=>?_⟩
   have et:lay (tt++(back (φ b)++φ (ρ b)))=lay (back (φ a)++φ (ρ b)):=by
    rw[p3,eF _ _ (AllL.app.mpr ⟨aL (I1.fa a).1,(I1.fa b).1⟩),List.append_assoc]
    exact eE (aL (I1.fa a).1) (I1.fa b).1 (I1.fa (ρ b)).1
   rw[et] at e4
   have t1M:t1 ∉ M:=by rw[hM3];exact w3.out e3 (by intro xs z;cases z) (by intro kvs z;cases z)
   have e34:=K4.fr _ _ e3 t1M
   have hln:Z4.hs.length=Z1.hs.length:=K4.ln.trans K3.ln
   have hws:Z4.ws=Z1.ws:=K4.ws.trans K3.ws
   have hal4:Z4.al=rest:=K4.al.trans K3.al
   have X4:EI E' ρ { Z4 with al:=(a,tt,b)::Z4.al }:=X1.move hws (by rw[hal1];show (a,tt,b)::Z4.al=_;rw[hal4]) hln
   have f14:FrW M H H4:=fun x o e n=>K4.fr _ _ (K3.fr _ _ (f2 _ _ (f1 x o e n) n) n) n
   have hrl:m=9 * vR ρ Z.hs.length+(rest.length+1):=by rw[hm,hal1,List.length_cons]
   refine⟨_,rfl,t1,_,0,.int (ρ a:Nat),rfl,rfl,SqT.of e34,rfl,_,rfl,t2,_,0,.int (ρ b:Nat),rfl,rfl,SqT.of e4,rfl,rfl,_,rfl,?_⟩
   by_cases hab:ρ a=ρ b
   ·rw[show decide (V.int ((ρ a:Nat):Int)=V.int ((ρ b:Nat):Int))=true from decide_eq_true (by rw[hab])]
    refine gF ?_
    exact⟨ρ,rk1,Z4,_,_,_,by rw[hal4];omega,rfl,K4.at',K4.wi,X4.pop hab,hid,hln.trans hl1,f14⟩
   ·rw[show decide (V.int ((ρ a:Nat):Int)=V.int ((ρ b:Nat):Int))=false from decide_eq_false (fun z=>hab (by have:=V.int.inj z;omega))]
    refine sT ?_
    obtain⟨dx4,hd4,tn4,wy4,al4,ds4,as4,hM4,w4⟩:=id K4.at'
    obtain⟨oA,ol⟩:=hX I1 a (ρ a)
    obtain⟨oB,ol2⟩:=hX I1 a (ρ b)
    refine⟨_,rfl,p,dx4,_,rfl,w4.ob,eB _ _ _ _ (by decide +kernel) (by decide +kernel) (by decide +kernel) (by decide +kernel),_,rfl,t1,_,0,.int (ρ a:Nat),rfl,rfl,SqT.of e34,rfl,_,rfl,t2,_,0,.int (ρ b:Nat),rfl,rfl,SqT.of e4,rfl,_,rfl,t1,_,1,.str (S (lay (back (φ a)++φ (ρ a)))),rfl,rfl,SqT.of e34,rfl,_,rfl,oA,by omega,fun H5 s5=>?_⟩
    refine⟨_,rfl,t2,_,1,.str (S (lay (back (φ a)++φ (ρ b)))),rfl,rfl,SqT.of (s5 _ _ e4),rfl,_,_,rfl,aL oA,oB,by rw[bG];omega,fun H6 s6=>?_⟩
    have ht:lay (back (lay (back (φ a)++φ (ρ a)))++lay (back (φ a)++φ (ρ b)))=lay (back (φ (ρ a))++φ (ρ b)):=by
     rw[IE (I1.fa a).1 (I1.fa (ρ a)).1]
     exact IL (I1.fa (ρ a)).1 (I1.fa a).1 (I1.fa (ρ b)).1
    rw[ht]
    have I4:=K4.wi
    obtain⟨ra1,ra2⟩:=I4.rt a (by rw[hln];exact p1)
    obtain⟨rb1,rb2⟩:=I4.rt b (by rw[hln];exact p2)
    obtain⟨es,hes⟩:∃ es,Z4.ws[ρ a]?=some es:=⟨_,List.getElem?_eq_getElem (by rw[I4.lw];exact ra1)⟩
    obtain⟨o1,o2,o3⟩:=Ew I4 X4 (by rw[hln];exact p1) (by rw[hln];exact p2) rfl rfl hab rfl hes
    have hel:es.length≤8:=sR (I4.wy _ es hes).1 fun e he=>((I4.wy _ es hes).2 e he).1
    refine⟨hf,φ,ρ,rk1,_,_,L,p,M,Z4,ρ a,ρ b,_,es,rfl,(K4.at'.same s5).same s6,I4,I4.under ra2 rb2 hab rfl,hL,hes,ra1,rb1,hab,rfl,by rw[hal4];omega,fun H7 W7 f7=>?_⟩
    have rb3:ρ (ρ b)=ρ b:=hid b
    have hcnt:=zJ (N:=Z.hs.length) (hd:=ρ a) (ab:=ρ b) (by rw[← hl1,← hln];exact ra1) (hid a) rb3 hab
    have hul:=jG (ab:=ρ b) (t:=lay (back (φ (ρ a))++φ (ρ b))) (es:=es) (T:=dG Z4 (ρ a) (ρ b) (lay (back (φ (ρ a))++φ (ρ b))))
    have hul2:(dG Z4 (ρ a) (ρ b) (lay (back (φ (ρ a))++φ (ρ b)))).al.length=rest.length:=by show Z4.al.length=_;rw[hal4]
    refine⟨ρU ρ (ρ a) (ρ b),_,_,_,_,_,by omega,rfl,W7,o1,o2,zD hid rb3 hab,?_,fun x o e n=>f7 _ _ (s6 _ _ (s5 _ _ (f14 x o e n))) n⟩
    rw[o3,List.length_set]
    exact hln.trans hl1
theorem FY{f:Addr}{fd:FuncData}(D:DfM K Jk "round_told" "Weave.round_told" Eu ["self","letter"] f fd)(T:Txt P w K mg Ji Jj Jk)(c_zd1:Cl P w K mg base "laid_out" ["text"] 2 mB)(c_zx:Cl P w K mg base "turned_back" ["word"] 2 fI)(c_zv:jS P w K mg base Jk "end_of" ["self","place","told"] 4 (sD Jk)):jS P w K mg base Jk "round_told" ["self","letter"] 5 (tL Jk):=by
 obtain⟨f_zv,fd_zv,G_zv,m_zv,b_zv⟩:=c_zv
 refine D.cl (D.F.ok sc_zc (fun vs H Q E h=>?_) (fun cdv A outer s H vs Q E hr h=>?_))
 ·obtain⟨_,_,_,_,_,p,M,Z,c,g,t,es,rfl,_⟩:=h
  rfl
 ·obtain⟨hf,φ,ρ,rk,L,p,M,Z,c,g,t,es,rfl,hW,I,hL,h0,hφ,hc,hes,hw,hg,k⟩:=h
  refine⟨_,(aD (aM (i:=2) sc_zc.nd rfl (Or.inl rfl) (cV (pv 0) T.o_Weave.cl m_zv G_zv (hr.mono (by decide)) b_zv .nil dI (aA aI (aA cE aB))))
   (aD (aM (i:=3) sc_zc.nd rfl (Or.inl rfl) (sQ (Nat.lt_of_le_of_lt (Nat.add_le_add_left (by decide:1≤64) _) hr.units) (aR (aO (K:=K) rfl) (bT (K:=K) rfl (pv 0) rfl) (aR (bK (K:=K) rfl) (pv 2) aI (fun _ _=>rfl)) (fun _ _=>rfl)) (pv 1) (fun _ _=>rfl)))
   (aD (aM (i:=4) sc_zc.nd rfl (Or.inl rfl) (cV (pv 0) T.o_Weave.cl m_zv G_zv (hr.mono (by decide)) b_zv .nil dI (aA (aR (bK (K:=K) rfl) (pv 3) aI (fun _ _=>rfl)) (aA (aR (bK (K:=K) rfl) (pv 3) aI (fun _ _=>rfl)) aB))))
   (aG (aS (pC c_zd1 hr (aA (bE cK (bE cK (aR (bK (K:=K) rfl) (pv 2) aI (fun _ _=>rfl)) (aR (bK (K:=K) rfl) (pv 4) aI (fun _ _=>rfl))) (pC c_zx hr (aA (aR (bK (K:=K) rfl) (pv 2) aI (fun _ _=>rfl)) aB))) aB))))))),?_⟩
  obtain⟨dx,hd,tn,wy,al,ds,as,hM,w1⟩:=id hW
  refine⟨_,rfl,p,dx,_,rfl,w1.ob,eB _ _ _ _ (by decide +kernel) (by decide +kernel) (by decide +kernel) (by decide +kernel),hf,φ,ρ,rk,L,p,M,Z,0,[],rfl,hW,I,hL,h0,AllL.nil,rfl,by simp,fun t1 H1 Z1 K1 e1=>?_⟩
  have e1:H1 t1=some (.tup [.int (ρ 0:Nat),.str (S (lay (φ (ρ 0))))]):=by
   rw[e1,hφ]
   rfl
  obtain⟨dx1,hd1,tn1,wy1,al1,ds1,as1,hM1,w2⟩:=id K1.at'
  have hes1:Z1.ws[ρ 0]?=some es:=by rw[K1.ws];exact hes
  obtain⟨d,hd'⟩:∃ d,ds1[ρ 0]?=some d:=⟨_,List.getElem?_eq_getElem (by rw[w2.ld];exact(List.getElem?_eq_some_iff.mp hes1).1)⟩
  obtain⟨kvs,a6,hk⟩:=w2.dc _ d es hd' hes1
  have hv:=hk.val (c:=c)
  rw[hw] at hv
  obtain⟨t0,v0,v1⟩:=(show ∃ u,cX kvs (Sum.inr (S [c]))=some (V.ref u)∧H1 u=some (HO.tup [V.int (g:Nat),V.str (S t)]) from hv)
  have hget:DGet H1 d (.str (S [c])) (some (.ref t0)):=by
   have:=DGet.k (k:=.inr (S [c])) a6
   rw[v0] at this
   exact this
  obtain⟨x1,x2,x3⟩:=(I.wy _ es hes).2 _ (eN hw)
  have x2:g<Z.hs.length:=x2
  have x3:t=lay (back (φ (ρ 0))++(hf c++φ g)):=x3
  obtain⟨tA,tl⟩:AllL t∧t.length≤3 * L:=by rw[x3];exact iY I hc (ρ 0) g
  refine⟨_,rfl,p,Jk,dx1,_,_,rfl,w2.ob,T.o_Weave.cl,T.n_Weave_ways,kB _ _ _ _,_,rfl,t1,_,0,.int (ρ 0:Nat),rfl,rfl,SqT.of e1,rfl,wy1,_,_,.ref d,rfl,rfl,SqL.of w2.hw,cT (by rw[List.getElem?_map,hd'];rfl),_,rfl,d,.ref t0,rfl,hget,?_⟩
  refine⟨_,rfl,p,dx1,_,rfl,w2.ob,eB _ _ _ _ (by decide +kernel) (by decide +kernel) (by decide +kernel) (by decide +kernel),_,rfl,t0,_,0,.int (g:Nat),rfl,rfl,SqT.of v1,rfl,_,rfl,t0,_,1,.str (S t),rfl,rfl,SqT.of v1,rfl,hf,φ,ρ,rk,L,p,M,Z1,g,t,rfl,K1.at',K1.wi,hL,by rw[K1.ln];exact x2,tA,by rw[x3,yJ],tl,fun t2 H2 Z2 K2 e2=>?_⟩
  have ew:lay (t++(back (φ g)++φ (ρ g)))=lay (back (φ (ρ 0))++(hf c++φ (ρ 0))):=by
   rw[hg,x3]
   have:=IS (I.fa (ρ 0)).1 (I.fa g).1 (I.fa (ρ 0)).1 (I.ha c hc).1
   rw[← this,cP _ _ (dN (AllL.app.mpr ⟨aL (I.fa (ρ 0)).1,AllL.app.mpr ⟨(I.ha c hc).1,(I.fa g).1⟩⟩)) (AllL.app.mpr ⟨aL (I.fa g).1,(I.fa (ρ 0)).1⟩)]
  rw[ew] at e2
  have t1M:t1 ∉ M:=by rw[hM1];exact w2.out e1 (by intro xs z;cases z) (by intro kvs z;cases z)
  have e12:=K2.fr _ _ e1 t1M
  have fA:=(I.fa (ρ 0)).1
  have fl:=(I.fa (ρ 0)).2
  have bl:=eQ (φ (ρ 0))
  obtain⟨eA,el⟩:=iY I hc (ρ 0) (ρ 0)
  have bA:=dN fA
  refine⟨_,rfl,t1,_,1,.str (S (lay (φ (ρ 0)))),rfl,rfl,SqT.of e12,rfl,_,rfl,t2,_,1,_,rfl,rfl,SqT.of e2,rfl,_,_,rfl,rfl,aN (by rw[bP,bP];omega),_,rfl,t1,_,1,.str (S (lay (φ (ρ 0)))),rfl,rfl,SqT.of e12,rfl,_,rfl,bA,by omega,fun H3 s3=>⟨_,_,rfl,rfl,aN ?_,lay (φ (ρ 0))++lay (back (φ (ρ 0))++(hf c++φ (ρ 0)))++back (lay (φ (ρ 0))),?_,?_,?_,fun H4 s4=>?_⟩⟩
  ·rw[fW,bP,bP,List.length_append,bG];omega
  ·rw[fW,fW];rfl
  ·exact AllL.app.mpr ⟨AllL.app.mpr ⟨bA,eA⟩,aL bA⟩
  ·rw[List.length_append,List.length_append,bG];omega
  ·rw[vL (I.ha c hc).1 fA]
   exact k H4 Z2 ⟨(K2.at'.same s3).same s4,K2.wi,K2.ws.trans K1.ws,K2.al.trans K1.al,K2.ln.trans K1.ln,fun b o e n=>s4 _ _ (s3 _ _ (K2.fr _ _ (K1.fr b o e n) n))⟩
theorem FT{f:Addr}{fd:FuncData}(D:DfM K Jk "lay_word" "Weave.lay_word" DZ ["self","word","told"] f fd)(T:Txt P w K mg Ji Jj Jk)(c_z9:Cl P w K mg base "contrary" ["letter"] 1 hZ)(c_zx:Cl P w K mg base "turned_back" ["word"] 2 fI)(c_zh:jS P w K mg base Jk "new_place" ["self"] 1 (A_ Jk))(c_zo:jS P w K mg base Jk "lay_way" ["self","place","letter","goal","told"] 4 (vY Jk)):jS P w K mg base Jk "lay_word" ["self","word","told"] 5 (rQ Jk):=by
 obtain⟨f_zh,fd_zh,G_zh,m_zh,b_zh⟩:=c_zh
 obtain⟨f_zo,fd_zo,G_zo,m_zo,b_zo⟩:=c_zo
 refine D.cl (D.F.ok sc_zk (fun vs H Q E h=>?_) (fun cdv A outer s H vs Q E hr h=>?_))
 ·obtain⟨_,_,_,_,p,M,Z,E',wd,t,rfl,_⟩:=h
  rfl
 ·obtain⟨hf,φ,rk,L,p,M,Z,E',wd,t,rfl,hW,I,X,hsy,hL,hφ,h0,hN,hal,hwA,hcon,htold,hlen,k⟩:=h
  refine⟨_,(aD (aM (i:=3) sc_zk.nd rfl (Or.inl rfl) aI)
   (aG (dO PassesOwn.never rfl (De (by rfl) T.b_enumerate (aA (pv 1) aB)) (iM (K:=K) rfl rfl (cF (bF (i:=4) sc_zk.nd rfl (Or.inl rfl)) (cF (bF (i:=5) sc_zk.nd rfl (Or.inl rfl)) gB))) (aD (aM (i:=6) sc_zk.nd rfl (Or.inl rfl) (mV nC (pv 4) (bE Fu (bR fJ (by rfl) T.b_len PySem.boot_len (aA (pv 1) aB)) aI) (bC _)))
   (iT (aM (i:=7) sc_zk.nd rfl (Or.inl rfl) (kH (rN (pv 6)) aI (oH (pv 0) T.o_Weave.cl m_zh G_zh (hr.mono (by decide)) b_zh .nil dI)))
   (iT (aM (i:=8) sc_zk.nd rfl (Or.inl rfl) (kH (rN (pv 6)) (pv 2) cE))
   (aD (bU (cV (pv 0) T.o_Weave.cl m_zo G_zo (hr.mono (by decide)) b_zo .nil dI (aA (pv 3) (aA (pv 5) (aA (pv 7) (aA (pv 8) aB))))))
   (aD (bU (cV (pv 0) T.o_Weave.cl m_zo G_zo (hr.mono (by decide)) b_zo .nil dI (aA (pv 7) (aA (pC c_z9 hr (aA (pv 5) aB)) (aA (pv 3) (aA (pC c_zx hr (aA (pv 8) aB)) aB))))))
   (aG (aM (i:=3) sc_zk.nd rfl (Or.inl rfl) (pv 7))))))))))),?_⟩
  refine⟨_,rfl,S wd,rfl,Bo (w:=wd) (fun i σ H2=>∃ (v4 v5 v6 v7 v8:Option V) (hr:Nat) (M2:List Addr) (Z2:WvS) (φ2:Nat→List Nat) (E2:Nat→Nat→Nat→Prop),σ=[some (.ref p),some (.str (S wd)),some (.str (S t)),some (.int (hr:Nat)),v4,v5,v6,v7,v8]∧Wat Jk H2 p M2 Z2∧MU H M M2∧FrW M H H2∧WI hf φ2 (fun x=>x) rk L Z2∧EI E2 (fun x=>x) Z2∧BF E2∧(∀ p c q,E' p c q→E2 p c q)∧φ2 0=[]∧Fw E2 (fun x=>x) 0 (wd.take i) hr∧hr<Z2.hs.length∧Z.hs.length≤Z2.hs.length∧Z2.hs.length≤Z.hs.length+i∧Z2.al.length≤Z.al.length+2 * i∧(i<wd.length→φ2 hr=lay (back (Hw hf (wd.take i))))∧(i=wd.length→hr=0)) ?_ ?_ ?_⟩
  ·exact⟨_,_,_,_,_,0,M,Z,φ,E',rfl,hW,MU.refl _ _,FrW.refl _ _,I,X,hsy,fun _ _ _ z=>z,hφ,rfl,h0,Nat.le_refl _,Nat.le_refl _,Nat.le_refl _,fun _=>hφ,fun _=>rfl⟩
  ·rintro i c q _ H2 hc hq2 ⟨v4,v5,v6,v7,v8,hr,M2,Z2,φ2,E2,rfl,W2,u2,f2,I2,X2,sy2,mo2,φ20,fw2,hrl,ln1,ln2,al2,hφr,_⟩
   have hi:i<wd.length:=(List.getElem?_eq_some_iff.mp hc).1
   have hcL:bY c:=hwA c (List.mem_of_getElem? hc)
   have tk:wd.take (i+1)=wd.take i++[c]:=bM hc
   have huA:AllL (Hw hf (wd.take i)):=lL (fun c hc=>(I.ha c hc).1) fun x hx=>hwA x (List.mem_of_mem_take hx)
   have hcA:=(I.ha c hcL).1
   have hφr:=hφr hi
   have s3:=Same.new (o:=HO.tup [.int ((i:Nat):Int),.str (S [c])]) hq2
   refine⟨q,_,rfl,.inr (SqT.of aC),rfl,_,_,rfl,_,_,rfl,rfl,?_⟩
   generalize upd H2 q (.tup [.int ((i:Nat):Int),.str (S [c])])=H3 at s3
   refine⟨_,rfl,_,rfl,S wd,rfl,aN (by rw[bP];omega),_,_,rfl,rfl,rfl,?_⟩
   have W3:=W2.same s3
   have f3:FrW M H H3:=fun b o e n=>s3 _ _ (f2 b o e n)
   have hb:decide (V.int ((i:Nat):Int)=V.int ((((S wd).length:Nat):Int) - 1))=decide (i+1=wd.length):=by
    rw[bP]
    refine decide_eq_decide.mpr ⟨fun z=>by have:=V.int.inj z;omega,fun z=>by congr 1;omega⟩
   dsimp only
   rw[hb]
   generalize hlast:decide (i+1=wd.length)=lastb
   refine⟨fun σ H'=>∃ (v8:Option V) (g:Nat) (M4:List Addr) (Z4:WvS) (φ4:Nat→List Nat),σ=[some (.ref p),some (.str (S wd)),some (.str (S t)),some (.int (hr:Nat)),some (.int ((i:Nat):Int)),some (.str (S [c])),some (.bl lastb),some (.int (g:Nat)),v8]∧Wat Jk H' p M4 Z4∧MU H M M4∧FrW M H H'∧WI hf φ4 (fun x=>x) rk L Z4∧EI E2 (fun x=>x) Z4∧φ4 0=[]∧hr<Z4.hs.length∧g<Z4.hs.length∧Z.hs.length≤Z4.hs.length∧Z4.hs.length≤Z.hs.length+(i+1)∧Z4.al.length≤Z.al.length+2 * i∧φ4 hr=lay (back (Hw hf (wd.take i)))∧(lastb=true→g=0)∧(lastb=false→φ4 g=lay (back (Hw hf (wd.take (i+1))))),?_,?_⟩
   ·refine⟨_,rfl,_,rfl,?_⟩
    cases lastb with
    | true=>exact sT ⟨_,0,M2,Z2,φ2,rfl,W3,u2,f3,I2,X2,φ20,hrl,by omega,ln1,by omega,al2,hφr,fun _=>rfl,fun z=>by cases z⟩
    | false =>
     refine gF ?_
     obtain⟨dx,hd,tn,wy,al,ds,as,hM,w3⟩:=id W3
     refine⟨_,rfl,p,dx,_,rfl,w3.ob,eB _ _ _ _ (by decide +kernel) (by decide +kernel) (by decide +kernel) (by decide +kernel),p,M2,Z2,rfl,W3,by omega,by rw[I2.lt];omega,by rw[I2.lw];omega,fun d H4 W4 hd4 f4=>?_⟩
     have hold:∀ {x:Nat},x<Z2.hs.length→φN φ2 Z2.hs.length (lay (back (Hw hf (wd.take (i+1))))) x=φ2 x:=fun {x} hx=>by unfold φN;rw[if_neg (by omega)]
     have hA1:AllL (Hw hf (wd.take (i+1))):=lL (fun c hc=>(I.ha c hc).1) fun x hx=>hwA x (List.mem_of_mem_take hx)
     have ln4:(Bp Z2).hs.length=Z2.hs.length+1:=by show (Z2.hs++[Z2.hs.length]).length=_;rw[List.length_append];rfl
     refine⟨_,Z2.hs.length,M2++[d],Bp Z2,_,rfl,W4,fun x hx=>?_,?_,I2.new (dN (aL hA1)) (hlen (i+1) (by omega)),X2.new I2.lw,?_,by omega,by omega,by omega,by omega,al2,?_,fun z=>(by cases z),fun _=>?_⟩
     ·rcases List.mem_append.mp hx with z | z
      ·exact u2 x z
      ·rw[List.mem_singleton.mp z]
       by_cases hdM:d∈M
       ·exact .inl hdM
       ·refine .inr ?_
        cases e:H d with
        | none=>rfl
        | some o=>rw[f3 d o e hdM] at hd4;cases hd4
     ·exact FrW.trans f3 u2 f4
     ·rw[hold (by omega)];exact φ20
     ·rw[hold hrl];exact hφr
     ·unfold φN;rw[if_pos rfl]
   rintro _ H4 ⟨v8',g,M4,Z4,φ4,rfl,W4,u4,f4,I4,X4,φ40,hr4,hg4,l41,l42,al4,hφ4,hg0,hgn⟩
   refine⟨fun σ H'=>∃ (pt:List Nat),σ=[some (.ref p),some (.str (S wd)),some (.str (S t)),some (.int (hr:Nat)),some (.int ((i:Nat):Int)),some (.str (S [c])),some (.bl lastb),some (.int (g:Nat)),some (.str (S pt))]∧H'=H4∧pt=lay (back (φ4 hr)++(hf c++φ4 g)),?_,?_⟩
   ·refine⟨_,rfl,_,rfl,?_⟩
    cases lastb with
    | true =>
     have hl:i+1=wd.length:=of_decide_eq_true hlast
     refine sT ⟨_,rfl,t,rfl,rfl,?_⟩
     rw[htold (by intro z;rw[z] at hi;simp at hi),hφ4,hg0 rfl,φ40,zB huA hcA,← tk,hl,List.take_length]
    | false =>
     refine gF ⟨[],rfl,rfl,?_⟩
     rw[hφ4,hgn rfl,tk,B1 huA hcA]
   rintro _ _ ⟨pt,rfl,rfl,hpt⟩
   obtain⟨pA,pl⟩:AllL pt∧pt.length≤3 * L:=by rw[hpt];exact iY I4 hcL hr g
   obtain⟨es,hes⟩:∃ es,Z4.ws[hr]?=some es:=⟨_,List.getElem?_eq_getElem (by rw[I4.lw];exact hr4)⟩
   obtain⟨dx,hd,tn,wy,al,ds,as,hM,w4⟩:=id W4
   refine⟨_,rfl,p,dx,_,rfl,w4.ob,eB _ _ _ _ (by decide +kernel) (by decide +kernel) (by decide +kernel) (by decide +kernel),_,rfl,_,rfl,_,rfl,_,rfl,hf,φ4,(fun x=>x),rk,L,p,M4,Z4,hr,c,g,pt,es,rfl,W4,I4,hL,hes,hcL,hg4,hpt,by omega,fun H5 W5 f5=>?_⟩
   have I5:=I4.lay hes hcL hg4 hpt
   have X5:=X4.lay' (t:=pt) (c:=c) hes rfl hr4 hg4
   obtain⟨h5,_⟩:=gK (S:=Z4) hr c g pt es
   have la5:=jL (S:=Z4) (i:=hr) (c:=c) (g:=g) (t:=pt) (es:=es)
   generalize bD Z4 hr c g pt es=Z5 at W5 I5 X5 h5 la5
   obtain⟨es',hes'⟩:∃ es,Z5.ws[g]?=some es:=⟨_,List.getElem?_eq_getElem (by rw[I5.lw,h5];exact hg4)⟩
   obtain⟨dx5,hd5,tn5,wy5,al5,ds5,as5,hM5,w5⟩:=id W5
   refine⟨_,rfl,p,dx5,_,rfl,w5.ob,eB _ _ _ _ (by decide +kernel) (by decide +kernel) (by decide +kernel) (by decide +kernel),_,rfl,_,rfl,c,rfl,hcL,fun H6 s6=>?_⟩
   refine⟨_,rfl,_,rfl,pt,rfl,pA,by omega,fun H7 s7=>?_⟩
   have hbp:back pt=lay (back (φ4 g)++(hf (con c)++φ4 hr)):=by
    rw[hpt,hcon c hcL]
    exact IN (I4.fa hr).1 (I4.fa g).1 hcA
   refine⟨hf,φ4,(fun x=>x),rk,L,p,M4,Z5,g,con c,hr,back pt,es',rfl,(W5.same s6).same s7,I5,hL,hes',cB hcL,by rw[h5];exact hr4,hbp,by omega,fun H8 W8 f8=>?_⟩
   have I8:=I5.lay hes' (cB hcL) (by rw[h5];exact hr4) hbp
   have X8:=X5.lay' (t:=back pt) (c:=con c) hes' rfl (by rw[h5];exact hg4) (by rw[h5];exact hr4)
   obtain⟨h8,_⟩:=gK (S:=Z5) g (con c) hr (back pt) es'
   have la8:=jL (S:=Z5) (i:=g) (c:=con c) (g:=hr) (t:=back pt) (es:=es')
   generalize bD Z5 g (con c) hr (back pt) es'=Z8 at W8 I8 X8 h8 la8
   have ff:FrW M H H8:=fun b o e n=>by
    have nM:b ∉ M4:=fun z=>(u4 b z).elim n fun q=>by rw[e] at q;cases q
    exact f8 _ _ (s7 _ _ (s6 _ _ (f5 _ _ (f4 b o e n) nM))) nM
   refine⟨_,rfl,_,_,_,_,_,g,M4,Z8,φ4,_,rfl,W8,u4,ff,I8,X8,?_,fun p c q z=>.inl (.inl (mo2 p c q z)),φ40,?_,by rw[h8,h5];exact hg4,by rw[h8,h5];exact l41,by rw[h8,h5];exact l42,by omega,fun hlt=>?_,fun hl=>?_⟩
   ·rintro p' c' q' ((z | ⟨rfl,rfl,rfl⟩) | ⟨rfl,rfl,rfl⟩)
    ·obtain⟨a,b⟩:=sy2 _ _ _ z
     exact⟨a,.inl (.inl b)⟩
    ·exact⟨hcL,.inr ⟨rfl,rfl,rfl⟩⟩
    ·exact⟨cB hcL,.inl (.inr ⟨rfl,aQ hcL,rfl⟩)⟩
   ·rw[tk]
    exact(fw2.mono fun p c q z=>.inl (.inl z)).app ⟨hr,g,rfl,.inl (.inr ⟨rfl,rfl,rfl⟩),rfl⟩
   ·have:lastb=false:=by rw[← hlast];exact decide_eq_false (by omega)
    exact hgn this
   ·have:lastb=true:=by rw[← hlast];exact decide_eq_true hl
    exact hg0 this
  ·rintro σ H2 ⟨v4,v5,v6,v7,v8,hr,M2,Z2,φ2,E2,rfl,W2,u2,f2,I2,X2,sy2,mo2,φ20,fw2,hrl,ln1,ln2,al2,_,hr0⟩
   have hr0:=hr0 rfl
   subst hr0
   rw[List.take_length] at fw2
   exact k M2 H2 Z2 φ2 E2 W2 u2 f2 I2 X2 sy2 mo2 φ20 fw2 ln1 ln2 al2
theorem Gx{f:Addr}{fd:FuncData}(D:Df K mg "numbers_of_heads" Es ["n","weave"] f fd)(T:Txt P w K mg Ji Jj Jk)(c_z0:Cl P w K mg base "letters_of" ["n"] 1 (AU K))(c_zr:jS P w K mg base Jk "head_of" ["self","place"] 5 (tD Jk))(c_zm:jS P w K mg base Jk "goal_of" ["self","head","letter"] 6 (rP Jk)):Cl P w K mg base "numbers_of_heads" ["n","weave"] 7 (yS Jk):=by
 obtain⟨f_zr,fd_zr,G_zr,m_zr,b_zr⟩:=c_zr
 obtain⟨f_zm,fd_zm,G_zm,m_zm,b_zm⟩:=c_zm
 refine D.cl (D.F.ok sc_zd (fun vs H Q E h=>?_) (fun cdv A outer s H vs Q E hr h=>?_))
 ·obtain⟨_,_,_,_,_,n,p,M,Z,rfl,_⟩:=h
  rfl
 ·obtain⟨hf,φ,ρ,rk,L,n,p,M,Z,rfl,h1,h4,hW,I,hL,h0,hB,k⟩:=h
  refine⟨_,(aD (aM (i:=2) sc_zd.nd rfl (Or.inl rfl) (dW (aA (cV (pv 1) T.o_Weave.cl m_zr G_zr (hr.mono (by decide)) b_zr .nil dI (aA aI aB)) aB)))
   (aD (aM (i:=3) sc_zd.nd rfl (Or.inl rfl) (Do (Bb (aR (aO (K:=K) rfl) (pv 2) aI (fun _ _=>rfl)) aI Cv) rfl rfl (by simp) (by decide)))
   (aD (aM (i:=4) sc_zd.nd rfl (Or.inl rfl) aI)
   (aD (nU PassesOwn.never (aY DS (pv 4) (bR (cJ (K:=K) rfl) (by rfl) T.b_len PySem.boot_len (aA (pv 2) aB)) (bC _)) (aD (dO PassesOwn.never rfl (dR (K:=K) rfl (pC c_z0 hr (aA (pv 0) aB))) (bF (i:=5) sc_zd.nd rfl (Or.inl rfl)) (aD (aM (i:=6) sc_zd.nd rfl (Or.inl rfl) (cV (pv 1) T.o_Weave.cl m_zm G_zm (hr.mono (by decide)) b_zm .nil dI (aA (aR (aO (K:=K) rfl) (pv 2) (pv 4) (fun _ _=>rfl)) (aA (pv 5) aB))))
   (aG (eG (pw_and (aY CU (pv 6) oS (bC _)) (pw_and1 (Eh (Ag (Nat.lt_of_le_of_lt (Nat.add_le_add_left (by decide:1≤64) _) hr.units) (pv 6) (pv 3)) (by rfl)))).pt (aD (rW (Nat.lt_of_le_of_lt (Nat.add_le_add_left (by decide:1≤64) _) hr.units) (pv 3) (pv 6) (bR (cJ (K:=K) rfl) (by rfl) T.b_len PySem.boot_len (aA (pv 2) aB)) (by rfl))
   (aG (bU (cS (K:=K) rfl PySem.F.plainAttrs_list PySem.F.slot_list_append PySem.F.type_list_append cO (pv 2) (aA (pv 6) aB))))) cU))))
   (aG (Fp (i:=4) sc_zd.nd rfl (Or.inl rfl) aI D3))))
   (aG (aS (pv 3))))))),?_⟩
  obtain⟨dx,hd,tn,wy,al,a1⟩:=hW.self
  refine⟨_,rfl,p,dx,_,rfl,a1,eB _ _ _ _ (by decide +kernel) (by decide +kernel) (by decide +kernel) (by decide +kernel),hf,φ,ρ,rk,L,p,M,Z,0,rfl,hW,I,hL,h0,fun H1 Z1 K1=>?_⟩
  refine⟨(by show 1≤sizeLine;decide),fun hs hh=>?_⟩
  have hhM:hs ∉ M:=K1.at'.new hh
  have K2:=K1.same (Same.new (o:=HO.lst [.int ((ρ 0:Nat):Int)]) hh)
  have e2:upd H1 hs (.lst [.int ((ρ 0:Nat):Int)]) hs=some (.lst [.int ((ρ 0:Nat):Int)]):=aC
  generalize upd H1 hs (.lst [.int ((ρ 0:Nat):Int)])=H2 at K2 e2
  intro q hq
  have hqM:q ∉ M:=K2.at'.new hq
  have hqH:=K2.free hqM hq
  have s3:=Same.new (o:=HO.dK []) hq
  refine⟨_,rfl,hs,_,0,.int ((ρ 0:Nat):Int),rfl,rfl,SqL.of (s3 _ _ e2),rfl,?_⟩
  refine⟨aC,[(.inl ((ρ 0:Nat):Int),.int 0)],rfl,(by show 1≤15;decide),?_⟩
  have s4:Same H2 (upd (upd H2 q (.dK [])) q (.dK [(.inl ((ρ 0:Nat):Int),.int 0)])):=fun b o e=>by
   have n:b≠q:=aH e hq
   rw[aE n,aE n];exact e
  have e4:upd (upd H2 q (.dK [])) q (.dK [(.inl ((ρ 0:Nat):Int),.int 0)]) q=some (.dK [(.inl ((ρ 0:Nat):Int),.int 0)]):=aC
  show vZ _ _ _ _ (upd (upd H2 q (.dK [])) q (.dK [(.inl ((ρ 0:Nat):Int),.int 0)]))
  have K3:=K2.same s4
  have e3:=s4 _ _ e2
  generalize upd (upd H2 q (.dK [])) q (.dK [(.inl ((ρ 0:Nat):Int),.int 0)])=H3 at e4 K3 e3
  refine⟨fun m0 σ H'=>∃ (v5 v6:Option V) (dn:Nat) (Z':WvS),m0+dn=1∧σ=[some (.int (n:Nat)),some (.ref p),some (.ref hs),some (.ref q),some (.int (dn:Nat)),v5,v6]∧Kept Jk hf φ ρ rk L p M H H' Z Z'∧H' hs=some (.lst [.int ((ρ 0:Nat):Int)])∧H' q=some (.dK [(.inl ((ρ 0:Nat):Int),.int 0)]),⟨1,none,none,0,Z1,rfl,rfl,K3,e3,e4⟩,?_⟩
  rintro m0 _ H4 ⟨v5,v6,dn,Z4,hmd,rfl,K4,e34,e44⟩
  refine⟨_,rfl,_,rfl,hs,[.int ((ρ 0:Nat):Int)],rfl,.inl (SqL.of e34),_,_,rfl,rfl,_,rfl,?_⟩
  refine gQ (fun z=>?_) (fun z=>?_)
  rotate_left
  ·exact⟨_,rfl,k q H4 Z4 K4 hqH e44⟩
  ·have hdn:dn=0:=by
    rcases Nat.eq_zero_or_pos dn with h | h
    ·exact h
    ·have:dn=1:=by omega
     subst this
     exact absurd z (by simp)
   subst hdn
   have hm0:m0=1:=by omega
   subst hm0
   refine⟨fun σ' H'=>∃ (v5 v6:Option V) (Z':WvS),σ'=[some (.int (n:Nat)),some (.ref p),some (.ref hs),some (.ref q),some (.int ((1:Nat):Int)),v5,v6]∧Kept Jk hf φ ρ rk L p M H H' Z Z'∧H' hs=some (.lst [.int ((ρ 0:Nat):Int)])∧H' q=some (.dK [(.inl ((ρ 0:Nat):Int),.int 0)]),fun σ' H' ⟨v5,v6,Z',e,s⟩=>⟨0,by decide,v5,v6,1,Z',rfl,e,s⟩,?_⟩
   refine⟨_,rfl,n,rfl,h1,h4,fun t H5 s7 ht=>⟨t,rfl,⟨_,ht⟩,?_⟩⟩
   refine yX (K:=K) (a:=t) (xs:=aV (aK (n:Nat))) (fun i σ H'=>∃ (v5 v6:Option V) (Z':WvS),σ=[some (.int (n:Nat)),some (.ref p),some (.ref hs),some (.ref q),some (.int ((0:Nat):Int)),v5,v6]∧Kept Jk hf φ ρ rk L p M H H' Z Z'∧H' hs=some (.lst [.int ((ρ 0:Nat):Int)])∧H' q=some (.dK [(.inl ((ρ 0:Nat):Int),.int 0)])∧SqT K H' t (aV (aK (n:Nat)))) ⟨_,_,Z4,rfl,K4.same s7,s7 _ _ e34,s7 _ _ e44,ht⟩ ?_ ?_ ?_
   ·rintro i σ H' _ ⟨_,_,_,_,_,_,_,s8⟩
    exact s8
   ·rintro i x _ H6 hx ⟨v5,v6,Z6,rfl,K6,e36,e46,ht6⟩
    obtain⟨c,hc,rfl⟩:∃ c,(aK (n:Nat))[i]?=some c∧x=.str (S [c]):=by
     unfold aV at hx
     rw[List.getElem?_map] at hx
     cases e:(aK (n:Nat))[i]? with
     | none=>rw[e] at hx;cases hx
     | some c=>rw[e] at hx;cases hx;exact⟨c,rfl,rfl⟩
    obtain⟨es,g,tw,b1,b2,b3⟩:=(hB.kept K6) c (List.mem_of_getElem? hc)
    obtain⟨dx6,hd6,tn6,wy6,al6,a6⟩:=K6.at'.self
    refine⟨_,rfl,p,dx6,_,rfl,a6,eB _ _ _ _ (by decide +kernel) (by decide +kernel) (by decide +kernel) (by decide +kernel),_,rfl,_,rfl,hs,_,0,.int ((ρ 0:Nat):Int),rfl,rfl,SqL.of e36,rfl,_,rfl,hf,φ,ρ,rk,L,p,M,Z6,ρ 0,c,es,rfl,K6.at',K6.wi,hL,b1,fun H7 Z7 K7=>?_⟩
    rw[b2]
    have e37:=K7.fr _ _ e36 hhM
    have e47:=K7.fr _ _ e46 hqM
    have htM:SqT K H7 t (aV (aK (n:Nat))):=Eo K6.at' K7.fr ht6
    have b3':V.int ((ρ (g,tw).1:Nat):Int)=V.int ((ρ 0:Nat):Int):=by rw[b3]
    dsimp only
    rw[b3]
    refine⟨_,rfl,rfl,_,rfl,?_⟩
    refine(show tB (yB (C4 6) (C4 3)) _ H7 _ from ?_)
    refine⟨_,rfl,_,rfl,q,_,rfl,DGet.k (k:=.inl ((ρ 0:Nat):Int)) e47,_,rfl,?_⟩
    rw[cQ rfl]
    show ∃ (v5 v6:Option V) (Z':WvS),_
    exact⟨_,_,Z7,rfl,K6.trans K7,e37,e47,htM⟩
   ·rintro σ H6 ⟨v5,v6,Z6,rfl,K6,e36,e46,_⟩
    exact⟨_,rfl,_,_,rfl,rfl,v5,v6,Z6,rfl,K6,e36,e46⟩
theorem Hq{f:Addr}{fd:FuncData}(D:Df K mg "place_told" AH ["n","weave","numbers","head"] f fd)(T:Txt P w K mg Ji Jj Jk)(c_zp:Cl P w K mg base "first_letters" ["n"] 1 eT)(c_zm:jS P w K mg base Jk "goal_of" ["self","head","letter"] 6 (rP Jk)):Cl P w K mg base "place_told" ["n","weave","numbers","head"] 7 (uI Jk):=by
 obtain⟨f_zm,fd_zm,G_zm,m_zm,b_zm⟩:=c_zm
 refine D.cl (D.F.ok sc_zz (fun vs H Q E h=>?_) (fun cdv A outer s H vs Q E hr h=>?_))
 ·obtain⟨_,_,_,_,_,n,p,M,Z,t,rfl,_⟩:=h
  rfl
 ·obtain⟨hf,φ,ρ,rk,L,n,p,M,Z,t,rfl,h1,h4,hW,I,hL,h0,hB,hN,k⟩:=h
  refine⟨_,(aD (nZ (i:=4) (sc0:=aF AH) (N:=["n","weave","numbers","head","goals"]) (ix:=[1,3]) sc_zz.nd rfl rfl (by decide +kernel) rfl rfl rfl (dR (K:=K) rfl (pC c_zp hr (aA (pv 0) aB))) (fun _ _ _=>cG) (fun _ _ _=>(cV (pv 1) T.o_Weave.cl m_zm G_zm (hr.mono (by decide)) b_zm .nil dI (aA (pv 2) (aA (pv 0) aB)))))
   (aG (aS (bB (bS (K:=K) rfl) (by rfl) T.b_tuple boot_tuple (aA (cL (sc0:=aF AH) (N:=["n","weave","numbers","head","goals"]) (ix:=[2]) (by decide +kernel) rfl rfl rfl (kJ (K:=K) rfl (pv 4)) (fun _ _ _=>cG) (fun _ _ _=>(kH (aY AS (pv 0) oS (bC _)) oS (sQ (Nat.lt_of_le_of_lt (Nat.add_le_add_left (by decide:1≤64) _) hr.units) (pv 1) (pv 0) (fun _ _=>rfl))))) aB))))),?_⟩
  obtain⟨on,hN⟩:=hN
  have htM:t ∉ M:=hW.out hN (by intro xs z;cases z) (by intro kvs z;cases z)
  have ll:(bN n).length=n:=(iP h1 h4).len
  refine⟨_,rfl,n,rfl,h1,h4,fun tl H1 htl s1 etl=>⟨tl,rfl,⟨_,SqT.of etl⟩,fun Dd hD=>?_⟩⟩
  have K1:Kept Jk hf φ ρ rk L p M H H1 Z Z:=(Kept.refl hW I).same s1
  have hDM:Dd ∉ M:=K1.at'.new hD
  have hDH:=K1.free hDM hD
  have tlM:tl ∉ M:=K1.at'.out etl (by intro xs z;cases z) (by intro kvs z;cases z)
  refine cR (xs:=bX (bN n)) (fun i H2=>∃ Z2,Kept Jk hf φ ρ rk L p M H H2 Z Z2∧H2 tl=some (.tup (bX (bN n)))∧H2 Dd=some (.lst (List.replicate i (.int ((ρ 0:Nat):Int))))) ⟨Z,K1.same (Same.new hD),by rw[aE (aH etl hD)];exact etl,aC⟩ (fun i H2 _ ⟨_,_,h,_⟩=>SqT.of h) ?_ ?_
  ·rintro i v H2 hv ⟨Z2,K2,e2t,e2⟩
   obtain⟨rfl,hi⟩:=kQ h4 hv
   have hci:=jW hv
   have hcm:=List.mem_of_getElem? hci
   obtain⟨es,g,tw,b1,b2,b3⟩:=(hB.kept K2) (97+i) (cZ h1 h4 hcm)
   obtain⟨dx2,hd2,tn2,wy2,al2,a2⟩:=K2.at'.self
   refine⟨_,rfl,p,dx2,_,rfl,a2,eB _ _ _ _ (by decide +kernel) (by decide +kernel) (by decide +kernel) (by decide +kernel),_,rfl,_,rfl,hf,φ,ρ,rk,L,p,M,Z2,ρ 0,97+i,es,rfl,K2.at',K2.wi,hL,b1,fun H3 Z3 K3=>?_⟩
   rw[b2]
   dsimp only
   rw[b3]
   have e3:=K3.fr _ _ e2 hDM
   refine⟨_,e3,?_,Z3,(K2.trans K3).set hDM hDH e3,?_,?_⟩
   ·rw[List.length_replicate];exact aU (by omega)
   ·rw[aE (dB (K3.fr _ _ e2t tlM) e3 (by intro z;cases z))];exact K3.fr _ _ e2t tlM
   ·rw[aC,List.replicate_succ']
  ·rintro H2 ⟨Z2,K2,e2t,e2⟩
   rw[aW,ll] at e2
   refine⟨_,rfl,Dd,rfl,⟨_,SqL.of e2⟩,fun Ee hE=>?_⟩
   have hDE:Dd≠Ee:=aH e2 hE
   have hEM:Ee ∉ M:=K2.at'.new hE
   have hEH:=K2.free hEM hE
   have hN2:=K2.fr _ _ hN htM
   refine mE (xs:=List.replicate n (.int ((ρ 0:Nat):Int))) (fun i H3=>Same H2 H3∧H3 Ee=some (.lst (zs i))) ⟨Same.new hE,aC⟩ (fun i H3 _ h=>SqL.of (h.1 _ _ e2)) ?_ ?_
   ·rintro i v H3 hv ⟨s3,e3⟩
    have hv':v=.int ((ρ 0:Nat):Int):=by
     have:=List.mem_of_getElem? hv
     exact(List.mem_replicate.mp this).2
    subst hv'
    have hi:i<n:=by have:=(List.getElem?_eq_some_iff.mp hv).1;rw[List.length_replicate] at this;exact this
    refine⟨_,rfl,rfl,_,rfl,?_⟩
    have hg:DGet H3 t (.int ((ρ 0:Nat):Int)) (some (.int 0)):=by
     have:=DGet.fk (k:=.inl ((ρ 0:Nat):Int)) (s3 _ _ hN2)
     rw[cQ rfl] at this
     exact this
    refine⟨_,rfl,_,rfl,t,.int 0,rfl,hg,?_⟩
    refine⟨_,e3,?_,s3.upd hE,?_⟩
    ·unfold zs;rw[List.length_replicate];exact aU (by omega)
    ·rw[aC];unfold zs;rw[List.replicate_succ']
   ·rintro H3 ⟨s3,e3⟩
    rw[List.length_replicate] at e3
    refine⟨Ee,_,rfl,.inl ⟨SqL.of e3,fun q hq=>?_⟩⟩
    have K3:=(K2.same s3).same (Same.new (o:=HO.tup (zs n)) hq)
    exact k q _ Z2 K3 ((K2.same s3).free ((K2.same s3).at'.new hq) hq) aC
theorem D_{f:Addr}{fd:FuncData}(D:Df K mg "web_of" xL ["n","words"] f fd)(T:Txt P w K mg Ji Jj Jk)(c_zl:jS P w K mg base Jk "__init__" ["self"] 1 (pF Jk))(c_zk:jS P w K mg base Jk "lay_word" ["self","word","told"] 5 (rQ Jk))(c_z1:jS P w K mg base Jk "fold" ["self"] 6 (sW Jk))(c_zd:Cl P w K mg base "numbers_of_heads" ["n","weave"] 7 (yS Jk))(c_zz:Cl P w K mg base "place_told" ["n","weave","numbers","head"] 7 (uI Jk)):Cl P w K mg base "web_of" ["n","words"] 8 (BY K):=by
 obtain⟨f_zl,fd_zl,G_zl,m_zl,b_zl⟩:=c_zl
 obtain⟨f_zk,fd_zk,G_zk,m_zk,b_zk⟩:=c_zk
 obtain⟨f_z1,fd_z1,G_z1,m_z1,b_z1⟩:=c_z1
 refine D.cl (D.F.ok sc_zg1 (fun vs H Q E h=>?_) (fun cdv A outer s H vs Q E hr h=>?_))
 ·obtain⟨n,A,a,rs,rfl,_⟩:=h
  rfl
 ·obtain⟨n,A',a,rs,rfl,h1,h4,hA,hA1,ea,k⟩:=h
  refine⟨_,(aD (aM (i:=2) sc_zg1.nd rfl (Or.inr rfl) (uW (T.o_Weave.make m_zl) G_zl (hr.mono (by decide)) (by rfl) T.m_Weave b_zl .nil dI))
   (aD (dO PassesOwn.never rfl (dR (K:=K) rfl (pv 1)) (bF (i:=3) sc_zg1.nd rfl (Or.inl rfl)) (aG (bU (cV (pv 2) T.o_Weave.cl m_zk G_zk (hr.mono (by decide)) b_zk .nil dI (aA (pv 3) (aA cE aB))))))
   (aD (bU (oH (pv 2) T.o_Weave.cl m_z1 G_z1 (hr.mono (by decide)) b_z1 .nil dI))
   (aD (aM (i:=4) sc_zg1.nd rfl (Or.inr rfl) (pC c_zd hr (aA (pv 0) (aA (pv 2) aB))))
   (aG (aS (bB (bS (K:=K) rfl) (by rfl) T.b_tuple boot_tuple (aA (BM (H0:=H) rfl (cL (sc0:=aF xL) (N:=["n","words","weave","word","numbers"]) (ix:=[0,2,4]) (by decide +kernel) rfl rfl rfl (A1 (pv 4)) (fun _ _ _=>cG) (fun _ _ _=>(pC c_zz hr (aA (pv 1) (aA (pv 2) (aA (pv 3) (aA (pv 0) aB)))))))) aB)))))))),?_⟩
  intro p dx hp hdx hne
  have hp0:upd (upd H dx (.own p)) p (.ins Jk dx []) p=some (.ins Jk dx []):=aC
  have sN:∀ b o,H b=some o→upd (upd H dx (.own p)) p (.ins Jk dx []) b=some o:=fun b o e=>by rw[aE (aH e hp),aE (aH e hdx)];exact e
  refine⟨p,dx,rfl,hp0,fun M H1 hM1 hW1 kp1=>⟨rfl,?_⟩⟩
  have s1:Same H H1:=fun b o e=>kp1 b o (sN b o e) (aH e hp)
  have fr1:∀ x∈M,H x=none:=fun x hx=>by
   have:=hM1 x hx
   cases e:H x with
   | none=>rfl
   | some o=>rw[sN _ _ e] at this;cases this
  have hlen:=hA.len
  refine⟨_,rfl,a,rfl,⟨_,L2.SqT.same s1 ea⟩,yX (K:=K) (a:=a) (xs:=bX rs) (fun i σ H2=>∃ (v3:Option V) (M2:List Addr) (Z2:WvS) (φ2:Nat→List Nat) (E2:Nat→Nat→Nat→Prop),σ=[some (.int (n:Nat)),some (.ref a),some (.ref p),v3,none]∧Wat Jk H2 p M2 Z2∧(∀ x∈M2,H x=none)∧Same H H2∧WI (fun _=>[]) φ2 (fun x=>x) (fun _=>0) 0 Z2∧EI E2 (fun x=>x) Z2∧BF E2∧φ2 0=[]∧(∀ x∈rs.take i,Fw E2 (fun x=>x) 0 x 0)∧0<Z2.hs.length∧Z2.hs.length≤1+i * 100∧Z2.al.length≤i * 200) ?_ ?_ ?_ ?_⟩
  ·exact⟨none,M,FE,_,_,rfl,hW1,fr1,s1,WI.init (fun c _=>⟨AllL.nil,Nat.le_refl _⟩),EI.init,fun _ _ _ z=>z.elim,rfl,fun x hx=>(by simp at hx),(by decide),(by decide),(by decide)⟩
  ·rintro i σ H2 _ ⟨_,_,_,_,_,_,_,_,s2,_⟩
   exact L2.SqT.same s2 ea
  ·rintro i v _ H2 hv ⟨v3,M2,Z2,φ2,E2,rfl,W2,fr2,s2,I2,X2,sy2,φ20,fw2,l0,l1,l2⟩
   obtain⟨x,hx,rfl⟩:=dQ hv
   have hi:i<n:=by rw[← hlen];exact(List.getElem?_eq_some_iff.mp hx).1
   obtain⟨xA,xl⟩:=hA.all x (List.mem_of_getElem? hx)
   obtain⟨dx2,hd2,tn2,wy2,al2,a2⟩:=W2.self
   have hH:∀ w:List Nat,Hw (fun _=>[]) w=[]:=fun w=>by unfold Hw;simp
   refine⟨_,rfl,p,dx2,_,rfl,a2,eB _ _ _ _ (by decide +kernel) (by decide +kernel) (by decide +kernel) (by decide +kernel),_,rfl,(fun _=>[]),φ2,(fun _=>0),0,p,M2,Z2,E2,x,[],rfl,W2,I2,X2,sy2,by decide,φ20,l0,by omega,by omega,xA,fun c _=>rfl,fun _=>by rw[hH];rfl,fun j _=>by rw[hH];exact Nat.le_refl _,fun M3 H3 Z3 φ3 E3 W3 u3 f3 I3 X3 sy3 mo3 φ30 fw3 m1 m2 m3=>?_⟩
   have s3:Same H H3:=fun b o e=>f3 b o (s2 _ _ e) fun z=>by rw[fr2 b z] at e;cases e
   refine⟨_,M3,Z3,φ3,E3,rfl,W3,fun y hy=>?_,s3,I3,X3,sy3,φ30,fun y hy=>?_,by omega,by omega,by omega⟩
   ·rcases u3 y hy with z | z
    ·exact fr2 y z
    ·exact s2.free z
   ·rw[List.take_add_one,hx] at hy
    rcases List.mem_append.mp hy with z | z
    ·exact(fw2 y z).mono mo3
    ·have:y=x:=by simpa using z
     rw[this]
     exact fw3
  ·rintro _ H2 ⟨v3,M2,Z2,φ2,E2,rfl,W2,fr2,s2,I2,X2,sy2,φ20,fw2,l0,l1,l2⟩
   rw[aW,List.take_length] at fw2
   rw[aW,hlen] at l1 l2
   obtain⟨dx2,hd2,tn2,wy2,al2,a2⟩:=W2.self
   refine⟨_,rfl,p,dx2,_,rfl,a2,eB _ _ _ _ (by decide +kernel) (by decide +kernel) (by decide +kernel) (by decide +kernel),(fun _=>[]),φ2,(fun _=>0),0,p,M2,Z2,E2,rfl,W2,I2,X2,by decide,by omega,by omega,fun ρ rk3 H3 Z3 W3 I3 X3 al3 hid3 ln3 f3=>?_⟩
   have hB:Bq ρ Z3 n:=DU I3 X3 al3 hid3 sy2 hA fun x hx=>Fw.move (ρ:=fun x=>x) (fun x y z=>by rw[z]) (fw2 x hx)
   have s3:Same H H3:=fun b o e=>f3 b o (s2 _ _ e) fun z=>by rw[fr2 b z] at e;cases e
   refine⟨_,rfl,_,rfl,(fun _=>[]),φ2,ρ,rk3,0,n,p,M2,Z3,rfl,h1,h4,W3,I3,by decide,by rw[ln3];exact l0,hB,fun t H4 Z4 K4 ht et=>?_⟩
   have htM:=W3.new ht
   have ht0:H t=none:=s3.free ht
   have sK:∀ {G:Hp} {Zg:WvS},Kept Jk (fun _=>[]) φ2 ρ rk3 0 p M2 H3 G Z3 Zg→Same H G:=fun K b o e=>K.fr b o (s3 _ _ e) fun z=>by rw[fr2 b z] at e;cases e
   refine⟨_,rfl,t,_,rfl,.inl ⟨et,fun o Dd hD=>?_⟩⟩
   have K5:=K4.setD (o:=HO.frz o (.dK [(.inl ((ρ 0:Nat):Int),.int 0)])) htM ht et
   have e5:upd H4 t (.frz o (.dK [(.inl ((ρ 0:Nat):Int),.int 0)])) t=some (.frz o (.dK [(.inl ((ρ 0:Nat):Int),.int 0)])):=aC
   generalize upd H4 t (.frz o (.dK [(.inl ((ρ 0:Nat):Int),.int 0)]))=H5 at K5 e5 hD
   have hDM:Dd ∉ M2:=K5.at'.new hD
   have hD3:H3 Dd=none:=K5.free hDM hD
   have htD:t≠Dd:=aH e5 hD
   refine Ac (d:=t) (o:=o) (kvs:=[(.inl ((ρ 0:Nat):Int),.int 0)]) (fun i G=>∃ Zg,Kept Jk (fun _=>[]) φ2 ρ rk3 0 p M2 H3 G Z3 Zg∧G t=some (.frz o (.dK [(.inl ((ρ 0:Nat):Int),.int 0)]))∧((i=0∧G Dd=some (.lst []))∨(i=1∧∃ q,G Dd=some (.lst [.ref q])∧G q=some (.tup (zs n))))) ⟨Z4,K5.same (Same.new hD),by rw[aE htD];exact e5,.inl ⟨rfl,aC⟩⟩ (fun i G _ ⟨_,_,h,_⟩=>h) ?_ ?_
   ·rintro i ky v G hk ⟨Zg,Kg,eg,hcase⟩
    have hi:i=0∧ky=.inl ((ρ 0:Nat):Int):=by
     cases i with
     | zero=>cases hk;exact⟨rfl,rfl⟩
     | succ i=>simp at hk
    obtain⟨rfl,rfl⟩:=hi
    rcases hcase with ⟨_,eD⟩ | ⟨z,_⟩
    rotate_left
    ·exact absurd z (by decide)
    refine⟨_,rfl,_,rfl,_,rfl,_,rfl,(fun _=>[]),φ2,ρ,rk3,0,n,p,M2,Zg,t,rfl,h1,h4,Kg.at',Kg.wi,by decide,by rw[Kg.ln,ln3];exact l0,hB.kept Kg,⟨o,eg⟩,fun q G6 Z6 K6 hq eq=>?_⟩
    have eD6:=K6.fr _ _ eD hDM
    have eg6:=K6.fr _ _ eg htM
    refine⟨[],eD6,by decide,Z6,(Kg.trans K6).set hDM hD3 eD6,by rw[aE htD];exact eg6,.inr ⟨rfl,q,aC,?_⟩⟩
    rw[aE (dB eq eD6 (by intro z;cases z))]
    exact eq
   ·rintro G ⟨Zg,Kg,eg,hcase⟩
    rcases hcase with ⟨z,_⟩ | ⟨_,q,eD,eq⟩
    ·exact absurd z (by simp)
    refine⟨_,.inr ⟨t,o,_,eg,fun o v z=>(by rw[ht0] at z;cases z),rfl⟩,?_⟩
    have s6:Same H (upd G t (.dK [(.inl ((ρ 0:Nat):Int),.int 0)])):=(sK Kg).upd ht0
    have eD6:upd G t (.dK [(.inl ((ρ 0:Nat):Int),.int 0)]) Dd=some (.lst [.ref q]):=by rw[aE htD.symm];exact eD
    have eq6:upd G t (.dK [(.inl ((ρ 0:Nat):Int),.int 0)]) q=some (.tup (zs n)):=by rw[aE (dB eq eg (by intro z;cases z))];exact eq
    refine⟨Dd,_,rfl,.inl ⟨SqL.of eD6,fun r hr=>k r q _ (s6.upd' hr) aC ?_⟩⟩
    rw[aE (aH eq6 hr)]
    exact eq6
theorem Hc{f:Addr}{fd:FuncData}(D:Df K mg "look_alphabet" DV ["retelling"] f fd)(T:Txt P w K mg Ji Jj Jk)(c_zg1:Cl P w K mg base "web_of" ["n","words"] 8 (BY K)):Cl P w K mg base "look_alphabet" ["retelling"] 9 (rS K):=by
 refine D.cl (D.F.ok sc_zq (fun vs H Q E h=>?_) (fun cdv A outer s H vs Q E hr h=>?_))
 ·obtain⟨n,A,a,rs,rfl,_⟩:=h
  rfl
 ·obtain⟨n,A',a,rs,rfl,h1,h4,hA,hA1,ea,k⟩:=h
  refine⟨_,(aD (aM (i:=1) sc_zq.nd rfl (Or.inl rfl) (bR (cJ (K:=K) rfl) (by rfl) T.b_len PySem.boot_len (aA (pv 0) aB)))
   (aD (aM (i:=2) sc_zq.nd rfl (Or.inl rfl) (pC c_zg1 hr (aA (pv 1) (aA (pv 0) aB))))
   (aD (eG (aY (oZ (K:=K) rfl hr.units) (pv 2) (eO (aA (bE (B5 (K:=K) rfl) (eO (aA aI aB)) (pv 1)) aB)) (bC _)) zL cU)
   (aG (aS qE))))),?_⟩
  refine⟨_,rfl,a,_,rfl,.inr ea,?_⟩
  rw[aW,hA.len]
  refine⟨_,rfl,_,rfl,n,A',a,rs,rfl,h1,h4,hA,hA1,ea,fun r q H1 s1 er eq=>?_⟩
  refine⟨_,rfl,aN (by simp),fun t1 ht1=>⟨_,rfl,EU h1 h4 aC fun q2 H2 s2 e2=>⟨aN (by simp),fun t2 ht2=>?_⟩⟩⟩
  have s3:Same H1 (upd H2 t2 (.tup [.ref q2])):=((Same.new ht1).trans s2).upd' ht2
  refine⟨1,r,t2,[.ref q],[.ref q2],by decide,rfl,rfl,.inr ⟨SqT.of (s3 _ _ er),SqT.of aC⟩,rfl,fun i x y hx hy=>?_,_,rfl,?_⟩
  ·cases i with
   | zero =>
    cases hx;cases hy
    exact Hn (s3 _ _ eq) (by rw[aE (aH e2 ht2)];exact e2) (by omega)
   | succ i=>simp at hx
  ·exact k _ (s1.trans s3)
theorem FO{f:Addr}{fd:FuncData}(D:Df K mg "leading_back" C2 ["retelling"] f fd)(T:Txt P w K mg Ji Jj Jk)(c_zp:Cl P w K mg base "first_letters" ["n"] 1 eT)(c_zl:jS P w K mg base Jk "__init__" ["self"] 1 (pF Jk))(c_zk:jS P w K mg base Jk "lay_word" ["self","word","told"] 5 (rQ Jk))(c_z1:jS P w K mg base Jk "fold" ["self"] 6 (sW Jk))(c_zc:jS P w K mg base Jk "round_told" ["self","letter"] 5 (tL Jk))(c_zq:Cl P w K mg base "look_alphabet" ["retelling"] 9 (rS K)):Cl P w K mg base "leading_back" ["retelling"] 10 (yR K):=by
 obtain⟨f_zl,fd_zl,G_zl,m_zl,b_zl⟩:=c_zl
 obtain⟨f_zk,fd_zk,G_zk,m_zk,b_zk⟩:=c_zk
 obtain⟨f_z1,fd_z1,G_z1,m_z1,b_z1⟩:=c_z1
 obtain⟨f_zc,fd_zc,G_zc,m_zc,b_zc⟩:=c_zc
 refine D.cl (D.F.ok sc_zw (fun vs H Q E h=>?_) (fun cdv A outer s H vs Q E hr h=>?_))
 ·obtain⟨n,A,B,a,rs,bk,rfl,_⟩:=h
  rfl
 ·obtain⟨n,A',B',a,rs,bk,rfl,h1,h4,hI,hA1,hB1,hAB,ea,k⟩:=h
  refine⟨_,(aD (bU (pC c_zq hr (aA (pv 0) aB)))
   (aD (aM (i:=1) sc_zw.nd rfl (Or.inl rfl) (pC c_zp hr (aA (bR (cJ (K:=K) rfl) (by rfl) T.b_len PySem.boot_len (aA (pv 0) aB)) aB)))
   (aD (aM (i:=2) sc_zw.nd rfl (Or.inr rfl) (uW (T.o_Weave.make m_zl) G_zl (hr.mono (by decide)) (by rfl) T.m_Weave b_zl .nil dI))
   (aD (dO PassesOwn.never rfl (AC (K:=K) rfl (by rfl) T.b_zip (aA (pv 1) (aA (pv 0) aB))) (iM (K:=K) rfl rfl (cF (bF (i:=3) sc_zw.nd rfl (Or.inl rfl)) (cF (bF (i:=4) sc_zw.nd rfl (Or.inl rfl)) gB))) (aG (bU (cV (pv 2) T.o_Weave.cl m_zk G_zk (hr.mono (by decide)) b_zk .nil dI (aA (pv 4) (aA (pv 3) aB))))))
   (aD (bU (oH (pv 2) T.o_Weave.cl m_z1 G_z1 (hr.mono (by decide)) b_z1 .nil dI))
   (aG (aS (bB (bS (K:=K) rfl) (by rfl) T.b_tuple boot_tuple (aA (cL (sc0:=aF C2) (N:=["retelling","letters","weave","letter","word"]) (ix:=[2]) (by decide +kernel) rfl rfl rfl (dR (K:=K) rfl (pv 1)) (fun _ _ _=>cG) (fun _ _ _=>(cV (pv 1) T.o_Weave.cl m_zc G_zc (hr.mono (by decide)) b_zc .nil dI (aA (pv 0) aB)))) aB))))))))),?_⟩
  have ll:(bN n).length=n:=(iP h1 h4).len
  have hlen:=hI.rt.len
  have hblen:=hI.bt.len
  have hA:=hI.alp h1 h4
  refine⟨_,rfl,n,A',a,rs,rfl,h1,h4,hA,hA1,ea,fun H0 s0=>?_⟩
  have ea0:=L2.SqT.same s0 ea
  refine⟨_,rfl,a,_,rfl,.inr ea0,n,by rw[aW,hlen];rfl,h1,h4,fun t Ht ht st et=>?_⟩
  have eat:=L2.SqT.same st ea0
  intro p dx hp hdx hne
  have hp0:upd (upd Ht dx (.own p)) p (.ins Jk dx []) p=some (.ins Jk dx []):=aC
  have sN:∀ b o,Ht b=some o→upd (upd Ht dx (.own p)) p (.ins Jk dx []) b=some o:=fun b o e=>by rw[aE (aH e hp),aE (aH e hdx)];exact e
  refine⟨p,dx,rfl,hp0,fun M H1 hM1 hW1 kp1=>⟨rfl,?_⟩⟩
  have s1:Same Ht H1:=fun b o e=>kp1 b o (sN b o e) (aH e hp)
  have fr1:∀ x∈M,Ht x=none:=fun x hx=>by
   have:=hM1 x hx
   cases e:Ht x with
   | none=>rfl
   | some o=>rw[sN _ _ e] at this;cases this
  have hAll:∀ c,bY c→AllL (tell bk c):=fun c _=>iC hI.bt c
  refine⟨_,rfl,_,rfl,t,a,rfl,⟨_,SqT.of (s1 _ _ et)⟩,⟨_,L2.SqT.same s1 eat⟩,?_⟩
  refine xX (K:=K) (t:=t) (u:=a) (xs:=bX (bN n)) (ys:=bX rs) (fun i σ H2=>∃ (v3 v4:Option V) (M2:List Addr) (Z2:WvS) (φ2:Nat→List Nat) (E2:Nat→Nat→Nat→Prop),σ=[some (.ref a),some (.ref t),some (.ref p),v3,v4]∧Wat Jk H2 p M2 Z2∧(∀ x∈M2,Ht x=none)∧Same Ht H2∧WI (tell bk) φ2 (fun x=>x) (fun _=>0) 8000 Z2∧EI E2 (fun x=>x) Z2∧BF E2∧φ2 0=[]∧(∀ x∈rs.take i,Fw E2 (fun x=>x) 0 x 0)∧0<Z2.hs.length∧Z2.hs.length≤1+i * 100∧Z2.al.length≤i * 200) ?_ ?_ ?_ ?_
  ·exact⟨none,none,M,FE,_,_,rfl,hW1,fr1,s1,WI.init (fun c hc=>⟨hAll c hc,Nat.le_trans (kE hI.bt c) hB1⟩),EI.init,fun _ _ _ z=>z.elim,rfl,fun x hx=>(by simp at hx),(by decide),(by decide),(by decide)⟩
  ·rintro i _ H2 _ ⟨_,_,_,_,_,_,_,_,_,s2,_⟩
   exact⟨SqT.of (s2 _ _ et),L2.SqT.same s2 eat⟩
  ·rintro i x y q _ H2 hx hy hq2 ⟨v3,v4,M2,Z2,φ2,E2,rfl,W2,fr2,s2,I2,X2,sy2,φ20,fw2,l0,l1,l2⟩
   obtain⟨rfl,hi⟩:=kQ h4 hx
   obtain⟨x,hxr,rfl⟩:=dQ hy
   obtain⟨xA,xl⟩:=hA.all x (List.mem_of_getElem? hxr)
   have hcL:bY (97+i):=eR (List.mem_of_getElem? (jW hx))
   have htold:lay (told bk x)=[97+i]:=by
    have e1:(aT rs bk)[i]?=some (retl bk x):=by unfold aT;rw[List.getElem?_map,hxr];rfl
    rw[hI.there] at e1
    have e2:(bN n)[i]?=some [97+i]:=by unfold bN;rw[List.getElem?_map,jW hx];rfl
    rw[e2] at e1
    exact(Option.some.inj e1).symm
   have s3:Same H2 (upd H2 q (.tup [.str (S [97+i]),.str (S x)])):=Same.new hq2
   refine⟨q,_,rfl,.inr (SqT.of aC),rfl,_,_,rfl,_,_,rfl,rfl,?_⟩
   generalize upd H2 q (.tup [.str (S [97+i]),.str (S x)])=H3 at s3
   have W3:=W2.same s3
   obtain⟨dx2,hd2,tn2,wy2,al2,a2⟩:=W3.self
   refine⟨_,rfl,p,dx2,_,rfl,a2,eB _ _ _ _ (by decide +kernel) (by decide +kernel) (by decide +kernel) (by decide +kernel),_,rfl,_,rfl,tell bk,φ2,(fun _=>0),8000,p,M2,Z2,E2,x,[97+i],rfl,W3,I2,X2,sy2,by decide,φ20,l0,by omega,by omega,xA,fun c hc=>oE hI.bt hc,fun _=>htold.symm,fun j _=>Nat.le_trans (B6 (kE hI.bt) hAll xA xl hcL htold j) hAB,fun M4 H4 Z4 φ4 E4 W4 u4 f4 I4 X4 sy4 mo4 φ40 fw4 m1 m2 m3=>?_⟩
   have s23:=s2.trans s3
   have s4:Same Ht H4:=fun b o e=>f4 b o (s23 _ _ e) fun z=>by rw[fr2 b z] at e;cases e
   refine⟨_,_,M4,Z4,φ4,E4,rfl,W4,fun y hy=>?_,s4,I4,X4,sy4,φ40,fun y hy=>?_,by omega,by omega,by omega⟩
   ·rcases u4 y hy with z | z
    ·exact fr2 y z
    ·exact s23.free z
   ·rw[List.take_add_one,hxr] at hy
    rcases List.mem_append.mp hy with z | z
    ·exact(fw2 y z).mono mo4
    ·have:y=x:=by simpa using z
     rw[this]
     exact fw4
  ·rintro _ H2 ⟨v3,v4,M2,Z2,φ2,E2,rfl,W2,fr2,s2,I2,X2,sy2,φ20,fw2,l0,l1,l2⟩
   have em:min (bX (bN n)).length (bX rs).length=n:=by rw[aW,aW,ll,hlen,Nat.min_self]
   rw[em] at fw2 l1 l2
   rw[List.take_of_length_le (by omega)] at fw2
   obtain⟨dx2,hd2,tn2,wy2,al2,a2⟩:=W2.self
   refine⟨_,rfl,p,dx2,_,rfl,a2,eB _ _ _ _ (by decide +kernel) (by decide +kernel) (by decide +kernel) (by decide +kernel),tell bk,φ2,(fun _=>0),8000,p,M2,Z2,E2,rfl,W2,I2,X2,by decide,by omega,by omega,fun ρ rk3 H3 Z3 W3 I3 X3 al3 hid3 ln3 f3=>?_⟩
   have hB:Bq ρ Z3 n:=DU I3 X3 al3 hid3 sy2 hA fun x hx=>Fw.move (ρ:=fun x=>x) (fun x y z=>by rw[z]) (fw2 x hx)
   have s3:Same Ht H3:=fun b o e=>f3 b o (s2 _ _ e) fun z=>by rw[fr2 b z] at e;cases e
   have sK:∀ {G:Hp} {Zg:WvS},Kept Jk (tell bk) φ2 ρ rk3 8000 p M2 H3 G Z3 Zg→Same Ht G:=fun K b o e=>K.fr b o (s3 _ _ e) fun z=>by rw[fr2 b z] at e;cases e
   refine⟨_,rfl,t,rfl,⟨_,SqT.of (s3 _ _ et)⟩,fun Dd hD=>?_⟩
   have hDM:Dd ∉ M2:=W3.new hD
   refine cR (xs:=bX (bN n)) (fun i H4=>∃ Z4,Kept Jk (tell bk) φ2 ρ rk3 8000 p M2 H3 H4 Z3 Z4∧H4 Dd=some (.lst (bX (bk.take i)))) ⟨Z3,(Kept.refl W3 I3).same (Same.new hD),aC⟩ (fun i H4 _ ⟨_,h,_⟩=>SqT.of (sK h _ _ et)) ?_ ?_
   ·rintro i v H4 hv ⟨Z4,K4,e4⟩
    obtain⟨rfl,hi⟩:=kQ h4 hv
    have hci:=jW hv
    have hcm:=List.mem_of_getElem? hci
    obtain⟨es,g,tw,b1,b2,b3⟩:=(hB.kept K4) (97+i) (cZ h1 h4 hcm)
    obtain⟨dx4,hd4,tn4,wy4,al4,a4⟩:=K4.at'.self
    obtain⟨y,hy⟩:∃ y,bk[i]?=some y:=⟨_,List.getElem?_eq_getElem (by omega)⟩
    have hty:tell bk (97+i)=y:=by
     unfold tell
     rw[if_pos (fH hcm),show 97+i - 97=i by omega,List.getD_eq_getElem?_getD,hy]
     rfl
    refine⟨_,rfl,p,dx4,_,rfl,a4,eB _ _ _ _ (by decide +kernel) (by decide +kernel) (by decide +kernel) (by decide +kernel),_,rfl,tell bk,φ2,ρ,rk3,8000,p,M2,Z4,97+i,g,tw,es,rfl,K4.at',K4.wi,by decide,by rw[K4.ln,ln3];exact l0,φ20,eR hcm,b1,b2,b3,fun H5 Z5 K5=>?_⟩
    rw[hty,(hI.bo y (List.mem_of_getElem? hy)).2]
    have e5:=K5.fr _ _ e4 hDM
    refine⟨_,e5,?_,Z5,(K4.trans K5).set hDM hD e5,?_⟩
    ·rw[aW,List.length_take];exact aU (by omega)
    ·rw[aC,List.take_add_one,hy]
     unfold bX
     rw[List.map_append]
     rfl
   ·rintro H4 ⟨Z4,K4,e4⟩
    rw[aW,ll,List.take_of_length_le (by omega)] at e4
    have s14:Same H H4:=(s0.trans st).trans (sK K4)
    exact⟨Dd,_,rfl,.inl ⟨SqL.of e4,fun q hq=>k q _ (s14.free hq) (s14.upd' hq) aC⟩⟩
theorem FZ{f:Addr}{fd:FuncData}(D:Df K mg "turned_by" CY ["n","word"] f fd)(T:Txt P w K mg Ji Jj Jk)(c_zp:Cl P w K mg base "first_letters" ["n"] 1 eT)(c_zd1:Cl P w K mg base "laid_out" ["text"] 2 mB)(c_zx:Cl P w K mg base "turned_back" ["word"] 2 fI):Cl P w K mg base "turned_by" ["n","word"] 3 kO:=by
 refine D.cl (D.F.ok sc_z5 (fun vs H Q E h=>?_) (fun cdv A outer s H vs Q E hr h=>?_))
 ·obtain⟨n,g,rfl,_⟩:=h
  rfl
 ·obtain⟨n,g,rfl,h1,h4,hg,hgl,k⟩:=h
  refine⟨_,(aD (aM (i:=2) sc_z5.nd rfl (Or.inr rfl) (pC c_zx hr (aA (pv 1) aB)))
   (aG (aS (bB (bS (K:=K) rfl) (by rfl) T.b_tuple boot_tuple (aA (cL (sc0:=aF CY) (N:=["n","word","back"]) (ix:=[1,2]) (by decide +kernel) rfl rfl rfl (dR (K:=K) rfl (pC c_zp hr (aA (pv 0) aB))) (fun _ _ _=>cG) (fun _ _ _=>(pC c_zd1 hr (aA (bE cK (bE cK (pv 1) (pv 0)) (pv 2)) aB)))) aB))))),?_⟩
  refine⟨_,rfl,g,rfl,hg,by omega,fun H1 s1=>?_⟩
  have ll:(bN n).length=n:=(iP h1 h4).len
  refine⟨_,rfl,n,rfl,h1,h4,fun t H2 ht s2 et=>⟨t,rfl,⟨_,SqT.of et⟩,fun Dd hD=>cR (xs:=bX (bN n)) (fun i H3=>Same H2 H3∧H3 Dd=some (.lst (bX (((bW n).take i).map fun c=>lay (g++[c]++back g))))) ⟨Same.new hD,aC⟩ (fun i H3 _ h=>SqT.of (h.1 _ _ et)) ?_ ?_⟩⟩
  ·rintro i v H3 hv ⟨s3,e3⟩
   obtain⟨rfl,hi⟩:=kQ h4 hv
   have hci:(bW n)[i]?=some (97+i):=by
    have:(bX (bN n))[i]?=some (.str (S [97+i])):=hv
    obtain⟨x,hx,ex⟩:=dQ this
    have ex':=qP (V.str.inj ex)
    unfold bN at hx
    rw[List.getElem?_map] at hx
    cases hq:(bW n)[i]? with
    | none=>rw[hq] at hx;cases hx
    | some c=>rw[hq] at hx;cases hx;simpa using ex'.symm
   have hcL:bY (97+i):=eR (List.mem_of_getElem? hci)
   refine⟨_,rfl,_,rfl,_,_,rfl,rfl,by rw[bP,bP];exact aN (by simp;omega),?_⟩
   rw[fW]
   refine⟨_,rfl,_,_,rfl,rfl,by rw[bP,bP,List.length_append,bG];exact aN (by simp;omega),g++[97+i]++back g,by rw[fW];rfl,eI hg (cC hcL),by rw[List.length_append,List.length_append,bG,List.length_singleton];omega,fun H4 s4=>⟨_,s4 _ _ e3,?_,(s3.trans s4).upd hD,?_⟩⟩
   ·rw[aW,List.length_map,List.length_take];exact aU (by omega)
   ·rw[aC,List.take_add_one,hci,List.map_append]
    unfold bX
    rw[List.map_append]
    rfl
  ·rintro H3 ⟨s3,e3⟩
   rw[aW,ll,List.take_of_length_le (by rw[dA h4];omega)] at e3
   have s13:=(s1.trans s2).trans s3
   exact⟨Dd,_,rfl,.inl ⟨SqL.of e3,fun q hq=>k q _ (s13.free hq) (s13.upd' hq) aC⟩⟩
theorem EA{f:Addr}{fd:FuncData}(D:Df K mg "_law_key" yG ["_law_word_here"] f fd)(T:Txt P w K mg Ji Jj Jk):Cl P w K mg base "_law_key" ["_law_word_here"] 1 BB:=by
 refine D.cl (D.F.ok En (fun vs H Q E h=>?_) (fun cdv A outer s H vs Q E hr h=>?_))
 ·obtain⟨x,rfl,_⟩:=h
  rfl
 ·obtain⟨x,rfl,hx,hlen,k⟩:=h
  refine⟨_,(aG (aS (eO (aA (bR fJ (by rfl) T.b_len PySem.boot_len (aA (pv 0) aB)) (aA (cL (sc0:=aF yG) (N:=["_law_word_here"]) (ix:=[]) (by decide +kernel) rfl rfl rfl (iE (pv 0)) (fun _ _ _=>cG) (fun _ _ _=>(cS (K:=K) rfl PySem.F.plainAttrs_str PySem.F.slot_str_index PySem.F.type_str_index (uJ rfl) cE (aA (pv 0) aB)))) aB))))),?_⟩
  refine⟨_,rfl,_,rfl,by rw[bP];exact aN (by omega),_,rfl,S x,rfl,fun Dd hD=>jK (w:=x) (fun i H1=>Same H H1∧H1 Dd=some (.lst ((rks (x.take i)).map V.int))) ⟨Same.new hD,aC⟩ ?_ ?_⟩
  ·rintro i c H1 hc ⟨s1,e1⟩
   have hi:i<x.length:=(List.getElem?_eq_some_iff.mp hc).1
   have hcL:=hx c (List.mem_of_getElem? hc)
   refine⟨rfl,_,rfl,_,_,rfl,rfl,(Dy hcL).1,?_⟩
   rw[(Dy hcL).2]
   refine⟨_,e1,?_,s1.upd hD,?_⟩
   ·rw[List.length_map,mY,List.length_take];exact aU (by omega)
   ·rw[aC,bM hc];unfold rks;rw[List.map_append,List.map_append];rfl
  ·rintro H1 ⟨s1,e1⟩
   rw[List.take_length] at e1
   refine⟨aN (by simp),fun p hp=>?_⟩
   rw[bP]
   exact k p Dd _ (s1.free hp) hD (s1.upd' hp) aC (by rw[aE (aH e1 hp)];exact e1)
theorem FL{f:Addr}{fd:FuncData}(D:Df K mg "_law_retold" Ei ["_law_retelling","_law_word_here"] f fd)(T:Txt P w K mg Ji Jj Jk)(c_zb1:Cl P w K mg base "_law_back" ["_law_word_here"] 2 rX)(c_zc1:Cl P w K mg base "_law_laid" ["_law_text"] 2 mB):Cl P w K mg base "_law_retold" ["_law_retelling","_law_word_here"] 3 (iJ K):=by
 refine D.cl (D.F.ok sc_z2 (fun vs H Q E h=>?_) (fun cdv A outer s H vs Q E hr h=>?_))
 ·obtain⟨a,rs,n,M,x,rfl,_⟩:=h
  rfl
 ·obtain⟨a,rs,n,M,x,rfl,hq,hr0,h1,h4,hM,hox,hxl,hxm,k⟩:=h
  refine⟨_,(aD (aM (i:=2) sc_z2.nd rfl (Or.inl rfl) cE)
   (aD (dO PassesOwn.never rfl (iE (pv 1)) (bF (i:=3) sc_z2.nd rfl (Or.inl rfl)) (aD (aM (i:=4) sc_z2.nd rfl (Or.inl rfl) (aR (bK (K:=K) rfl) (pv 0) (cS (K:=K) rfl PySem.F.plainAttrs_str PySem.F.slot_str_index PySem.F.type_str_index (uJ rfl) cE (aA (eC (K:=K) rfl PySem.F.plainAttrs_str PySem.F.slot_str_lower PySem.F.type_str_lower jY (pv 3)) aB)) (fun _ _=>rfl)))
   (iT (eG (rN (eC (K:=K) rfl PySem.F.plainAttrs_str PySem.F.slot_str_isupper PySem.F.type_str_isupper oK (pv 3))) (aG (aM (i:=4) sc_z2.nd rfl (Or.inl rfl) (pC c_zb1 hr (aA (pv 4) aB)))) cU)
   (aG (aM (i:=2) sc_z2.nd rfl (Or.inl rfl) (bE cK (pv 2) (pv 4)))))))
   (aG (aS (pC c_zc1 hr (aA (pv 2) aB)))))),?_⟩
  refine⟨_,rfl,S x,rfl,kK (w:=x) (fun i σ H1=>∃ v3 v4:Option V,σ=[some (.ref a),some (.str (S x)),some (.str (S (told rs (x.take i)))),v3,v4]∧Same H H1) ⟨none,none,by rw[oR];rfl,Same.refl H⟩ ?_ ?_⟩
  ·rintro i c σ H1 hc ⟨v3,v4,rfl,s1⟩
   have hi:i<x.length:=(List.getElem?_eq_some_iff.mp hc).1
   have hcn:=hox c (List.mem_of_getElem? hc)
   have hcL:bY c:=aJ hcn
   have hc1:AllL [c]:=fun d hd=>by rw[List.mem_singleton.mp hd];exact hcL
   have tl:=kA hr0 (x.take i)
   have tm:(x.take i).length * M≤x.length * M:=Nat.mul_le_mul_right _ (by rw[List.length_take];omega)
   have htk:told rs (x.take (i+1))=told rs (x.take i)++tell rs c:=by rw[bM hc,iN,cW,uL,List.append_nil]
   have hll:=kE hr0 c
   obtain⟨r,hr9⟩:∃ r,rs[lo c - 97]?=some r:=⟨_,List.getElem?_eq_getElem (Gb hcn hr0.len h1 h4)⟩
   have hra:=hr0.all r (List.mem_of_getElem? hr9)
   have hrl:=hr0.le r (List.mem_of_getElem? hr9)
   refine⟨_,rfl,rfl,_,rfl,rfl,S [c],rfl,rfl,lM [c] hc1 (by simp),_,_,rfl,rfl,?_,a,bX rs,_,.str (S r),rfl,rfl,L2.SqT.same s1 hq,?_,?_⟩
   ·rw[gH hc1];exact(xT hcL).1
   ·rw[gH hc1]
    show vJ (bX rs) (Txt.find (Str.ofString "abcd") (S [lo c]))=some (.str (S r))
    rw[(xT hcL).2]
    exact cT (sF hr9)
   refine⟨fun σ H2=>σ=[some (.ref a),some (.str (S x)),some (.str (S (told rs (x.take i)))),some (.str (S [c])),some (.str (S (tell rs c)))]∧Same H H2,?_,?_⟩
   ·refine⟨_,rfl,rfl,_,rfl,rfl,_,rfl,?_⟩
    rw[qX hcL]
    have ht:tell rs c=if bH c=true then r else back r:=by
     unfold tell lo at *
     unfold bH
     by_cases q:96<c
     ·rw[if_pos q] at hr9
      rw[if_pos (decide_eq_true q),if_pos (decide_eq_true q),List.getD_eq_getElem?_getD,hr9];rfl
     ·rw[if_neg q] at hr9
      rw[if_neg (by simpa using q),if_neg (by simpa using q),List.getD_eq_getElem?_getD,show c - 65=c+32 - 97 by omega,hr9];rfl
    cases hlow:bH c with
    | true =>
     rw[hlow,if_pos rfl] at ht
     rw[ht]
     exact gF ⟨rfl,s1⟩
    | false =>
     rw[hlow,if_neg (by decide)] at ht
     rw[ht]
     exact sT ⟨_,rfl,r,rfl,hra,by omega,fun H2 s2=>⟨rfl,s1.trans s2⟩⟩
   rintro _ H2 ⟨rfl,s2⟩
   refine⟨_,rfl,_,rfl,_,_,rfl,rfl,by rw[bP,bP];exact aN (by omega),some (.str (S [c])),some (.str (S (tell rs c))),?_,s2⟩
   rw[htk,fW]
   rfl
  ·rintro _ H1 ⟨v3,v4,rfl,s1⟩
   rw[List.take_length]
   have tl:=kA hr0 x
   exact⟨_,rfl,told rs x,rfl,eY hr0 x,by omega,fun H2 s2=>k H2 (s1.trans s2)⟩
theorem EO{f:Addr}{fd:FuncData}(D:Df K mg "_law_then" yQ ["_law_one","_law_other"] f fd)(T:Txt P w K mg Ji Jj Jk)(c_z2:Cl P w K mg base "_law_retold" ["_law_retelling","_law_word_here"] 3 (iJ K)):Cl P w K mg base "_law_then" ["_law_one","_law_other"] 4 (nX K):=by
 refine D.cl (D.F.ok D4 (fun vs H Q E h=>?_) (fun cdv A outer s H vs Q E hr h=>?_))
 ·obtain⟨a,b,f,s,n,M,L,rfl,_⟩:=h
  rfl
 ·obtain⟨a,b,f0,s0,n,M,L,rfl,ha,hb,hf0,hs0,hfo,h1,h4,hM,hL,hML,k⟩:=h
  refine⟨_,(aG (aS (bB (bS (K:=K) rfl) (by rfl) T.b_tuple boot_tuple (aA (cL (sc0:=aF yQ) (N:=["_law_one","_law_other"]) (ix:=[1]) (by decide +kernel) rfl rfl rfl (dR (K:=K) rfl (pv 0)) (fun _ _ _=>cG) (fun _ _ _=>(pC c_z2 hr (aA (pv 1) (aA (pv 0) aB))))) aB)))),?_⟩
  refine⟨_,rfl,a,rfl,⟨_,ha⟩,fun Dd hD=>cR (xs:=bX f0) (fun i H1=>Same H H1∧H1 Dd=some (.lst (bX ((f0.take i).map (retl s0))))) ⟨Same.new hD,aC⟩ (fun i H1 _ h=>L2.SqT.same h.1 ha) ?_ ?_⟩
  ·rintro i v H1 hv ⟨s1,e1⟩
   obtain⟨x,hx,rfl⟩:=dQ hv
   have hxm:=List.mem_of_getElem? hx
   have hi:i<f0.length:=(List.getElem?_eq_some_iff.mp hx).1
   have hxl:=hf0.le x hxm
   refine⟨_,rfl,_,rfl,b,s0,n,L,x,rfl,L2.SqT.same s1 hb,hs0,h1,h4,hL,hfo x hxm,by omega,Nat.le_trans (Nat.mul_le_mul_right _ hxl) (Nat.le_trans hML (by decide)),fun H2 s2=>⟨_,s2 _ _ e1,?_,(s1.trans s2).upd hD,?_⟩⟩
   ·have:=hf0.len
    rw[aW,List.length_map,List.length_take];exact aU (by omega)
   ·rw[aC,List.take_add_one,hx,List.map_append]
    unfold bX
    rw[List.map_append]
    rfl
  ·rintro H1 ⟨s1,e1⟩
   rw[aW,List.take_length] at e1
   refine⟨Dd,_,rfl,.inl ⟨SqL.of e1,fun q hq=>k q _ (s1.free hq) (s1.upd' hq) aC⟩⟩
theorem EX{f:Addr}{fd:FuncData}(D:Df K mg "_law_same" B4 ["_law_n"] f fd)(T:Txt P w K mg Ji Jj Jk):Cl P w K mg base "_law_same" ["_law_n"] 1 eT:=by
 refine D.cl (D.F.ok Fs (fun vs H Q E h=>?_) (fun cdv A outer s H vs Q E hr h=>?_))
 ·obtain⟨n,rfl,_⟩:=h
  rfl
 ·obtain⟨n,rfl,h1,h4,k⟩:=h
  refine⟨_,(aG (aS (bB (pM rfl) (by rfl) T.b_tuple boot_tuple (aA (fM lB cE fV (fE (pv 0))) aB)))),?_⟩
  refine⟨_,rfl,_,rfl,_,rfl,by decide +kernel,bW n,?_,?_,fun l hl=>?_⟩
  ·show [V.str (Txt.slice (Str.ofString "abcd") none (some ((n:Nat):Int)))]=_
   rw[lN,gJ _ (by omega) (by simp;omega)]
   rfl
  ·unfold bW;rw[List.length_take];simp;omega
  ·refine k l _ hl (Same.new hl) ?_
   rw[aC,Cs]
   rfl
theorem Gz{f:Addr}{fd:FuncData}(D:Df K mg "_law_drawn_change" Fm ["_law_flow_here","_law_n"] f fd)(T:Txt P w K mg Ji Jj Jk)(c_z7:Cl P w K mg base "_law_pick" ["_law_flow_here","_law_many"] 1 lS)(c_zy:Cl P w K mg base "_law_letters" ["_law_n"] 1 lC)(c_zu:Cl P w K mg base "_law_contrary" ["_law_letter"] 1 hZ):Cl P w K mg base "_law_drawn_change" ["_law_flow_here","_law_n"] 2 tR:=by
 refine D.cl (D.F.ok sc_ze (fun vs H Q E h=>?_) (fun cdv A outer s H vs Q E hr h=>?_))
 ·obtain⟨fl,sc,n,rfl,_⟩:=h
  rfl
 ·obtain⟨fl,sc,n,rfl,hf,h1,h4,k⟩:=h
  refine⟨_,(aD (aM (i:=2) sc_ze.nd rfl (Or.inl rfl) (aR (aO (K:=K) rfl) (pC c_zy hr (aA (pv 1) aB)) (pC c_z7 hr (aA (pv 0) (aA (bE jH aI (pv 1)) aB))) (fun _ _=>rfl)))
   (aD (aM (i:=3) sc_ze.nd rfl (Or.inl rfl) (dW aB))
   (aD (dO PassesOwn.never rfl (kJ (K:=K) rfl (pC c_zy hr (aA (pv 1) aB))) (bF (i:=4) sc_ze.nd rfl (Or.inl rfl)) (aG (eG (pw_or (aY nC (pv 4) (pv 2) (bC _)) (pw_or1 (pw_and (aY mH (pv 4) (pC c_zu hr (aA (pv 2) aB)) (bC _)) (pw_and1 (aY nC (pC c_z7 hr (aA (pv 0) (aA aI aB))) aI (bC _)))).pt)).pt (aG (bU (cS (K:=K) rfl PySem.F.plainAttrs_list PySem.F.slot_list_append PySem.F.type_list_append cO (pv 3) (aA (pv 4) aB)))) cU)))
   (aG (aS (eO (aA (pv 2) (aA (bB (bS (K:=K) rfl) (by rfl) T.b_tuple boot_tuple (aA (pv 3) aB)) aB)))))))),?_⟩
  have i1:(1:Int)≤(n:Nat):=by omega
  have i4:((n:Nat):Int)≤4:=by omega
  refine⟨_,rfl,(n:Nat),rfl,i1,i4,fun l H1 hl s1 e1=>?_⟩
  refine⟨_,rfl,_,rfl,_,_,rfl,rfl,.inl ⟨by decide,by decide⟩,fl,sc,_,rfl,hf.same s1,by omega,by omega,fun d H2 d0 d1 f2 k2=>?_⟩
  have hln:=iO i1 i4
  obtain⟨c,hc⟩:∃ c,(aK (n:Nat))[d.toNat]?=some c:=⟨_,List.getElem?_eq_getElem (show d.toNat<(aK (n:Nat)).length by omega)⟩
  have hcm:c∈aK (n:Nat):=List.mem_of_getElem? hc
  have hcL:=aJ hcm
  refine⟨l,_,_,.str (S [c]),rfl,rfl,SqL.of (k2 _ _ e1 (hf.ne hl)),Bg d0 (kR hc),aN (by simp),fun sd hsd=>?_⟩
  have hsf:sd≠fl:=f2.ne hsd
  have hss:sd≠sc:=f2.ne2 hsd
  have k02:Kp fl H H2:=s1.kp.trans k2
  have hsd0:H sd=none:=k02.free hsd hsf
  refine⟨_,rfl,(n:Nat),rfl,i1,i4,fun l2 H3 hl2 s3 e3=>⟨l2,rfl,⟨_,SqL.of e3⟩,?_⟩⟩
  have hl2s:sd≠l2:=aH (aC (H:=H2) (a:=sd) (o:=HO.lst [])) hl2
  have hl2f:l2≠fl:=(f2.upd hsd).ne hl2
  refine uX (K:=K) (a:=l2) (xs:=aV (aK (n:Nat))) (fun i σ H4=>∃ (v4:Option V) (w:List Nat),σ=[some (.ref fl),some (.int (n:Nat)),some (.str (S [c])),some (.ref sd),v4]∧IsFl H4 fl sc∧Kp fl H H4∧H4 l2=some (.lst (aV (aK (n:Nat))))∧H4 sd=some (.lst (aV w))∧(∀ d∈w,d∈aK (n:Nat)∧d≠con c)∧w.length≤i∧(c∈(aK (n:Nat)).take i→c∈w)∧w.Sublist ((aK (n:Nat)).take i)) ?_ ?_ ?_ ?_
  ·exact⟨none,[],rfl,(f2.upd hsd).same s3,(k02.upd hsd0).trans s3.kp,e3,s3 _ _ aC,fun d hd=>(nomatch hd),Nat.le_refl _,(fun h=>by simp at h),List.Sublist.refl []⟩
  ·rintro i _ H4 _ ⟨v4,w,rfl,f4,k4,e4,_⟩
   exact SqL.of e4
  ·rintro i v _ H4 hv ⟨v4,w,rfl,f4,k4,e4,es,hw,hwl,hin,hsub⟩
   obtain⟨o,ho,rfl⟩:∃ o,(aK (n:Nat))[i]?=some o∧v=.str (S [o]):=by
    unfold aV at hv
    rw[List.getElem?_map] at hv
    cases hq:(aK (n:Nat))[i]? with
    | none=>rw[hq] at hv;cases hv
    | some o=>rw[hq] at hv;exact⟨o,rfl,(Option.some.inj hv).symm⟩
   have hom:=List.mem_of_getElem? ho
   have hi:i<8:=by have:=(List.getElem?_eq_some_iff.mp ho).1;omega
   have tk:c∈(aK (n:Nat)).take (i+1)→c∈(aK (n:Nat)).take i∨c=o:=fun h=>by
    rw[bM ho] at h
    rcases List.mem_append.mp h with q | q
    ·exact .inl q
    ·exact .inr (List.mem_singleton.mp q)
   have app:o≠con c→∀ H5,IsFl H5 fl sc→Kp fl H H5→H5 l2=some (.lst (aV (aK (n:Nat))))→H5 sd=some (.lst (aV w))→∃ (v4:Option V) (w':List Nat),[some (V.ref fl),some (.int (n:Nat)),some (.str (S [c])),some (.ref sd),some (.str (S [o]))]=[some (.ref fl),some (.int (n:Nat)),some (.str (S [c])),some (.ref sd),v4]∧IsFl (upd H5 sd (.lst (aV w++[.str (S [o])]))) fl sc∧Kp fl H (upd H5 sd (.lst (aV w++[.str (S [o])])))∧upd H5 sd (.lst (aV w++[.str (S [o])])) l2=some (.lst (aV (aK (n:Nat))))∧upd H5 sd (.lst (aV w++[.str (S [o])])) sd=some (.lst (aV w'))∧(∀ d∈w',d∈aK (n:Nat)∧d≠con c)∧w'.length≤i+1∧(c∈(aK (n:Nat)).take (i+1)→c∈w')∧w'.Sublist ((aK (n:Nat)).take (i+1)):=fun hoc H5 f5 k5 e5 es5=>by
    refine⟨_,w++[o],rfl,f5.set hsf hss,k5.upd hsd0,by rw[aE hl2s.symm];exact e5,by rw[aC,bV],fun d hd=>?_,by rw[List.length_append,List.length_singleton];omega,fun h=>?_,(by rw[bM ho];exact hsub.append (List.Sublist.refl _))⟩
    ·rcases List.mem_append.mp hd with q | q
     ·exact hw d q
     ·rw[List.mem_singleton.mp q];exact⟨hom,hoc⟩
    ·rcases tk h with q | q
     ·exact List.mem_append_left _ (hin q)
     ·rw[q];simp
   refine⟨_,rfl,_,rfl,rfl,_,rfl,gQ (fun z=>sT ⟨_,rfl,.inl ⟨rfl,_,SqL.of es⟩,_,rfl,sd,_,_,rfl,rfl,es,by rw[aX];exact aU (by omega),app (by rw[eZ] at z;have z':o=c:=(by simpa using z);rw[z'];exact(sV hcL).symm) H4 f4 k4 e4 es⟩) (fun z=>?_)⟩
   have hsub2:w.Sublist ((aK (n:Nat)).take (i+1)):=by rw[bM ho];exact hsub.trans (List.sublist_append_left _ _)
   have zc:¬ c=o:=fun e=>z (by rw[eZ,e];simp)
   have nin:c∈(aK (n:Nat)).take (i+1)→c∈w:=fun h=>by
    rcases tk h with q | q
    ·exact hin q
    ·exact absurd q zc
   refine⟨_,rfl,_,rfl,c,rfl,hcL,fun H5 s5=>⟨rfl,_,rfl,gQ (fun y=>?_) (fun y=>gF ?_)⟩⟩
   ·refine⟨_,rfl,fl,sc,2,rfl,f4.same s5,by decide,by decide,fun e H6 e0 e1 f6 k6=>⟨rfl,_,rfl,gQ (fun x=>?_) (fun x=>?_)⟩⟩
    ·have es6:=k6 _ _ (s5 _ _ es) hsf
     exact⟨_,rfl,.inl ⟨rfl,_,SqL.of es6⟩,_,rfl,sd,_,_,rfl,rfl,es6,by rw[aX];exact aU (by omega),app (fun e=>by rw[eZ,e] at y;simp at y) H6 f6 ((k4.trans s5.kp).trans k6) (k6 _ _ (s5 _ _ e4) hl2f) es6⟩
    ·exact⟨_,w,rfl,f6,(k4.trans s5.kp).trans k6,k6 _ _ (s5 _ _ e4) hl2f,k6 _ _ (s5 _ _ es) hsf,hw,by omega,nin,hsub2⟩
   ·exact⟨_,w,rfl,f4.same s5,k4.trans s5.kp,s5 _ _ e4,s5 _ _ es,hw,by omega,nin,hsub2⟩
  ·rintro _ H4 ⟨v4,w,rfl,f4,k4,e4,es,hw,hwl,hin,hsub⟩
   rw[aX,List.take_length] at hin hsub
   rw[aX,hln] at hwl
   refine⟨_,rfl,_,rfl,sd,_,rfl,.inl ⟨SqL.of es,fun q hq=>⟨aN (by simp),fun p hp=>?_⟩⟩⟩
   have hqf:q≠fl:=f4.ne hq
   have hpf:p≠fl:=(f4.upd hq).ne hp
   have hq0:H q=none:=k4.free hq hqf
   have hp0:H p=none:=(k4.upd hq0).free hp hpf
   have hpq:q≠p:=aH (aC (H:=H4) (a:=q) (o:=HO.tup (aV w))) hp
   exact k p c w _ hp0 ⟨hcm,fun d hd=>(hw d hd).1,(AF h1 h4).sublist hsub,hin hcm,fun z=>(hw _ z).2 rfl⟩ (by omega) ⟨q,aC,by rw[aE hpq];exact aC⟩ ((f4.upd hq).upd hp) ((k4.upd hq0).upd hp0)
theorem GI{f:Addr}{fd:FuncData}(D:Df K mg "_law_change_told" EM ["_law_n","_law_change"] f fd)(T:Txt P w K mg Ji Jj Jk)(c_zu:Cl P w K mg base "_law_contrary" ["_law_letter"] 1 hZ):Cl P w K mg base "_law_change_told" ["_law_n","_law_change"] 2 tU:=by
 refine D.cl (D.F.ok sc_zj (fun vs H Q E h=>?_) (fun cdv A outer s H vs Q E hr h=>?_))
 ·obtain⟨n,p,c,sd,rfl,_⟩:=h
  rfl
 ·obtain⟨n,p,c,sd,rfl,h1,h4,⟨q,ep,eq⟩,hc,hsd,k⟩:=h
  refine⟨_,(aD (eK (pv 1) (iM (K:=K) rfl rfl (cF (bF (i:=2) sc_zj.nd rfl (Or.inl rfl)) (cF (bF (i:=3) sc_zj.nd rfl (Or.inl rfl)) gB))))
   (aD (aM (i:=4) sc_zj.nd rfl (Or.inl rfl) (dW aB))
   (aD (dO PassesOwn.never rfl (iE (fM lB cE fV (fE (pv 0)))) (bF (i:=5) sc_zj.nd rfl (Or.inl rfl)) (aD (aM (i:=6) sc_zj.nd rfl (Or.inl rfl) (pv 5))
   (iT (eG (aY mH (pv 5) (eC (K:=K) rfl PySem.F.plainAttrs_str PySem.F.slot_str_lower PySem.F.type_str_lower jY (pv 2)) (bC _)) (aD (aM (i:=6) sc_zj.nd rfl (Or.inl rfl) (bE cK (pv 5) (bE nR (pv 2) (bB lV (by rfl) T.b_int boot_int (aA (mV (Bj (K:=K) rfl) (pv 5) (pv 3) (by rfl)) aB)))))
   (aG (aM (i:=6) sc_zj.nd rfl (Or.inl rfl) (bE cK (bE nR (pC c_zu hr (aA (pv 2) aB)) (bB lV (by rfl) T.b_int boot_int (aA (mV (Bj (K:=K) rfl) (pC c_zu hr (aA (pv 5) aB)) (pv 3) (by rfl)) aB))) (pv 6))))) cU)
   (aG (bU (cS (K:=K) rfl PySem.F.plainAttrs_list PySem.F.slot_list_append PySem.F.type_list_append cO (pv 4) (aA (pv 6) aB)))))))
   (aG (aS (bB (bS (K:=K) rfl) (by rfl) T.b_tuple boot_tuple (aA (pv 4) aB))))))),?_⟩
  refine⟨_,rfl,p,_,rfl,.inr (SqT.of ep),rfl,_,_,rfl,_,_,rfl,rfl,?_⟩
  refine⟨aN (by simp),fun l hl=>?_⟩
  refine⟨_,rfl,_,rfl,_,rfl,by decide +kernel,S (bW n),?_,?_⟩
  ·show V.str (Txt.slice (Str.ofString "abcd") none (some ((n:Nat):Int)))=_
   rw[lN,gJ _ (by omega) (by simp;omega)]
   rfl
  refine kK (w:=bW n) (fun i σ H1=>∃ v5 v6:Option V,σ=[some (.int (n:Nat)),some (.ref p),some (.str (S [c])),some (.ref q),some (.ref l),v5,v6]∧Same H H1∧H1 l=some (.lst (bX (((bW n).take i).map (rF c sd))))) ⟨none,none,rfl,Same.new hl,aC⟩ ?_ ?_
  ·rintro i d σ H1 hd ⟨v5,v6,rfl,s1,e1⟩
   have hm:=List.mem_of_getElem? hd
   have hdL:=eR hm
   have hdl:=fH hm
   have hi:i<4:=by have:=(List.getElem?_eq_some_iff.mp hd).1;rw[dA h4] at this;omega
   have hc1:=cC hc
   refine⟨_,rfl,?_⟩
   refine⟨fun σ H2=>σ=[some (.int (n:Nat)),some (.ref p),some (.str (S [c])),some (.ref q),some (.ref l),some (.str (S [d])),some (.str (S (rF c sd d)))]∧Same H1 H2,?_,?_⟩
   ·refine⟨_,rfl,_,rfl,rfl,S [c],rfl,rfl,lM [c] hc1 (by simp),?_⟩
    rw[gH hc1]
    refine⟨rfl,_,rfl,?_⟩
    show if (!decide (V.str (S [d])=V.str (S [lo c])))=true then _ else _
    rw[Fg]
    by_cases hlo:d=lo c
    ·rw[decide_eq_true hlo]
     have e:rF c sd d=[d]:=by unfold rF;rw[if_pos hlo]
     rw[e]
     exact gF ⟨rfl,Same.refl _⟩
    ·rw[decide_eq_false hlo]
     refine sT ⟨_,rfl,_,rfl,_,rfl,_,rfl,q,aV sd,rfl,.inr (SqT.of (s1 _ _ eq)),rfl,qD sd,.inr ⟨_,rfl,?_⟩⟩
     refine⟨S [c],(if FG (.str (S [d])) (aV sd)=true then 1 else 0),rfl,rfl,yK _ _,?_⟩
     rw[DB,BK]
     have hu1:(if decide (d∈sd)=true then [c] else []).length≤1:=by split <;> simp
     have hu2:(if decide (d∈sd)=true then [c] else [])=(if d∈sd then [c] else []):=by simp only [decide_eq_true_iff]
     generalize (if decide (d∈sd)=true then [c] else [])=u at hu1 hu2
     refine⟨_,_,rfl,rfl,by rw[bP,bP];exact aN (by simp;omega),?_⟩
     rw[fW]
     refine⟨_,rfl,c,rfl,hc,fun H2 s2=>⟨_,rfl,d,rfl,hdL,fun H3 s3=>⟨_,rfl,q,aV sd,rfl,.inr (SqT.of (s3 _ _ (s2 _ _ (s1 _ _ eq)))),rfl,qD sd,.inr ⟨_,rfl,S [con c],(if FG (.str (S [con d])) (aV sd)=true then 1 else 0),rfl,rfl,yK _ _,?_⟩⟩⟩⟩
     rw[DB,BK]
     have hv1:(if decide (con d∈sd)=true then [con c] else []).length≤1:=by split <;> simp
     have hv2:(if decide (con d∈sd)=true then [con c] else [])=(if con d∈sd then [con c] else []):=by simp only [decide_eq_true_iff]
     generalize (if decide (con d∈sd)=true then [con c] else [])=v at hv1 hv2
     refine⟨_,rfl,_,_,rfl,rfl,by rw[bP,bP,List.length_append];exact aN (by simp;omega),?_,s2.trans s3⟩
     rw[fW,← List.append_assoc,hu2,hv2]
     have e:rF c sd d=(if con d∈sd then [con c] else [])++[d]++(if d∈sd then [c] else []):=by unfold rF;rw[if_neg hlo]
     rw[e]
     rfl
   rintro _ H2 ⟨rfl,s2⟩
   have e2:=s2 _ _ e1
   refine⟨_,rfl,.inl ⟨rfl,_,SqL.of e2⟩,_,rfl,l,_,_,rfl,rfl,e2,?_,_,_,rfl,(s1.trans s2).upd hl,?_⟩
   ·rw[aW,List.length_map,List.length_take];exact aU (by omega)
   ·rw[aC,bM hd,List.map_append]
    unfold bX
    rw[List.map_append]
    rfl
  ·rintro _ H1 ⟨v5,v6,rfl,s1,e1⟩
   rw[List.take_length] at e1
   exact⟨_,rfl,l,_,rfl,.inl ⟨SqL.of e1,fun t ht=>k t _ (s1.free ht) (s1.upd' ht) aC⟩⟩
theorem GE{f:Addr}{fd:FuncData}(D:Df K mg "_law_exchange" Ft ["_law_flow_here","_law_n"] f fd)(T:Txt P w K mg Ji Jj Jk)(c_z7:Cl P w K mg base "_law_pick" ["_law_flow_here","_law_many"] 1 lS):Cl P w K mg base "_law_exchange" ["_law_flow_here","_law_n"] 2 xN:=by
 refine D.cl (D.F.ok sc_zs (fun vs H Q E h=>?_) (fun cdv A outer s H vs Q E hr h=>?_))
 ·obtain⟨fl,sc,n,rfl,_⟩:=h
  rfl
 ·obtain⟨fl,sc,n,rfl,hf,h1,h4,k⟩:=h
  refine⟨_,(aD (aM (i:=2) sc_zs.nd rfl (Or.inl rfl) (bB (jQ rfl) (by rfl) T.b_list boot_list (aA (fM lB cE fV (fE (pv 1))) aB)))
   (aD (aM (i:=3) sc_zs.nd rfl (Or.inl rfl) (dW aB))
   (aD (dO PassesOwn.never rfl (lG (by rfl) T.b_range (aA (pv 1) aB)) (bF (i:=4) sc_zs.nd rfl (Or.inl rfl)) (aD (aM (i:=5) sc_zs.nd rfl (Or.inl rfl) (cS (K:=K) rfl PySem.F.plainAttrs_list PySem.F.slot_list_pop PySem.F.type_list_pop tI (pv 2) (aA (pC c_z7 hr (aA (pv 0) (aA (bR (cJ (K:=K) rfl) (by rfl) T.b_len PySem.boot_len (aA (pv 2) aB)) aB))) aB)))
   (aG (bU (cS (K:=K) rfl PySem.F.plainAttrs_list PySem.F.slot_list_append PySem.F.type_list_append cO (pv 3) (aA (aR (aO (K:=K) rfl) (dW (aA (pv 5) (aA (eC (K:=K) rfl PySem.F.plainAttrs_str PySem.F.slot_str_upper PySem.F.type_str_upper vD (pv 5)) aB))) (pC c_z7 hr (aA (pv 0) (aA aI aB))) (fun _ _=>rfl)) aB))))))
   (aG (aS (bB (bS (K:=K) rfl) (by rfl) T.b_tuple boot_tuple (aA (pv 3) aB))))))),?_⟩
  refine⟨_,rfl,_,rfl,_,rfl,by decide +kernel,bW n,?_,?_,fun l hl=>?_⟩
  ·show [V.str (Txt.slice (Str.ofString "abcd") none (some ((n:Nat):Int)))]=_
   rw[lN,gJ _ (by omega) (by simp;omega)]
   rfl
  ·rw[dA h4];omega
  refine⟨aN (by simp),fun fd hfd=>?_⟩
  have hlf:l≠fl:=hf.ne hl
  have hls:l≠sc:=hf.ne2 hl
  have hff:fd≠fl:=(hf.upd hl).ne hfd
  have hfs:fd≠sc:=(hf.upd hl).ne2 hfd
  have hld:l≠fd:=aH (aC (H:=H) (a:=l) (o:=HO.lst ((bW n).map fun c=>V.str (S [c])))) hfd
  have hfd0:H fd=none:=by rw[aE hld.symm] at hfd;exact hfd
  refine⟨_,rfl,(n:Nat),rfl,by omega,by omega,lX (lo:=0) (n:=((n:Nat):Int).toNat) (fun i σ H1=>∃ (v4 v5:Option V) (ls cs:List Nat),σ=[some (.ref fl),some (.int (n:Nat)),some (.ref l),some (.ref fd),v4,v5]∧IsFl H1 fl sc∧Kp fl H H1∧H1 l=some (.lst (aV ls))∧H1 fd=some (.lst (bX (bL cs)))∧(∀ d∈ls,d∈bW n)∧ls.length+i=n∧cs.length=i∧(∀ c∈cs,c∈aK (n:Nat))∧(cs.map lo++ls).Perm (bW n)) ?_ ?_ ?_⟩
  ·refine⟨none,none,bW n,[],rfl,(hf.upd hl).upd hfd,((Kp.refl fl H).upd hl).upd hfd0,?_,aC,fun d hd=>hd,by rw[dA h4];rfl,rfl,(fun x hx=>nomatch hx),List.Perm.refl _⟩
   rw[aE hld,aC]
   rfl
  ·rintro i _ H1 hi ⟨v4,v5,ls,cs,rfl,f1,k1,el,ef,hls',hll,hsl,hst,hpm⟩
   have hpos:0<ls.length:=by omega
   refine⟨_,rfl,.inl ⟨rfl,_,SqL.of el⟩,_,rfl,_,rfl,l,_,rfl,.inl (SqL.of el),fl,sc,_,rfl,f1,by rw[aX];omega,by rw[aX];omega,fun g H2 g0 g1 f2 k2=>?_⟩
   rw[aX] at g1
   obtain⟨d,hd⟩:∃ d,ls[g.toNat]?=some d:=⟨_,List.getElem?_eq_getElem (by omega)⟩
   have hdm:=hls' d (List.mem_of_getElem? hd)
   have hdL:=eR hdm
   have hdl:=fH hdm
   have hdn:=cZ h1 h4 hdm
   have el2:=k2 _ _ el hlf
   refine⟨l,_,g,g.toNat,.str (S [d]),rfl,rfl,el2,by omega,by omega,?_,kR hd,?_⟩
   ·rw[aX]
    exact PySem.StrLaws.seqIndex_nonneg g0 (by omega)
   rw[pH]
   have hel:(ls.eraseIdx g.toNat).length=ls.length - 1:=by rw[List.length_eraseIdx,if_pos (by omega)]
   have hes:∀ d∈ls.eraseIdx g.toNat,d∈bW n:=fun d hd=>hls' d (List.mem_of_mem_eraseIdx hd)
   have hpe:=wX hd
   generalize ls.eraseIdx g.toNat=ls2 at hel hes hpe
   have f3:IsFl (upd H2 l (.lst (aV ls2))) fl sc:=f2.set hlf hls
   have hl0:H l=none:=hl
   have k3:Kp fl H (upd H2 l (.lst (aV ls2))):=(k1.trans k2).upd hl0
   have el3:upd H2 l (.lst (aV ls2)) l=some (.lst (aV ls2)):=aC
   have ef3:upd H2 l (.lst (aV ls2)) fd=some (.lst (bX (bL cs))):=by rw[aE hld.symm];exact k2 _ _ ef hff
   generalize upd H2 l (.lst (aV ls2))=H3 at f3 k3 el3 ef3
   refine⟨_,rfl,.inl ⟨rfl,_,SqL.of ef3⟩,_,rfl,_,rfl,rfl,S [d],rfl,rfl,by rw[nA hdL hdl];exact wC _,aN (by simp),fun q hq=>?_⟩
   rw[nA hdL hdl]
   refine⟨_,rfl,fl,sc,2,rfl,f3.upd hq,by decide,by decide,fun e H4 e0 e1 f4 k4=>?_⟩
   obtain⟨x,hx,hxn,hxl⟩:∃ x,vJ [V.str (S [d]),V.str (S [con d])] e=some (.str (S [x]))∧x∈aK (n:Nat)∧lo x=d:=by
    have:e=0∨e=1:=by omega
    rcases this with rfl | rfl
    ·exact⟨d,rfl,hdn,xE hdL hdl⟩
    ·exact⟨con d,rfl,dE (by omega) (by omega) hdn,EN hdL hdl⟩
   have hqf:q≠fl:=f3.ne hq
   have ef4:=k4 _ _ (show upd H3 q (.lst [.str (S [d]),.str (S [con d])]) fd=some (.lst (bX (bL cs))) by rw[aE (aH ef3 hq)];exact ef3) hff
   have el4:=k4 _ _ (show upd H3 q (.lst [.str (S [d]),.str (S [con d])]) l=some (.lst (aV ls2)) by rw[aE (aH el3 hq)];exact el3) hlf
   have eq4:=k4 _ _ (aC (H:=H3) (a:=q) (o:=HO.lst [.str (S [d]),.str (S [con d])])) hqf
   refine⟨q,_,_,_,rfl,rfl,SqL.of eq4,hx,fd,_,_,rfl,rfl,ef4,by rw[aW];unfold bL;rw[List.length_map];exact aU (by omega),_,_,ls2,cs++[x],rfl,f4.set hff hfs,((k3.upd (k3.free hq hqf)).trans k4).upd hfd0,by rw[aE hld];exact el4,?_,hes,by omega,by rw[List.length_append,hsl];rfl,fun y hy=>?_,?_⟩
   ·rw[aC];unfold bX bL;rw[List.map_append,List.map_append];rfl
   ·rcases List.mem_append.mp hy with z | z
    ·exact hst y z
    ·rw[List.mem_singleton.mp z];exact hxn
   ·rw[List.map_append,List.append_assoc]
    show (cs.map lo++(lo x::ls2)).Perm _
    rw[hxl]
    exact(hpe.append_left _).trans hpm
  ·rintro _ H1 ⟨v4,v5,ls,cs,rfl,f1,k1,el,ef,hls',hll,hsl,hst,hpm⟩
   rw[Int.toNat_natCast] at hsl
   have hls0:ls=[]:=List.length_eq_zero_iff.mp (by have:ls.length+((n:Nat):Int).toNat=n:=hll;rw[Int.toNat_natCast] at this;omega)
   subst hls0
   rw[List.append_nil] at hpm
   refine⟨_,rfl,fd,_,rfl,.inl ⟨SqL.of ef,fun p hp=>k p cs _ (k1.free hp (f1.ne hp)) ⟨hsl,hst,hpm⟩ ⟨by unfold bL;rw[List.length_map];exact hsl,fun x hx=>?_,fun x hx=>?_⟩ (fun x hx=>?_) aC (f1.upd hp) (k1.upd (k1.free hp (f1.ne hp)))⟩⟩
   ·obtain⟨e,he,rfl⟩:=List.mem_map.mp hx
    exact cC (aJ (hst e he))
   ·obtain⟨e,he,rfl⟩:=List.mem_map.mp hx
    exact Nat.le_refl _
   ·obtain⟨e,he,rfl⟩:=List.mem_map.mp hx
    intro z hz
    rw[List.mem_singleton.mp hz];exact hst e he
theorem GR{f:Addr}{fd:FuncData}(D:Df K mg "_law_change_back" CT ["_law_change"] f fd)(T:Txt P w K mg Ji Jj Jk)(c_zu:Cl P w K mg base "_law_contrary" ["_law_letter"] 1 hZ)(c_zf1:Cl P w K mg base "_law_key" ["_law_word_here"] 1 BB):Cl P w K mg base "_law_change_back" ["_law_change"] 4 BQ:=by
 obtain⟨f_zf1,fd_zf1,G_zf1,m_zf1,k_zf1,b_zf1⟩:=c_zf1
 refine D.cl (D.F.ok sc_zi (fun vs H Q E h=>?_) (fun cdv A outer s H vs Q E hr h=>?_))
 ·obtain⟨n,p,c,sd,rfl,_⟩:=h
  rfl
 ·obtain⟨n,p,c,sd,rfl,h1,h4,⟨q,ep,eq⟩,g,hl8,k⟩:=h
  refine⟨_,(aD (eK (pv 0) (iM (K:=K) rfl rfl (cF (bF (i:=1) sc_zi.nd rfl (Or.inr rfl)) (cF (bF (i:=2) sc_zi.nd rfl (Or.inl rfl)) gB))))
   (aD (aM (i:=3) sc_zi.nd rfl (Or.inl rfl) (bE Fq (cL (sc0:=aF CT) (N:=["_law_change","_law_letter","_law_side","_law_other"]) (ix:=[1]) (by decide +kernel) rfl rfl rfl (dR (K:=K) rfl (pv 2)) (fun _ _ _=>uY (aY mH (pv 0) (pv 1) (bC _))) (fun _ _ _=>(pv 0))) (dW (aA (pC c_zu hr (aA (pv 1) aB)) aB))))
   (aG (aS (eO (aA (pC c_zu hr (aA (pv 1) aB)) (aA (bB (bS (K:=K) rfl) (by rfl) T.b_tuple boot_tuple (aA (AM (K:=K) rfl G_zf1 (hr.mono (by decide)) b_zf1 (by rfl) T.b_sorted (by rfl) m_zf1 (aA (pv 3) aB)) aB)) aB))))))),?_⟩
  have hcL:=aJ g.let'
  refine⟨_,rfl,p,_,rfl,.inr (SqT.of ep),rfl,_,_,rfl,_,_,rfl,rfl,?_⟩
  refine⟨_,rfl,q,rfl,⟨_,SqT.of eq⟩,fun Dd hD=>cR (xs:=aV sd) (fun i H2=>Same H H2∧H2 Dd=some (.lst (aV ((sd.take i).filter fun d=>decide (d≠c))))) ⟨Same.new hD,aC⟩ (fun i H2 _ h=>SqT.of (h.1 _ _ eq)) ?_ ?_⟩
  ·rintro i v H2 hv ⟨s2,eD⟩
   obtain⟨d,hd,rfl⟩:=yM hv
   have hi:i<sd.length:=(List.getElem?_eq_some_iff.mp hd).1
   refine⟨_,rfl,_,rfl,rfl,_,rfl,?_⟩
   rw[eZ]
   refine gQ (fun z=>?_) (fun z=>?_)
   ·have z':d≠c:=by simpa using z
    refine⟨_,rfl,_,eD,?_,s2.upd hD,?_⟩
    ·rw[aX]
     have:=List.length_filter_le (fun d=>decide (d≠c)) (sd.take i)
     rw[List.length_take] at this
     exact aU (by omega)
    ·rw[aC,bM hd,List.filter_append,List.filter_cons_of_pos (by simpa using z'),List.filter_nil,bV]
   ·have z':d=c:=by simpa using z
    refine⟨s2,?_⟩
    rw[bM hd,List.filter_append,List.filter_cons_of_neg (by simpa using z'),List.filter_nil,List.append_nil]
    exact eD
  ·rintro H2 ⟨s2,eD⟩
   rw[aX,List.take_length] at eD
   have hfl:(sd.filter fun d=>decide (d≠c)).length≤8:=Nat.le_trans (List.length_filter_le _ _) hl8
   have hfm:∀ d∈(sd.filter fun d=>decide (d≠c))++[con c],bY d:=fun d hd=>by
    rcases List.mem_append.mp hd with z | z
    ·exact aJ (g.side d (List.mem_filter.mp z).1)
    ·rw[List.mem_singleton.mp z];exact cB hcL
   have hss:=fun (ws:List (List Nat)) hp ho=>tQ (ws:=ws) h1 h4 g hp ho
   generalize (sd.filter fun d=>decide (d≠c))=F at eD hfl hfm hss
   refine⟨_,rfl,c,rfl,hcL,fun H3 s3=>⟨aN (by simp),fun l hl=>?_⟩⟩
   have eD3:=s3 _ _ eD
   refine⟨Dd,l,_,_,rfl,rfl,by rw[aE (aH eD3 hl)];exact eD3,aC,aN (by rw[aX];simp;omega),fun L hL=>?_⟩
   have s4:Same H3 (upd (upd H3 l (.lst [.str (S [con c])])) L (.lst (aV F++[.str (S [con c])]))):=(Same.new hl).upd' hL
   have e4:upd (upd H3 l (.lst [.str (S [con c])])) L (.lst (aV F++[.str (S [con c])])) L=some (.lst (bX (bL (F++[con c])))):=by rw[aC,qJ,bV]
   generalize upd (upd H3 l (.lst [.str (S [con c])])) L (.lst (aV F++[.str (S [con c])]))=H4 at s4 e4
   refine⟨_,rfl,c,rfl,hcL,fun H6 s6=>⟨_,rfl,?_⟩⟩
   have e6:=s6 _ _ e4
   obtain⟨l',xs',kz,Pv,el,a0,a1,a2,a3,a4,a5,a6,a7⟩:=AV (K:=K) (Q:=fun v H''=>∃ D ws',v=V.ref D∧H6 D=none∧Same H6 H''∧H'' D=some (.lst (bX ws'))∧ws'.Perm (bL (F++[con c]))∧ws'.Pairwise BH) (SqL.of e6) (by unfold bL;rw[List.length_map,List.length_append];show F.length+1<64;omega) (fun y hy=>by
    obtain⟨d,hd,rfl⟩:=List.mem_map.mp hy
    exact⟨cC (hfm d hd),by simp⟩) (fun D ws' H' a b c d e=>⟨D,ws',rfl,a,b,c,d,e⟩)
   refine⟨l',xs',kz,Pv,el,a0,a1,a2,a3,a4,a5,a6,fun S' ks H5' hP=>?_⟩
   obtain⟨b1,b2,b3,b4⟩:=a7 S' ks H5' hP
   refine⟨b1,b2,b3,fun pp hpp so L2 hL2=>?_⟩
   obtain⟨L',ws,eL,_,s7,e7,hp7,ho7⟩:=b4 pp hpp so L2 hL2
   cases eL
   generalize upd (upd H5' S' (.lst [])) L2 (.lst (pp.toList.map fun i=>xs'.getD i .non))=H7 at s7 e7
   rw[hss ws hp7 ho7,qJ] at e7
   have s17:Same H H7:=(((s2.trans s3).trans s4).trans s6).trans s7
   refine⟨L2,_,rfl,.inl ⟨SqL.of e7,fun t ht=>⟨aN (by simp),fun r hr=>k r _ ((s17.upd' ht).upd' hr) ⟨t,aC,?_⟩⟩⟩⟩
   rw[aE (aH (aC (H:=H7) (a:=t) (o:=HO.tup (aV (lD c sd)))) hr)]
   exact aC
theorem GO{f:Addr}{fd:FuncData}(D:Df K mg "_law_alphabet" Cz ["_law_flow_here","_law_n","_law_steps","_law_most"] f fd)(T:Txt P w K mg Ji Jj Jk)(c_z7:Cl P w K mg base "_law_pick" ["_law_flow_here","_law_many"] 1 lS)(c_za1:Cl P w K mg base "_law_then" ["_law_one","_law_other"] 4 (nX K))(c_ze1:Cl P w K mg base "_law_same" ["_law_n"] 1 eT)(c_ze:Cl P w K mg base "_law_drawn_change" ["_law_flow_here","_law_n"] 2 tR)(c_zj:Cl P w K mg base "_law_change_told" ["_law_n","_law_change"] 2 tU)(c_zi:Cl P w K mg base "_law_change_back" ["_law_change"] 4 BQ):Cl P w K mg base "_law_alphabet" ["_law_flow_here","_law_n","_law_steps","_law_most"] 5 A8:=by
 refine D.cl (D.F.ok sc_zt (fun vs H Q E h=>?_) (fun cdv A outer s H vs Q E hr h=>?_))
 ·obtain⟨fl,sc,n,mo,st,rfl,_⟩:=h
  rfl
 ·obtain⟨fl,sc,n,mo,st,rfl,f,h1,h4,m1,m8,s0,s9,k⟩:=h
  refine⟨_,(aD (sU (i:=4) (j:=5) rfl sc_zt.nd rfl rfl (by decide) rfl rfl (aA (pC c_ze1 hr (aA (pv 1) aB)) (aA (pC c_ze1 hr (aA (pv 1) aB)) aB)) (by rfl))
   (aD (dO PassesOwn.never rfl (lG (by rfl) T.b_range (aA (pC c_z7 hr (aA (pv 0) (aA (bE fQ (pv 2) aI) aB))) aB)) (bF (i:=6) sc_zt.nd rfl (Or.inl rfl)) (aD (aM (i:=7) sc_zt.nd rfl (Or.inl rfl) (pC c_ze hr (aA (pv 0) (aA (pv 1) aB))))
   (aD (aM (i:=8) sc_zt.nd rfl (Or.inl rfl) (pC c_za1 hr (aA (pv 4) (aA (pC c_zj hr (aA (pv 1) (aA (pv 7) aB))) aB))))
   (aD (aM (i:=9) sc_zt.nd rfl (Or.inl rfl) (pC c_za1 hr (aA (pC c_zj hr (aA (pv 1) (aA (pC c_zi hr (aA (pv 7) aB)) aB))) (aA (pv 5) aB))))
   (aG (eG (aY DL (bR (rD (K:=K) rfl rfl) (by rfl) T.b_max boot_max (aA (cL (sc0:=aF Cz) (N:=["_law_flow_here","_law_n","_law_steps","_law_most","_law_found","_law_back_here","_law_k","_law_change","_law_further","_law_further_back"]) (ix:=[]) (by decide +kernel) rfl rfl rfl (dR (K:=K) rfl (bE (B9 (K:=K) rfl) (pv 8) (pv 9))) (fun _ _ _=>cG) (fun _ _ _=>(bR fJ (by rfl) T.b_len PySem.boot_len (aA (pv 0) aB)))) aB)) (pv 3) (bC _)) (aG (sU (i:=4) (j:=5) rfl sc_zt.nd rfl rfl (by decide) rfl rfl (aA (pv 8) (aA (pv 9) aB)) (by rfl))) cU))))))
   (aG (aS (eO (aA (pv 4) (aA (pv 5) aB))))))),?_⟩
  refine⟨_,rfl,n,rfl,h1,h4,fun p1 H1 hp1 s1 e1=>?_⟩
  refine⟨_,rfl,n,rfl,h1,h4,fun p2 H2 hp2 s2 e2=>?_⟩
  have f2:=(f.same s1).same s2
  have e12:=s2 _ _ e1
  have k02:Kp fl H H2:=(s1.trans s2).kp
  refine⟨_,_,rfl,_,rfl,_,rfl,_,_,rfl,rfl,fl,sc,_,rfl,f2,(by show (0:Int)<st+1;omega),(by show st+1<(1073741824:Int);omega),fun d H3 d0 d1 f3 k3=>⟨d,rfl,by omega,by have:d<st+1:=d1;omega,?_⟩⟩
  refine lX (lo:=0) (n:=d.toNat) (fun i σ G=>∃ (a b:Addr) (fd bk:List (List Nat)) (v6 v7 v8 v9:Option V),σ=[some (.ref fl),some (.int (n:Nat)),some (.int st),some (.int (mo:Nat)),some (.ref a),some (.ref b),v6,v7,v8,v9]∧dJ G a fd∧dJ G b bk∧IvG n fd bk mo mo∧IsFl G fl sc∧Kp fl H G) ?_ ?_ ?_
  ·exact⟨p1,p2,bN n,bN n,none,none,none,none,rfl,gC f2 k3 e12,gC f2 k3 e2,IvG.low h1 h4 mo mo m1 m1,f3,k02.trans k3⟩
  ·rintro i _ G hi ⟨a,b,fd,bk,v6,v7,v8,v9,rfl,ea,eb,iv,fG,kG⟩
   refine⟨_,rfl,_,rfl,fl,sc,n,rfl,fG,h1,h4,fun p c sd G2 hp gd hl8 ic fG2 kG2=>?_⟩
   have hcL:=aJ gd.let'
   have hsL:∀ d∈sd,bY d:=fun d hd=>aJ (gd.side d hd)
   have ic':=gd.back h1 h4
   obtain⟨r1,r2,r3,r4⟩:=Cp h1 h4 gd
   have ea2:=gC fG kG2 ea
   have eb2:=gC fG kG2 eb
   refine⟨_,rfl,_,rfl,_,rfl,n,p,c,sd,rfl,h1,h4,ic,hcL,hsL,fun t3 G3 ht3 s3 e3=>?_⟩
   refine⟨a,t3,fd,iB n c sd,n,mo,3,rfl,SqT.of (s3 _ _ ea2),SqT.of e3,iv.rt,r1.1,fun x hx=>(iv.ro x hx).1,h1,h4,by omega,by omega,by omega,fun pf G4 hpf s4 e4=>?_⟩
   have s24:=s3.trans s4
   refine⟨_,rfl,_,rfl,n,p,c,sd,rfl,h1,h4,ic.same s24,gd,hl8,fun q5 G5 s5 ic5=>?_⟩
   refine⟨n,q5,con c,lD c sd,rfl,h1,h4,ic5,cB hcL,fun d hd=>aJ (ic'.side d hd),fun t6 G6 ht6 s6 e6=>?_⟩
   have s26:=(s24.trans s5).trans s6
   refine⟨_,rfl,t6,b,iB n (con c) (lD c sd),bk,n,3,mo,rfl,SqT.of e6,SqT.of (s26 _ _ eb2),r2.1,iv.bt,r2.2,h1,h4,by omega,by omega,by omega,fun pb G7 hpb s7 e7=>?_⟩
   have s27:=s26.trans s7
   have s47:=(s5.trans s6).trans s7
   have fG7:=fG2.same s27
   have kG7:Kp fl H G7:=(kG.trans kG2).trans s27.kp
   have iv2:=iv.comp h1 h4 r1 r2 r3 r4
   have e47:=s47 _ _ e4
   have nf:(aT fd (iB n c sd)).length=n:=iv2.rt.len
   have nb:(aT (iB n (con c) (lD c sd)) bk).length=n:=iv2.bt.len
   generalize aT fd (iB n c sd)=ff at e47 iv2 nf
   generalize aT (iB n (con c) (lD c sd)) bk=fb at e7 iv2 nb
   have lall:∀ x∈ff++fb,x.length≤24:=fun x hx=>by
    rcases List.mem_append.mp hx with z | z
    ·have:=iv2.rt.le x z;omega
    ·have:=iv2.bt.le x z;omega
   have nn:∀ {l:List (List Nat)},l.length=n→bX l≠[]:=fun {l} e z=>by
    have:=congrArg List.length z
    rw[aW,e] at this
    simp at this
    omega
   refine⟨_,rfl,_,rfl,pf,pb,_,_,rfl,rfl,SqT.of e47,SqT.of e7,nn nf,aN (by rw[aW,aW];omega),(fun z=>absurd z (nn nb)),fun _ pt hpt=>?_⟩
   have ec:bX ff++bX fb=bX (ff++fb):=by unfold bX;rw[List.map_append]
   rw[ec]
   have s8:=Same.new (o:=HO.tup (bX (ff++fb))) hpt
   have e8:upd G7 pt (.tup (bX (ff++fb))) pt=some (.tup (bX (ff++fb))):=aC
   generalize upd G7 pt (.tup (bX (ff++fb)))=G8 at s8 e8
   refine⟨pt,rfl,⟨_,SqT.of e8⟩,fun Dd hD=>cR (K:=K) (a:=pt) (xs:=bX (ff++fb)) (fun i G9=>Same G8 G9∧G9 Dd=some (.lst ((((ff++fb).take i).map fun x=>((x.length:Nat):Int)).map V.int))) ⟨Same.new hD,aC⟩ (fun i G9 _ h=>SqT.of (h.1 _ _ e8)) ?_ ?_⟩
   ·rintro i v G9 hv ⟨s9,e9⟩
    obtain⟨x,hx,rfl⟩:=dQ hv
    have hxl:=lall x (List.mem_of_getElem? hx)
    have hil:=(List.getElem?_eq_some_iff.mp hx).1
    refine⟨_,rfl,S x,rfl,aN (by rw[bP];omega),_,e9,?_,s9.upd hD,?_⟩
    ·rw[List.length_map,List.length_map,List.length_take]
     have:(ff++fb).length=n+n:=by rw[List.length_append,nf,nb]
     exact aU (by omega)
    ·rw[aC,List.take_add_one,hx,List.map_append,List.map_append,bP]
     rfl
   ·rintro G9 ⟨s9,e9⟩
    rw[aW,List.take_length] at e9
    refine⟨Dd,_,rfl,SqL.of e9,by rw[List.length_map,List.length_append,nf];omega,fun mx hmx=>?_⟩
    refine⟨_,rfl,_,_,rfl,rfl,_,rfl,?_⟩
    have s79:=s8.trans s9
    have f9:=fG7.same s79
    have k9:Kp fl H G9:=kG7.trans s79.kp
    refine gQ (fun e=>?_) (fun e=>?_)
    ·have e':mx≤((mo:Nat):Int):=of_decide_eq_true e
     obtain⟨x1,x2⟩:=A3 rfl hmx e'
     refine⟨_,rfl,_,rfl,_,_,rfl,pf,pb,ff,fb,_,_,_,_,rfl,s79 _ _ e47,s79 _ _ e7,iv2.le x1 x2,f9,k9⟩
    ·exact⟨a,b,fd,bk,_,_,_,_,rfl,s79 _ _ (s27 _ _ ea2),s79 _ _ (s27 _ _ eb2),iv,f9,k9⟩
  ·rintro _ G ⟨a,b,fd,bk,v6,v7,v8,v9,rfl,ea,eb,iv,fG,kG⟩
   refine⟨_,rfl,_,rfl,aN (by simp),fun t ht=>?_⟩
   have s5:=Same.new (o:=HO.tup [.ref a,.ref b]) ht
   exact k t a b fd bk _ aC (s5 _ _ ea) (s5 _ _ eb) iv (fG.upd ht) (kG.upd (kG.free ht (fG.ne ht)))
theorem FP{f:Addr}{fd:FuncData}(D:Df K mg "_law_turned_by" Cr ["_law_n","_law_g"] f fd)(T:Txt P w K mg Ji Jj Jk)(c_zb1:Cl P w K mg base "_law_back" ["_law_word_here"] 2 rX)(c_zc1:Cl P w K mg base "_law_laid" ["_law_text"] 2 mB):Cl P w K mg base "_law_turned_by" ["_law_n","_law_g"] 3 kO:=by
 refine D.cl (D.F.ok GG (fun vs H Q E h=>?_) (fun cdv A outer s H vs Q E hr h=>?_))
 ·obtain⟨n,g,rfl,_⟩:=h
  rfl
 ·obtain⟨n,g,rfl,h1,h4,hg,hgl,k⟩:=h
  refine⟨_,(aG (aS (bB (bS (K:=K) rfl) (by rfl) T.b_tuple boot_tuple (aA (cL (sc0:=aF Cr) (N:=["_law_n","_law_g"]) (ix:=[1]) (by decide +kernel) rfl rfl rfl (iE (fM lB cE fV (fE (pv 0)))) (fun _ _ _=>cG) (fun _ _ _=>(pC c_zc1 hr (aA (bE cK (bE cK (pv 1) (pv 0)) (pC c_zb1 hr (aA (pv 1) aB))) aB)))) aB)))),?_⟩
  refine⟨_,rfl,_,rfl,_,rfl,by decide +kernel,S (bW n),?_,fun Dd hD=>?_⟩
  ·show V.str (Txt.slice (Str.ofString "abcd") none (some ((n:Nat):Int)))=_
   rw[lN,gJ _ (by omega) (by simp;omega)]
   rfl
  refine jK (w:=bW n) (fun i H3=>Same H H3∧H3 Dd=some (.lst (bX (((bW n).take i).map fun c=>lay (g++[c]++back g))))) ⟨Same.new hD,aC⟩ ?_ ?_
  ·rintro i c H3 hc ⟨s3,e3⟩
   have hcL:bY c:=eR (List.mem_of_getElem? hc)
   have hi:i<n:=by have:=(List.getElem?_eq_some_iff.mp hc).1;rw[dA h4] at this;exact this
   refine⟨_,rfl,_,rfl,_,_,rfl,rfl,by rw[bP,bP];exact aN (by simp;omega),?_⟩
   rw[fW]
   refine⟨_,rfl,g,rfl,hg,by omega,fun H4 s4=>?_⟩
   refine⟨_,_,rfl,rfl,by rw[bP,bP,List.length_append,bG];exact aN (by simp;omega),g++[c]++back g,by rw[fW];rfl,eI hg (cC hcL),by rw[List.length_append,List.length_append,bG,List.length_singleton];omega,fun H5 s5=>⟨_,s5 _ _ (s4 _ _ e3),?_,((s3.trans s4).trans s5).upd hD,?_⟩⟩
   ·rw[aW,List.length_map,List.length_take];exact aU (by omega)
   ·rw[aC,List.take_add_one,hc,List.map_append]
    unfold bX
    rw[List.map_append]
    rfl
  ·rintro H3 ⟨s3,e3⟩
   rw[List.take_length] at e3
   exact⟨Dd,_,rfl,.inl ⟨SqL.of e3,fun q hq=>k q _ (s3.free hq) (s3.upd' hq) aC⟩⟩
theorem GT{f:Addr}{fd:FuncData}(D:Df K mg "_law_exchange_back" Ci ["_law_told"] f fd)(T:Txt P w K mg Ji Jj Jk):Cl P w K mg base "_law_exchange_back" ["_law_told"] 1 yV:=by
 refine D.cl (D.F.ok sc_zb (fun vs H Q E h=>?_) (fun cdv A outer s H vs Q E hr h=>?_))
 ·obtain⟨n,a,cs,rfl,_⟩:=h
  rfl
 ·obtain⟨n,a,cs,rfl,h1,h4,ex,ea,k⟩:=h
  refine⟨_,(aD (aM (i:=1) sc_zb.nd rfl (Or.inl rfl) (dW aB))
   (aD (dO PassesOwn.never rfl (iE (fM lB cE fV (fE (bR (cJ (K:=K) rfl) (by rfl) T.b_len PySem.boot_len (aA (pv 0) aB))))) (bF (i:=2) sc_zb.nd rfl (Or.inl rfl)) (aD (aM (i:=3) sc_zb.nd rfl (Or.inl rfl) (cS (K:=K) rfl PySem.F.plainAttrs_list PySem.F.slot_list_index PySem.F.type_list_index (xI (K:=K) rfl) (cL (sc0:=aF Ci) (N:=["_law_told","_law_found","_law_letter","_law_small"]) (ix:=[]) (by decide +kernel) rfl rfl rfl (dR (K:=K) rfl (pv 0)) (fun _ _ _=>cG) (fun _ _ _=>(eC (K:=K) rfl PySem.F.plainAttrs_str PySem.F.slot_str_lower PySem.F.type_str_lower jY (pv 0)))) (aA (pv 2) aB)))
   (aG (bU (cS (K:=K) rfl PySem.F.plainAttrs_list PySem.F.slot_list_append PySem.F.type_list_append cO (pv 1) (aA (aR (aO (K:=K) rfl) (dW (aA (aR wV cE (pv 3) (fun _ _=>rfl)) (aA (aR wV cE (pv 3) (fun _ _=>rfl)) aB))) (bB lV (by rfl) T.b_int boot_int (aA (eC (K:=K) rfl PySem.F.plainAttrs_str PySem.F.slot_str_isupper PySem.F.type_str_isupper oK (aR (bK (K:=K) rfl) (pv 0) (pv 3) (fun _ _=>rfl))) aB)) (fun _ _=>rfl)) aB))))))
   (aG (aS (bB (bS (K:=K) rfl) (by rfl) T.b_tuple boot_tuple (aA (pv 1) aB)))))),?_⟩
  have hcl:=ex.len
  refine⟨aN (by simp),fun l hl=>?_⟩
  have ea0:upd H l (.lst []) a=some (.tup (aV cs)):=by rw[aE (aH ea hl)];exact ea
  refine⟨_,rfl,a,_,rfl,.inr (SqT.of ea0),_,rfl,_,rfl,by decide +kernel,S (bW n),?_,?_⟩
  ·show V.str (Txt.slice (Str.ofString "abcd") none (some (((aV cs).length:Nat):Int)))=_
   rw[aX,hcl,lN,gJ _ (by omega) (by simp;omega)]
   rfl
  refine kK (w:=bW n) (fun i σ H1=>∃ v2 v3:Option V,σ=[some (.ref a),some (.ref l),v2,v3]∧Same H H1∧H1 l=some (.lst (aV ((xB n cs).take i)))) ⟨none,none,rfl,Same.new hl,aC⟩ ?_ ?_
  ·rintro i d σ H1 hd ⟨v2,v3,rfl,s1,e1⟩
   have hm:=List.mem_of_getElem? hd
   have hi:i<n:=by have:=(List.getElem?_eq_some_iff.mp hd).1;rw[dA h4] at this;exact this
   have hx:(xB n cs)[i]?=some (tX cs d):=by unfold xB;rw[List.getElem?_map,hd];rfl
   have ea1:=s1 _ _ ea
   obtain⟨j,e,hj,hje,heL,hlj,hun,hlo,hup⟩:=CB h1 h4 ex hm
   refine⟨_,rfl,a,rfl,⟨_,SqT.of ea1⟩,fun Dd hD=>cR (K:=K) (a:=a) (xs:=aV cs) (fun i H2=>Same H1 H2∧H2 Dd=some (.lst (aV ((cs.map lo).take i)))) ⟨Same.new hD,aC⟩ (fun i H2 _ h=>SqT.of (h.1 _ _ ea1)) ?_ ?_⟩
   ·rintro m v H2 hv ⟨s2,e2⟩
    obtain⟨c,hc,rfl⟩:=yM hv
    have hcL:AllL [c]:=cC (aJ (ex.mem c (List.mem_of_getElem? hc)))
    have hml:m<n:=by have:=(List.getElem?_eq_some_iff.mp hc).1;omega
    refine⟨_,rfl,rfl,S [c],rfl,rfl,lM [c] hcL (by simp),?_⟩
    rw[gH hcL]
    have hcm:(cs.map lo)[m]?=some (lo c):=by rw[List.getElem?_map,hc];rfl
    refine⟨_,e2,?_,s2.upd hD,?_⟩
    ·rw[aX,List.length_take];exact aU (by omega)
    ·rw[aC,bM hcm,bV];rfl
   ·rintro H2 ⟨s2,e2⟩
    have hll:(aV cs).length=(cs.map lo).length:=by rw[aX,List.length_map]
    rw[hll,List.take_length] at e2
    have e2':SqL K H2 Dd (((cs.map lo).map fun c=>S [c]).map V.str):=by rw[← kW];exact SqL.of e2
    have s12:=s1.trans s2
    have at4:∀ {b:Nat} {w:List Nat},(∀ m,m<4→w[m]?=some (b+m))→vJ (S w).cps.toList ((j:Nat):Int)=some (b+j):=fun {b w} hw=>Gu (by omega) (by rw[show ((j:Nat):Int).toNat=j by omega];exact hw j (by omega))
    refine⟨.inl ⟨rfl,_,SqL.of e2⟩,_,rfl,Dd,_,S [d],j,rfl,rfl,e2',by rw[List.getElem?_map,hlj];rfl,fun m hm z=>?_,by omega,?_⟩
    ·rw[List.getElem?_map] at z
     cases hq:(cs.map lo)[m]? with
     | none=>rw[hq] at z;cases z
     | some x =>
      rw[hq] at z
      have hz:x=d:=by
       have:=qP (Option.some.inj z)
       simpa using this
      rw[hz] at hq
      exact hun m hm hq
    have e12:=s2 _ _ e1
    have ea2:=s2 _ _ ea1
    refine⟨_,rfl,.inl ⟨rfl,_,SqL.of e12⟩,_,rfl,_,_,97+j,rfl,rfl,by decide +kernel,?_,_,rfl,_,_,65+j,rfl,rfl,by decide +kernel,?_,aN (by simp),fun q hq=>?_⟩
    ·rw[lN]
     exact at4 fun m hm=>by
      have:m=0∨m=1∨m=2∨m=3:=by omega
      rcases this with rfl | rfl | rfl | rfl <;> rfl
    ·rw[show (Str.ofString "ABCD":Str)=S [65,66,67,68] by decide +kernel]
     exact at4 fun m hm=>by
      have:m=0∨m=1∨m=2∨m=3:=by omega
      rcases this with rfl | rfl | rfl | rfl <;> rfl
    have s3:=Same.new (o:=HO.lst [.str (S [97+j]),.str (S [65+j])]) hq
    have e3:upd H2 q (.lst [.str (S [97+j]),.str (S [65+j])]) q=some (.lst [.str (S [97+j]),.str (S [65+j])]):=aC
    generalize upd H2 q (.lst [.str (S [97+j]),.str (S [65+j])])=H3 at s3 e3
    have sm:(aV ((xB n cs).take i)).length<sizeLine:=by rw[aX,List.length_take];exact aU (by omega)
    have s03:=s12.trans s3
    have e13:=s3 _ _ e12
    refine⟨_,rfl,_,rfl,a,_,_,.str (S [e]),rfl,rfl,SqT.of (s3 _ _ ea2),cT (kR hje),rfl,S [e],rfl,rfl,.inr ⟨_,rfl,?_⟩⟩
    rw[qX heL]
    cases hl':bH e with
    | true =>
     refine⟨q,_,0,.str (S [97+j]),rfl,rfl,SqL.of e3,rfl,l,_,_,rfl,rfl,e13,sm,_,_,rfl,s03.upd hl,?_⟩
     rw[aC,bM hx,bV,hlo hl']
    | false =>
     refine⟨q,_,1,.str (S [65+j]),rfl,rfl,SqL.of e3,rfl,l,_,_,rfl,rfl,e13,sm,_,_,rfl,s03.upd hl,?_⟩
     rw[aC,bM hx,bV,hup hl']
  ·rintro _ H1 ⟨v2,v3,rfl,s1,e1⟩
   rw[dA h4,List.take_of_length_le (by rw[ex.xB_len h1 h4];exact Nat.le_refl _)] at e1
   exact⟨_,rfl,l,_,rfl,.inl ⟨SqL.of e1,fun t ht=>k t _ (s1.free ht) (s1.upd' ht) aC⟩⟩
theorem He{f:Addr}{fd:FuncData}(D:Df K mg "_law_other_alphabet" C7 ["_law_flow_here","_law_n","_law_steps","_law_most"] f fd)(T:Txt P w K mg Ji Jj Jk)(c_zb1:Cl P w K mg base "_law_back" ["_law_word_here"] 2 rX)(c_z8:Cl P w K mg base "_law_word" ["_law_flow_here","_law_n","_law_most"] 2 wG)(c_za1:Cl P w K mg base "_law_then" ["_law_one","_law_other"] 4 (nX K))(c_zt:Cl P w K mg base "_law_alphabet" ["_law_flow_here","_law_n","_law_steps","_law_most"] 5 A8)(c_zs:Cl P w K mg base "_law_exchange" ["_law_flow_here","_law_n"] 2 xN)(c_zn:Cl P w K mg base "_law_turned_by" ["_law_n","_law_g"] 3 kO)(c_zb:Cl P w K mg base "_law_exchange_back" ["_law_told"] 1 yV):Cl P w K mg base "_law_other_alphabet" ["_law_flow_here","_law_n","_law_steps","_law_most"] 6 Bm:=by
 refine D.cl (D.F.ok sc_za (fun vs H Q E h=>?_) (fun cdv A outer s H vs Q E hr h=>?_))
 ·obtain⟨fl,sc,n,mo,st,rfl,_⟩:=h
  rfl
 ·obtain⟨fl,sc,n,mo,st,rfl,f,h1,h4,m1,m8,s0,s9,k⟩:=h
  refine⟨_,(aD (eK (pC c_zt hr (aA (pv 0) (aA (pv 1) (aA (pv 2) (aA (pv 3) aB))))) (iM (K:=K) rfl rfl (cF (bF (i:=4) sc_za.nd rfl (Or.inl rfl)) (cF (bF (i:=5) sc_za.nd rfl (Or.inl rfl)) gB))))
   (aD (aM (i:=6) sc_za.nd rfl (Or.inl rfl) (pC c_zs hr (aA (pv 0) (aA (pv 1) aB))))
   (aD (sU (i:=4) (j:=5) rfl sc_za.nd rfl rfl (by decide) rfl rfl (aA (pC c_za1 hr (aA (pv 4) (aA (pv 6) aB))) (aA (pC c_za1 hr (aA (pC c_zb hr (aA (pv 6) aB)) (aA (pv 5) aB))) aB)) (by rfl))
   (aD (aM (i:=7) sc_za.nd rfl (Or.inl rfl) (pC c_z8 hr (aA (pv 0) (aA (pv 1) (aA aI aB)))))
   (aD (aM (i:=8) sc_za.nd rfl (Or.inl rfl) (pC c_za1 hr (aA (pv 4) (aA (pC c_zn hr (aA (pv 1) (aA (pv 7) aB))) aB))))
   (iT (eG (aY DL (bR (rD (K:=K) rfl rfl) (by rfl) T.b_max boot_max (aA (cL (sc0:=aF C7) (N:=["_law_flow_here","_law_n","_law_steps","_law_most","_law_found","_law_back_here","_law_told","_law_g","_law_further"]) (ix:=[]) (by decide +kernel) rfl rfl rfl (dR (K:=K) rfl (pv 8)) (fun _ _ _=>cG) (fun _ _ _=>(bR fJ (by rfl) T.b_len PySem.boot_len (aA (pv 0) aB)))) aB)) (pv 3) (bC _)) (aG (sU (i:=4) (j:=5) rfl sc_za.nd rfl rfl (by decide) rfl rfl (aA (pv 8) (aA (pC c_za1 hr (aA (pC c_zn hr (aA (pv 1) (aA (pC c_zb1 hr (aA (pv 7) aB)) aB))) (aA (pv 5) aB))) aB)) (by rfl))) cU)
   (aG (aS (eO (aA (pv 4) (aA (pv 5) aB))))))))))),?_⟩
  refine⟨_,rfl,_,rfl,_,rfl,_,rfl,fl,sc,n,mo,st,rfl,f,h1,h4,m1,m8,s0,s9,fun p a b fd bk H1 ep ea eb iv f1 k1=>?_⟩
  refine⟨p,_,rfl,.inr (SqT.of ep),rfl,_,_,rfl,_,_,rfl,rfl,?_⟩
  refine⟨_,rfl,_,rfl,fl,sc,n,rfl,f1,h1,h4,fun q cs H2 hq ex ro oo eq f2 k2=>?_⟩
  have ea2:=gC f1 k2 ea
  have eb2:=gC f1 k2 eb
  obtain⟨x1,x2,x3,x4⟩:=B7 h1 h4 ex
  have ob:=kT (ex.back h1 h4)
  have ew:bX (bL cs)=aV cs:=by unfold bX bL aV;rw[List.map_map];rfl
  have ew2:aV (xB n cs)=bX (bL (xB n cs)):=by unfold bX bL aV;rw[List.map_map];rfl
  refine⟨_,rfl,_,rfl,a,q,fd,bL cs,n,mo,1,rfl,SqT.of ea2,SqT.of eq,iv.rt,ro,fun x hx=>(iv.ro x hx).1,h1,h4,by omega,by omega,by omega,fun pf H3 hpf s3 e3=>?_⟩
  refine⟨_,rfl,n,q,cs,rfl,h1,h4,ex,by rw[← ew];exact s3 _ _ eq,fun q4 H4 hq4 s4 e4=>?_⟩
  rw[ew2] at e4
  refine⟨_,rfl,q4,b,bL (xB n cs),bk,n,1,mo,rfl,SqT.of e4,SqT.of (s4 _ _ (s3 _ _ eb2)),ob.1,iv.bt,ob.2,h1,h4,by omega,by omega,by omega,fun pb H5 hpb s5 e5=>⟨_,_,rfl,?_⟩⟩
  have iv2:IvG n (aT fd (bL cs)) (aT (bL (xB n cs)) bk) mo mo:=by
   have:=iv.comp h1 h4 ⟨ro,oo⟩ ob x3 x4
   rw[Nat.mul_one,Nat.one_mul] at this
   exact this
  have e35:dJ H5 pf _:=s5 _ _ (s4 _ _ e3)
  have e55:dJ H5 pb _:=e5
  have f5:=f2.same ((s3.trans s4).trans s5)
  have k5:Kp fl H H5:=(k1.trans k2).trans ((s3.trans s4).trans s5).kp
  generalize aT fd (bL cs)=fd at e35 iv2
  generalize aT (bL (xB n cs)) bk=bk at e55 iv2
  clear ea eb ea2 eb2 e3 e4 e5 s3 s4 s5 iv ep eq
  refine⟨_,rfl,_,rfl,fl,sc,(n:Nat),2,rfl,f5,by omega,by omega,by decide,by decide,fun g H6 gO gP gl f6 k6=>?_⟩
  have gl2:g.length≤2:=by omega
  have gA:=gO.all
  have e36:=gC f5 k6 e35
  have e56:=gC f5 k6 e55
  refine⟨_,rfl,_,rfl,_,rfl,n,g,rfl,h1,h4,gA,by omega,fun t7 H7 ht7 s7 e7=>?_⟩
  refine⟨pf,t7,fd,dC n g,n,mo,2 * g.length+1,rfl,SqT.of (s7 _ _ e36),SqT.of e7,iv2.rt,hV h4 gA,fun x hx=>(iv2.ro x hx).1,h1,h4,by omega,by omega,Nat.le_trans (Nat.mul_le_mul m8 (show 2 * g.length+1≤5 by omega)) (by decide),fun pt H8 hpt s8 e8=>?_⟩
  have s68:=s7.trans s8
  have f8:=f6.same s68
  have k8:Kp fl H H8:=(k5.trans k6).trans s68.kp
  have e38:=s68 _ _ e36
  have e58:=s68 _ _ e56
  have iv3:=iv2.turn h1 h4 gO
  refine⟨fun σ G=>∃ (a b:Addr) (fd bk:List (List Nat)),σ=[some (.ref fl),some (.int (n:Nat)),some (.int st),some (.int (mo:Nat)),some (.ref a),some (.ref b),some (.ref q),some (.str (S g)),some (.ref pt)]∧dJ G a fd∧dJ G b bk∧IvG n fd bk mo (5 * mo)∧IsFl G fl sc∧Kp fl H G,?_,?_⟩
  ·have nf:(aT fd (dC n g)).length=n:=iv3.rt.len
   have lall:∀ x∈aT fd (dC n g),x.length≤40:=fun x hx=>Nat.le_trans (iv3.rt.le x hx) (Nat.le_trans (Nat.mul_le_mul m8 (show 2 * g.length+1≤5 by omega)) (by decide))
   refine⟨_,rfl,pt,rfl,⟨_,SqT.of e8⟩,fun Dd hD=>cR (K:=K) (a:=pt) (xs:=bX (aT fd (dC n g))) (fun i G9=>Same H8 G9∧G9 Dd=some (.lst ((((aT fd (dC n g)).take i).map fun x=>((x.length:Nat):Int)).map V.int))) ⟨Same.new hD,aC⟩ (fun i G9 _ h=>SqT.of (h.1 _ _ e8)) ?_ ?_⟩
   ·rintro i v G9 hv ⟨s9,e9⟩
    obtain⟨x,hx,rfl⟩:=dQ hv
    have hxl:=lall x (List.mem_of_getElem? hx)
    have hil:=(List.getElem?_eq_some_iff.mp hx).1
    refine⟨_,rfl,S x,rfl,aN (by rw[bP];omega),_,e9,?_,s9.upd hD,?_⟩
    ·rw[List.length_map,List.length_map,List.length_take]
     exact aU (by omega)
    ·rw[aC,List.take_add_one,hx,List.map_append,List.map_append,bP]
     rfl
   ·rintro G9 ⟨s9,e9⟩
    rw[aW,List.take_length] at e9
    refine⟨Dd,_,rfl,SqL.of e9,by rw[List.length_map,nf];omega,fun mx hmx=>?_⟩
    refine⟨_,rfl,_,_,rfl,rfl,_,rfl,?_⟩
    have f9:=f8.same s9
    have k9:Kp fl H G9:=k8.trans s9.kp
    refine gQ (fun e=>?_) (fun e=>?_)
    ·have e':mx≤((mo:Nat):Int):=of_decide_eq_true e
     have x1:=(A3 (f:=aT fd (dC n g)) (fb:=[]) (by rw[List.append_nil]) hmx e').1
     have r2:=hV (n:=n) (g:=back g) h4 (aL gA)
     rw[bG] at r2
     have bo:OfN n (back g):=fun c hc=>by
      unfold back at hc
      obtain⟨d,hd,rfl⟩:=List.mem_map.mp (List.mem_reverse.mp hc)
      exact dE (by omega) (by omega) (gO d hd)
     refine⟨_,rfl,_,rfl,_,rfl,g,rfl,gA,by omega,fun H10 s10=>?_⟩
     refine⟨n,back g,rfl,h1,h4,aL gA,by rw[bG];omega,fun t11 H11 ht11 s11 e11=>?_⟩
     have s9b:=(s9.trans s10).trans s11
     refine⟨_,rfl,t11,pb,dC n (back g),bk,n,2 * g.length+1,mo,rfl,SqT.of e11,SqT.of (s9b _ _ e58),r2,iv2.bt,kY h1 h4 bo,h1,h4,by omega,by omega,Nat.le_trans (Nat.mul_le_mul (show 2 * g.length+1≤5 by omega) m8) (by decide),fun pb2 H12 hpb2 s12 e12=>⟨_,_,rfl,pt,pb2,_,_,rfl,(s9b.trans s12) _ _ e8,e12,iv3.le x1 fun x hx=>Nat.le_trans (iv3.bt.le x hx) (Nat.mul_le_mul_right mo (by omega)),f8.same (s9b.trans s12),k8.trans (s9b.trans s12).kp⟩⟩
    ·exact⟨pf,pb,fd,bk,rfl,s9 _ _ e38,s9 _ _ e58,iv2.le iv2.rt.le fun x hx=>Nat.le_trans (iv2.bt.le x hx) (by omega),f9,k9⟩
  ·rintro _ G ⟨a,b,fd,bk,rfl,ea,eb,iv,fG,kG⟩
   refine⟨_,rfl,_,rfl,aN (by simp),fun t ht=>?_⟩
   have s5:=Same.new (o:=HO.tup [.ref a,.ref b]) ht
   exact k t a b fd bk _ aC (s5 _ _ ea) (s5 _ _ eb) iv (fG.upd ht) (kG.upd (kG.free ht (fG.ne ht)))
theorem Ea{f:Addr}{fd:FuncData}(D:Df K mg "law" tY ["_law_script"] f fd)(T:Txt P w K mg Ji Jj Jk)(c_zx:Cl P w K mg base "turned_back" ["word"] 2 fI)(c_zq:Cl P w K mg base "look_alphabet" ["retelling"] 9 (rS K))(c_zw:Cl P w K mg base "leading_back" ["retelling"] 10 (yR K))(c_zi1:Cl P w K mg base "retold" ["retelling","word"] 4 (iJ K))(c_z3:Cl P w K mg base "told_then" ["one","other"] 5 (nX K))(c_z4:Cl P w K mg base "told_same" ["n"] 2 eT)(c_z5:Cl P w K mg base "turned_by" ["n","word"] 3 kO)(c_z6:Cl P w K mg base "_law_flow" ["_law_script"] 1 (Cb K))(c_z7:Cl P w K mg base "_law_pick" ["_law_flow_here","_law_many"] 1 lS)(c_z8:Cl P w K mg base "_law_word" ["_law_flow_here","_law_n","_law_most"] 2 wG)(c_za:Cl P w K mg base "_law_other_alphabet" ["_law_flow_here","_law_n","_law_steps","_law_most"] 6 Bm):FnOk P w K mg base yP 11 f fd ["_law_script"] (yE K):=by
 refine D.F.ok sc_law (fun vs H Q E h=>?_) (fun cdv A outer s H vs Q E hr h=>?_)
 ·obtain⟨a,ns,rfl,_⟩:=h
  rfl
 ·obtain⟨a,ns,rfl,hs,hl,k⟩:=h
  refine⟨_,(aD (aM (i:=1) sc_law.nd rfl (Or.inl rfl) (pC c_z6 hr (aA (pv 0) aB)))
   (aD (aM (i:=2) sc_law.nd rfl (Or.inl rfl) (bE fQ aI (pC c_z7 hr (aA (pv 1) (aA aI aB)))))
   (aD (aM (i:=3) sc_law.nd rfl (Or.inl rfl) (aR (bK (K:=K) rfl) (pC c_za hr (aA (pv 1) (aA (pv 2) (aA (pC c_z7 hr (aA (pv 1) (aA aI aB))) (aA aI aB))))) aI (fun _ _=>rfl)))
   (aD (aM (i:=4) sc_law.nd rfl (Or.inl rfl) (aR (bK (K:=K) rfl) (pC c_za hr (aA (pv 1) (aA (pv 2) (aA (pC c_z7 hr (aA (pv 1) (aA aI aB))) (aA aI aB))))) aI (fun _ _=>rfl)))
   (aD (aM (i:=5) sc_law.nd rfl (Or.inl rfl) (pC c_z8 hr (aA (pv 1) (aA (pv 2) (aA aI aB)))))
   (aD (nZ (i:=6) (sc0:=aF tY) (N:=["_law_script","_law_flow_here","_law_n","_law_one","_law_other","_law_word_here","_law_backs","_law_retelling","_law_back_here","_law_g","_law_due"]) (ix:=[]) sc_law.nd rfl rfl (by decide +kernel) rfl rfl rfl (dR (K:=K) rfl (eO (aA (pv 3) (aA (pv 4) aB)))) (fun _ _ _=>cG) (fun _ _ _=>(pC c_zw hr (aA (pv 0) aB))))
   (aD (dO PassesOwn.never rfl (Dl (K:=K) rfl (by rfl) T.b_zip (aA (eO (aA (pv 3) (aA (pv 4) aB))) (aA (pv 6) aB))) (iM (K:=K) rfl rfl (cF (bF (i:=7) sc_law.nd rfl (Or.inl rfl)) (cF (bF (i:=8) sc_law.nd rfl (Or.inl rfl)) gB))) (aD (eG (pw_or (aY zZ (pC c_zq hr (aA (pv 8) aB)) qE (bC _)) (pw_or1 (aY (oZ (K:=K) rfl hr.units) (pC c_zw hr (aA (pv 8) aB)) (pv 7) (bC _)))).pt (aG (aS qE)) cU)
   (aD (eG (pw_or (aY mH (pC c_zi1 hr (aA (pv 8) (aA (pC c_zi1 hr (aA (pv 7) (aA (pv 5) aB))) aB))) (pv 5) (bC _)) (pw_or1 (aY mH (pC c_zi1 hr (aA (pv 7) (aA (pC c_zi1 hr (aA (pv 8) (aA (pv 5) aB))) aB))) (pv 5) (bC _)))).pt (aG (aS qE)) cU)
   (aG (eG (pw_or (aY (oZ (K:=K) rfl hr.units) (pC c_z3 hr (aA (pv 7) (aA (pv 8) aB))) (pC c_z4 hr (aA (pv 2) aB)) (bC _)) (pw_or1 (aY (oZ (K:=K) rfl hr.units) (pC c_z3 hr (aA (pv 8) (aA (pv 7) aB))) (pC c_z4 hr (aA (pv 2) aB)) (bC _)))).pt (aG (aS qE)) cU)))))
   (aD (eG (aY (oZ (K:=K) rfl hr.units) (pC c_zw hr (aA (pC c_z3 hr (aA (pv 3) (aA (pv 4) aB))) aB)) (pC c_z3 hr (aA (aR (aO (K:=K) rfl) (pv 6) aI (fun _ _=>rfl)) (aA (aR (aO (K:=K) rfl) (pv 6) aI (fun _ _=>rfl)) aB))) (bC _)) (aG (aS qE)) cU)
   (aD (aM (i:=9) sc_law.nd rfl (Or.inl rfl) (pC c_z8 hr (aA (pv 1) (aA (pv 2) (aA aI aB)))))
   (aD (aM (i:=10) sc_law.nd rfl (Or.inl rfl) (pC c_z3 hr (aA (pC c_z5 hr (aA (pv 2) (aA (pC c_zx hr (aA (pv 9) aB)) aB))) (aA (aR (aO (K:=K) rfl) (pv 6) aI (fun _ _=>rfl)) aB))))
   (aG (aS (mV (D1 (K:=K) rfl hr.units) (pC c_zw hr (aA (pC c_z3 hr (aA (pv 3) (aA (pC c_z5 hr (aA (pv 2) (aA (pv 9) aB))) aB))) aB)) (pv 10) (bC _)))))))))))))),?_⟩
  refine⟨_,rfl,a,ns,rfl,hs,hl,fun fl sc H1 hfl s1 f1=>?_⟩
  refine⟨_,rfl,fl,sc,4,rfl,f1,by decide,by decide,fun d H2 d0 d1 f2 k2=>⟨_,_,rfl,rfl,?_⟩⟩
  obtain⟨n,hn⟩:∃ n:Nat,1+d=(n:Int):=⟨(1+d).toNat,by omega⟩
  have hd:(fun i j:Int=>V.int (i+j)) 1 d=V.int (n:Nat):=by rw[← hn]
  rw[hd]
  have n1:1≤n:=by omega
  have n4:n≤4:=by omega
  refine⟨_,rfl,_,rfl,_,rfl,fl,sc,7,rfl,f2,by decide,by decide,fun st1 H3 st0 st6 f3 k3=>⟨fl,sc,n,5,st1,rfl,f3,n1,n4,by decide,by decide,st0,by omega,fun p1 a1 b1' o1 b1 H4 ep1 ea1 _ iv1 f4 k4=>⟨p1,_,0,.ref a1,rfl,rfl,SqT.of ep1,rfl,?_⟩⟩⟩
  refine⟨_,rfl,_,rfl,_,rfl,fl,sc,7,rfl,f4,by decide,by decide,fun st2 H5 su0 su6 f5 k5=>⟨fl,sc,n,5,st2,rfl,f5,n1,n4,by decide,by decide,su0,by omega,fun p2 a2 b2' o2 b2 H6 ep2 ea2 _ iv2 f6 k6=>⟨p2,_,0,.ref a2,rfl,rfl,SqT.of ep2,rfl,?_⟩⟩⟩
  have ea1:=gC f5 k6 (gC f4 k5 ea1)
  refine⟨_,rfl,_,rfl,fl,sc,(n:Nat),10,rfl,f6,by omega,by omega,by decide,by decide,fun w H7 wO wP wl f7 k7=>?_⟩
  have wl:w.length≤10:=by omega
  have ea1:dJ H7 a1 o1:=gC f6 k7 ea1
  have ea2:dJ H7 a2 o2:=gC f6 k7 ea2
  clear k2 k3 k4 k5 k6 k7 f2 f3 f4 f5 f6 ep1 ep2
  refine⟨_,rfl,_,rfl,aN (by simp),fun tq htq=>?_⟩
  have s8:=Same.new (o:=HO.tup [.ref a1,.ref a2]) htq
  have e8:upd H7 tq (.tup [.ref a1,.ref a2]) tq=some (.tup [.ref a1,.ref a2]):=aC
  have f8:=f7.upd (o:=HO.tup [.ref a1,.ref a2]) htq
  generalize upd H7 tq (.tup [.ref a1,.ref a2])=H8 at s8 e8 f8
  have ea1:dJ H8 a1 o1:=s8 _ _ ea1
  have ea2:dJ H8 a2 o2:=s8 _ _ ea2
  refine⟨tq,rfl,⟨_,SqT.of e8⟩,fun Dd hD=>cR (K:=K) (a:=tq) (xs:=[.ref a1,.ref a2]) (fun i G=>Same H8 G∧((i=0∧G Dd=some (.lst []))∨(i=1∧∃ q1,G Dd=some (.lst [.ref q1])∧dJ G q1 b1)∨(i=2∧∃ q1 q2,G Dd=some (.lst [.ref q1,.ref q2])∧dJ G q1 b1∧dJ G q2 b2))) ⟨Same.new hD,.inl ⟨rfl,aC⟩⟩ (fun i G _ h=>SqT.of (h.1 _ _ e8)) ?_ ?_⟩
  ·rintro i v G hv ⟨sG,hcase⟩
   have hD8:=hD
   rcases hcase with ⟨rfl,eD⟩ | ⟨rfl,q1,eD,eq1⟩ | ⟨rfl,_⟩
   ·cases hv
    refine⟨_,rfl,n,5,25,a1,o1,b1,rfl,n1,n4,iv1,by decide,by decide,by decide,SqT.of (sG _ _ ea1),fun q G2 hq s2 e2=>⟨_,s2 _ _ eD,by decide,(sG.trans s2).upd hD,.inr (.inl ⟨rfl,q,aC,?_⟩)⟩⟩
    show upd G2 Dd _ q=_
    rw[aE (dB e2 (s2 _ _ eD) (by intro z;cases z))]
    exact e2
   ·cases hv
    refine⟨_,rfl,n,5,25,a2,o2,b2,rfl,n1,n4,iv2,by decide,by decide,by decide,SqT.of (sG _ _ ea2),fun q G2 hq s2 e2=>⟨_,s2 _ _ eD,(by show 1<sizeLine;decide),(sG.trans s2).upd hD,.inr (.inr ⟨rfl,q1,q,aC,?_,?_⟩)⟩⟩
    ·show upd G2 Dd _ q1=_
     rw[aE (dB (s2 _ _ eq1) (s2 _ _ eD) (by intro z;cases z))]
     exact s2 _ _ eq1
    ·show upd G2 Dd _ q=_
     rw[aE (dB e2 (s2 _ _ eD) (by intro z;cases z))]
     exact e2
   ·cases hv
  rintro H9 ⟨s9,hcase⟩
  obtain⟨q1,q2,eD,eq1,eq2⟩:∃ q1 q2,H9 Dd=some (.lst [.ref q1,.ref q2])∧dJ H9 q1 b1∧dJ H9 q2 b2:=by
   rcases hcase with ⟨z,_⟩ | ⟨z,_⟩ | ⟨_,q1,q2,z⟩
   ·exact absurd z (by simp)
   ·exact absurd z (by simp)
   ·exact⟨q1,q2,z⟩
  have f9:=f8.same s9
  have ea1:dJ H9 a1 o1:=s9 _ _ ea1
  have ea2:dJ H9 a2 o2:=s9 _ _ ea2
  clear hcase s8 e8 htq
  refine⟨_,rfl,_,rfl,aN (by simp),fun tz htz=>?_⟩
  have s10:=Same.new (o:=HO.tup [.ref a1,.ref a2]) htz
  have e10:upd H9 tz (.tup [.ref a1,.ref a2]) tz=some (.tup [.ref a1,.ref a2]):=aC
  have f10:=f9.upd (o:=HO.tup [.ref a1,.ref a2]) htz
  generalize upd H9 tz (.tup [.ref a1,.ref a2])=H10 at s10 e10 f10
  have ea1:dJ H10 a1 o1:=s10 _ _ ea1
  have ea2:dJ H10 a2 o2:=s10 _ _ ea2
  have eq1:dJ H10 q1 b1:=s10 _ _ eq1
  have eq2:dJ H10 q2 b2:=s10 _ _ eq2
  have eD:=s10 _ _ eD
  have items:∀ (i:Nat) (x y:V),[V.ref a1,.ref a2][i]?=some x→[V.ref q1,.ref q2][i]?=some y→∃ a q o b,x=.ref a∧y=.ref q∧dJ H10 a o∧dJ H10 q b∧IvG n o b 5 25:=fun i x y hx hy=>by
   match i,hx,hy with
   | 0,hx,hy=>cases hx;cases hy;exact⟨a1,q1,o1,b1,rfl,rfl,ea1,eq1,iv1⟩
   | 1,hx,hy=>cases hx;cases hy;exact⟨a2,q2,o2,b2,rfl,rfl,ea2,eq2,iv2⟩
  refine⟨_,rfl,tz,Dd,rfl,⟨_,SqT.of e10⟩,⟨_,SqL.of eD⟩,?_⟩
  refine BO (K:=K) (t:=tz) (u:=Dd) (xs:=[.ref a1,.ref a2]) (ys:=[.ref q1,.ref q2]) (fun i σ G=>∃ v7 v8:Option V,σ=[some (.ref a),some (.ref fl),some (.int (n:Nat)),some (.ref a1),some (.ref a2),some (.str (S w)),some (.ref Dd),v7,v8,none,none]∧Same H10 G) ⟨none,none,rfl,Same.refl _⟩ (fun i σ G _ ⟨_,_,_,s⟩=>⟨SqT.of (s _ _ e10),SqL.of (s _ _ eD)⟩) ?_ ?_
  ·rintro i x y pz _ G hx hy hpz ⟨v7,v8,rfl,sG⟩
   obtain⟨ao,qb,o,b,rfl,rfl,eo,eb,iv⟩:=items i x y hx hy
   have s11:=Same.new (o:=HO.tup [.ref ao,.ref qb]) hpz
   refine⟨pz,_,rfl,.inr (SqT.of aC),rfl,_,_,rfl,_,_,rfl,rfl,?_⟩
   generalize upd G pz (.tup [.ref ao,.ref qb])=G1 at s11
   have sG1:=sG.trans s11
   have eo1:=sG1 _ _ eo
   have eb1:=sG1 _ _ eb
   have ivs:=iv.symm
   refine⟨_,rfl,n,25,qb,b,rfl,n1,n4,ivs.alp n1 n4,by decide,SqT.of eb1,fun G2 s2=>?_⟩
   refine⟨_,_,rfl,rfl,_,rfl,gF ?_⟩
   have eb2:=s2 _ _ eb1
   have eo2:=s2 _ _ eo1
   refine⟨_,rfl,n,25,5,qb,b,o,rfl,n1,n4,ivs,by decide,by decide,by decide,SqT.of eb2,fun q3 G3 hq3 s3 e3=>?_⟩
   refine⟨_,rfl,0,q3,ao,_,_,by decide,rfl,rfl,.inr ⟨SqT.of e3,SqT.of (s3 _ _ eo2)⟩,rfl,kM,_,rfl,gF ?_⟩
   have eb3:=s3 _ _ eb2
   have eo3:=s3 _ _ eo2
   have bO:∀ x∈b,OfN n x:=fun x hx=>(iv.bo x hx).1
   have oO:∀ x∈o,OfN n x:=fun x hx=>(iv.ro x hx).1
   have l1:(retl o w).length≤50:=Nat.le_trans (oX iv.rt w) (by omega)
   have l2:(retl b w).length≤250:=Nat.le_trans (oX iv.bt w) (by omega)
   refine⟨_,rfl,_,rfl,_,rfl,ao,o,n,5,w,rfl,SqT.of eo3,iv.rt,n1,n4,by decide,wO,by omega,by omega,fun G4 s4=>?_⟩
   refine⟨qb,b,n,25,retl o w,rfl,SqT.of (s4 _ _ eb3),iv.bt,n1,n4,by decide,oC n1 n4 oO w,by omega,by omega,fun G5 s5=>⟨_,rfl,rfl,_,rfl,?_⟩⟩
   rw[oG n1 n4 iv wO wP,decide_eq_true rfl]
   refine gF ?_
   have s35:=s4.trans s5
   refine⟨_,rfl,_,rfl,_,rfl,qb,b,n,25,w,rfl,SqT.of (s35 _ _ eb3),iv.bt,n1,n4,by decide,wO,by omega,by omega,fun G6 s6=>?_⟩
   refine⟨ao,o,n,5,retl b w,rfl,SqT.of (s6 _ _ (s35 _ _ eo3)),iv.rt,n1,n4,by decide,oC n1 n4 bO w,by omega,by omega,fun G7 s7=>⟨_,rfl,rfl,_,rfl,?_⟩⟩
   rw[oG n1 n4 ivs wO wP,decide_eq_true rfl]
   refine gF ?_
   have s37:=(s35.trans s6).trans s7
   have eb7:=s37 _ _ eb3
   have eo7:=s37 _ _ eo3
   refine⟨_,rfl,_,rfl,ao,qb,o,b,n,5,25,rfl,SqT.of eo7,SqT.of eb7,iv.rt,iv.bt,oO,n1,n4,by decide,by decide,by decide,fun p8 G8 hp8 s8 e8=>?_⟩
   rw[iv.there] at e8
   refine⟨_,rfl,n,rfl,n1,n4,fun p9 G9 hp9 s9 e9=>⟨0,p8,p9,_,_,by decide,rfl,rfl,.inr ⟨SqT.of (s9 _ _ e8),SqT.of e9⟩,rfl,kM,_,rfl,gF ?_⟩⟩
   have s79:=s8.trans s9
   refine⟨_,rfl,_,rfl,qb,ao,b,o,n,25,5,rfl,SqT.of (s79 _ _ eb7),SqT.of (s79 _ _ eo7),iv.bt,iv.rt,bO,n1,n4,by decide,by decide,by decide,fun p10 G10 hp10 s10' e10'=>?_⟩
   rw[iv.back] at e10'
   refine⟨_,rfl,n,rfl,n1,n4,fun p11 G11 hp11 s11' e11'=>⟨0,p10,p11,_,_,by decide,rfl,rfl,.inr ⟨SqT.of (s11' _ _ e10'),SqT.of e11'⟩,rfl,kM,_,rfl,gF ?_⟩⟩
   exact⟨_,_,rfl,(((((sG1.trans s2).trans s3).trans s37).trans s79).trans s10').trans s11'⟩
  ·rintro _ G ⟨v7,v8,rfl,sG⟩
   have f11:=f10.same sG
   have ea1:dJ G a1 o1:=sG _ _ ea1
   have ea2:dJ G a2 o2:=sG _ _ ea2
   have eq1:dJ G q1 b1:=sG _ _ eq1
   have eq2:dJ G q2 b2:=sG _ _ eq2
   have eD:=sG _ _ eD
   have o1O:∀ x∈o1,OfN n x:=fun x hx=>(iv1.ro x hx).1
   have o2O:∀ x∈o2,OfN n x:=fun x hx=>(iv2.ro x hx).1
   have b1O:∀ x∈b1,OfN n x:=fun x hx=>(iv1.bo x hx).1
   have b2O:∀ x∈b2,OfN n x:=fun x hx=>(iv2.bo x hx).1
   have iv12:IvG n (aT o1 o2) (aT b2 b1) (5 * 5) (25 * 25):=iv1.comp n1 n4 ⟨iv2.rt,o2O⟩ ⟨iv2.bt,b2O⟩ iv2.there iv2.back
   refine⟨_,rfl,_,rfl,a1,a2,o1,o2,n,5,5,rfl,SqT.of ea1,SqT.of ea2,iv1.rt,iv2.rt,o1O,n1,n4,by decide,by decide,by decide,fun p1' G1 _ s1' e1'=>?_⟩
   refine⟨n,25,625,p1',_,_,rfl,n1,n4,iv12,by decide,by decide,by decide,SqT.of e1',fun p2' G2 _ s2' e2'=>?_⟩
   have sa:=s1'.trans s2'
   have eD2:=sa _ _ eD
   refine⟨_,rfl,Dd,_,1,.ref q2,rfl,rfl,SqL.of eD2,rfl,_,rfl,Dd,_,0,.ref q1,rfl,rfl,SqL.of eD2,rfl,q2,q1,b2,b1,n,25,25,rfl,SqT.of (sa _ _ eq2),SqT.of (sa _ _ eq1),iv2.bt,iv1.bt,b2O,n1,n4,by decide,by decide,by decide,fun p3' G3 _ s3' e3'=>?_⟩
   refine⟨0,p2',p3',_,_,by decide,rfl,rfl,.inr ⟨SqT.of (s3' _ _ e2'),SqT.of e3'⟩,rfl,kM,_,rfl,gF ?_⟩
   have sb:=sa.trans s3'
   have f3':=f11.same sb
   refine⟨_,rfl,_,rfl,fl,sc,(n:Nat),3,rfl,f3',by omega,by omega,by decide,by decide,fun g G4 gO gP gl f4' k4'=>?_⟩
   have gl3:g.length≤3:=by omega
   have gA:=gO.all
   have ea1':dJ G4 a1 o1:=gC f3' k4' (sb _ _ ea1)
   have eq1':dJ G4 q1 b1:=gC f3' k4' (sb _ _ eq1)
   have hDf:Dd≠fl:=fun z=>by
    obtain⟨ns',i',x',b',c',g1,_⟩:=f3'
    rw[← z] at g1
    have:=(sb _ _ eD).symm.trans g1
    have:=congrArg (fun o=>match o with | some (HO.lst l)=>l.length | _=>0) this
    simp at this
   have eD4:=k4' _ _ (sb _ _ eD) hDf
   have bA:=aL gA
   have r1:=hV (n:=n) (g:=g) n4 gA
   have r2:=hV (n:=n) (g:=back g) n4 bA
   rw[bG] at r2
   have bo:OfN n (back g):=fun c hc=>by
    unfold back at hc
    obtain⟨d,hd,rfl⟩:=List.mem_map.mp (List.mem_reverse.mp hc)
    exact dE (by omega) (by omega) (gO d hd)
   have iv3:=iv1.turn n1 n4 gO
   have iv4:IvG n (aT o1 (dC n g)) (aT (dC n (back g)) b1) 35 175:=iv3.le (fun x hx=>Nat.le_trans (iv3.rt.le x hx) (by omega)) (fun x hx=>Nat.le_trans (iv3.bt.le x hx) (by omega))
   refine⟨_,rfl,_,rfl,g,rfl,gA,by omega,fun G5 s5'=>?_⟩
   refine⟨n,back g,rfl,n1,n4,bA,by rw[bG];omega,fun t6 G6 _ s6' e6'=>?_⟩
   have s46:=s5'.trans s6'
   refine⟨_,rfl,Dd,_,0,.ref q1,rfl,rfl,SqL.of (s46 _ _ eD4),rfl,t6,q1,dC n (back g),b1,n,2 * g.length+1,25,rfl,SqT.of e6',SqT.of (s46 _ _ eq1'),r2,iv1.bt,kY n1 n4 bo,n1,n4,by omega,by decide,by omega,fun p7 G7 _ s7' e7'=>?_⟩
   have s47:=s46.trans s7'
   refine⟨_,rfl,_,rfl,_,rfl,n,g,rfl,n1,n4,gA,by omega,fun t8 G8 _ s8' e8'=>?_⟩
   refine⟨a1,t8,o1,dC n g,n,5,2 * g.length+1,rfl,SqT.of (s8' _ _ (s47 _ _ ea1')),SqT.of e8',iv1.rt,r1,o1O,n1,n4,by decide,by omega,by omega,fun p9 G9 _ s9' e9'=>?_⟩
   refine⟨n,35,175,p9,_,_,rfl,n1,n4,iv4,by decide,by decide,by decide,SqT.of e9',fun p10 G10 _ s10' e10'=>?_⟩
   exact⟨_,rfl,0,p10,p7,_,_,by decide,rfl,rfl,.inr ⟨SqT.of e10',SqT.of (s10' _ _ (s9' _ _ (s8' _ _ e7')))⟩,rfl,kM,k _⟩
end
theorem all_mk{l:PySem.W.OpenLaw}{w:World}{K:PySem.W.Frag}{h:Heap}{mg:Str→Option Value}{fa:Addr}(X:K.In h)(G:h.Ns mainGlobals mg)(hfa:mg "law"=some (.ref fa))
  {f_45 Ji Jj Jk:Addr}
  {od_45 an_45:Option Addr} {sl_45:Array (Option Value)} {oc_45 kV_45 dc_45 pm_45 cd_45 ct_45:Value}
  (d_0:DI K "letters_of" EF)
  (d_1:DI K "first_letters" D7)
  (d_2:DI K "contrary" FA)
  (d_3:DI K "laid_out" BW)
  (d_4:DI K "turned_back" CO)
  (d_5:DI K "joined" AG)
  (d_6:DJ K Jk "__init__" "Weave.__init__" EH)
  (d_7:DJ K Jk "end_of" "Weave.end_of" E5)
  (d_8:DJ K Jk "head_of" "Weave.head_of" D2)
  (d_9:DJ K Jk "goal_of" "Weave.goal_of" Et)
  (d_10:DJ K Jk "new_place" "Weave.new_place" EG)
  (d_11:DJ K Jk "lay_way" "Weave.lay_way" Fx)
  (d_12:DJ K Jk "lay_word" "Weave.lay_word" DZ)
  (d_13:DJ K Jk "put_under" "Weave.put_under" E6)
  (d_14:DJ K Jk "fold" "Weave.fold" Ev)
  (d_15:DJ K Jk "round_told" "Weave.round_told" Eu)
  (d_16:DI K "numbers_of_heads" Es)
  (d_17:DI K "place_told" AH)
  (d_18:DI K "web_of" xL)
  (d_19:DI K "look_alphabet" DV)
  (d_20:DI K "leading_back" C2)
  (d_21:DI K "words_by_letter" Ez)
  (d_22:DI K "retold" yT)
  (d_23:DI K "told_then" CH)
  (d_24:DI K "told_same" Em)
  (d_25:DI K "turned_by" CY)
  (d_26:DI K "_law_flow" Fr)
  (d_27:DI K "_law_pick" Fo)
  (d_28:DI K "_law_letters" Ff)
  (d_29:DI K "_law_contrary" DX)
  (d_30:DI K "_law_key" yG)
  (d_31:DI K "_law_back" yC)
  (d_32:DI K "_law_laid" BE)
  (d_33:DI K "_law_word" Dv)
  (d_34:DI K "_law_retold" Ei)
  (d_35:DI K "_law_then" yQ)
  (d_36:DI K "_law_same" B4)
  (d_37:DI K "_law_drawn_change" Fm)
  (d_38:DI K "_law_change_told" EM)
  (d_39:DI K "_law_change_back" CT)
  (d_40:DI K "_law_alphabet" Cz)
  (d_41:DI K "_law_exchange" Ft)
  (d_42:DI K "_law_turned_by" Cr)
  (d_43:DI K "_law_exchange_back" Ci)
  (d_44:DI K "_law_other_alphabet" C7)
  (na_45:PySem.W.nsIn K mainGlobals "law"=some (some (.ref f_45))) (nl_45:K.lookup f_45=some ⟨oc_45,od_45,.func (F0 "law" tY kV_45 dc_45 pm_45 an_45 cd_45 ct_45),sl_45⟩) (nc_45:PySem.W.codeIn K cd_45 "law"=true) (nk_45:PySem.W.keepIn K (.ref f_45)=true)
  (nb_enumerate:PySem.W.nsIn K mainGlobals "enumerate"=some none)
  (nb_int:PySem.W.nsIn K mainGlobals "int"=some none)
  (nb_len:PySem.W.nsIn K mainGlobals "len"=some none)
  (nb_list:PySem.W.nsIn K mainGlobals "list"=some none)
  (nb_max:PySem.W.nsIn K mainGlobals "max"=some none)
  (nb_range:PySem.W.nsIn K mainGlobals "range"=some none)
  (nb_reversed:PySem.W.nsIn K mainGlobals "reversed"=some none)
  (nb_sorted:PySem.W.nsIn K mainGlobals "sorted"=some none)
  (nb_tuple:PySem.W.nsIn K mainGlobals "tuple"=some none)
  (nb_zip:PySem.W.nsIn K mainGlobals "zip"=some none)
  (oa_Weave:PySem.W.nsIn K mainGlobals "Weave"=some (some (.ref Jk)))
  (ob_Weave:PySem.W.plainGet K Jk Str.empty=true)
  (oe_Weave:PySem.W.hasDictIn K Jk=true)
  (of_Weave:PySem.W.plainOver K Jk=true)
  (og_Weave:PySem.W.findIn K (.ref Jk) "__setattr__"=some (some (.builtin "object.__setattr__")))
  (oh_Weave:PySem.W.makesIn K Jk=true)
  (oi_Weave:PySem.W.keepIn K (.ref Jk)=true)
  (on_Weave_heads:PySem.W.findIn K (.ref Jk) "heads"=some none)
  (on_Weave_turns:PySem.W.findIn K (.ref Jk) "turns"=some none)
  (on_Weave_ways:PySem.W.findIn K (.ref Jk) "ways"=some none)
  (on_Weave_alike:PySem.W.findIn K (.ref Jk) "alike"=some none)
  (nm_CONTRARIES:PySem.W.nsIn K mainGlobals "CONTRARIES"=some (some (.ref Ji)))
  (nt_CONTRARIES:KTD.tabLook KTD.flatLooks (fun b=>K.lookup b) Ji conTab_rows=true) (nh_CONTRARIES:KTD.hashesOf (fun b=>K.lookup b) Ji=conTab_rows.map fun p=>(PySem.strKind l.prog w).hash p.1)
  (nm_LETTERS:PySem.W.nsIn K mainGlobals "LETTERS"=some (some (.ref Jj)))
  {i_LETTERS:Array Value} {n_LETTERS:Nat} (nt_LETTERS:K.lookup Jj=some ⟨.type "tuple",none,.seq i_LETTERS n_LETTERS,#[]⟩) (nv_LETTERS:Vals letV i_LETTERS.toList)
  : ∃ fd:FuncData,(∀ (s:Shared) (v:Value),BindsTo s fd ⟨[v],[]⟩ [("_law_script",v)])∧∀ base:Heap,K.In base→base.Ns mainGlobals mg→FnOk l.prog w K mg base yP 40 fa fd ["_law_script"] (yE K):=by
 have e:=hfa.symm.trans (PySem.W.mg_of X G na_45)
 have e2:f_45=fa:=by cases e;rfl
 subst e2
 have T:Txt l.prog w K mg Ji Jj Jk:=⟨PySem.W.mg_of X G oa_Weave,⟨⟨ob_Weave,oe_Weave,of_Weave,og_Weave⟩,oh_Weave,oi_Weave⟩,on_Weave_heads,on_Weave_turns,on_Weave_ways,on_Weave_alike,PySem.W.mg_none_of X G nb_enumerate,PySem.W.mg_none_of X G nb_int,PySem.W.mg_none_of X G nb_len,PySem.W.mg_none_of X G nb_list,PySem.W.mg_none_of X G nb_max,PySem.W.mg_none_of X G nb_range,PySem.W.mg_none_of X G nb_reversed,PySem.W.mg_none_of X G nb_sorted,PySem.W.mg_none_of X G nb_tuple,PySem.W.mg_none_of X G nb_zip,PySem.W.mg_of X G nm_CONTRARIES,fun h x=>PySem.W.kt_tab_in l.prog w x nt_CONTRARIES (by decide +kernel) nh_CONTRARIES,PySem.W.mg_of X G nm_LETTERS,fun H=>.inr ⟨_,_,_,nt_LETTERS,rfl,rfl,CS nv_LETTERS (by decide),nv_LETTERS⟩⟩
 obtain⟨_,_,D_0⟩:=iG (ps:=["n"]) d_0 X G fun _ _ _ _ _ _ u h=>match u,h with | [_],_=>rfl
 obtain⟨_,_,D_1⟩:=iG (ps:=["n"]) d_1 X G fun _ _ _ _ _ _ u h=>match u,h with | [_],_=>rfl
 obtain⟨_,_,D_2⟩:=iG (ps:=["letter"]) d_2 X G fun _ _ _ _ _ _ u h=>match u,h with | [_],_=>rfl
 obtain⟨_,_,D_3⟩:=iG (ps:=["text"]) d_3 X G fun _ _ _ _ _ _ u h=>match u,h with | [_],_=>rfl
 obtain⟨_,_,D_4⟩:=iG (ps:=["word"]) d_4 X G fun _ _ _ _ _ _ u h=>match u,h with | [_],_=>rfl
 obtain⟨_,_,D_5⟩:=iG (ps:=["one","other"]) d_5 X G fun _ _ _ _ _ _ u h=>match u,h with | [_,_],_=>rfl
 obtain⟨_,_,D_6⟩:=Cg (ps:=["self"]) d_6 fun _ _ _ _ _ _ u h=>match u,h with | [_],_=>rfl
 obtain⟨_,_,D_7⟩:=Cg (ps:=["self","place","told"]) d_7 fun _ _ _ _ _ _ u h=>match u,h with | [_,_,_],_=>rfl
 obtain⟨_,_,D_8⟩:=Cg (ps:=["self","place"]) d_8 fun _ _ _ _ _ _ u h=>match u,h with | [_,_],_=>rfl
 obtain⟨_,_,D_9⟩:=Cg (ps:=["self","head","letter"]) d_9 fun _ _ _ _ _ _ u h=>match u,h with | [_,_,_],_=>rfl
 obtain⟨_,_,D_10⟩:=Cg (ps:=["self"]) d_10 fun _ _ _ _ _ _ u h=>match u,h with | [_],_=>rfl
 obtain⟨_,_,D_11⟩:=Cg (ps:=["self","place","letter","goal","told"]) d_11 fun _ _ _ _ _ _ u h=>match u,h with | [_,_,_,_,_],_=>rfl
 obtain⟨_,_,D_12⟩:=Cg (ps:=["self","word","told"]) d_12 fun _ _ _ _ _ _ u h=>match u,h with | [_,_,_],_=>rfl
 obtain⟨_,_,D_13⟩:=Cg (ps:=["self","head","above","turn"]) d_13 fun _ _ _ _ _ _ u h=>match u,h with | [_,_,_,_],_=>rfl
 obtain⟨_,_,D_14⟩:=Cg (ps:=["self"]) d_14 fun _ _ _ _ _ _ u h=>match u,h with | [_],_=>rfl
 obtain⟨_,_,D_15⟩:=Cg (ps:=["self","letter"]) d_15 fun _ _ _ _ _ _ u h=>match u,h with | [_,_],_=>rfl
 obtain⟨_,_,D_16⟩:=iG (ps:=["n","weave"]) d_16 X G fun _ _ _ _ _ _ u h=>match u,h with | [_,_],_=>rfl
 obtain⟨_,_,D_17⟩:=iG (ps:=["n","weave","numbers","head"]) d_17 X G fun _ _ _ _ _ _ u h=>match u,h with | [_,_,_,_],_=>rfl
 obtain⟨_,_,D_18⟩:=iG (ps:=["n","words"]) d_18 X G fun _ _ _ _ _ _ u h=>match u,h with | [_,_],_=>rfl
 obtain⟨_,_,D_19⟩:=iG (ps:=["retelling"]) d_19 X G fun _ _ _ _ _ _ u h=>match u,h with | [_],_=>rfl
 obtain⟨_,_,D_20⟩:=iG (ps:=["retelling"]) d_20 X G fun _ _ _ _ _ _ u h=>match u,h with | [_],_=>rfl
 obtain⟨_,_,D_21⟩:=iG (ps:=["retelling"]) d_21 X G fun _ _ _ _ _ _ u h=>match u,h with | [_],_=>rfl
 obtain⟨_,_,D_22⟩:=iG (ps:=["retelling","word"]) d_22 X G fun _ _ _ _ _ _ u h=>match u,h with | [_,_],_=>rfl
 obtain⟨_,_,D_23⟩:=iG (ps:=["one","other"]) d_23 X G fun _ _ _ _ _ _ u h=>match u,h with | [_,_],_=>rfl
 obtain⟨_,_,D_24⟩:=iG (ps:=["n"]) d_24 X G fun _ _ _ _ _ _ u h=>match u,h with | [_],_=>rfl
 obtain⟨_,_,D_25⟩:=iG (ps:=["n","word"]) d_25 X G fun _ _ _ _ _ _ u h=>match u,h with | [_,_],_=>rfl
 obtain⟨_,_,D_26⟩:=iG (ps:=["_law_script"]) d_26 X G fun _ _ _ _ _ _ u h=>match u,h with | [_],_=>rfl
 obtain⟨_,_,D_27⟩:=iG (ps:=["_law_flow_here","_law_many"]) d_27 X G fun _ _ _ _ _ _ u h=>match u,h with | [_,_],_=>rfl
 obtain⟨_,_,D_28⟩:=iG (ps:=["_law_n"]) d_28 X G fun _ _ _ _ _ _ u h=>match u,h with | [_],_=>rfl
 obtain⟨_,_,D_29⟩:=iG (ps:=["_law_letter"]) d_29 X G fun _ _ _ _ _ _ u h=>match u,h with | [_],_=>rfl
 obtain⟨_,_,D_30⟩:=iG (ps:=["_law_word_here"]) d_30 X G fun _ _ _ _ _ _ u h=>match u,h with | [_],_=>rfl
 obtain⟨_,_,D_31⟩:=iG (ps:=["_law_word_here"]) d_31 X G fun _ _ _ _ _ _ u h=>match u,h with | [_],_=>rfl
 obtain⟨_,_,D_32⟩:=iG (ps:=["_law_text"]) d_32 X G fun _ _ _ _ _ _ u h=>match u,h with | [_],_=>rfl
 obtain⟨_,_,D_33⟩:=iG (ps:=["_law_flow_here","_law_n","_law_most"]) d_33 X G fun _ _ _ _ _ _ u h=>match u,h with | [_,_,_],_=>rfl
 obtain⟨_,_,D_34⟩:=iG (ps:=["_law_retelling","_law_word_here"]) d_34 X G fun _ _ _ _ _ _ u h=>match u,h with | [_,_],_=>rfl
 obtain⟨_,_,D_35⟩:=iG (ps:=["_law_one","_law_other"]) d_35 X G fun _ _ _ _ _ _ u h=>match u,h with | [_,_],_=>rfl
 obtain⟨_,_,D_36⟩:=iG (ps:=["_law_n"]) d_36 X G fun _ _ _ _ _ _ u h=>match u,h with | [_],_=>rfl
 obtain⟨_,_,D_37⟩:=iG (ps:=["_law_flow_here","_law_n"]) d_37 X G fun _ _ _ _ _ _ u h=>match u,h with | [_,_],_=>rfl
 obtain⟨_,_,D_38⟩:=iG (ps:=["_law_n","_law_change"]) d_38 X G fun _ _ _ _ _ _ u h=>match u,h with | [_,_],_=>rfl
 obtain⟨_,_,D_39⟩:=iG (ps:=["_law_change"]) d_39 X G fun _ _ _ _ _ _ u h=>match u,h with | [_],_=>rfl
 obtain⟨_,_,D_40⟩:=iG (ps:=["_law_flow_here","_law_n","_law_steps","_law_most"]) d_40 X G fun _ _ _ _ _ _ u h=>match u,h with | [_,_,_,_],_=>rfl
 obtain⟨_,_,D_41⟩:=iG (ps:=["_law_flow_here","_law_n"]) d_41 X G fun _ _ _ _ _ _ u h=>match u,h with | [_,_],_=>rfl
 obtain⟨_,_,D_42⟩:=iG (ps:=["_law_n","_law_g"]) d_42 X G fun _ _ _ _ _ _ u h=>match u,h with | [_,_],_=>rfl
 obtain⟨_,_,D_43⟩:=iG (ps:=["_law_told"]) d_43 X G fun _ _ _ _ _ _ u h=>match u,h with | [_],_=>rfl
 obtain⟨_,_,D_44⟩:=iG (ps:=["_law_flow_here","_law_n","_law_steps","_law_most"]) d_44 X G fun _ _ _ _ _ _ u h=>match u,h with | [_,_,_,_],_=>rfl
 have D_45:=Ja (ps:=["_law_script"]) nl_45 nc_45 nk_45 (PySem.W.mg_of X G na_45) (fun _ _ _ _ _ _ u h=>match u,h with | [_],_=>rfl)
 refine⟨F0 "law" tY kV_45 dc_45 pm_45 an_45 cd_45 ct_45,fun s v=>.of_eq rfl,fun base _ _=>?_⟩
 have c_z6:=FW (base:=base) D_26 T
 have c_z7:=GS (base:=base) D_27 T
 have c_zu:=Ga (base:=base) D_29 T
 have c_zy:=Hs (base:=base) D_28 T
 have c_zc1:=Fk (base:=base) D_32 T c_zu
 have c_z8:=F6 (base:=base) D_33 T c_z7 c_zy c_zu
 have c_zb1:=EC (base:=base) D_31 T c_zu
 have c_z9:=GM (base:=base) D_2 T
 have c_zd1:=Ef (base:=base) D_3 T c_z9
 have c_zx:=GY (base:=base) D_4 T c_z9
 have c_zh1:=E8 (base:=base) D_5 T c_zd1
 have c_z0:=FR (base:=base) D_0 T
 have c_zp:=Gn (base:=base) D_1 T
 have c_z4:=Gm (base:=base) D_24 T c_zp
 have c_zg:=Hb (base:=base) D_21 T c_zp c_z9 c_zx
 have c_zi1:=E9 (base:=base) D_22 T c_zd1 c_zg
 have c_z3:=Hr (base:=base) D_23 T c_zi1
 have c_zl:=Gj (base:=base) D_6 T
 have c_zv:=GK (base:=base) D_7 T c_zh1
 have c_zr:=Hi (base:=base) D_8 T c_zv
 have c_zm:=GJ (base:=base) D_9 T c_zr
 have c_zh:=Hm (base:=base) D_10 T
 have c_zo:=Hj (base:=base) D_11 T c_zx c_zh1
 have c_zf:=Gg (base:=base) D_13 T c_zx c_zh1 c_zo
 have c_z1:=Gf (base:=base) D_14 T c_zx c_zh1 c_zv c_zf
 have c_zc:=FY (base:=base) D_15 T c_zd1 c_zx c_zv
 have c_zk:=FT (base:=base) D_12 T c_z9 c_zx c_zh c_zo
 have c_zd:=Gx (base:=base) D_16 T c_z0 c_zr c_zm
 have c_zz:=Hq (base:=base) D_17 T c_zp c_zm
 have c_zg1:=D_ (base:=base) D_18 T c_zl c_zk c_z1 c_zd c_zz
 have c_zq:=Hc (base:=base) D_19 T c_zg1
 have c_zw:=FO (base:=base) D_20 T c_zp c_zl c_zk c_z1 c_zc c_zq
 have c_z5:=FZ (base:=base) D_25 T c_zp c_zd1 c_zx
 have c_zf1:=EA (base:=base) D_30 T
 have c_z2:=FL (base:=base) D_34 T c_zb1 c_zc1
 have c_za1:=EO (base:=base) D_35 T c_z2
 have c_ze1:=EX (base:=base) D_36 T
 have c_ze:=Gz (base:=base) D_37 T c_z7 c_zy c_zu
 have c_zj:=GI (base:=base) D_38 T c_zu
 have c_zs:=GE (base:=base) D_41 T c_z7
 have c_zi:=GR (base:=base) D_39 T c_zu c_zf1
 have c_zt:=GO (base:=base) D_40 T c_z7 c_za1 c_ze1 c_ze c_zj c_zi
 have c_zn:=FP (base:=base) D_42 T c_zb1 c_zc1
 have c_zb:=GT (base:=base) D_43 T
 have c_za:=He (base:=base) D_44 T c_zb1 c_z8 c_za1 c_zt c_zs c_zn c_zb
 exact FnOk.mono (k:=40) (Ea D_45 T c_zx c_zq c_zw c_zi1 c_z3 c_z4 c_z5 c_z6 c_z7 c_z8 c_za) (by decide)
theorem walk{l:PySem.W.OpenLaw}{q:Program}{loose:List Str}{XP:(Str→Option Value)→Heap→Prop}{YP:World→Heap→Prop}{d:DefRec}{K:Params→PySem.W.Frag}(hn:l.most=some 63)(hdf:d.params.defaults=[])
  (hY:∀ (w:World) (h:Heap),YP w h→(K w.params).In h)
  (F:∀ (w:World) (mg:Str→Option Value) (fa:Addr) (h:Heap),(K w.params).In h→h.Ns mainGlobals mg→mg d.name=some (.ref fa) →
   ∃ fd:FuncData,(∀ (s:Shared) (u:Value),BindsTo s fd ⟨[u],[]⟩ [("_law_script",u)])∧∀ base:Heap,(K w.params).In base→base.Ns mainGlobals mg→FnOk l.prog w (K w.params) mg base yP 40 fa fd ["_law_script"] (yE (K w.params))) :
  PySem.W.WalkO q loose XP YP l.row.toRowW d [] (fun f vs=>PySem.call f vs) :=
 L2.walk_of (n:=63) (k:=40) (x:="_law_script") (CX:=fun _=>yP) (sp:=fun w=>yE (K w.params)) hn (by decide) hdf ⟨rfl,by decide,by decide⟩ hY F (fun _ _ a ns hl _ hS=>⟨a,ns,rfl,hS,hl,fun _=>rfl⟩) fun _ _ _ _ _ z=>z
end Lw
def PySem.W.Fast.tw12240351376322554050:Nat:=0
def PySem.W.Fast.tw10917183326341650598:Nat:=0
def PySem.W.Fast.tw8695350517307196930:Nat:=0
def PySem.W.Fast.tw9469252930408631766:Nat:=0
def PySem.W.Fast.tw7032254386987532587:Nat:=0
def PySem.W.Fast.tw17375307192882916417:Nat:=0
def PySem.W.Fast.tw10712602979493773434:Nat:=0
def PySem.W.Fast.tw9918715203641319297:Nat:=0
def PySem.W.Fast.tw14806841762473426311:Nat:=0
def PySem.W.Fast.tw6344281783312601233:Nat:=0
def PySem.W.Fast.tw8448883716901811896:Nat:=0
def PySem.W.Fast.tw9671722174849248113:Nat:=0
def PySem.W.Fast.tw12335810003487434159:Nat:=0
def PySem.W.Fast.tw6512296176079781277:Nat:=0
def PySem.W.Fast.tw4352977770088824258:Nat:=0
def PySem.W.Fast.tw2040327142687318500:Nat:=0
def PySem.W.Fast.tw12936651313263287042:Nat:=0
def PySem.W.Fast.tw12803648739243366891:Nat:=0
def PySem.W.Fast.tw10882591987568890245:Nat:=0
def PySem.W.Fast.tw2167234081756143681:Nat:=0
def PySem.W.Fast.tw6481381649283277338:Nat:=0
def PySem.W.Fast.tw1220461343665738549:Nat:=0
def PySem.W.Fast.tw3208078535760789426:Nat:=0
def PySem.W.Fast.tw10122540862091646961:Nat:=0
def PySem.W.Fast.tw5542022097484900481:Nat:=0
def PySem.W.Fast.tw4388518321774218461:Nat:=0
def PySem.W.Fast.tw917932034915424295:Nat:=0
def PySem.W.Fast.tw12678891591076130384:Nat:=0
def PySem.W.Fast.tw7727097446554446788:Nat:=0
def PySem.W.Fast.tw14345025171692457230:Nat:=0
def PySem.W.Fast.tw12345492252198011176:Nat:=0
def PySem.W.Fast.tw16837573478743356219:Nat:=0
def PySem.W.Fast.tw1876249024559241838:Nat:=0
def PySem.W.Fast.tw14745064522825221657:Nat:=0
def PySem.W.Fast.tw7823040563388662109:Nat:=0
def PySem.W.Fast.tw7766983368046278056:Nat:=0
def PySem.W.Fast.tw13116100394580657162:Nat:=0
def PySem.W.Fast.tw12649370568976298618:Nat:=0
def PySem.W.Fast.tw3561951647721767589:Nat:=0
def PySem.W.Fast.tw5977834060728181318:Nat:=0
def PySem.W.Fast.tw18097468357423832416:Nat:=0
def PySem.W.Fast.tw5509669931956956834:Nat:=0
def PySem.W.Fast.tw4723547284066825572:Nat:=0
def PySem.W.Fast.tw11204004810974350375:Nat:=0
def PySem.W.Fast.tw6684295243238248882:Nat:=0
def PySem.W.Fast.tw1481131001366776547:Nat:=0
def PySem.W.Fast.tw7783978702984272118:Nat:=0
def PySem.W.Fast.tw3340332406384362884:Nat:=0
def PySem.W.Fast.tw5561231093085129231:Nat:=0
def PySem.W.Fast.tw17646768483587125323:Nat:=0
def PySem.W.Fast.tw6037569517638790659:Nat:=0
def PySem.W.Fast.tw15627932742331427848:Nat:=0
def PySem.W.Fast.tw9672700266256324979:Nat:=0
def PySem.W.Fast.tw10028443228700705427:Nat:=0
def PySem.W.Fast.tw3065132624824388918:Nat:=0
def PySem.W.Fast.tw4490285376045681712:Nat:=0
def PySem.W.Fast.tw11752278299620909513:Nat:=0
def PySem.W.Fast.tw10002459065119745871:Nat:=0
def PySem.W.Fast.tw12118742824525046036:Nat:=0
def PySem.W.Fast.tw12682526997247128360:Nat:=0
def PySem.W.Fast.tw15990086749800762331:Nat:=0
def PySem.W.Fast.tw18200834097463989006:Nat:=0
def PySem.W.Fast.tw9584952054486091893:Nat:=0
def PySem.W.Fast.tw3062456356389639882:Nat:=0
def PySem.W.Fast.tw11617811048132116187:Nat:=0
def PySem.W.Fast.tw11107747337240944232:Nat:=0
def PySem.W.Fast.tw13805109013649657056:Nat:=0
def PySem.W.Fast.tw5772524133202092429:Nat:=0
open PySem PySem.W PyProof.Rows
set_option maxRecDepth 100000 in
set_option maxHeartbeats 0 in
theorem PySem.Challenge.cw_newletters_k19_whole_there_and_back_holds : PySem.Challenge.rw_newletters_k19_whole_there_and_back.Holds := by
 w_on;o_law;k_head;(case hw=>w_witness2)
 k_fill
 refine Lw.walk (l:=PySem.Challenge.rw_newletters_k19_whole_there_and_back) rfl rfl (fun w h Y=>PySem.W.kIn_of Y) ?F
 case F =>
  intro w mg fa h KX G hmg
  refine' Lw.all_mk KX G hmg ?d_0 ?d_1 ?d_2 ?d_3 ?d_4 ?d_5 ?d_6 ?d_7 ?d_8 ?d_9 ?d_10 ?d_11 ?d_12 ?d_13 ?d_14 ?d_15 ?d_16 ?d_17 ?d_18 ?d_19 ?d_20 ?d_21 ?d_22 ?d_23 ?d_24 ?d_25 ?d_26 ?d_27 ?d_28 ?d_29 ?d_30 ?d_31 ?d_32 ?d_33 ?d_34 ?d_35 ?d_36 ?d_37 ?d_38 ?d_39 ?d_40 ?d_41 ?d_42 ?d_43 ?d_44 ?na_45 ?nl_45 ?nc_45 ?nk_45 ?nb_enumerate ?nb_int ?nb_len ?nb_list ?nb_max ?nb_range ?nb_reversed ?nb_sorted ?nb_tuple ?nb_zip ?oa_Weave ?ob_Weave ?oe_Weave ?of_Weave ?og_Weave ?oh_Weave ?oi_Weave ?on_Weave_heads ?on_Weave_turns ?on_Weave_ways ?on_Weave_alike ?nm_CONTRARIES ?nt_CONTRARIES ?nh_CONTRARIES ?nm_LETTERS ?nt_LETTERS ?nv_LETTERS
  (case oa_Weave=>k_is)
  (case d_0 | d_1 | d_2 | d_3 | d_4 | d_5 | d_16 | d_17 | d_18 | d_19 | d_20 | d_21 | d_22 | d_23 | d_24 | d_25 | d_26 | d_27 | d_28 | d_29 | d_30 | d_31 | d_32 | d_33 | d_34 | d_35 | d_36 | d_37 | d_38 | d_39 | d_40 | d_41 | d_42 | d_43 | d_44=>exact⟨_,_,_,_,_,_,_,_,_,_,by k_is,by k_is,by k_is,by k_is⟩)
  (case d_6 | d_7 | d_8 | d_9 | d_10 | d_11 | d_12 | d_13 | d_14 | d_15=>exact⟨_,_,_,_,_,_,_,_,_,_,by k_is,by k_is,by k_is,by k_is,by k_is⟩)
  (case na_45 | nl_45 | nc_45 | nk_45 | nb_enumerate | nb_int | nb_len | nb_list | nb_max | nb_range | nb_reversed | nb_sorted | nb_tuple | nb_zip | ob_Weave | oe_Weave | of_Weave | og_Weave | oh_Weave | oi_Weave | on_Weave_heads | on_Weave_turns | on_Weave_ways | on_Weave_alike | nm_CONTRARIES | nm_LETTERS | nt_LETTERS=>k_is)
  (case nt_CONTRARIES=>kernel_rfl)
  (case nh_CONTRARIES=>kernel_rfl)
  (case nv_LETTERS=>exact .cons ⟨_,rfl⟩ (.cons ⟨_,rfl⟩ (.cons ⟨_,rfl⟩ (.cons ⟨_,rfl⟩ (.cons ⟨_,rfl⟩ (.cons ⟨_,rfl⟩ (.cons ⟨_,rfl⟩ (.cons ⟨_,rfl⟩ .nil))))))))
