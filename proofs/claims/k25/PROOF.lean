import PyProof.Rows.All
import Wide.All
import OpenK.AllK
import Wide.FinOn
import Lean
import PyProof.EqAt
import PyProof.EqKinds
import PyProof.TupleCall
import PySem.Challenge.RW_bandwright_k25_costs_behind
set_option Elab.async false
set_option linter.all false
set_option maxRecDepth 100000
namespace L2
open PySem PySem.Spec PyProof.Rows
abbrev Key:=Sum Int Str
def d7:Key→Value→Bool
 | .inl k,v=>Value.isInt k v
 | .inr x,v=>Value.isStrOf x v
def qF(w:World):Key→Int
 | .inl k=>hashInt k
 | .inr x=>hashStr w x
theorem cQ:∀{k:Key} {v:Value},d7 k v=true→(∃i t,k=Sum.inl i∧v=Value.int i t)∨(∃x t,k=Sum.inr x∧v=Value.str x t)
 | .inl i,v,h=>by
  obtain ⟨t,e⟩:=Value.isInt_shape (k:=i) (v:=v) h
  exact .inl ⟨i,t,rfl,e⟩
 | .inr x,v,h=>by
  obtain ⟨t,e⟩:=Value.isStrOf_shape (x:=x) (v:=v) h
  exact .inr ⟨x,t,rfl,e⟩
theorem qG(i:Int)(t:Tok):d7 (.inl i) (.int i t)=true:=by simp [d7,Value.isInt]
theorem qH(x:Str)(t:Tok):d7 (.inr x) (.str x t)=true:=by simp [d7,Value.isStrOf]
theorem qI(a b:Int):decide ((Sum.inl a:Key)=Sum.inl b)=(a == b):=by
 by_cases e:a=b
 ·subst e;simp
 ·have h:¬(Sum.inl a:Key)=Sum.inl b:=fun q=>e (Sum.inl.inj q)
  rw [decide_eq_false h]
  exact (beq_eq_false_iff_ne.mpr e).symm
theorem qJ(a b:Str):decide ((Sum.inr a:Key)=Sum.inr b)=decide (a=b):=by
 by_cases e:a=b
 ·subst e;simp
 ·have h:¬(Sum.inr a:Key)=Sum.inr b:=fun q=>e (Sum.inr.inj q)
  rw [decide_eq_false h,decide_eq_false e]
theorem qK(a:Int)(b:Str):decide ((Sum.inl a:Key)=Sum.inr b)=false:=decide_eq_false (fun q=>nomatch q)
theorem qL(a:Str)(b:Int):decide ((Sum.inr a:Key)=Sum.inl b)=false:=decide_eq_false (fun q=>nomatch q)
def bD(prog:Program)(w:World):PySem.KeyKind prog w Key where
 is:=d7
 hash:=qF w
 inj:=fun v a b ha hb=>by
  rcases cQ ha with ⟨i,t,rfl,rfl⟩ | ⟨x,t,rfl,rfl⟩
  ·rcases cQ hb with ⟨j,u,rfl,e⟩ | ⟨y,u,rfl,e⟩
   ·injection e with e1 _;rw [e1]
   ·exact nomatch e
  ·rcases cQ hb with ⟨j,u,rfl,e⟩ | ⟨y,u,rfl,e⟩
   ·exact nomatch e
   ·injection e with e1 _;rw [e1]
 byValue:=fun k v h=>by
  rcases cQ h with ⟨i,t,rfl,rfl⟩ | ⟨x,t,rfl,rfl⟩ <;> rfl
 pyHash:=fun hv h=>by
  rcases cQ hv with ⟨i,t,rfl,rfl⟩ | ⟨x,t,rfl,rfl⟩
  ·exact wpAny_pyHash_int h
  ·exact wpAny_pyHash_str h
 eqBool:=fun hu hv h=>by
  rcases cQ hu with ⟨i,t,rfl,rfl⟩ | ⟨x,t,rfl,rfl⟩
  ·rcases cQ hv with ⟨j,u,rfl,rfl⟩ | ⟨y,u,rfl,rfl⟩
   ·rw [qI] at h;exact wpAny_eqBool_int h
   ·rw [qK] at h;exact SeqAt.EqAt.int_str i t y u _ _ _ _ h
  ·rcases cQ hv with ⟨j,u,rfl,rfl⟩ | ⟨y,u,rfl,rfl⟩
   ·rw [qL] at h;exact SeqAt.EqAt.str_int x t j u _ _ _ _ h
   ·rw [qJ] at h;exact wpAny_eqBool_str h
 «strs»:=fun k x t v h=>by
  rcases cQ h with ⟨i,u,rfl,e⟩ | ⟨y,u,rfl,e⟩
  ·exact nomatch e
  ·injection e with e1 _
   subst e1
   cases v <;> rfl
theorem qM(prog:Program)(w:World)(i:Int)(t:Tok):(bD prog w).is (.inl i) (.int i t)=true:=qG i t
theorem qN(prog:Program)(w:World)(x:Str)(t:Tok):(bD prog w).is (.inr x) (.str x t)=true:=qH x t
inductive V where
 | av | bl (b:Bool) | int (i:Int) | str (x:Str) | cC (b:Array UInt8) | fj (b:UInt64) | ref (a:Addr) | ty (n:String)
 deriving DecidableEq
def RelV:V→Value→Prop
 | .av,u=>u=Value.none
 | .bl b,u=>u=Value.bool b
 | .int i,u=>∃t,u=Value.int i t
 | .str x,u=>∃t,u=Value.str x t
 | .cC b,u=>∃t,u=Value.bytes b t
 | .fj b,u=>∃t,u=Value.float b t
 | .ref a,u=>u=Value.ref a
 | .ty n,u=>u=Value.type n
abbrev Vals:List V→List Value→Prop:=Paired RelV
theorem Vals.length{xs:List V}{us:List Value}(r:Vals xs us):xs.length=us.length:=Paired.length r
theorem Vals.get:∀{xs:List V} {us:List Value} {i:Nat} {x:V},Vals xs us→xs[i]?=some x→∃u,us[i]?=some u∧RelV x u
 | _,_,_,_,.nil,e=>by simp at e
 | _,_,0,_,.cons r _,e=>by simp at e;subst e;exact ⟨_,rfl,r⟩
 | _,_,i+1,x,.cons _ t,e=>by
  obtain ⟨u,h1,h2⟩:=Vals.get (i:=i) (x:=x) t (by simpa using e)
  exact ⟨u,by simpa using h1,h2⟩
theorem Vals.set{x:V}{u:Value}(r:RelV x u):∀{xs:List V} {us:List Value} (i:Nat),Vals xs us→Vals (xs.set i x) (us.set i u)
 | _,_,_,.nil=>.nil
 | _,_,0,.cons _ t=>.cons r t
 | _,_,i+1,.cons q t=>.cons q (Vals.set r i t)
theorem Vals.append:∀{xs ys:List V} {us ws:List Value},Vals xs us→Vals ys ws→Vals (xs++ys) (us++ws)
 | _,_,_,_,.nil,s=>s
 | _,_,_,_,.cons r t,s=>.cons r (Vals.append t s)
theorem Vals.take:∀{xs:List V} {us:List Value} (n:Nat),Vals xs us→Vals (xs.take n) (us.take n)
 | _,_,0,_=>.nil
 | _,_,_+1,.nil=>.nil
 | _,_,n+1,.cons r t=>.cons r (Vals.take n t)
theorem Vals.drop:∀{xs:List V} {us:List Value} (n:Nat),Vals xs us→Vals (xs.drop n) (us.drop n)
 | _,_,0,r=>r
 | _,_,_+1,.nil=>.nil
 | _,_,n+1,.cons _ t=>Vals.drop n t
def d8:Option V→Option Value→Prop
 | some v,some u=>RelV v u
 | none,none=>True
 | _,_=>False
def KV{κ:Type}:List (κ×V)→List (κ×Value)→Prop:=Paired fun(p:κ×V) (q:κ×Value)=>p.1=q.1∧RelV p.2 q.2
def kV:Key→V
 | .inl i=>.int i
 | .inr x=>.str x
inductive HO where
 | lst (xs:List V)
 | tup (xs:List V)
 | dK (kvs:List (Key×V)) | dT (kvs:List (List Key×V))
 | set (S:Int→Bool) (n:Nat)
 | ins (C dx:Addr) (fs:List (Str×V))
 | own (x:Addr)
 | xd (fs:List (Str×V))
 | met (f x:Addr)
 | cR (lo hi:Int)
 | aB (o:Obj) (u:HO)
 | di (ps:Array Value)
 | ext (φ:Heap→Prop)
abbrev Hp:=Addr→Option HO
def upd(H:Hp)(a:Addr)(o:HO):Hp:=fun b=>if b=a then some o else H b
theorem ao{H:Hp}{a:Addr}{o:HO}:upd H a o a=some o:=by unfold upd;rw [if_pos rfl]
theorem ax{H:Hp}{a b:Addr}{o:HO}(h:b≠a):upd H a o b=H b:=by unfold upd;rw [if_neg h]
theorem qO{H:Hp}{a b:Addr}{o u:HO}(h:H a=some o)(h':H b=some u)(d:o≠u):a≠b:=by
 intro e;subst e;rw [h] at h';exact d (Option.some.inj h')
theorem dj{H:Hp}{a b:Addr}{o:HO}(h:H a=some o)(h':H b=none):a≠b:=by
 intro e;subst e;rw [h] at h';cases h'
section
variable (P:Program) (w:World)
def aI(H:Hp)(h:Heap)(a:Addr):HO→Prop
 | .lst xs=>xs.length≤sizeLine∧∃(aa:List Value) (n:Nat),Vals xs aa∧h.get? a=some {cls:=.type "list",data:=.seq aa.toArray n}
 | .tup xs=>xs.length≤sizeLine∧∃aa:List Value,Vals xs aa∧IsTup h a aa.toArray
 | .dK kvs=>kvs.length≤sizeLine∧(a == sysModules)=false∧∃vs,KV kvs vs∧h.DictOf (bD P w) a vs
 | .dT kvs=>kvs.length≤sizeLine∧(a == sysModules)=false∧∃xs:List (List Key×Addr×Value),
   Paired (fun(p:List Key×V) (q:List Key×Addr×Value)=>p.1=q.1∧H q.2.1=some (.tup (p.1.map kV))∧RelV p.2 q.2.2) kvs xs ∧
   ∃o es ep,h.get? a=some o∧o.ExactDict∧o.data=.dict es ep∧es.toList=xs.map (entryOfKey (tupleKind (bD P w)))∧(xs.map (·.1)).Nodup
 | .set S n=>h.SetOf (intKind P w) a S n
 | .ins C dx fs=>H dx=some (.own a)∧fs.length≤1000∧dx≠a∧h.get? a=some (PySem.W.instObj C dx) ∧
   ∃mA,h.Ns1 dx mA∧(∀f,d8 (fs.lookup f) (mA f))∧PySem.Within mA (fs.map (·.1))
 | .own _=>∃o,h.get? a=some o
 | .xd fs=>∃mA,h.Ns1 a mA∧∀f,d8 (fs.lookup f) (mA f)
 | .cR lo hi=>∃t u v,h.get? a=some {cls:=.type "range",data:=.fields #[.int lo t,.int hi u,.int 1 v]}
 | .aB o u=>h.get? a=some o∧aI H h a u
 | .di ps=>h.get? a=some {cls:=.none,data:=.fields ps}
 | .met f x=>h.get? a=some (PySem.W.methodObj (.ref f) (.ref x))
 | .ext φ=>φ h∧(∃o,h.get? a=some o)∧∀h1 h2:Heap,φ h1→(∀o,h1.get? a=some o→h2.get? a=some o)→φ h2
def aK(H:Hp)(h:Heap):Prop:=∀a o,H a=some o→aI P w H h a o
end
section
variable {P:Program} {w:World} {H H':Hp} {h h':Heap} {a:Addr} {o:HO}
theorem aI.lt(x:aI P w H h a o):a<h.objs.size:=by
 cases o with
 | lst xs=>obtain ⟨_,_,_,_,e⟩:=x;exact Heap.lt_size e
 | tup xs=>obtain ⟨_,_,_,p⟩:=x;exact p.lt
 | dK kvs=>obtain ⟨_,_,_,_,o,_,_,e,_⟩:=x;exact Heap.lt_size e
 | dT kvs=>obtain ⟨_,_,_,_,o,_,_,e,_⟩:=x;exact Heap.lt_size e
 | set S n=>obtain ⟨o,_,_,_,e,_⟩:=x;exact Heap.lt_size e
 | ins C dx fs=>obtain ⟨_,_,_,e,_⟩:=x;exact Heap.lt_size e
 | own y=>obtain ⟨_,e⟩:=x;exact Heap.lt_size e
 | xd fs=>obtain ⟨_,⟨_,_,_,e,_⟩,_⟩:=x;exact Heap.lt_size e
 | cR lo hi=>obtain ⟨_,_,_,e⟩:=x;exact Heap.lt_size e
 | aB ob u=>obtain ⟨e,_⟩:=x;exact Heap.lt_size e
 | di ps=>exact Heap.lt_size (show h.get? a=some _ from x)
 | met f y=>exact Heap.lt_size (show h.get? a=some _ from x)
 | ext φ=>obtain ⟨_,⟨_,e⟩,_⟩:=x;exact Heap.lt_size e
theorem Paired.jK{α β:Type}{F G:α→β→Prop}:∀{l₁:List α} {l₂:List β},Paired F l₁ l₂→(∀a b,F a b→G a b)→Paired G l₁ l₂
 | _,_,.nil,_=>.nil
 | _,_,.cons r t,f=>.cons (f _ _ r) (Paired.jK t f)
theorem aI.dQ(x:aI P w H h a o)(k:∀b u,(b=a∨H b=some (.own a))→h.get? b=some u→h'.get? b=some u)
  (ho:∀b,H b=some (.own a)→H' b=some (.own a)) (ht:∀b xs,H b=some (.tup xs)→H' b=some (.tup xs)):aI P w H' h' a o:=by
 induction o with
 | lst xs=>obtain ⟨z,aa,n,r,e⟩:=x;exact ⟨z,aa,n,r,k _ _ (.inl rfl) e⟩
 | tup xs=>obtain ⟨z,aa,r,ob,e,c⟩:=x;exact ⟨z,aa,r,ob,k _ _ (.inl rfl) e,c⟩
 | dK kvs=>obtain ⟨z,y,vs,r,ob,es,ep,e,c⟩:=x;exact ⟨z,y,vs,r,ob,es,ep,k _ _ (.inl rfl) e,c⟩
 | dT kvs=>
  obtain ⟨z,y,xs,r,ob,es,ep,e,c⟩:=x
  exact ⟨z,y,xs,Paired.jK r fun p q z=>⟨z.1,ht _ _ z.2.1,z.2.2⟩,ob,es,ep,k _ _ (.inl rfl) e,c⟩
 | set S n=>obtain ⟨ob,es,ep,t,e,c⟩:=x;exact ⟨ob,es,ep,t,k _ _ (.inl rfl) e,c⟩
 | ins C dx fs=>
  obtain ⟨d,z,ne,e,mA,⟨od,es,ep,e2,c⟩,r⟩:=x
  exact ⟨ho _ d,z,ne,k _ _ (.inl rfl) e,mA,⟨od,es,ep,k _ _ (.inr d) e2,c⟩,r⟩
 | own y=>obtain ⟨ob,e⟩:=x;exact ⟨ob,k _ _ (.inl rfl) e⟩
 | xd fs=>obtain ⟨mA,⟨od,es,ep,e,c⟩,r⟩:=x;exact ⟨mA,⟨od,es,ep,k _ _ (.inl rfl) e,c⟩,r⟩
 | cR lo hi=>obtain ⟨t,u,v,e⟩:=x;exact ⟨t,u,v,k _ _ (.inl rfl) e⟩
 | aB ob u ih=>obtain ⟨e,q⟩:=x;exact ⟨k _ _ (.inl rfl) e,ih q⟩
 | di ps=>
  have e:h.get? a=some {cls:=.none,data:=.fields ps}:=x
  show h'.get? a=some {cls:=.none,data:=.fields ps}
  exact k a _ (.inl rfl) e
 | met f y=>
  have e:h.get? a=some (PySem.W.methodObj (.ref f) (.ref y)):=x
  show h'.get? a=some (PySem.W.methodObj (.ref f) (.ref y))
  exact k a _ (.inl rfl) e
 | ext φ=>obtain ⟨p,⟨o,e⟩,st⟩:=x;exact ⟨st _ _ p fun o q=>k _ _ (.inl rfl) q,⟨o,k _ _ (.inl rfl) e⟩,st⟩
theorem aK.lt(x:aK P w H h)(e:H a=some o):a<h.objs.size:=(x a o e).lt
theorem aK.fresh(x:aK P w H h)(e:h.objs.size≤a):H a=none:=by
 cases q:H a with
 | none=>rfl
 | some u=>exact absurd (Nat.lt_of_lt_of_le (x.lt q) e) (Nat.lt_irrefl _)
theorem aK.kept(x:aK P w H h)(k:∀b u,h.get? b=some u→h'.get? b=some u):aK P w H h':=fun a o e=>
 (x a o e).dQ (fun b u _ q=>k b u q) (fun _ q=>q) fun _ _ q=>q
theorem aK.laid(x:aK P w H h)(k:∀b u,h.get? b=some u→h'.get? b=some u)(hp:h.objs.size≤a)(new:aI P w (upd H a o) h' a o):aK P w (upd H a o) h':=fun b u e=>by
 have hn:=x.fresh hp
 by_cases hb:b=a
 ·subst hb;rw [ao] at e;cases e;exact new
 ·rw [ax hb] at e
  exact (x b u e).dQ (fun c v _ q=>k c v q) (fun c q=>by rw [ax (dj q hn)];exact q) fun c xs q=>by rw [ax (dj q hn)];exact q
end
def Rd(H:Hp)(a:Addr)(u:HO):Prop:=H a=some u∨∃o,H a=some (.aB o u)
theorem Rd.ok{P:Program}{w:World}{H:Hp}{h:Heap}{a:Addr}{u:HO}(r:Rd H a u)(x:aK P w H h):aI P w H h a u:=by
 rcases r with r | ⟨o,r⟩
 ·exact x a u r
 ·obtain ⟨_,q⟩:=x a _ r
  exact q
def gu:Option HO→Prop
 | some (.lst _)=>True
 | some (.dK _)=>True
 | some (.dT _)=>True
 | some (.set _ _)=>True
 | some (.ins _ _ _)=>True
 | some (.ext _)=>True
 | _=>False
section
variable {P:Program} {w:World} {H:Hp} {h h':Heap} {x e:Addr} {o':HO}
theorem aK.write(ok:aK P w H h)(mu:gu (H x))(he:e=x∨H e=some (.own x))(k:∀b u,b≠e→h.get? b=some u→h'.get? b=some u)(fk:∃u,h'.get? e=some u)
  (new:aI P w (upd H x o') h' x o'):aK P w (upd H x o') h':=fun b u q=>by
 have mr:∀c y,H c=some (.own y)→c≠x:=fun c y r z=>by subst z;rw [r] at mu;exact mu
 have qP:∀c xs,H c=some (.tup xs)→c≠x:=fun c xs r z=>by subst z;rw [r] at mu;exact mu
 by_cases hb:b=x
 ·subst hb;rw [ao] at q;cases q;exact new
 ·rw [ax hb] at q
  by_cases d9:b=e
  ·have q':H b=some (.own x):=by
    rcases he with z | z
    ·exact absurd (d9.trans z) hb
    ·rw [d9];exact z
   rw [q] at q';cases q'
   obtain ⟨v,hv⟩:=fk
   exact ⟨v,by rw [d9];exact hv⟩
  ·refine (ok b u q).dQ (fun c v hc r=>k c v ?_ r) (fun c r=>by rw [ax (mr c b r)];exact r) fun c xs r=>by rw [ax (qP c xs r)];exact r
   rcases hc with rfl | hc
   ·exact d9
   ·rintro rfl
    rcases he with z | z
    ·exact mr c b hc z
    ·rw [hc] at z;cases z;exact hb rfl
end
structure Un (fs ex:List Addr) (H H':Hp) (h h':Heap):Prop where
 keep:∀b o,h.get? b=some o→H b=none→b∉fs→b∉ex→h'.get? b=some o
 slot:∀b o,h.get? b=some o→H b=none→b∈fs→b∉ex→∃sl,h'.get? b=some {o with slots:=sl}
 free:∀b o,h.get? b=some o→H b=none→b∉ex→H' b=none
 there:∀b o,h.get? b=some o→b∉ex→∃o',h'.get? b=some o'
 bW:∀b xs,H b=some (.tup xs)→H' b=some (.tup xs)
 bL:∀b o u,H b=some (.aB o u)→H' b=some (.aB o u)
 bX:∀b ps,H b=some (.di ps)→∃more,H' b=some (.di (ps++more))
section
variable {fs jL ex qQ:List Addr} {H H1 H2:Hp} {h h1 h2 h':Heap} {a x e:Addr} {o:HO}
theorem Un.any(u:Un fs ex H H1 h h1){b:Addr}{ob:Obj}(q:h.get? b=some ob)(n:H b=none)(hx:b∉ex):∃sl,h1.get? b=some {ob with slots:=sl}:=by
 by_cases hb:b∈fs
 ·exact u.slot b ob q n hb hx
 ·exact ⟨ob.slots,u.keep b ob q n hb hx⟩
theorem Un.kept(k:∀b u,h.get? b=some u→h'.get? b=some u):Un fs ex H H h h':=
 ⟨fun b ob q _ _ _=>k b ob q,fun b ob q _ _ _=>⟨ob.slots,k b ob q⟩,fun _ _ _ n _=>n,fun b ob q _=>⟨ob,k b ob q⟩,fun _ _ q=>q,fun _ _ _ q=>q,fun _ ps q=>⟨#[],by rw [q];simp⟩⟩
theorem Un.refl:Un fs ex H H h h:=Un.kept fun _ _ q=>q
theorem Un.laid(k:∀b u,h.get? b=some u→h'.get? b=some u)(hp:h.objs.size≤a)(hn:H a=none):Un fs ex H (upd H a o) h h' where
 keep:=fun b u q _ _ _=>k b u q
 slot:=fun b u q _ _ _=>⟨u.slots,k b u q⟩
 free:=fun b u q n _=>by rw [ax (Nat.ne_of_lt (Nat.lt_of_lt_of_le (Heap.lt_size q) hp))];exact n
 there:=fun b u q _=>⟨u,k b u q⟩
 bW:=fun b xs q=>by rw [ax (dj q hn)];exact q
 bL:=fun b u xs q=>by rw [ax (dj q hn)];exact q
 bX:=fun b ps q=>⟨#[],by rw [ax (dj q hn),q];simp⟩
theorem Un.write(mu:gu (H x))(he:e=x∨H e=some (.own x))(k:∀b u,b≠e→h.get? b=some u→h'.get? b=some u)(fk:∃u,h'.get? e=some u):Un fs ex H (upd H x o) h h':=by
 have hx:∀b,H b=none→b≠x:=fun b n z=>by subst z;rw [n] at mu;exact mu
 have hb:∀b,H b=none→b≠e:=fun b n z=>by
  subst z
  rcases he with r | r
  ·exact hx b n r
  ·rw [n] at r;cases r
 have hm:∀b u,H b=some u→¬gu (some u)→b≠x:=fun b u q nm z=>by subst z;rw [q] at mu;exact nm mu
 refine ⟨fun b u q n _ _=>k b u (hb b n) q,fun b u q n _ _=>⟨u.slots,k b u (hb b n) q⟩,fun b u q n _=>by rw [ax (hx b n)];exact n,fun b u q _=>?_,
  fun b xs q=>by rw [ax (hm b _ q fun z=>z)];exact q,fun b u xs q=>by rw [ax (hm b _ q fun z=>z)];exact q,fun b ps q=>⟨#[],by rw [ax (hm b _ q fun z=>z),q];simp⟩⟩
 by_cases d9:b=e
 ·subst d9;exact fk
 ·exact ⟨u,k b u d9 q⟩
end
def ie(h:Heap)(H:Hp):List Addr:=(List.range h.objs.size).filter fun a=>(H a).isSome
def dm(h:Heap)(H:Hp):Heap:=PySem.W.hideAll h (ie h H)
theorem qR(h:Heap)(H:Hp):(dm h H).objs.size=h.objs.size:=PySem.W.hideAll_size _ _
theorem qS{h:Heap}{H:Hp}{b:Addr}{o:Obj}(e:h.get? b=some o)(n:H b=none):(dm h H).get? b=some o:=
 PySem.W.hideAll_get _ e fun hm=>by
  have q:(H b).isSome=true:=(List.mem_filter.mp hm).2
  rw [n] at q;simp at q
theorem qT{h:Heap}{H:Hp}{b:Addr}{o:Obj}(e:(dm h H).get? b=some o):h.get? b=some o∧H b=none:=by
 have e':h.get? b=some o:=PySem.W.of_hideAll (ie h H) e
 refine ⟨e',?_⟩
 cases q:H b with
 | none=>rfl
 | some x=>
  have hm:b∈ie h H:=List.mem_filter.mpr ⟨List.mem_range.mpr (Heap.lt_size e'),by simp [q]⟩
  have z:(dm h H).get? b=none:=PySem.W.hideAll_none (ie h H) hm
  rw [z] at e;cases e
structure Mod (K:PySem.W.Frag) (mg:Str→Option Value) (base:Heap):Prop where
 aP:K.In base
 glob:base.Ns mainGlobals mg
 blt:∃mb,base.Ns builtinsNs mb∧∀x:Str,x ≠ "__name__"→mb x=bootBuiltins x
 nolimit:base.NoLimit
structure Cx where
 prog:Program
 w:World
 K:PySem.W.Frag
 mg:Str→Option Value
 base:Heap
 A:Around
 N:List Str
 s₀:Shared
 H₀:Hp
 env:Env
 outer:List Env
 stack:List Env
 ex:List Addr
 fn:Str→Bool
 calm:Bool
 pn:List (Addr×Obj)
 xe:Value→Shared→Prop
def aQ(l:List Env):List Addr:=l.filterMap (·.frame)
abbrev Cx.fs (X:Cx):List Addr:=aQ X.outer
def ig(sc:Scope)(x:Str):Prop:=sc.names.lookup x=some .local∨sc.names.lookup x=some .cell∨sc.names.lookup x=some .free
def Loc(sc:Scope)(x:Str):Prop:=sc.names.lookup x=some .local∨sc.names.lookup x=some .cell
def Look(env:Env)(h:Heap)(m:Str→Option Value)(x:Str)(u:Value):Prop:=
 (env.kindOf x=some .local∧m x=some u)∨((env.kindOf x=some .cell∨env.kindOf x=some .free)∧∃c,env.cells.lookup x=some c∧h.IsCell c (some u))
structure Cx.Ok (X:Cx):Prop where
 mod:Mod X.K X.mg X.base
 kind:X.env.scope.kind=.function
 glob:X.env.globals=mainGlobals
 blt:X.env.builtins=builtinsNs
 above:X.s₀.heap.objs.size≤X.env.locals
 inj:∀x y c,X.env.cells.lookup x=some c→X.env.cells.lookup y=some c→x=y
 has:∀x,(X.env.kindOf x=some .cell∨X.env.kindOf x=some .free)→∃c,X.env.cells.lookup x=some c
 gv:∀x c,X.fn x=true→X.env.cells.lookup x=some c→X.s₀.heap.objs.size≤c
 hd:X.calm=true→X.A.handled=none
 frames:X.A.frames=some X.stack
 b6:X.stack=X.outer∨(X.stack=X.env::X.outer∧X.env.frame=some X.env.locals)
 mw:∀b∈X.ex,b≠X.env.locals∧∀x c,X.env.cells.lookup x=some c→c≠b
 bs:∀b o,X.base.get? b=some o→X.s₀.heap.get? b=some o∧X.H₀ b=none
 cS:X.base.objs.size≤X.s₀.heap.objs.size
 fm:∀b o,X.base.get? b=some o→b∉X.ex
 fo:∀b∈X.ex,b∉X.fs
 cD:X.s₀.heap.FunFrames X.base X.outer
 dR:∀b∈X.fs,X.H₀ b=none
structure Inv (X:Cx) (pins:List (Addr×Obj)) (σ:List (Option V)) (H:Hp) (s:Shared):Prop where
 ok:X.Ok
 os:s.os=X.s₀.os
 bare:AllBare s.gens
 base:Un X.fs X.ex X.H₀ H X.s₀.heap s.heap
 loc:∃m,s.heap.Ns X.env.locals m∧∀(i:Nat) (x:Str) (v:V),X.N[i]?=some x→σ[i]?=some (some v)→ig X.env.scope x→∃u,RelV v u∧Look X.env s.heap m x u
 cell:∀x c,X.env.cells.lookup x=some c→∃v,s.heap.IsCell c v
 free:H X.env.locals=none
 cE:∀x c,X.env.cells.lookup x=some c→H c=none
 pin:∀p∈X.pn++pins,s.heap.get? p.1=some p.2∧H p.1=none∧p.1≠X.env.locals∧p.1∉X.fs∧∀v,p.2.data≠.cell v
 aj:aK X.prog X.w H s.heap
 len:σ.length=X.N.length
section
variable {X:Cx} {pins:List (Addr×Obj)} {σ:List (Option V)} {H H':Hp} {s:Shared} {h':Heap}
theorem Cx.Ok.qU(ok:X.Ok){b:Addr}{o:Obj}(e:X.base.get? b=some o):b∉X.fs:=fun hb=>by
 have:=(ok.cD.mem hb).1
 rw [e] at this;cases this
theorem Inv.bs(I:Inv X pins σ H s):∀b o,X.base.get? b=some o→s.heap.get? b=some o∧H b=none:=fun b o e=>
 ⟨I.base.keep b o (I.ok.bs b o e).1 (I.ok.bs b o e).2 (I.ok.qU e) (I.ok.fm b o e),I.base.free b o (I.ok.bs b o e).1 (I.ok.bs b o e).2 (I.ok.fm b o e)⟩
theorem Inv.bk(I:Inv X pins σ H s):∀b o,X.base.get? b=some o→s.heap.get? b=some o:=fun b o e=>(I.bs b o e).1
theorem Inv.mod(I:Inv X pins σ H s):Mod X.K X.mg X.base:=I.ok.mod
theorem Inv.bq(I:Inv X pins σ H s):X.K.In s.heap:=I.ok.mod.aP.keeps I.bk
theorem Inv.lt(I:Inv X pins σ H s):X.env.locals<s.heap.objs.size:=let ⟨_,hn,_⟩:=I.loc;hn.lt
theorem Inv.sz(I:Inv X pins σ H s):X.s₀.heap.objs.size≤s.heap.objs.size:=Nat.le_trans I.ok.above (Nat.le_of_lt I.lt)
theorem Inv.qV(I:Inv X pins σ H s){a:Addr}(h:s.heap.objs.size≤a):a∉X.fs:=fun hb=>by
 obtain ⟨_,o,ho,_⟩:=I.ok.cD.mem hb
 exact absurd (Nat.lt_of_lt_of_le (Heap.lt_size ho) (Nat.le_trans I.sz h)) (Nat.lt_irrefl _)
theorem Inv.d_(I:Inv X pins σ H s):∀x c,X.env.cells.lookup x=some c→c≠X.env.locals:=fun x c e z=>by
 obtain ⟨v,o,ho,hd⟩:=I.cell x c e
 obtain ⟨m,⟨o',es,ep,ee,qW,_⟩,_⟩:=I.loc
 rw [z,ee] at ho;cases ho;rw [qW] at hd;cases hd
theorem Inv.cD(I:Inv X pins σ H s):s.heap.FunFrames X.base X.outer:=by
 have all:∀(l:List Env),(∀b∈aQ l,b∈X.fs)→X.s₀.heap.FunFrames X.base l→s.heap.FunFrames X.base l:=by
  intro l
  induction l with
  | nil=>intro _ _;trivial
  | cons env r ih=>
   intro hs hl
   obtain ⟨hk,⟨L,o,hf,hn,ho,hd⟩,hr⟩:=hl
   have hL:L∈X.fs:=hs L (by unfold aQ;rw [List.filterMap_cons,hf];exact List.mem_cons_self)
   obtain ⟨sl,e⟩:=I.base.slot L o ho (I.ok.dR L hL) hL fun z=>I.ok.fo L z hL
   exact ⟨hk,⟨L,_,hf,hn,e,hd⟩,ih (fun b hb=>hs b (by unfold aQ;rw [List.filterMap_cons,hf];exact List.mem_cons_of_mem _ hb)) hr⟩
 exact all X.outer (fun _ hb=>hb) I.ok.cD
theorem Inv.stack(I:Inv X pins σ H s):s.heap.FunFrames X.base X.stack:=by
 rcases I.ok.b6 with e | ⟨e,hf⟩
 ·rw [e];exact I.cD
 ·rw [e]
  obtain ⟨m,hn,_⟩:=I.loc
  refine .cons (by rw [I.ok.kind];decide) hf hn ?_ I.cD
  exact Heap.get?_none_of_le (Nat.le_trans I.ok.cS I.ok.above)
theorem Inv.il(I:Inv X pins σ H s):∀b∈aQ X.stack,b∈X.env.locals::X.fs:=fun b hb=>by
 rcases I.ok.b6 with e | ⟨e,hf⟩
 ·rw [e] at hb;exact List.mem_cons_of_mem _ hb
 ·rw [e] at hb
  unfold aQ at hb
  rw [List.filterMap_cons,hf] at hb
  exact hb
theorem Inv.ip(I:Inv X pins σ H s):∀b∈aQ X.stack,H b=none:=fun b hb=>by
 rcases List.mem_cons.mp (I.il b hb) with e | hb
 ·rw [e];exact I.free
 ·obtain ⟨_,o,ho,_⟩:=I.ok.cD.mem hb
  exact I.base.free b o ho (I.ok.dR b hb) fun z=>I.ok.fo b z hb
theorem Inv.step{g':Array GenState}{t':Nat}{d':Drawn}{ch:List Addr}(I:Inv X pins σ H s)
  (cT:∀b∈ch,(b∈X.ex∨X.s₀.heap.objs.size≤b)∧b≠X.env.locals∧(∀x c,X.env.cells.lookup x=some c→c≠b)∧∀p∈X.pn++pins,p.1≠b)
  (keep:∀b o,b≠X.env.locals→b∉X.fs→b∉ch→s.heap.get? b=some o→H b=none→h'.get? b=some o)
  (slot:∀b o,b≠X.env.locals→b∈X.fs→b∉ch→s.heap.get? b=some o→H b=none→∃sl,h'.get? b=some {o with slots:=sl}) (free:∀b o,b∉ch→s.heap.get? b=some o→H b=none→H' b=none)
  (there:∀b o,b∉ch→s.heap.get? b=some o→∃o',h'.get? b=some o')
  (bW:∀b xs,H b=some (.tup xs)→H' b=some (.tup xs)) (bL:∀b o u,H b=some (.aB o u)→H' b=some (.aB o u)) (bX:∀b ps,H b=some (.di ps)→∃more,H' b=some (.di (ps++more)))
  (ns:∀m,s.heap.Ns X.env.locals m→h'.Ns X.env.locals m) (aj:aK X.prog X.w H' h') (hg:AllBare g') :
  Inv X pins σ H' {s with heap:=h',gens:=g',drawn:=d',toks:=t'}:=by
 have mx:∀b o,X.s₀.heap.get? b=some o→b≠X.env.locals:=fun b o e=>Nat.ne_of_lt (Nat.lt_of_lt_of_le (Heap.lt_size e) I.ok.above)
 have iq:∀b o,X.s₀.heap.get? b=some o→b∉X.ex→b∉ch:=fun b o e hx hb=>by
  rcases (cT b hb).1 with z | z
  ·exact hx z
  ·exact absurd (Nat.lt_of_lt_of_le (Heap.lt_size e) z) (Nat.lt_irrefl _)
 have cellK:∀x c,X.env.cells.lookup x=some c→∀v,s.heap.IsCell c v→h'.IsCell c v:=fun x c e v ⟨o,ho,hd⟩=>by
  have gw:c∉ch:=fun z=>(cT c z).2.2.1 x c e rfl
  by_cases hc:c∈X.fs
  ·obtain ⟨sl,q⟩:=slot c o (I.d_ x c e) hc gw ho (I.cE x c e)
   exact ⟨_,q,hd⟩
  ·exact ⟨o,keep c o (I.d_ x c e) hc gw ho (I.cE x c e),hd⟩
 refine ⟨I.ok,I.os,hg,⟨fun b o e n hb hx=>?_,fun b o e n hb hx=>?_,fun b o e n hx=>?_,fun b o e hx=>?_,fun b xs e=>bW b xs (I.base.bW b xs e),fun b o xs e=>bL b o xs (I.base.bL b o xs e),fun b ps e=>?_⟩,?_,fun x c e=>?_,?_,fun x c e=>?_,fun p hp=>?_,aj,I.len⟩
 ·exact keep b o (mx b o e) hb (iq b o e hx) (I.base.keep b o e n hb hx) (I.base.free b o e n hx)
 ·obtain ⟨sl,e1⟩:=I.base.slot b o e n hb hx
  obtain ⟨qX,e2⟩:=slot b _ (mx b o e) hb (iq b o e hx) e1 (I.base.free b o e n hx)
  exact ⟨qX,e2⟩
 ·obtain ⟨o',e1⟩:=I.base.there b o e hx
  exact free b o' (iq b o e hx) e1 (I.base.free b o e n hx)
 ·obtain ⟨o',e1⟩:=I.base.there b o e hx
  exact there b o' (iq b o e hx) e1
 ·obtain ⟨m1,e1⟩:=I.base.bX b ps e
  obtain ⟨m2,e2⟩:=bX b _ e1
  exact ⟨m1++m2,by rw [e2,Array.append_assoc]⟩
 ·obtain ⟨m,hn,hl⟩:=I.loc
  refine ⟨m,ns m hn,fun i x v e1 e2 e3=>?_⟩
  obtain ⟨u,r,l⟩:=hl i x v e1 e2 e3
  refine ⟨u,r,?_⟩
  rcases l with l | ⟨k,c,e,z⟩
  ·exact .inl l
  ·exact .inr ⟨k,c,e,cellK x c e _ z⟩
 ·obtain ⟨v,z⟩:=I.cell x c e
  exact ⟨v,cellK x c e v z⟩
 ·obtain ⟨m,⟨o,_,_,ho,_⟩,_⟩:=I.loc
  exact free _ o (fun z=>(cT _ z).2.1 rfl) ho I.free
 ·obtain ⟨v,o,ho,hd⟩:=I.cell x c e
  exact free c o (fun z=>(cT c z).2.2.1 x c e rfl) ho (I.cE x c e)
 ·obtain ⟨e,n,ne,nf,d⟩:=I.pin p hp
  have gw:p.1∉ch:=fun z=>(cT p.1 z).2.2.2 p hp rfl
  exact ⟨keep p.1 p.2 ne nf gw e n,free p.1 p.2 gw e n,ne,nf,d⟩
theorem Inv.un{t':Nat}(I:Inv X pins σ H s)(u:Un X.fs [] H H' s.heap h')(aj:aK X.prog X.w H' h'):Inv X pins σ H' {s with heap:=h',toks:=t'}:=by
 obtain ⟨m,⟨o,es,ep,ho,r⟩,_⟩:=id I.loc
 obtain ⟨sl,hL⟩:=u.any ho I.free (by simp)
 exact I.step (g':=s.gens) (d':=s.drawn) (ch:=[]) (fun _ z=>nomatch z) (fun b o _ hb _ e n=>u.keep b o e n hb (by simp)) (fun b o _ hb _ e n=>u.slot b o e n hb (by simp)) (fun b o _ e n=>u.free b o e n (by simp)) (fun b o _ e=>u.there b o e (by simp)) u.bW u.bL u.bX (fun m' hm=>by
  obtain ⟨o',jM,jN,ee,r'⟩:=hm
  rw [ho] at ee;cases ee
  exact ⟨_,jM,jN,hL,r'⟩) aj I.bare
theorem Inv.call{g':Array GenState}{t':Nat}{d':Drawn}{ch:List Addr}(I:Inv X pins σ H s)(u:Un (aQ X.stack) ch H H' s.heap h')(aj:aK X.prog X.w H' h')(hg:AllBare g')
  (cT:∀b∈ch,(b∈X.ex∨X.s₀.heap.objs.size≤b)∧b≠X.env.locals∧(∀x c,X.env.cells.lookup x=some c→c≠b)∧∀p∈X.pn++pins,p.1≠b) :
  Inv X pins σ H' {s with heap:=h',gens:=g',drawn:=d',toks:=t'}:=by
 obtain ⟨m,⟨o,es,ep,ho,r⟩,_⟩:=id I.loc
 obtain ⟨sl,hL⟩:=u.any ho I.free fun z=>(cT _ z).2.1 rfl
 exact I.step (ch:=ch) cT (fun b o hL hb hc e n=>u.keep b o e n (fun z=>(List.mem_cons.mp (I.il b z)).elim hL hb) hc) (fun b o _ _ hc e n=>u.any e n hc) (fun b o hc e n=>u.free b o e n hc) (fun b o hc e=>u.there b o e hc) u.bW u.bL u.bX (fun m' hm=>by
  obtain ⟨o',jM,jN,ee,r'⟩:=hm
  rw [ho] at ee;cases ee
  exact ⟨_,jM,jN,hL,r'⟩) aj hg
theorem Inv.turned{t':Nat}{it:Addr}(I:Inv X pins σ H s)(k:∀b o,b≠it→s.heap.get? b=some o→h'.get? b=some o)(hn:H it=none)(hL:it≠X.env.locals)
  (h1:it∈X.ex∨X.s₀.heap.objs.size≤it) (h2:∀x c,X.env.cells.lookup x=some c→c≠it) (h3:∀p∈X.pn++pins,p.1≠it):Inv X pins σ H {s with heap:=h',toks:=t'}:=by
 have my:∀b u,H b=some u→b≠it:=fun b u e z=>by rw [z,hn] at e;cases e
 refine I.step (g':=s.gens) (d':=s.drawn) (ch:=[it]) (fun b hb=>?_) (fun b o _ _ hc e _=>k b o (fun z=>hc (by simp [z])) e) (fun b o _ _ hc e _=>⟨o.slots,k b o (fun z=>hc (by simp [z])) e⟩) (fun _ _ _ _ n=>n)
  (fun b o hc e=>⟨o,k b o (fun z=>hc (by simp [z])) e⟩) (fun _ _ e=>e) (fun _ _ _ e=>e) (fun b ps e=>⟨#[],by rw [e];simp⟩) (fun m hm=>?_) (fun b u e=>?_) I.bare
 ·have e:b=it:=by simpa using hb
  subst e
  exact ⟨h1,hL,h2,h3⟩
 ·obtain ⟨o,es,ep,ho,r⟩:=hm
  exact ⟨o,es,ep,k _ o (Ne.symm hL) ho,r⟩
 ·refine (I.aj b u e).dQ (fun c v hc q=>k c v ?_ q) (fun _ q=>q) fun _ _ q=>q
  rcases hc with z | z
  ·rw [z];exact my b u e
  ·exact my c _ z
theorem Inv.tok(I:Inv X pins σ H s)(t:Nat):Inv X pins σ H {s with toks:=t}:=I.un (h':=s.heap) (t':=t) Un.refl I.aj
theorem Inv.kept{t':Nat}(I:Inv X pins σ H s)(k:∀b u,s.heap.get? b=some u→h'.get? b=some u):Inv X pins σ H {s with heap:=h',toks:=t'}:=I.un (Un.kept k) (I.aj.kept k)
theorem Inv.laid{a:Addr}{o:HO}{t':Nat}(I:Inv X pins σ H s)(k:∀b u,s.heap.get? b=some u→h'.get? b=some u)(hp:s.heap.objs.size≤a)(new:aI X.prog X.w (upd H a o) h' a o) :
  Inv X pins σ (upd H a o) {s with heap:=h',toks:=t'}:=I.un (Un.laid k hp (I.aj.fresh hp)) (I.aj.laid k hp new)
theorem Inv.write{x e:Addr}{o:HO}{t':Nat}(I:Inv X pins σ H s)(mu:gu (H x))(he:e=x∨H e=some (.own x))(k:∀b u,b≠e→s.heap.get? b=some u→h'.get? b=some u)(fk:∃u,h'.get? e=some u)
  (new:aI X.prog X.w (upd H x o) h' x o):Inv X pins σ (upd H x o) {s with heap:=h',toks:=t'}:=I.un (Un.write mu he k fk) (I.aj.write mu he k fk new)
theorem Inv.mz{mB:List (Addr×Obj)}(I:Inv X pins σ H s)(h:∀p∈mB,s.heap.get? p.1=some p.2∧H p.1=none∧p.1≠X.env.locals∧p.1∉X.fs∧∀v,p.2.data≠.cell v):Inv X mB σ H s:=
 ⟨I.ok,I.os,I.bare,I.base,I.loc,I.cell,I.free,I.cE,fun p hp=>(List.mem_append.mp hp).elim (fun z=>I.pin p (List.mem_append_left _ z)) (h p),I.aj,I.len⟩
theorem mC{N:List Str}(hN:N.Nodup){i j:Nat}{x:Str}(a:N[i]?=some x)(b:N[j]?=some x):i=j:=by
 obtain ⟨h1,e1⟩:=List.getElem?_eq_some_iff.mp a
 obtain ⟨h2,e2⟩:=List.getElem?_eq_some_iff.mp b
 exact (List.getElem_inj hN).mp (e1.trans e2.symm)
theorem mE{M:Model}{A:Around}{E:Value→Shared→Prop}{i:Nat}{x:Str}{v:V}{u:Value}{Q:Unit→Shared→Prop}(I:Inv X pins σ H s)(hN:X.N.Nodup)(hi:X.N[i]?=some x)(hx:Loc X.env.scope x)(r:RelV v u)
  (h:∀s',Inv X pins (σ.set i (some v)) H s'→(∃a,Heap.SameBut a s.heap s'.heap∧(a=X.env.locals∨X.env.cells.lookup x=some a))→Q () s') (hf:X.fn x=true∨X.env.scope.names.lookup x=some .local:=by first | exact .inl rfl | exact .inr rfl | assumption):wpAny M A (storeName X.env x u) Q E s:=by
 obtain ⟨m,hn,hl⟩:=id I.loc
 have qY:(X.env.scope.kind == .class || (X.env.scope.kind == .module && X.env.locals != X.env.globals))=false:=by rw [I.ok.kind];rfl
 have mF:i<σ.length:=by rw [I.len];exact (List.getElem?_eq_some_iff.mp hi).1
 have d_:=I.d_
 have tracked:∀{a:Addr} {h':Heap},(∃o,s.heap.get? a=some o∧H a=none)→Heap.SameBut a s.heap h'→aK X.prog X.w H h':=fun{a h'} ha hs b ob e=>by
  obtain ⟨_,_,mG⟩:=ha
  refine (I.aj b ob e).dQ (fun c w' hc q=>(hs.2 c ?_).trans q) (fun _ q=>q) fun _ _ q=>q
  rintro rfl
  rcases hc with rfl | hc
  ·rw [mG] at e;cases e
  ·rw [mG] at hc;cases hc
 rcases hx with hk | hk
 ·refine wpAny_storeName_local hk hn (fun h' qZ hs=>?_) qY
  obtain ⟨oL,_,_,q5,_⟩:=id hn
  refine h _ ⟨I.ok,I.os,I.bare,⟨fun b o e n hb hx=>?_,fun b o e n hb hx=>?_,I.base.free,fun b o e hx=>?_,I.base.bW,I.base.bL,I.base.bX⟩,⟨_,qZ,fun j y v' e1 e2 e3=>?_⟩,fun y c e=>?_,I.free,I.cE,fun p hp=>?_,tracked ⟨oL,q5,I.free⟩ hs,by simpa using I.len⟩ ⟨_,hs,.inl rfl⟩
  ·exact (hs.2 b (Nat.ne_of_lt (Nat.lt_of_lt_of_le (Heap.lt_size e) I.ok.above))).trans (I.base.keep b o e n hb hx)
  ·obtain ⟨sl,e1⟩:=I.base.slot b o e n hb hx
   exact ⟨sl,(hs.2 b (Nat.ne_of_lt (Nat.lt_of_lt_of_le (Heap.lt_size e) I.ok.above))).trans e1⟩
  ·obtain ⟨o',e1⟩:=I.base.there b o e hx
   exact ⟨o',(hs.2 b (Nat.ne_of_lt (Nat.lt_of_lt_of_le (Heap.lt_size e) I.ok.above))).trans e1⟩
  ·by_cases hj:j=i
   ·subst hj
    rw [hi] at e1;cases e1
    rw [List.getElem?_set_self mF] at e2
    cases e2
    exact ⟨u,r,.inl ⟨hk,by simp⟩⟩
   ·rw [List.getElem?_set_ne (Ne.symm hj)] at e2
    obtain ⟨u',r',q⟩:=hl j y v' e1 e2 e3
    refine ⟨u',r',?_⟩
    rcases q with ⟨k,e⟩ | ⟨k,c,e,z⟩
    ·refine .inl ⟨k,?_⟩
     have:y≠x:=fun e=>hj (mC hN e1 (e▸hi))
     simp [this,e]
    ·exact .inr ⟨k,c,e,z.sameBut hs (d_ y c e)⟩
  ·obtain ⟨w',z⟩:=I.cell y c e
   exact ⟨w',z.sameBut hs (d_ y c e)⟩
  ·obtain ⟨e,n,ne,nf,d⟩:=I.pin p hp
   exact ⟨(hs.2 p.1 ne).trans e,n,ne,nf,d⟩
 ·have jO:X.fn x=true:=by
   rcases hf with z | z
   ·exact z
   ·rw [z] at hk;cases hk
  obtain ⟨c,hc⟩:=I.ok.has x (.inl hk)
  obtain ⟨w',z⟩:=I.cell x c hc
  refine wpAny_storeName_cell I.ok.kind hk hc z (fun h' mH hs=>?_)
  obtain ⟨oc,mI,q8⟩:=id z
  refine h {s with heap:=h'} ⟨I.ok,I.os,I.bare,⟨fun b o e n hb hx=>?_,fun b o e n hb hx=>?_,I.base.free,fun b o e hx=>?_,I.base.bW,I.base.bL,I.base.bX⟩,⟨m,hn.sameBut hs (Ne.symm (d_ x c hc)),fun j y v' e1 e2 e3=>?_⟩,fun y c' e=>?_,I.free,I.cE,fun p hp=>?_,tracked ⟨oc,mI,I.cE x c hc⟩ hs,by simpa using I.len⟩ ⟨c,hs,.inr hc⟩
  ·exact (hs.2 b (Nat.ne_of_lt (Nat.lt_of_lt_of_le (Heap.lt_size e) (I.ok.gv x c jO hc)))).trans (I.base.keep b o e n hb hx)
  ·obtain ⟨sl,e1⟩:=I.base.slot b o e n hb hx
   exact ⟨sl,(hs.2 b (Nat.ne_of_lt (Nat.lt_of_lt_of_le (Heap.lt_size e) (I.ok.gv x c jO hc)))).trans e1⟩
  ·obtain ⟨o',e1⟩:=I.base.there b o e hx
   exact ⟨o',(hs.2 b (Nat.ne_of_lt (Nat.lt_of_lt_of_le (Heap.lt_size e) (I.ok.gv x c jO hc)))).trans e1⟩
  ·by_cases hj:j=i
   ·subst hj
    rw [hi] at e1;cases e1
    rw [List.getElem?_set_self mF] at e2
    cases e2
    exact ⟨u,r,.inr ⟨.inl hk,c,hc,mH⟩⟩
   ·rw [List.getElem?_set_ne (Ne.symm hj)] at e2
    obtain ⟨u',r',q⟩:=hl j y v' e1 e2 e3
    refine ⟨u',r',?_⟩
    rcases q with q | ⟨k,c',e,z'⟩
    ·exact .inl q
    ·refine .inr ⟨k,c',e,z'.sameBut hs ?_⟩
     rintro rfl
     exact hj (mC hN e1 (I.ok.inj _ _ _ e hc▸hi))
  ·by_cases mJ:c'=c
   ·subst mJ;exact ⟨_,mH⟩
   ·obtain ⟨w2,z2⟩:=I.cell y c' e
    exact ⟨w2,z2.sameBut hs mJ⟩
  ·obtain ⟨e,n,ne,nf,d⟩:=I.pin p hp
   refine ⟨(hs.2 p.1 ?_).trans e,n,ne,nf,d⟩
   intro q
   rw [q,mI] at e
   have q':oc=p.2:=Option.some.inj e
   exact d w' (by rw [←q'];exact q8)
theorem mK{M:Model}{A:Around}{E:Value→Shared→Prop}{i:Nat}{x:Str}{v:V}{u:Value}{Q:Unit→Shared→Prop}(I:Inv X pins σ H s)(hN:X.N.Nodup)(hi:X.N[i]?=some x)(hx:Loc X.env.scope x)(r:RelV v u)
  (h:∀s',Inv X pins (σ.set i (some v)) H s'→Q () s') (hf:X.fn x=true∨X.env.scope.names.lookup x=some .local:=by first | exact .inl rfl | exact .inr rfl | assumption):wpAny M A (storeName X.env x u) Q E s:=
 mE I hN hi hx r (fun s' I' _=>h s' I') hf
theorem Inv.jP{s':Shared}{ch:List Addr}(I:Inv X pins σ H s)(ho:s'.os=s.os)(u:Un (aQ X.stack) ch H H' s.heap s'.heap)(aj:aK X.prog X.w H' s'.heap)(hg:AllBare s'.gens)
  (cT:∀b∈ch,(b∈X.ex∨X.s₀.heap.objs.size≤b)∧b≠X.env.locals∧(∀x c,X.env.cells.lookup x=some c→c≠b)∧∀p∈X.pn++pins,p.1≠b):Inv X pins σ H' s':=by
 obtain ⟨h',g',d',t',o'⟩:=s'
 have e:o'=s.os:=ho
 subst e
 exact I.call (g':=g') (t':=t') (d':=d') u aj hg cT
end
abbrev XK:=Value→Option Addr→Hp→Prop
abbrev St:=List (Option V)
abbrev VK:=V→Hp→Prop
abbrev TE:=St→Hp→VK→Prop
abbrev TT:=St→Hp→(Bool→Hp→Prop)→Prop
abbrev TA:=St→Hp→(List V→Hp→Prop)→Prop
structure Ends where
 nx:St→Hp→Prop
 rt:VK
 bk:St→Hp→Prop:=fun _ _=>False
 ct:St→Hp→Prop:=fun _ _=>False
abbrev TS:=Ends→St→Hp→Prop
def EP(X:Cx)(pins:List (Addr×Obj))(σ:St)(Q:VK)(u:Value)(s':Shared):Prop:=∃v H',Inv X pins σ H' s'∧RelV v u∧Q v H'
def TP(X:Cx)(pins:List (Addr×Obj))(σ:St)(Q:Bool→Hp→Prop)(b:Bool)(s':Shared):Prop:=∃H',Inv X pins σ H' s'∧Q b H'
def AP(X:Cx)(pins:List (Addr×Obj))(σ:St)(Q:List V→Hp→Prop)(us:List Value)(s':Shared):Prop:=∃vs H',Inv X pins σ H' s'∧Vals vs us∧Q vs H'
def SP(X:Cx)(pins:List (Addr×Obj))(D:Ends)(f:Flow)(s':Shared):Prop:=
 match f with
 | .next=>∃σ' H',Inv X pins σ' H' s'∧D.nx σ' H'
 | .brk=>∃σ' H',Inv X pins σ' H' s'∧D.bk σ' H'
 | .cont=>∃σ' H',Inv X pins σ' H' s'∧D.ct σ' H'
 | .ret u=>∃v σ' H',Inv X pins σ' H' s'∧RelV v u∧D.rt v H'
def PE(X:Cx)(e:Expr)(t:TE):Prop:=
 ∀(pins:List (Addr×Obj)) (s:Shared) (σ:St) (H:Hp) (Q:VK),Inv X pins σ H s→t σ H Q→wpAny (model X.prog X.w) X.A (eval e X.env) (EP X pins σ Q) X.xe s
def PT(X:Cx)(e:Expr)(t:TT):Prop:=
 ∀(pins:List (Addr×Obj)) (s:Shared) (σ:St) (H:Hp) (Q:Bool→Hp→Prop),Inv X pins σ H s→t σ H Q→wpAny (model X.prog X.w) X.A (isTrue e X.env (eval e X.env)) (TP X pins σ Q) X.xe s
def PW(X:Cx)(e:Expr)(t:TT):Prop:=
 ∀(whole:Sem Value) (pins:List (Addr×Obj)) (s:Shared) (σ:St) (H:Hp) (Q:Bool→Hp→Prop),Inv X pins σ H s→t σ H Q→wpAny (model X.prog X.w) X.A (isTrue e X.env whole) (TP X pins σ Q) X.xe s
theorem PW.pt{X:Cx}{e:Expr}{t:TT}(h:PW X e t):PT X e t:=h _
def PA(X:Cx)(es:List Expr)(t:TA):Prop:=
 ∀(pos:Pos) (pins:List (Addr×Obj)) (s:Shared) (σ:St) (H:Hp) (Q:List V→Hp→Prop),Inv X pins σ H s→t σ H Q→wpAny (model X.prog X.w) X.A (spliced (backTo pos (starEach es X.env))) (AP X pins σ Q) X.xe s
def PS(X:Cx)(st:Stmt)(t:TS):Prop:=
 ∀(pins:List (Addr×Obj)) (s:Shared) (σ:St) (H:Hp) (D:Ends),Inv X pins σ H s→t D σ H→wpAny (model X.prog X.w) X.A (exec st X.env) (SP X pins D) X.xe s
def bY(X:Cx)(st:List Stmt)(t:TS):Prop:=
 ∀(pins:List (Addr×Obj)) (s:Shared) (σ:St) (H:Hp) (D:Ends),Inv X pins σ H s→t D σ H→wpAny (model X.prog X.w) X.A (execs st X.env) (SP X pins D) X.xe s
theorem ar{α:Type}{t:Sem α}{Q Q':α→Shared→Prop}{M:Model}{A:Around}{E:Value→Shared→Prop}{s:Shared}(h:wpAny M A t Q E s)(hQ:∀a s,Q a s→Q' a s):wpAny M A t Q' E s:=wpAny_mono h hQ fun _ _ x=>x
section
variable {X:Cx}
theorem bin{a b:Expr}{ta tb:TE}(ha:PE X a ta)(hb:PE X b tb){pins:List (Addr×Obj)}{s:Shared}{σ:St}{H:Hp}{R:V→V→Hp→Prop}(I:Inv X pins σ H s)(h:ta σ H fun x H1=>tb σ H1 fun y H2=>R x y H2)
  {α:Type} {Q:α→Shared→Prop} {f:Value→Value→Sem α}
  (hf:∀v u s2 x y H2,Inv X pins σ H2 s2→RelV x v→RelV y u→R x y H2→wpAny (model X.prog X.w) X.A (f v u) Q X.xe s2) :
  wpAny (model X.prog X.w) X.A (eval a X.env) (fun v s₁=>wpAny (model X.prog X.w) X.A (eval b X.env) (fun u s₂=>wpAny (model X.prog X.w) X.A (f v u) Q X.xe s₂) X.xe s₁) X.xe s:=by
 refine ar (ha pins s σ H _ I h) fun v s1 ⟨x,H1,I1,r1,q1⟩=>?_
 refine ar (hb pins s1 σ H1 _ I1 q1) fun u s2 ⟨y,H2,I2,r2,q2⟩=>?_
 exact hf v u s2 x y H2 I2 r1 r2 q2
def mL(i:Nat):TE:=fun σ H Q=>∃v,σ[i]?=some (some v)∧Q v H
def tC(v:V):TE:=fun _ H Q=>Q v H
theorem q_{i:Nat}{x:Str}{pos:Pos}(hN:X.N[i]?=some x)(hv:ig X.env.scope x)(hd:(x == ("__debug__":Str))=false:=by decide)(bZ:(x == ("__classdict__":Str))=false:=by decide):PE X (.Name x pos) (mL i):=by
 intro pins s σ H Q I h
 obtain ⟨v,e,h⟩:=h
 obtain ⟨m,hn,hl⟩:=I.loc
 obtain ⟨u,r,l⟩:=hl i x v hN e hv
 have fin:EP X pins σ Q u s:=⟨v,H,I,r,h⟩
 rcases l with ⟨hk,hm⟩ | ⟨hk,c,hc,mM⟩
 ·exact wpAny_Name (wpAny_loadName_local I.ok.kind hk hn hm fin) hd
 ·rcases hk with hk | hk
  ·exact wpAny_Name (wpAny_loadName_cell I.ok.kind hk hc mM fin) hd
  ·exact wpAny_Name (wpAny_loadName_free I.ok.kind hk hc mM fin bZ) hd
theorem aq{i j pos}:PE X (.Constant (.int i) j pos) (tC (.int i)):=fun _ _ _ H _ I h=>wpAny_Constant_int ⟨.int i,H,I.tok _,⟨_,rfl⟩,h⟩
theorem dq{b j pos}:PE X (.Constant (.bool b) j pos) (tC (.bl b)):=fun _ _ _ H _ I h=>Constant_bool ⟨.bl b,H,I,rfl,h⟩
theorem ra{x j pos}:PE X (.Constant (.str x) j pos) (tC (.str x)):=fun _ _ _ H _ I h=>Calls.Constant_str ⟨.str x,H,I.tok _,⟨_,rfl⟩,h⟩
def Gl(X:Cx)(x:Str):Prop:=X.env.kindOf x=some .globalImplicit
theorem jQ{E:Value→Shared→Prop}{pins:List (Addr×Obj)}{s:Shared}{σ:St}{H:Hp}{x:Str}{u:Value}{pos:Pos}{Q:Value→Shared→Prop}(I:Inv X pins σ H s)(hg:Gl X x)(hm:X.mg x=some u)(h:Q u s)
  (hd:(x == ("__debug__":Str))=false:=by decide):wpAny (model X.prog X.w) X.A (eval (.Name x pos) X.env) Q E s:=
 Calls.Name_function_global I.ok.kind hg (Calls.loadGlobal_global (by rw [I.ok.glob];exact I.mod.glob.keeps I.bk) hm h) hd
theorem gx{E:Value→Shared→Prop}{pins:List (Addr×Obj)}{s:Shared}{σ:St}{H:Hp}{x:Str}{u:Value}{pos:Pos}{Q:Value→Shared→Prop}(I:Inv X pins σ H s)(hg:Gl X x)(hm:X.mg x=none)(hv:bootBuiltins x=some u)(h:Q u s)
  (hn:x ≠ "__name__":=by decide) (hd:(x == ("__debug__":Str))=false:=by decide):wpAny (model X.prog X.w) X.A (eval (.Name x pos) X.env) Q E s:=by
 obtain ⟨mb,h1,h2⟩:=I.mod.blt
 exact Calls.Name_function_global I.ok.kind hg (Calls.loadGlobal_builtin (by rw [I.ok.glob];exact I.mod.glob.keeps I.bk) hm (by rw [I.ok.blt];exact h1.keeps I.bk) ((h2 x hn).trans hv) h) hd
theorem rb{x:Str}{v:V}{u:Value}{pos:Pos}(hg:Gl X x)(hm:X.mg x=some u)(r:RelV v u)(hd:(x == ("__debug__":Str))=false:=by decide):PE X (.Name x pos) (tC v):=
 fun _ _ _ H _ I h=>jQ I hg hm ⟨v,H,I,r,h⟩ hd
theorem mO{x:Str}{v:V}{u:Value}{pos:Pos}(hg:Gl X x)(hm:X.mg x=none)(hv:bootBuiltins x=some u)(r:RelV v u)(hn:x ≠ "__name__":=by decide)(hd:(x == ("__debug__":Str))=false:=by decide):PE X (.Name x pos) (tC v):=
 fun _ _ _ H _ I h=>gx I hg hm hv ⟨v,H,I,r,h⟩ hn hd
variable {a b:Expr} {ta tb:TE} {pos:Pos}
def PC(X:Cx)(op:CmpOp)(a b:Expr)(t:TE):Prop:=
 ∀(pins:List (Addr×Obj)) (s:Shared) (σ:St) (H:Hp) (Q:VK),Inv X pins σ H s→t σ H Q→
  wpAny (model X.prog X.w) X.A (eval a X.env) (fun v s₁=>wpAny (model X.prog X.w) X.A (eval b X.env) (fun u s₂=>wpAny (model X.prog X.w) X.A (compareOp op v u) (EP X pins σ Q) X.xe s₂) X.xe s₁) X.xe s
def tB(t:TE):TT:=fun σ H Q=>t σ H fun x H1=>∃c,x=.bl c∧Q c H1
theorem mP{op:CmpOp}{t:TE}(h:PC X op a b t)(h1:behindInMarks op b=false:=by first | exact zx _ (by decide) (by decide) | rfl):PT X (.Compare a [op] [b] pos) (tB t):=by
 intro pins s σ H Q I hw
 refine wpAny_isTrue_Compare1 (ar (h pins s σ H _ I hw) fun v s1 h1=>ar h1 fun u s2 h2=>ar h2 fun c s3 ⟨x,H1,I1,r1,q1⟩=>?_) h1
 obtain ⟨d,rfl,q⟩:=q1
 cases r1
 exact wpAny_truthy_bool ⟨H1,I1,q⟩
theorem jR{e:Expr}{t:TE}(h:PE X e t)(he:∀whole,isTrue e X.env whole=(do let v ←whole;standAt e.pos;holding [v] (truthy v)):=by intro _;rfl):PT X e (tB t):=by
 intro pins s σ H Q I hw
 refine isTrue_plain (ar (h pins s σ H _ I hw) fun v s1 ⟨x,H1,I1,r1,q1⟩=>?_) (he _)
 obtain ⟨d,rfl,q⟩:=q1
 cases r1
 exact wpAny_truthy_bool ⟨H1,I1,q⟩
variable {tA gy:TT} {rest:List Expr}
def rd(t u:TT):TT:=fun σ H Q=>t σ H fun c H1=>if c=true then u σ H1 Q else Q false H1
def rf(t u:TT):TT:=fun σ H Q=>t σ H fun c H1=>if c=true then Q true H1 else u σ H1 Q
def rg(t:TT):TT:=fun σ H Q=>t σ H fun c H1=>Q (!c) H1
theorem pw_and1(ha:PT X a tA):PW X (.BoolOp .And [a] pos) tA:=by
 intro wh pins s σ H Q I h
 refine isTrue_and (ar (ha pins s σ H Q I h) fun c s1 e=>?_)
 cases c with
 | true=>exact isTrue_and_nil e
 | false=>exact e
theorem pw_or1(ha:PT X a tA):PW X (.BoolOp .Or [a] pos) tA:=by
 intro wh pins s σ H Q I h
 refine isTrue_or (ar (ha pins s σ H Q I h) fun c s1 e=>?_)
 cases c with
 | false=>exact isTrue_or_nil e
 | true=>exact e
theorem pw_and(ha:PT X a tA)(hb:PW X (.BoolOp .And (b::rest) pos) gy):PW X (.BoolOp .And (a::b::rest) pos) (rd tA gy):=by
 intro wh pins s σ H Q I h
 refine isTrue_and (ar (ha pins s σ H _ I h) fun c s1 ⟨H1,I1,q1⟩=>?_)
 cases c with
 | true=>exact hb wh pins s1 σ H1 Q I1 q1
 | false=>exact ⟨H1,I1,q1⟩
theorem pw_or(ha:PT X a tA)(hb:PW X (.BoolOp .Or (b::rest) pos) gy):PW X (.BoolOp .Or (a::b::rest) pos) (rf tA gy):=by
 intro wh pins s σ H Q I h
 refine isTrue_or (ar (ha pins s σ H _ I h) fun c s1 ⟨H1,I1,q1⟩=>?_)
 cases c with
 | true=>exact ⟨H1,I1,q1⟩
 | false=>exact hb wh pins s1 σ H1 Q I1 q1
theorem rh(ha:PT X a tA):PT X (.UnaryOp .Not a pos) (rg tA):=by
 intro pins s σ H Q I h
 exact isTrue_not (ha pins s σ H (fun c H1=>Q (!c) H1) I h)
def rj(ta tb:TE):TE:=fun σ H Q=>ta σ H fun x H1=>∃c,x=.bl c∧if c=true then Q (.bl true) H1 else tb σ H1 Q
theorem rl{op}{t:TE}(h:PE X a t):PE X (.BoolOp op [a] pos) t:=fun pins s σ H Q I hw=>BoolOp_one (h pins s σ H Q I hw)
theorem rm(ha:PE X a ta)(hb:PE X (.BoolOp .Or (b::rest) pos) tb):PE X (.BoolOp .Or (a::b::rest) pos) (rj ta tb):=by
 intro pins s σ H Q I h
 refine BoolOp_or (ar (ha pins s σ H _ I h) fun v s1 ⟨x,H1,I1,r1,q1⟩=>?_)
 obtain ⟨c,rfl,q1⟩:=q1
 cases r1
 refine wpAny_truthy_bool ?_
 cases c with
 | false=>exact hb pins s1 σ H1 Q I1 q1
 | true=>exact ⟨.bl true,H1,I1,rfl,q1⟩
end
def aH(K:PySem.W.Frag)(H:Hp)(a:Addr)(xs:List V):Prop:=
 Rd H a (.lst xs) ∨
  ∃(o:Obj) (aa:Array Value) (n:Nat),K.lookup a=some o∧o.cls=.type "list"∧o.dict=none∧o.data=.seq aa n∧aa.size≤sizeLine∧Vals xs aa.toList
def bE(K:PySem.W.Frag)(H:Hp)(a:Addr)(xs:List V):Prop:=
 Rd H a (.tup xs) ∨
  ∃(o:Obj) (aa:Array Value) (n:Nat),K.lookup a=some o∧o.cls=.type "tuple"∧o.data=.seq aa n∧aa.size≤sizeLine∧Vals xs aa.toList
def rn:Value→Option V
 | .none=>some .av
 | .bool b=>some (.bl b)
 | .int i _=>some (.int i)
 | .str x _=>some (.str x)
 | .bytes b _=>some (.cC b)
 | .float b _=>some (.fj b)
 | .ref a=>some (.ref a)
 | .type n=>some (.ty n)
 | _=>none
theorem RelV.abs{x:V}{u:Value}(r:RelV x u):rn u=some x:=by
 cases x with
 | av=>cases r;rfl
 | bl _=>cases r;rfl
 | int _=>obtain ⟨t,rfl⟩:=r;rfl
 | str _=>obtain ⟨t,rfl⟩:=r;rfl
 | cC _=>obtain ⟨t,rfl⟩:=r;rfl
 | fj _=>obtain ⟨t,rfl⟩:=r;rfl
 | ref _=>cases r;rfl
 | ty _=>cases r;rfl
theorem RelV.inj{x y:V}{u:Value}(r:RelV x u)(q:RelV y u):x=y:=Option.some.inj (r.abs.symm.trans q.abs)
theorem Vals.inj:∀{xs ys:List V} {us:List Value},Vals xs us→Vals ys us→xs=ys
 | _,_,_,.nil,.nil=>rfl
 | _,_,_,.cons r t,.cons r' t'=>by rw [r.inj r',Vals.inj t t']
section
variable {X:Cx} {pins:List (Addr×Obj)} {σ:St} {H:Hp} {s:Shared} {a:Addr} {xs ys:List V}
theorem aH.of{K:PySem.W.Frag}(h:H a=some (.lst xs)):aH K H a xs:=.inl (.inl h)
theorem bE.of{K:PySem.W.Frag}(h:H a=some (.tup xs)):bE K H a xs:=.inl (.inl h)
theorem Inv.list(I:Inv X pins σ H s)(h:aH X.K H a xs):∃aa:List Value,Vals xs aa∧PlainL s.heap a aa.toArray∧xs.length≤sizeLine:=by
 rcases h with h | ⟨o,aa,n,hk,hc,hd,hs,hz,r⟩
 ·obtain ⟨z,aa,n,r,e⟩:=h.ok I.aj
  exact ⟨aa,r,⟨_,n,e,rfl,rfl,rfl⟩,z⟩
 ·refine ⟨aa.toList,r,⟨o,n,I.bq a o hk,hc,hd,by simpa using hs⟩,?_⟩
  have e:=r.length
  simp only [Array.length_toList] at e
  omega
theorem Inv.tuple(I:Inv X pins σ H s)(h:bE X.K H a xs):∃aa:List Value,Vals xs aa∧IsTup s.heap a aa.toArray∧xs.length≤sizeLine:=by
 rcases h with h | ⟨o,aa,n,hk,hc,hs,hz,r⟩
 ·obtain ⟨z,aa,r,p⟩:=h.ok I.aj
  exact ⟨aa,r,p,z⟩
 ·refine ⟨aa.toList,r,⟨o,I.bq a o hk,hc,n,by simpa using hs⟩,?_⟩
  have e:=r.length
  simp only [Array.length_toList] at e
  omega
theorem Inv.rp(I:Inv X pins σ H s)(h:aH X.K H a xs)(h':aH X.K H a ys):xs=ys:=by
 obtain ⟨aa,r,⟨o,n,e,_,_,d⟩,_⟩:=I.list h
 obtain ⟨its',r',⟨o',n',e',_,_,d'⟩,_⟩:=I.list h'
 rw [e] at e';cases e'
 rw [d] at d'
 injection d' with d1 _
 have:aa=its':=by simpa using congrArg Array.toList d1
 subst this
 exact r.inj r'
theorem Inv.rq(I:Inv X pins σ H s)(h:bE X.K H a xs)(h':bE X.K H a ys):xs=ys:=by
 obtain ⟨aa,r,⟨o,e,_,n,d⟩,_⟩:=I.tuple h
 obtain ⟨its',r',⟨o',e',_,n',d'⟩,_⟩:=I.tuple h'
 rw [e] at e';cases e'
 rw [d] at d'
 injection d' with d1 _
 have:aa=its':=by simpa using congrArg Array.toList d1
 subst this
 exact r.inj r'
end
abbrev Cx.cU (X:Cx) (E:Value→Shared→Prop):Cx:={X with xe:=E}
abbrev Cx.ir (X:Cx):Cx:=X.cU fun _ _=>False
theorem Cx.Ok.cU{X:Cx}(ok:X.Ok)(E:Value→Shared→Prop):(X.cU E).Ok:=
 ⟨ok.mod,ok.kind,ok.glob,ok.blt,ok.above,ok.inj,ok.has,ok.gv,ok.hd,ok.frames,ok.b6,ok.mw,ok.bs,ok.cS,ok.fm,ok.fo,ok.cD,ok.dR⟩
theorem Cx.Ok.dS{X:Cx}{E:Value→Shared→Prop}(ok:(X.cU E).Ok):X.Ok:=
 ⟨ok.mod,ok.kind,ok.glob,ok.blt,ok.above,ok.inj,ok.has,ok.gv,ok.hd,ok.frames,ok.b6,ok.mw,ok.bs,ok.cS,ok.fm,ok.fo,ok.cD,ok.dR⟩
section
variable {X:Cx} {pins:List (Addr×Obj)} {σ:St} {H:Hp} {s:Shared} {E:Value→Shared→Prop}
theorem Inv.cU(I:Inv X pins σ H s)(E:Value→Shared→Prop):Inv (X.cU E) pins σ H s:=⟨I.ok.cU E,I.os,I.bare,I.base,I.loc,I.cell,I.free,I.cE,I.pin,I.aj,I.len⟩
theorem Inv.dS(I:Inv (X.cU E) pins σ H s):Inv X pins σ H s:=⟨I.ok.dS,I.os,I.bare,I.base,I.loc,I.cell,I.free,I.cE,I.pin,I.aj,I.len⟩
theorem SP.dS{D:Ends}{f:Flow}{s':Shared}(h:SP (X.cU E) pins D f s'):SP X pins D f s':=by
 cases f with
 | next=>obtain ⟨σ',H',I,q⟩:=h;exact ⟨σ',H',I.dS,q⟩
 | brk=>obtain ⟨σ',H',I,q⟩:=h;exact ⟨σ',H',I.dS,q⟩
 | cont=>obtain ⟨σ',H',I,q⟩:=h;exact ⟨σ',H',I.dS,q⟩
 | ret u=>obtain ⟨v,σ',H',I,r,q⟩:=h;exact ⟨v,σ',H',I.dS,r,q⟩
theorem bY.ir{st:List Stmt}{t:TS}(h:bY X.ir st t):bY X st t:=fun pins s σ H D I hw=>
 wpAny_mono (h pins s σ H D (I.cU _) hw) (fun _ _ q=>q.dS) fun _ _ z=>False.elim z
end
section
variable {X:Cx} {st:Stmt} {rest:List Stmt} {t u:TS} {e:Expr} {te:TE} {pos:Pos}
def eh:TS:=fun D σ H=>D.nx σ H
def mQ(t u:TS):TS:=fun D σ H=>t {D with nx:=u D} σ H
theorem br:bY X [] eh:=fun _ _ σ H _ I h=>wpAny_execs_nil ⟨σ,H,I,h⟩
theorem au(h1:PS X st t)(h2:bY X rest u):bY X (st::rest) (mQ t u):=by
 intro pins s σ H D I h
 refine wpAny_execs_cons (ar (h1 pins s σ H {D with nx:=u D} I h) fun f s1 q=>?_)
 cases f with
 | next=>
  obtain ⟨σ',H',I',q⟩:=q
  exact h2 pins s1 σ' H' D I' q
 | ret v=>exact q
 | brk=>exact q
 | cont=>exact q
theorem aw(h1:PS X st t):bY X [st] t:=by
 intro pins s σ H D I h
 refine wpAny_execs_cons (ar (h1 pins s σ H D I h) fun f s1 q=>?_)
 cases f with
 | next=>exact wpAny_execs_nil q
 | ret v=>exact q
 | brk=>exact q
 | cont=>exact q
theorem Inv.quiet{pins:List (Addr×Obj)}{σ:St}{H:Hp}{s:Shared}(I:Inv X pins σ H s):interactive X.env=false:=by simp [interactive,I.ok.kind]
def rz(te:TE):TS:=fun D σ H=>te σ H fun _ H1=>D.nx σ H1
theorem cV(he:PE X e te)(hs:swapsWith e none pos.line X.env=pure false:=by rfl):PS X (.Expr e pos) (rz te):=by
 intro pins s σ H D I h
 exact wpAny_Expr_any (ar (he pins s σ H _ I h) fun v s1 ⟨x,H1,I1,r1,q1⟩=>⟨σ,H1,I1,q1⟩) I.quiet hs
def mR(te:TE):TS:=fun D σ H=>te σ H D.rt
theorem a_(he:PE X e te):PS X (.Return (some e) pos) (mR te):=by
 intro pins s σ H D I h
 exact wpAny_Return_some (ar (he pins s σ H _ I h) fun v s1 ⟨x,H1,I1,r1,q1⟩=>⟨x,σ,H1,I1,r1,q1⟩)
def jS(c:TT)(t u:TS):TS:=fun D σ H=>c σ H fun b H1=>if b=true then t D σ H1 else u D σ H1
theorem bf{c:Expr}{a b:List Stmt}{tc:TT}(hc:PT X c tc)(ha:bY X a t)(hb:bY X b u):PS X (.If c a b pos) (jS tc t u):=by
 intro pins s σ H D I h
 refine wpAny_If (ar (hc pins s σ H _ I h) fun d s1 ⟨H1,I1,q1⟩=>?_)
 cases d with
 | true=>exact ha pins s1 σ H1 D I1 q1
 | false=>exact hb pins s1 σ H1 D I1 q1
end
abbrev TG:=V→St→Hp→(St→Hp→Prop)→Prop
abbrev ei:=List V→St→Hp→(St→Hp→Prop)→Prop
def PG(X:Cx)(target:Expr)(t:TG):Prop:=
 ∀(pins:List (Addr×Obj)) (s:Shared) (σ:St) (H:Hp) (v:V) (u:Value) (Q:St→Hp→Prop),Inv X pins σ H s→RelV v u→t v σ H Q→
  wpAny (model X.prog X.w) X.A (assign target X.env u) (fun _ s'=>∃σ' H',Inv X pins σ' H' s'∧Q σ' H') X.xe s
def iu(X:Cx)(ts:List Expr)(t:ei):Prop:=
 ∀(pins:List (Addr×Obj)) (s:Shared) (σ:St) (H:Hp) (vs:List V) (us:List Value) (Q:St→Hp→Prop),Inv X pins σ H s→Vals vs us→t vs σ H Q→
  wpAny (model X.prog X.w) X.A (assignInOrder ((assignEach ts X.env).map (·.2)) us) (fun _ s'=>∃σ' H',Inv X pins σ' H' s'∧Q σ' H') X.xe s
abbrev jT:=V→V→V→Hp→(Hp→Prop)→Prop
def mS(X:Cx)(t:jT):Prop:=
 ∀(pins:List (Addr×Obj)) (s:Shared) (σ:St) (H:Hp) (o i v:V) (ov iv u:Value) (Q:Hp→Prop),Inv X pins σ H s→RelV o ov→RelV i iv→RelV v u→t o i v H Q→
  wpAny (model X.prog X.w) X.A (setItem ov iv u) (fun _ s'=>∃H',Inv X pins σ H' s'∧Q H') X.xe s
section
variable {X:Cx} {pos:Pos}
def aF(i:Nat):TG:=fun v σ H Q=>Q (σ.set i (some v)) H
theorem bM{i:Nat}{x:Str}(hN:X.N.Nodup)(hi:X.N[i]?=some x)(hx:Loc X.env.scope x)(hf:X.fn x=true∨X.env.scope.names.lookup x=some .local:=by first | exact .inl rfl | exact .inr rfl | assumption):PG X (.Name x pos) (aF i):=by
 intro pins s σ H v u Q I r h
 exact wpAny_assign_Name (mK I hN hi hx r (fun s' I'=>⟨_,H,I',h⟩) hf)
def rA:ei:=fun vs σ H Q=>vs=[]∧Q σ H
def rB(t:TG)(u:ei):ei:=fun vs σ H Q=>∃v r,vs=v::r∧t v σ H fun σ' H'=>u r σ' H' Q
theorem jU:iu X [] rA:=by
 intro pins s σ H vs us Q I r h
 obtain ⟨e,h⟩:=h
 subst e
 cases r
 exact assignInOrder_nil ⟨σ,H,I,h⟩
theorem fq{e:Expr}{es:List Expr}{t:TG}{u:ei}(h1:PG X e t)(h2:iu X es u)
  (hs:(assignEach (e::es) X.env).map (·.2)=assign e X.env::(assignEach es X.env).map (·.2):=by rfl):iu X (e::es) (rB t u):=by
 intro pins s σ H vs us Q I r h
 obtain ⟨v,vr,e1,h⟩:=h
 subst e1
 cases r with
 | cons r rr=>
  rw [hs]
  refine assignInOrder_cons (ar (h1 pins s σ H _ _ _ I r h) fun _ s1 ⟨σ1,H1,I1,q1⟩=>?_)
  exact h2 pins s1 σ1 H1 _ _ Q I1 rr q1
def rC(K:PySem.W.Frag)(n:Nat)(t:ei):TG:=fun v σ H Q=>∃a xs,v=.ref a∧bE K H a xs∧xs.length=n∧t xs σ H Q
theorem jV{es:List Expr}{k:Nat}{t:ei}{n:Nat}(hc:X.calm=true)(h:iu X es t)
  (hn:(assignEach es X.env).length=n:=by rfl) (rD:(assignEach es X.env).findIdx? (·.1)=none:=by rfl):PG X (.Tuple es k pos) (rC X.K n t):=by
 intro pins s σ H v u Q I r hw
 obtain ⟨a,xs,e1,hq,hl,hw⟩:=hw
 subst e1
 cases r
 obtain ⟨aa,rv,ht,hz⟩:=I.tuple hq
 refine assign_Tuple_tuple (I.ok.hd hc) ht (by simp [hn,←hl,rv.length]) rD fun h' hx=>?_
 have I1:Inv X pins σ H {s with heap:=h'}:=I.kept (t':=s.toks) fun b o e=>hx b o (Nat.ne_of_lt (Heap.lt_size e)) e
 exact h pins _ σ H xs _ Q I1 (by simpa using rv) hw
def rE(to ti:TE)(t:jT):TG:=fun v σ H Q=>to σ H fun o H1=>ti σ H1 fun i H2=>t o i v H2 fun H3=>Q σ H3
theorem jW{o i:Expr}{to ti:TE}{t:jT}(ho:PE X o to)(hi:PE X i ti)(hs:mS X t)
  (ha:∀v,assign (.Subscript o i pos) X.env v=(do
   let ov ←holding [v] (eval o X.env)
   let iv ←holding [v,ov] (eval i X.env)
   standAt pos
   holding [v,ov,iv] (setItem ov iv v)
   release [v,ov,iv] []):=by intro _;rfl):PG X (.Subscript o i pos) (rE to ti t):=by
 intro pins s σ H v u Q I r h
 rw [ha]
 refine wpAny_bind (wpAny_holding (ar (ho pins s σ H _ I h) fun ov s1 ⟨x,H1,I1,r1,q1⟩=>?_))
 refine wpAny_bind (wpAny_holding (ar (hi pins s1 σ H1 _ I1 q1) fun iv s2 ⟨y,H2,I2,r2,q2⟩=>?_))
 refine wpAny_bind (wpAny_standAt (wpAny_bind (wpAny_holding (ar (hs pins s2 σ H2 x y v ov iv u _ I2 r1 r2 r q2) fun _ s3 ⟨H3,I3,q3⟩=>?_))))
 exact wpAny_release ⟨σ,H3,I3,q3⟩
def gz(te:TE)(g:TG):TS:=fun D σ H=>te σ H fun x H1=>g x σ H1 D.nx
theorem jX{tg e:Expr}{te:TE}{g:TG}(he:PE X e te)(hg:PG X tg g)(hs:swapsWithSole [tg] e pos.line X.env=pure false:=by rfl)(hw:swappedStores [tg] e X.env=pure none:=by rfl)
  (h1:(assignEach [tg] X.env).map (·.2)=[assign tg X.env]:=by rfl):PS X (.Assign [tg] e pos) (gz te g):=by
 intro pins s σ H D I h
 refine wpAny_Assign_stores (ar (he pins s σ H _ I h) fun v s1 ⟨x,H1,I1,r1,q1⟩=>?_) hs hw
 rw [h1]
 exact ar (hg pins s1 σ H1 x v _ I1 r1 q1) fun _ s2 q=>q
theorem rF{i:Nat}{x:Str}{e:Expr}{te:TE}{pos':Pos}(hN:X.N.Nodup)(hi:X.N[i]?=some x)(hx:Loc X.env.scope x)(he:PE X e te)(hs:swapsWith e (some (.Name x pos')) pos.line X.env=pure false:=by rfl)(hf:X.fn x=true∨X.env.scope.names.lookup x=some .local:=by first | exact .inl rfl | exact .inr rfl | assumption) :
  PS X (.Assign [.Name x pos'] e pos) (gz te (aF i)):=by
 intro pins s σ H D I h
 refine wpAny_Assign_Name (ar (he pins s σ H _ I h) fun v s1 ⟨y,H1,I1,r1,q1⟩=>?_) hs
 exact mK I1 hN hi hx r1 (fun s2 I2=>⟨_,H1,I2,q1⟩) hf
end
section
variable {X:Cx} {pos:Pos}
def rG(c:TT)(tb:TS):TS:=fun D σ H=>∃W:Nat→St→Hp→Prop,(∃m,W m σ H)∧∀m σ H,W m σ H→
 c σ H fun b H1=>if b=true then ∃N:St→Hp→Prop,(∀σ' H',N σ' H'→∃m',m'<m∧W m' σ' H')∧tb {D with nx:=N,ct:=N,bk:=D.nx} σ H1 else D.nx σ H1
theorem jY{c:Expr}{body:List Stmt}{tc:TT}{tb:TS}(hp:PassesOwn (model X.prog X.w) X.A X.env X.xe)(hc:PT X c tc)(hb:bY X body tb):PS X (.While c body [] pos) (rG tc tb):=by
 intro pins s σ H D I h
 obtain ⟨W,⟨m0,w0⟩,turn⟩:=h
 refine wpAny_While (codeAny_whileLoop (fun n s'=>∃σ' H',Inv X pins σ' H' s'∧W n σ' H') ?_ m0 ⟨σ,H,I,w0⟩)
 rintro n s1 ⟨σ1,H1,I1,w1⟩
 refine wpAny_passesOwn hp (ar (hc pins s1 σ1 H1 _ I1 (turn n σ1 H1 w1)) fun b s2 ⟨H2,I2,q2⟩=>?_)
 cases b with
 | true=>
  obtain ⟨N,hN,q2⟩:=q2
  rw [if_pos rfl]
  refine wpAny_passesOwn hp (ar (hb pins s2 σ1 H2 _ I2 q2) fun f s3 q3=>?_)
  cases f with
  | next=>
   obtain ⟨σ3,H3,I3,n3⟩:=q3
   obtain ⟨m',hm,w3⟩:=hN σ3 H3 n3
   exact ⟨m',hm,σ3,H3,I3,w3⟩
  | cont=>
   obtain ⟨σ3,H3,I3,n3⟩:=q3
   obtain ⟨m',hm,w3⟩:=hN σ3 H3 n3
   exact ⟨m',hm,σ3,H3,I3,w3⟩
  | brk=>exact q3
  | ret v=>exact q3
 | false=>
  rw [if_neg Bool.false_ne_true]
  exact wpAny_execs_nil ⟨σ1,H2,I2,q2⟩
end
structure It where
 go:Nat→Hp→Prop
 bF:Nat→Hp→V→Hp→Prop
 stop:Nat→Hp→Prop
def dU(X:Cx)(pins:List (Addr×Obj))(H:Hp)(b:Addr):Prop:=
 H b=none∧b≠X.env.locals∧b∉X.fs∧(b∈X.ex∨X.s₀.heap.objs.size≤b)∧(∀x c,X.env.cells.lookup x=some c→c≠b)∧∀p∈X.pn++pins,p.1≠b
theorem Inv.iw{X:Cx}{pins:List (Addr×Obj)}{σ:St}{H H':Hp}{s:Shared}{b:Addr}(I:Inv X pins σ H s)(hb:s.heap.objs.size≤b)(hn:H' b=none):dU X pins H' b:=by
 refine ⟨hn,Nat.ne_of_gt (Nat.lt_of_lt_of_le I.lt hb),I.qV hb,.inr (Nat.le_trans I.sz hb),fun x c e z=>?_,fun p hp z=>?_⟩
 ·obtain ⟨v,q⟩:=I.cell x c e
  exact absurd (Nat.lt_of_lt_of_le q.lt (by rw [z];exact hb)) (Nat.lt_irrefl _)
 ·exact absurd (Nat.lt_of_lt_of_le (Heap.lt_size (I.pin p hp).1) (by rw [z];exact hb)) (Nat.lt_irrefl _)
structure Turn (P:Program) (w:World) (K:PySem.W.Frag) (tg:Expr) (J:It) (fp:List Addr) (it:Addr) (tn:Nat→Heap→Prop):Prop where
 mem:it∈fp
 obj:∀i h,tn i h→∀b∈fp,∃o,h.get? b=some o∧∀v,o.data≠.cell v
 keep:∀i h h',tn i h→(∀b∈fp,∀o,h.get? b=some o→h'.get? b=some o)→tn i h'
 item:∀(X:Cx),X.prog=P→X.w=w→X.K=K→X.calm=true→∀(i:Nat) (pins:List (Addr×Obj)) (s:Shared) (σ:St) (H:Hp) (E:Value→Shared→Prop),Inv X pins σ H s→(∀b∈fp,dU X pins H b)→tn i s.heap→J.go i H→
  wpAny (model P w) X.A (pyNext (.ref it)) (fun r s1=>∃u,r=some u ∧
   wpAny (model P w) X.A (letOwnedTupleGo tg (.ref it) u) (fun _ s2=>∃x H',Inv X pins σ H' s2∧RelV x u∧J.bF i H x H'∧tn (i+1) s2.heap∧∀b∈fp,H' b=none) E s1) E s
 done:∀(X:Cx),X.prog=P→X.w=w→X.K=K→X.calm=true→∀(i:Nat) (pins:List (Addr×Obj)) (s:Shared) (σ:St) (H:Hp) (E:Value→Shared→Prop),Inv X pins σ H s→(∀b∈fp,dU X pins H b)→tn i s.heap→J.stop i H→
  wpAny (model P w) X.A (pyNext (.ref it)) (fun r s1=>r=none∧Inv X pins σ H s1) E s
 self:∀(A:Around) (i:Nat) (s:Shared) (Q:Value→Shared→Prop) (E:Value→Shared→Prop),tn i s.heap→Q (.ref it) s→wpAny (model P w) A (pyIter (.ref it)) Q E s
abbrev TI:=St→Hp→(It→Hp→Prop)→Prop
def jZ(X:Cx)(pins:List (Addr×Obj))(σ:St)(tg:Expr)(R:It→Hp→Prop)(iy:Value)(s2:Shared):Prop:=
 ∃(it:Addr) (fp:List Addr) (tn:Nat→Heap→Prop) (J:It) (H':Hp),iy=.ref it∧Inv X pins σ H' s2∧Turn X.prog X.w X.K tg J fp it tn∧tn 0 s2.heap∧(∀b∈fp,dU X pins H' b)∧R J H'
def PI(X:Cx)(tg iter:Expr)(wi:TI):Prop:=
 ∀(pins:List (Addr×Obj)) (s:Shared) (σ:St) (H:Hp) (R:It→Hp→Prop),Inv X pins σ H s→wi σ H R→
  wpAny (model X.prog X.w) X.A (eval iter X.env) (fun v s1=>wpAny (model X.prog X.w) X.A (pyIter v) (jZ X pins σ tg R) X.xe s1) X.xe s
theorem iz{M:Model}{A:Around}{E:Value→Shared→Prop}{s:Shared}{tg:Expr}{it:Addr}{u:Value}{o:Obj}{n:String}{vs:Array Value}{Q:Unit→Shared→Prop}(ho:s.heap.get? it=some o)(hc:o.cls=.type n)(hd:o.data=.fields vs)
    (hn:["enumerate","zip","dict_itemiterator","dict_reverseitemiterator","odict_iterator","itertools.zip_longest","itertools.pairwise"].contains n=false) (hQ:Q () s):wpAny M A (letOwnedTupleGo tg (.ref it) u) Q E s:=by
  unfold letOwnedTupleGo
  cases tg <;> first
    | exact wpAny_pure hQ
    | (cases u <;> first
        | exact wpAny_pure hQ
        | (refine wpAny_bind (wpAny_load ho ?_)
           rw [hc,hd]
           show wpAny M A (if (["enumerate","zip","dict_itemiterator","dict_reverseitemiterator","odict_iterator","itertools.zip_longest","itertools.pairwise"].contains n && vs[0]? == some (rawInt _))=true then _ else _) Q E s
           rw [if_neg (by intro h;rw [hn,Bool.false_and] at h;cases h)]
           exact wpAny_pure hQ))
def ej(K:PySem.W.Frag)(a:Addr):It:=
 ⟨fun i H=>∃xs x,aH K H a xs∧xs[i]?=some x,fun i H x H'=>H'=H∧∀xs,aH K H a xs→xs[i]?=some x,fun i H=>∃xs,aH K H a xs∧xs.length≤i⟩
def gA(K:PySem.W.Frag)(a:Addr):It:=
 ⟨fun i H=>∃xs x,bE K H a xs∧xs[i]?=some x,fun i H x H'=>H'=H∧∀xs,bE K H a xs→xs[i]?=some x,fun i H=>∃xs,bE K H a xs∧xs.length≤i⟩
def dr(lo:Int)(n:Nat):It:=⟨fun i _=>i<n,fun i H x H'=>H'=H∧x=.int (lo+i),fun i _=>n≤i⟩
theorem rH{P:Program}{w:World}{K:PySem.W.Frag}{tg:Expr}(a it:Addr):Turn P w K tg (ej K a) [it] it (fun i h=>h.IsListIter it a i) where
 mem:=by simp
 obj:=fun i h st b hb=>by
  have e:b=it:=by simpa using hb
  subst e
  obtain ⟨o,e,c,d⟩:=st
  exact ⟨o,e,fun v z=>by rw [d] at z;cases z⟩
 keep:=fun i h h' st k=>st.at fun o e=>k it (by simp) o e
 item:=by
  intro X hP hw hK hc i pins s σ H E I hf st hg
  subst hP hw hK
  obtain ⟨xs,x,hq,hx⟩:=hg
  obtain ⟨aa,rv,p,hz⟩:=I.list hq
  obtain ⟨u,hu,ru⟩:=rv.get hx
  obtain ⟨f0,f1,f2,f3,f4,f5⟩:=hf it (by simp)
  refine wpAny_pyNext_list_item st p.isList (x:=u) (by simpa using hu) fun h' cw sb=>?_
  have I1:Inv X pins σ H {s with heap:=h'}:=I.turned (t':=s.toks) (fun b o hb e=>(sb.2 b hb).trans e) f0 f1 f3 f4 f5
  obtain ⟨o,e,c,d⟩:=id cw
  exact ⟨u,rfl,iz (s:={s with heap:=h'}) e c d (by decide) ⟨x,H,I1,ru,⟨rfl,fun ys hy=>by rw [I.rp hy hq];exact hx⟩,cw,fun b hb=>(hf b hb).1⟩⟩
 done:=by
  intro X hP hw hK hc i pins s σ H E I hf st hg
  subst hP hw hK
  obtain ⟨xs,hq,hx⟩:=hg
  obtain ⟨aa,rv,p,hz⟩:=I.list hq
  obtain ⟨f0,f1,f2,f3,f4,f5⟩:=hf it (by simp)
  have hl:=rv.length
  exact wpAny_pyNext_list_end (I.ok.hd hc) st p.isList (by simp;omega) fun h' eb=>⟨rfl,I.turned (t':=s.toks) (fun b o hb e=>eb b o hb e) f0 f1 f3 f4 f5⟩
 self:=fun _ _ _ _ _ st h=>wpAny_pyIter_listiter st h
theorem rJ{P:Program}{w:World}{K:PySem.W.Frag}{tg:Expr}(a it:Addr):Turn P w K tg (gA K a) [it] it (fun i h=>h.IsTupleIter it a i) where
 mem:=by simp
 obj:=fun i h st b hb=>by
  have e:b=it:=by simpa using hb
  subst e
  obtain ⟨o,e,c,d⟩:=st
  exact ⟨o,e,fun v z=>by rw [d] at z;cases z⟩
 keep:=fun i h h' st k=>st.at fun o e=>k it (by simp) o e
 item:=by
  intro X hP hw hK hc i pins s σ H E I hf st hg
  subst hP hw hK
  obtain ⟨xs,x,hq,hx⟩:=hg
  obtain ⟨aa,rv,p,hz⟩:=I.tuple hq
  obtain ⟨u,hu,ru⟩:=rv.get hx
  obtain ⟨f0,f1,f2,f3,f4,f5⟩:=hf it (by simp)
  refine wpAny_pyNext_tuple_item st (show s.heap.IsTuple a aa.toArray from p) (x:=u) (by simpa using hu) fun h' cw sb=>?_
  have I1:Inv X pins σ H {s with heap:=h'}:=I.turned (t':=s.toks) (fun b o hb e=>(sb.2 b hb).trans e) f0 f1 f3 f4 f5
  obtain ⟨o,e,c,d⟩:=id cw
  exact ⟨u,rfl,iz (s:={s with heap:=h'}) e c d (by decide) ⟨x,H,I1,ru,⟨rfl,fun ys hy=>by rw [I.rq hy hq];exact hx⟩,cw,fun b hb=>(hf b hb).1⟩⟩
 done:=by
  intro X hP hw hK hc i pins s σ H E I hf st hg
  subst hP hw hK
  obtain ⟨xs,hq,hx⟩:=hg
  obtain ⟨aa,rv,p,hz⟩:=I.tuple hq
  obtain ⟨f0,f1,f2,f3,f4,f5⟩:=hf it (by simp)
  have hl:=rv.length
  exact wpAny_pyNext_tuple_end (I.ok.hd hc) st (show s.heap.IsTuple a aa.toArray from p) (by simp;omega) fun h' eb=>⟨rfl,I.turned (t':=s.toks) (fun b o hb e=>eb b o hb e) f0 f1 f3 f4 f5⟩
 self:=fun _ _ _ _ _ st h=>wpAny_pyIter_tupleiter st h
theorem rK{P:Program}{w:World}{K:PySem.W.Frag}{tg:Expr}(it:Addr)(lo:Int)(n:Nat):Turn P w K tg (dr lo n) [it] it (fun i h=>IsRangeIter h it (lo+(i:Nat)*1) ((n:Int)-(i:Nat)) 1) where
 mem:=by simp
 obj:=fun i h st b hb=>by
  have e:b=it:=by simpa using hb
  subst e
  exact ⟨_,st,fun v z=>by
   have z':Data.fields _=Data.cell v:=z
   cases z'⟩
 keep:=fun i h h' st k=>k it (by simp) _ st
 item:=by
  intro X hP hw hK hc i pins s σ H E I hf st hg
  subst hP hw hK
  obtain ⟨f0,f1,f2,f3,f4,f5⟩:=hf it (by simp)
  have W:=Walks.range (prog:=X.prog) (w:=X.w) (I.ok.hd hc) it lo 1 n
  refine W.item i s _ _ hg st fun v h' tk hv cw kk=>?_
  obtain ⟨t,rfl⟩:=hv
  have I1:Inv X pins σ H {s with heap:=h',toks:=tk}:=I.turned (fun b o hb e=>kk b o (by simpa using hb) e) f0 f1 f3 f4 f5
  refine ⟨_,rfl,iz (s:={s with heap:=h',toks:=tk}) (n:="range_iterator") cw rfl rfl (by decide) ⟨.int (lo+i),H,I1,⟨t,?_⟩,⟨rfl,rfl⟩,cw,fun b hb=>(hf b hb).1⟩⟩
  rw [Int.mul_one]
 done:=by
  intro X hP hw hK hc i pins s σ H E I hf st hg
  subst hP hw hK
  obtain ⟨f0,f1,f2,f3,f4,f5⟩:=hf it (by simp)
  exact wpAny_pyNext_range_end (I.ok.hd hc) st (by have:n≤i:=hg;omega) fun h' eb=>⟨rfl,I.turned (t':=s.toks) (fun b o hb e=>eb b o hb e) f0 f1 f3 f4 f5⟩
 self:=fun _ _ _ _ _ st h=>wpAny_pyIter_rangeiter st h
section
variable {X:Cx} {tg:Expr}
def rL(K:PySem.W.Frag)(tl:TE):TI:=fun σ H R=>tl σ H fun x H1=>∃a,x=.ref a∧(∃xs,aH K H1 a xs)∧R (ej K a) H1
def rN(K:PySem.W.Frag)(tl:TE):TI:=fun σ H R=>tl σ H fun x H1=>∃a,x=.ref a∧(∃xs,bE K H1 a xs)∧R (gA K a) H1
theorem iA{l:Expr}{tl:TE}(hl:PE X l tl):PI X tg l (rL X.K tl):=by
 intro pins s σ H R I h
 refine ar (hl pins s σ H _ I h) fun v s1 ⟨x,H1,I1,r1,q1⟩=>?_
 obtain ⟨a,e,⟨xs,hq⟩,q⟩:=q1
 subst e
 cases r1
 obtain ⟨aa,rv,p,hz⟩:=I1.list hq
 refine wpAny_pyIter_list p.isList ?_
 refine ⟨s1.heap.objs.size,[s1.heap.objs.size],_,_,H1,rfl,I1.kept (t':=s1.toks) fun b o e=>Heap.get?_push_of_some _ e,rH a _,⟨_,Heap.get?_push_size _ rfl,rfl,rfl⟩,fun b hb=>?_,q⟩
 have e:b=s1.heap.objs.size:=by simpa using hb
 subst e
 exact I1.iw (Nat.le_refl _) (I1.aj.fresh (Nat.le_refl _))
theorem mT{l:Expr}{tl:TE}(hl:PE X l tl):PI X tg l (rN X.K tl):=by
 intro pins s σ H R I h
 refine ar (hl pins s σ H _ I h) fun v s1 ⟨x,H1,I1,r1,q1⟩=>?_
 obtain ⟨a,e,⟨xs,hq⟩,q⟩:=q1
 subst e
 cases r1
 obtain ⟨aa,rv,p,hz⟩:=I1.tuple hq
 refine wpAny_pyIter_tuple (show s1.heap.IsTuple a aa.toArray from p) ?_
 refine ⟨s1.heap.objs.size,[s1.heap.objs.size],_,_,H1,rfl,I1.kept (t':=s1.toks) fun b o e=>Heap.get?_push_of_some _ e,rJ a _,⟨_,Heap.get?_push_size _ rfl,rfl,rfl⟩,fun b hb=>?_,q⟩
 have e:b=s1.heap.objs.size:=by simpa using hb
 subst e
 exact I1.iw (Nat.le_refl _) (I1.aj.fresh (Nat.le_refl _))
theorem mU{pins:List (Addr×Obj)}{σ:St}{H:Hp}{s:Shared}{R:It→Hp→Prop}{E:Value→Shared→Prop}{lo hi:Int}{t u v:Tok}{tk:Nat}(I:Inv X pins σ H s)(h1:-(2 ^ 62)≤lo)(h2:lo<2 ^ 62)(h3:-(2 ^ 62)≤hi)(h4:hi<2 ^ 62)
  (q:R (dr lo (hi-lo).toNat) H):wpAny (model X.prog X.w) X.A (pyIter (.ref s.heap.objs.size)) (jZ X pins σ tg R) E {s with heap:=s.heap.push {cls:=.type "range",data:=.fields #[.int lo t,.int hi u,.int 1 v]},toks:=tk}:=by
 refine wpAny_pyIter_range (IsRange.new ..) (small_one h1 h2 h3 h4) ?_
 have I1:Inv X pins σ H {s with heap:=s.heap.push {cls:=.type "range",data:=.fields #[.int lo t,.int hi u,.int 1 v]},toks:=tk}:=I.kept fun b o e=>Heap.get?_push_of_some _ e
 refine ⟨(s.heap.push {cls:=.type "range",data:=.fields #[.int lo t,.int hi u,.int 1 v]}).objs.size,[(s.heap.push {cls:=.type "range",data:=.fields #[.int lo t,.int hi u,.int 1 v]}).objs.size],_,_,H,rfl,
  I1.kept (t':=tk) fun b o e=>Heap.get?_push_of_some _ e,rK _ lo (hi-lo).toNat,?_,fun b hb=>?_,q⟩
 ·have e1:lo+((0:Nat):Int)*1=lo:=by simp
  have e2:(((hi-lo).toNat:Nat):Int)-((0:Nat):Int)=Builtin.Range.rangeSize lo hi 1:=by rw [rangeSize_one];split <;> omega
  show IsRangeIter _ _ (lo+((0:Nat):Int)*1) ((((hi-lo).toNat:Nat):Int)-((0:Nat):Int)) 1
  rw [e1,e2]
  exact Heap.get?_push_size _ rfl
 ·have e:b=(s.heap.push {cls:=.type "range",data:=.fields #[.int lo t,.int hi u,.int 1 v]}).objs.size:=by simpa using hb
  subst e
  exact I1.iw (Nat.le_refl _) (I1.aj.fresh (Nat.le_refl _))
def rO(ta:TA):TI:=fun σ H R=>ta σ H fun vs H1=>∃j:Int,vs=[.int j]∧-(2 ^ 62)≤j∧j<2 ^ 62∧R (dr 0 j.toNat) H1
def rQ(ta:TA):TI:=fun σ H R=>ta σ H fun vs H1=>∃i j:Int,vs=[.int i,.int j]∧(-(2 ^ 62)≤i∧i<2 ^ 62∧-(2 ^ 62)≤j∧j<2 ^ 62)∧R (dr i (j-i).toNat) H1
theorem dW{a:Expr}{ta:TA}{p pos:Pos}(hg:Gl X "range")(hm:X.mg "range" = none)(ha:PA X [a] ta)(hs:starEach [a] X.env=[(false,eval a X.env)]:=by rfl):PI X tg (.Call (.Name "range" p) [a] [] pos) (rO ta):=by
 intro pins s σ H R I h
 refine Call_ (gx I hg hm boot_range (PyProof.Rows.callWith_type1 (ar (ha pos pins s σ H _ I h) fun us s1 ⟨vs,H1,I1,r1,q1⟩=>?_) hs rfl))
 obtain ⟨j,e,q1,q2,q⟩:=q1
 subst e
 cases r1 with
 | cons r rr=>
  cases rr
  obtain ⟨t,rfl⟩:=r
  exact call_range_1 (mU I1 (by omega) (by omega) q1 q2 (by simpa using q))
theorem rR{a b:Expr}{ta:TA}{p pos:Pos}(hg:Gl X "range")(hm:X.mg "range" = none)(ha:PA X [a,b] ta)(hs:starEach [a,b] X.env=[(false,eval a X.env),(false,eval b X.env)]:=by rfl)(iB:starEach [b] X.env=[(false,eval b X.env)]:=by rfl) :
  PI X tg (.Call (.Name "range" p) [a,b] [] pos) (rQ ta):=by
 intro pins s σ H R I h
 refine Call_ (gx I hg hm boot_range (PyProof.Rows.callWith_type1 (ar (ha pos pins s σ H _ I h) fun us s1 ⟨vs,H1,I1,r1,q1⟩=>?_) (by rw [hs,iB]) (by rw [iB];rfl)))
 obtain ⟨i,j,e,⟨q1,q2,q3,q4⟩,q⟩:=q1
 subst e
 cases r1 with
 | cons r rr=>
  cases rr with
  | cons r' rr=>
   cases rr
   obtain ⟨t,rfl⟩:=r
   obtain ⟨t',rfl⟩:=r'
   exact call_range_2 (mU I1 q1 q2 q3 q4 q)
def rS(wi:TI)(g:TG)(tb:TS):TS:=fun D σ H=>wi σ H fun J H1=>∃W:Nat→Nat→St→Hp→Prop,(∃m,W 0 m σ H1)∧∀i m σ H,W i m σ H→
 (J.stop i H∧D.nx σ H)∨(J.go i H∧∃N:St→Hp→Prop,(∀σ' H',N σ' H'→∃m',m'<m∧W (i+1) m' σ' H')∧∀x H',J.bF i H x H'→g x σ H' fun σ2 H2=>tb {D with nx:=N,ct:=N,bk:=D.nx} σ2 H2)
def dX(fp:List Addr)(h:Heap):List (Addr×Obj):=fp.filterMap fun b=>(h.get? b).map fun o=>(b,o)
theorem ft{fp:List Addr}{h:Heap}{b:Addr}{o:Obj}(hb:b∈fp)(e:h.get? b=some o):(b,o)∈dX fp h:=List.mem_filterMap.mpr ⟨b,hb,by rw [e];rfl⟩
theorem rT{fp:List Addr}{h:Heap}{p:Addr×Obj}(hp:p∈dX fp h):p.1∈fp∧h.get? p.1=some p.2:=by
 obtain ⟨b,hb,e⟩:=List.mem_filterMap.mp hp
 cases q:h.get? b with
 | none=>rw [q] at e;cases e
 | some o=>
  rw [q] at e
  have e':(b,o)=p:=Option.some.inj e
  subst e'
  exact ⟨hb,q⟩
theorem Inv.pinned{pins:List (Addr×Obj)}{σ:St}{H:Hp}{s:Shared}{fp:List Addr}(I:Inv X pins σ H s)(hf:∀b∈fp,dU X pins H b)(ho:∀b∈fp,∃o,s.heap.get? b=some o∧∀v,o.data≠.cell v):Inv X (pins++dX fp s.heap) σ H s:=
 I.mz fun p hp=>(List.mem_append.mp hp).elim (fun z=>I.pin p (List.mem_append_right _ z)) fun z=>by
  obtain ⟨hb,e⟩:=rT z
  obtain ⟨f0,f1,f2,_⟩:=hf p.1 hb
  obtain ⟨o,e',d⟩:=ho p.1 hb
  rw [e] at e';cases e'
  exact ⟨e,f0,f1,f2,d⟩
theorem Inv.gB{pins pl:List (Addr×Obj)}{σ:St}{H:Hp}{s:Shared}(I:Inv X (pins++pl) σ H s):Inv X pins σ H s:=I.mz fun p hp=>I.pin p (List.mem_append_right _ (List.mem_append_left _ hp))
theorem cW{iter:Expr}{body:List Stmt}{wi:TI}{g:TG}{tb:TS}{pos:Pos}(hp:PassesOwn (model X.prog X.w) X.A X.env X.xe)(hc:X.calm=true)(hi:PI X tg iter wi)(hg:PG X tg g)(hb:bY X body tb)
  (hs:∀x,foldedSetIterable iter X.env x=pure x:=by intro _;rfl):PS X (.For tg iter body [] pos) (rS wi g tb):=by
 intro pins s σ H D I h
 refine wpAny_For (ar (hi pins s σ H _ I h) fun v s1 h1=>ar h1 fun iy s2 h2=>?_) hs
 obtain ⟨it,fp,tn,J,H2,e,I2,T,dt,f2,W,⟨m0,w0⟩,turn⟩:=h2
 subst e
 have cF:∀{H':Hp},(∀b∈fp,H' b=none)→∀b∈fp,dU X pins H' b:=fun hn b hb=>⟨hn b hb,(f2 b hb).2⟩
 refine codeAny_forLoop_any (fun n s'=>∃i σ' H',Inv X pins σ' H' s'∧tn i s'.heap∧(∀b∈fp,H' b=none)∧W i n σ' H') ?_ m0 ⟨0,σ,H2,I2,dt,fun b hb=>(f2 b hb).1,w0⟩
 rintro n s3 ⟨i,σ3,H3,I3,mV,mW,w3⟩
 rcases turn i n σ3 H3 w3 with ⟨stop,qn⟩ | ⟨go,N,hN,step⟩
 ·refine wpAny_passesOwn hp (ar (T.done X rfl rfl rfl hc i pins s3 σ3 H3 X.xe I3 (cF mW) mV stop) fun r s4 ⟨hr,I4⟩=>?_)
  subst hr
  exact wpAny_execs_nil ⟨σ3,H3,I4,qn⟩
 ·refine wpAny_passesOwn hp (ar (T.item X rfl rfl rfl hc i pins s3 σ3 H3 X.xe I3 (cF mW) mV go) fun r s4 ⟨u,hr,h4⟩=>?_)
  subst hr
  refine wpAny_passesOwn hp (ar h4 fun _ s5 ⟨x,H5,I5,r5,y5,cG,gC⟩=>?_)
  have gD:=I5.pinned (cF gC) (T.obj _ _ cG)
  refine wpAny_passesOwn hp (ar (hg _ s5 σ3 H5 x u _ gD r5 (step x H5 y5)) fun _ s6 ⟨σ6,H6,I6,q6⟩=>?_)
  refine wpAny_passesOwn hp (ar (hb _ s6 σ6 H6 _ I6 q6) fun f s7 q7=>?_)
  have again:∀{σ7:St} {H7:Hp},Inv X (pins++dX fp s5.heap) σ7 H7 s7→N σ7 H7→∃m,m<n∧∃i σ' H',Inv X pins σ' H' s7∧tn i s7.heap∧(∀b∈fp,H' b=none)∧W i m σ' H':=fun{σ7 H7} I7 n7=>by
   obtain ⟨m',hm,w7⟩:=hN σ7 H7 n7
   refine ⟨m',hm,i+1,σ7,H7,I7.gB,T.keep _ _ _ cG fun b hb o e=>(I7.pin (b,o) (List.mem_append_right _ (List.mem_append_right _ (ft hb e)))).1,fun b hb=>?_,w7⟩
   obtain ⟨o,e,d⟩:=T.obj _ _ cG b hb
   exact (I7.pin (b,o) (List.mem_append_right _ (List.mem_append_right _ (ft hb e)))).2.1
  cases f with
  | next=>obtain ⟨σ7,H7,I7,n7⟩:=q7;exact again I7 n7
  | cont=>obtain ⟨σ7,H7,I7,n7⟩:=q7;exact again I7 n7
  | brk=>obtain ⟨σ7,H7,I7,q7⟩:=q7;exact ⟨σ7,H7,I7.gB,q7⟩
  | ret v=>obtain ⟨x7,σ7,H7,I7,r7,q7⟩:=q7;exact ⟨x7,σ7,H7,I7.gB,r7,q7⟩
end
theorem mX{K:PySem.W.Frag}{a:Addr}{xs:List V}{g:TG}{tb:TS}{D:Ends}{σ:St}{H:Hp}(Pv:Nat→St→Hp→Prop)(h0:Pv 0 σ H)(hl:∀i σ H,i≤xs.length→Pv i σ H→aH K H a xs)
  (hs:∀i x σ H,xs[i]?=some x→Pv i σ H→g x σ H fun σ2 H2=>tb {D with nx:=Pv (i+1),ct:=Pv (i+1),bk:=D.nx} σ2 H2) (hd:∀σ H,Pv xs.length σ H→D.nx σ H) :
  ∃W:Nat→Nat→St→Hp→Prop,(∃m,W 0 m σ H)∧∀i m σ H,W i m σ H→
   ((ej K a).stop i H∧D.nx σ H)∨((ej K a).go i H∧∃N:St→Hp→Prop,(∀σ' H',N σ' H'→∃m',m'<m∧W (i+1) m' σ' H')∧∀x H',(ej K a).bF i H x H'→g x σ H' fun σ2 H2=>tb {D with nx:=N,ct:=N,bk:=D.nx} σ2 H2):=by
 refine ⟨fun i m σ H=>m=xs.length-i∧i≤xs.length∧Pv i σ H,⟨xs.length,by simp,Nat.zero_le _,h0⟩,?_⟩
 rintro i m σ H ⟨rfl,hi,p⟩
 have q:=hl i σ H hi p
 by_cases aE:i<xs.length
 ·refine .inr ⟨⟨xs,xs[i],q,by simp [aE]⟩,Pv (i+1),fun σ' H' p'=>⟨xs.length-(i+1),by omega,rfl,aE,p'⟩,fun x H' y=>?_⟩
  obtain ⟨e,y⟩:=y
  subst e
  exact hs i x σ _ (y xs q) p
 ·have e:i=xs.length:=by omega
  subst e
  exact .inl ⟨⟨xs,q,Nat.le_refl _⟩,hd σ H p⟩
theorem mY{K:PySem.W.Frag}{a:Addr}{xs:List V}{g:TG}{tb:TS}{D:Ends}{σ:St}{H:Hp}(Pv:Nat→St→Hp→Prop)(h0:Pv 0 σ H)(hl:∀i σ H,i≤xs.length→Pv i σ H→bE K H a xs)
  (hs:∀i x σ H,xs[i]?=some x→Pv i σ H→g x σ H fun σ2 H2=>tb {D with nx:=Pv (i+1),ct:=Pv (i+1),bk:=D.nx} σ2 H2) (hd:∀σ H,Pv xs.length σ H→D.nx σ H) :
  ∃W:Nat→Nat→St→Hp→Prop,(∃m,W 0 m σ H)∧∀i m σ H,W i m σ H→
   ((gA K a).stop i H∧D.nx σ H)∨((gA K a).go i H∧∃N:St→Hp→Prop,(∀σ' H',N σ' H'→∃m',m'<m∧W (i+1) m' σ' H')∧∀x H',(gA K a).bF i H x H'→g x σ H' fun σ2 H2=>tb {D with nx:=N,ct:=N,bk:=D.nx} σ2 H2):=by
 refine ⟨fun i m σ H=>m=xs.length-i∧i≤xs.length∧Pv i σ H,⟨xs.length,by simp,Nat.zero_le _,h0⟩,?_⟩
 rintro i m σ H ⟨rfl,hi,p⟩
 have q:=hl i σ H hi p
 by_cases aE:i<xs.length
 ·refine .inr ⟨⟨xs,xs[i],q,by simp [aE]⟩,Pv (i+1),fun σ' H' p'=>⟨xs.length-(i+1),by omega,rfl,aE,p'⟩,fun x H' y=>?_⟩
  obtain ⟨e,y⟩:=y
  subst e
  exact hs i x σ _ (y xs q) p
 ·have e:i=xs.length:=by omega
  subst e
  exact .inl ⟨⟨xs,q,Nat.le_refl _⟩,hd σ H p⟩
theorem gE{lo:Int}{n:Nat}{g:TG}{tb:TS}{D:Ends}{σ:St}{H:Hp}(Pv:Nat→St→Hp→Prop)(h0:Pv 0 σ H)
  (hs:∀i σ H,i<n→Pv i σ H→g (.int (lo+i)) σ H fun σ2 H2=>tb {D with nx:=Pv (i+1),ct:=Pv (i+1),bk:=D.nx} σ2 H2) (hd:∀σ H,Pv n σ H→D.nx σ H) :
  ∃W:Nat→Nat→St→Hp→Prop,(∃m,W 0 m σ H)∧∀i m σ H,W i m σ H→
   ((dr lo n).stop i H∧D.nx σ H)∨((dr lo n).go i H∧∃N:St→Hp→Prop,(∀σ' H',N σ' H'→∃m',m'<m∧W (i+1) m' σ' H')∧∀x H',(dr lo n).bF i H x H'→g x σ H' fun σ2 H2=>tb {D with nx:=N,ct:=N,bk:=D.nx} σ2 H2):=by
 refine ⟨fun i m σ H=>m=n-i∧i≤n∧Pv i σ H,⟨n,by simp,Nat.zero_le _,h0⟩,?_⟩
 rintro i m σ H ⟨rfl,hi,p⟩
 by_cases aE:i<n
 ·refine .inr ⟨aE,Pv (i+1),fun σ' H' p'=>⟨n-(i+1),by omega,rfl,aE,p'⟩,fun x H' y=>?_⟩
  obtain ⟨e,y⟩:=y
  subst e y
  exact hs i σ _ aE p
 ·have e:i=n:=by omega
  subst e
  exact .inl ⟨Nat.le_refl _,hd σ H p⟩
abbrev R2:=V→V→Hp→VK→Prop
def aZ(X:Cx)(f:Value→Value→Sem Value)(r:R2):Prop:=
 ∀(pins:List (Addr×Obj)) (s:Shared) (σ:St) (H:Hp) (x y:V) (v u:Value) (Q:VK),Inv X pins σ H s→RelV x v→RelV y u→r x y H Q→
  wpAny (model X.prog X.w) X.A (f v u) (EP X pins σ Q) X.xe s
def cH(X:Cx)(f:Value)(r:List V→Hp→VK→Prop):Prop:=
 ∀(pins:List (Addr×Obj)) (s:Shared) (σ:St) (H:Hp) (xs:List V) (us:List Value) (Q:VK),Inv X pins σ H s→Vals xs us→r xs H Q→
  wpAny (model X.prog X.w) X.A (call f us) (EP X pins σ Q) X.xe s
def iC(r:R2)(ta tb:TE):TE:=fun σ H Q=>ta σ H fun x H1=>tb σ H1 fun y H2=>r x y H2 Q
def rI(C:Int→Int→Prop)(g:Int→Int→V):R2:=fun x y H Q=>∃i j,x=.int i∧y=.int j∧C i j∧Q (g i j) H
def dY(g:Int→Int→V):R2:=fun x y H Q=>∃i j,x=.int i∧y=.int j∧Q (g i j) H
section
variable {X:Cx} {a b c:Expr} {ta tb tc:TE} {pos:Pos}
theorem j4(ha:PE X a ta)(hb:PE X b tb){pins:List (Addr×Obj)}{s:Shared}{σ:St}{H:Hp}{R:V→V→Hp→Prop}(I:Inv X pins σ H s)
  (h:ta σ H fun x H1=>tb σ H1 fun y H2=>R x y H2) {Q:Value→Shared→Prop} {f:Value→Value→Sem Value}
  (hf:∀v u s2 x y H2,Inv X pins σ H2 s2→RelV x v→RelV y u→R x y H2→wpAny (model X.prog X.w) X.A (f v u) Q X.xe s2) :
  wpAny (model X.prog X.w) X.A (eval a X.env) (fun v s₁=>wpAny (model X.prog X.w) X.A (eval b X.env) (fun u s₂=>wpAny (model X.prog X.w) X.A (f v u) Q X.xe s₂) X.xe s₁) X.xe s:=by
 refine ar (ha pins s σ H _ I h) fun v s1 ⟨x,H1,I1,r1,q1⟩=>?_
 refine ar (hb pins s1 σ H1 _ I1 q1) fun u s2 ⟨y,H2,I2,r2,q2⟩=>?_
 exact hf v u s2 x y H2 I2 r1 r2 q2
theorem aA{op:Operator}{r:R2}(ho:aZ X (binaryOp op) r)(ha:PE X a ta)(hb:PE X b tb):PE X (.BinOp a op b pos) (iC r ta tb):=by
 intro pins s σ H Q I h
 exact wpAny_BinOp (j4 ha hb I h fun v u s2 x y H2 I2 rx ry q=>ho pins s2 σ H2 x y v u Q I2 rx ry q)
theorem iD{f:Value→Value→Sem Value}{C:Int→Int→Prop}{g:Int→Int→Int}
  (rule:∀(i j:Int) (t u:Tok) (s:Shared) (Q:Value→Shared→Prop) (E:Value→Shared→Prop),C i j→Q (.int (g i j) s.toks) {s with toks:=s.toks+1}→wpAny (model X.prog X.w) X.A (f (.int i t) (.int j u)) Q E s) :
  aZ X f (rI C fun i j=>.int (g i j)):=by
 intro pins s σ H x y v u Q I rx ry h
 obtain ⟨i,j,rfl,rfl,hc,q⟩:=h
 obtain ⟨t,rfl⟩:=rx
 obtain ⟨t',rfl⟩:=ry
 exact rule i j t t' s _ _ hc ⟨.int (g i j),H,I.tok _,⟨_,rfl⟩,q⟩
theorem mZ{f:Value→Value→Sem Value}{g:Int→Int→Int}
  (rule:∀(i j:Int) (t u:Tok) (s:Shared) (Q:Value→Shared→Prop) (E:Value→Shared→Prop),Q (.int (g i j) s.toks) {s with toks:=s.toks+1}→wpAny (model X.prog X.w) X.A (f (.int i t) (.int j u)) Q E s) :
  aZ X f (dY fun i j=>.int (g i j)):=by
 intro pins s σ H x y v u Q I rx ry h
 obtain ⟨i,j,rfl,rfl,q⟩:=h
 obtain ⟨t,rfl⟩:=rx
 obtain ⟨t',rfl⟩:=ry
 exact rule i j t t' s _ _ ⟨.int (g i j),H,I.tok _,⟨_,rfl⟩,q⟩
theorem iE{f:Value→Value→Sem Value}{g:Int→Int→Bool}
  (rule:∀(i j:Int) (t u:Tok) (s:Shared) (Q:Value→Shared→Prop) (E:Value→Shared→Prop),Q (.bool (g i j)) s→wpAny (model X.prog X.w) X.A (f (.int i t) (.int j u)) Q E s) :
  aZ X f (dY fun i j=>.bl (g i j)):=by
 intro pins s σ H x y v u Q I rx ry h
 obtain ⟨i,j,rfl,rfl,q⟩:=h
 obtain ⟨t,rfl⟩:=rx
 obtain ⟨t',rfl⟩:=ry
 exact rule i j t t' s _ _ ⟨.bl (g i j),H,I,rfl,q⟩
def rU(i j:Int):Prop:=0≤j∧j≤1000000∧i.natAbs<2 ^ 64
def j6(i j:Int):Prop:=(-(2 ^ 64)<i∧i<2 ^ 64)∨(-(2 ^ 64)<j∧j<2 ^ 64)
theorem j6.ok{i j:Int}(h:j6 i j):IntMulOk i j:=by
 rcases h with ⟨h1,h2⟩ | ⟨h1,h2⟩
 ·exact .of_left (intBits_le_64 h1 h2)
 ·exact .of_right (intBits_le_64 h1 h2)
theorem b7:aZ X (binaryOp .Add) (dY fun i j=>.int (i+j)):=mZ fun _ _ _ _ _ _ _ q=>add_int q
theorem iF:aZ X (binaryOp .Sub) (dY fun i j=>.int (i-j)):=mZ fun _ _ _ _ _ _ _ q=>sub_int q
theorem b8:aZ X (binaryOp .Mult) (rI j6 fun i j=>.int (i*j)):=iD fun _ _ _ _ _ _ _ hc q=>mul_int q hc.ok
theorem en:aZ X (binaryOp .Mod) (rI (fun _ j=>0<j) fun i j=>.int (i % j)):=iD fun i j _ _ _ _ _ hc q=>by
 have h1:(0:Int)<j:=hc
 exact mod_int' (by omega) (by rw [Int.fmod_eq_emod_of_nonneg i (by omega)];exact q)
theorem rV:aZ X (binaryOp .Pow) (rI rU fun i j=>.int (i ^ j.toNat)):=iD fun _ _ _ _ _ _ _ hc q=>pow_int_small hc.1 hc.2.1 hc.2.2 q
end
def m4:V→V→Bool
 | .av,.av=>true | .av,.int _=>true | .int _,.av=>true | .av,.bl _=>true | .bl _,.av=>true | .av,.str _=>true | .str _,.av=>true
 | .int _,.int _=>true | .bl _,.bl _=>true | .str _,.str _=>true | .cC _,.cC _=>true
 | .int _,.str _=>true | .str _,.int _=>true | .bl _,.str _=>true | .str _,.bl _=>true
 | _,_=>false
def rW:R2:=fun x y H Q=>m4 x y=true∧Q (.bl (decide (x=y))) H
def rX:R2:=fun x y H Q=>m4 x y=true∧Q (.bl (!decide (x=y))) H
theorem m5{i j:Int}:decide (V.int i=V.int j)=(i == j):=by
 rw [Bool.eq_iff_iff]
 simp
theorem m6{i j:Bool}:decide (V.bl i=V.bl j)=(i == j):=by
 rw [Bool.eq_iff_iff]
 simp
theorem m7{i j:Str}:decide (V.str i=V.str j)=(i == j):=by
 rw [Bool.eq_iff_iff]
 simp
theorem m8{i j:Array UInt8}:decide (V.cC i=V.cC j)=(i.toList == j.toList):=by
 rw [Bool.eq_iff_iff]
 cases i
 cases j
 simp
section
variable {X:Cx} {a b c:Expr} {ta tb tc:TE} {pos:Pos}
theorem aM{pins:List (Addr×Obj)}{σ:St}{H:Hp}{s:Shared}{Q:VK}{k k':Bool}(I:Inv X pins σ H s)(q:Q (.bl k) H)(e:k=k'):EP X pins σ Q (.bool k') s:=by
 subst e
 exact ⟨.bl k,H,I,rfl,q⟩
theorem b9:aZ X (compareOp .Eq) rW:=by
 intro pins s σ H x y v u Q I rx ry h
 obtain ⟨hs,q⟩:=h
 cases x with
 | av=>
  cases rx
  cases y with
  | av=>cases ry;exact PySem.EqNone.eq_none_none (aM I q (by simp))
  | bl j=>cases ry;exact PySem.EqNone.eq_none_bool (aM I q (by simp))
  | int j=>obtain ⟨t',rfl⟩:=ry;exact PySem.EqNone.eq_none_int (aM I q (by simp))
  | str j=>obtain ⟨t',rfl⟩:=ry;exact PySem.EqNone.eq_none_str (aM I q (by simp))
  | _=>exact absurd (show false=true from hs) Bool.false_ne_true
 | bl i=>
  cases rx
  cases y with
  | av=>cases ry;exact PySem.EqNone.eq_bool_none (aM I q (by simp))
  | bl j=>cases ry;exact eq_bool (aM I q m6)
  | str j=>obtain ⟨t',rfl⟩:=ry;exact PySem.EqMixed.eq_bool_str (aM I q (by simp))
  | _=>exact absurd (show false=true from hs) Bool.false_ne_true
 | int i=>
  obtain ⟨t,rfl⟩:=rx
  cases y with
  | av=>cases ry;exact PySem.EqNone.eq_int_none (aM I q (by simp))
  | int j=>obtain ⟨t',rfl⟩:=ry;exact eq_int (aM I q m5)
  | str j=>obtain ⟨t',rfl⟩:=ry;exact PySem.EqMixed.eq_int_str (aM I q (by simp))
  | _=>exact absurd (show false=true from hs) Bool.false_ne_true
 | str i=>
  obtain ⟨t,rfl⟩:=rx
  cases y with
  | av=>cases ry;exact PySem.EqNone.eq_str_none (aM I q (by simp))
  | bl j=>cases ry;exact PySem.EqMixed.eq_str_bool (aM I q (by simp))
  | int j=>obtain ⟨t',rfl⟩:=ry;exact PySem.EqMixed.eq_str_int (aM I q (by simp))
  | str j=>obtain ⟨t',rfl⟩:=ry;exact eq_str (aM I q m7)
  | _=>exact absurd (show false=true from hs) Bool.false_ne_true
 | cC i=>
  obtain ⟨t,rfl⟩:=rx
  cases y with
  | cC j=>obtain ⟨t',rfl⟩:=ry;exact PySem.W.eq_bytes (aM I q m8)
  | _=>exact absurd (show false=true from hs) Bool.false_ne_true
 | _=>cases y <;> exact absurd (show false=true from hs) Bool.false_ne_true
theorem gF:aZ X (compareOp .NotEq) rX:=by
 intro pins s σ H x y v u Q I rx ry h
 obtain ⟨hs,q⟩:=h
 cases x with
 | av=>
  cases rx
  cases y with
  | av=>cases ry;exact PySem.EqNone.ne_none_none (aM I q (by simp))
  | bl j=>cases ry;exact PySem.EqNone.ne_none_bool (aM I q (by simp))
  | int j=>obtain ⟨t',rfl⟩:=ry;exact PySem.EqNone.ne_none_int (aM I q (by simp))
  | str j=>obtain ⟨t',rfl⟩:=ry;exact PySem.EqNone.ne_none_str (aM I q (by simp))
  | _=>exact absurd (show false=true from hs) Bool.false_ne_true
 | bl i=>
  cases rx
  cases y with
  | av=>cases ry;exact PySem.EqNone.ne_bool_none (aM I q (by simp))
  | bl j=>cases ry;exact ne_bool (aM I q (congrArg not m6))
  | str j=>obtain ⟨t',rfl⟩:=ry;exact PySem.EqMixed.ne_bool_str (aM I q (by simp))
  | _=>exact absurd (show false=true from hs) Bool.false_ne_true
 | int i=>
  obtain ⟨t,rfl⟩:=rx
  cases y with
  | av=>cases ry;exact PySem.EqNone.ne_int_none (aM I q (by simp))
  | int j=>obtain ⟨t',rfl⟩:=ry;exact ne_int (aM I q (congrArg not m5))
  | str j=>obtain ⟨t',rfl⟩:=ry;exact PySem.EqMixed.ne_int_str (aM I q (by simp))
  | _=>exact absurd (show false=true from hs) Bool.false_ne_true
 | str i=>
  obtain ⟨t,rfl⟩:=rx
  cases y with
  | av=>cases ry;exact PySem.EqNone.ne_str_none (aM I q (by simp))
  | bl j=>cases ry;exact PySem.EqMixed.ne_str_bool (aM I q (by simp))
  | int j=>obtain ⟨t',rfl⟩:=ry;exact PySem.EqMixed.ne_str_int (aM I q (by simp))
  | str j=>obtain ⟨t',rfl⟩:=ry;exact ne_str (aM I q (congrArg not m7))
  | _=>exact absurd (show false=true from hs) Bool.false_ne_true
 | cC i=>
  obtain ⟨t,rfl⟩:=rx
  cases y with
  | cC j=>obtain ⟨t',rfl⟩:=ry;exact PySem.W.ne_bytes (aM I q (congrArg not m8))
  | _=>exact absurd (show false=true from hs) Bool.false_ne_true
 | _=>cases y <;> exact absurd (show false=true from hs) Bool.false_ne_true
theorem m9:aZ X (compareOp .Lt) (dY fun i j=>.bl (decide (i<j))):=iE fun _ _ _ _ _ _ _ q=>lt_int q
theorem rY:aZ X (compareOp .LtE) (dY fun i j=>.bl (decide (i≤j))):=iE fun _ _ _ _ _ _ _ q=>le_int q
theorem gG:aZ X (compareOp .Gt) (dY fun i j=>.bl (decide (j<i))):=iE fun _ _ _ _ _ _ _ q=>gt_int q
theorem rZ:aZ X (compareOp .GtE) (dY fun i j=>.bl (decide (j≤i))):=iE fun _ _ _ _ _ _ _ q=>ge_int q
theorem aR(b:Expr){op:CmpOp}(h:op≠.In:=by decide)(h2:op≠.NotIn:=by decide):behindInMarks op b=false:=by
 have e1:(op == CmpOp.In)=false:=by cases op <;> first | rfl | exact absurd rfl h
 have e2:(op == CmpOp.NotIn)=false:=by cases op <;> first | rfl | exact absurd rfl h2
 cases b <;> simp [behindInMarks,e1,e2]
theorem fu{op:CmpOp}{r:R2}(ho:aZ X (compareOp op) r)(ha:PE X a ta)(hb:PE X b tb)(hm:behindInMarks op b=false):PE X (.Compare a [op] [b] pos) (iC r ta tb):=by
 intro pins s σ H Q I h
 exact wpAny_Compare1 (j4 ha hb I h fun v u s2 x y H2 I2 rx ry q=>ho pins s2 σ H2 x y v u Q I2 rx ry q) hm
def r6(t:TE):TT:=fun σ H Q=>t σ H fun x H'=>∃k,x=.bl k∧Q k H'
theorem aS{op:CmpOp}{r:R2}(ho:aZ X (compareOp op) r)(ha:PE X a ta)(hb:PE X b tb)(hm:behindInMarks op b=false):PT X (.Compare a [op] [b] pos) (r6 (iC r ta tb)):=by
 intro pins s σ H Q I h
 refine wpAny_isTrue_Compare1 (ar (ha pins s σ H _ I h) fun v s1 ⟨x,H1,I1,r1,q1⟩=>ar (hb pins s1 σ H1 _ I1 q1) fun u s2 ⟨y,H2,I2,r2,q2⟩=>
  ar (ho pins s2 σ H2 x y v u _ I2 r1 r2 q2) fun c s3 ⟨z,H3,I3,r3,k,e,q3⟩=>?_) hm
 subst e
 cases r3
 exact wpAny_truthy_bool ⟨H3,I3,q3⟩
theorem iG:(sizeLine:Nat)<2 ^ 63:=by rw [sizeLine_eq];decide
theorem vals1{x:V}{us:List Value}(r:Vals [x] us):∃u,us=[u]∧RelV x u:=by
 cases r with
 | cons r1 r2=>cases r2;exact ⟨_,rfl,r1⟩
theorem vals2{x y:V}{us:List Value}(r:Vals [x,y] us):∃u w',us=[u,w']∧RelV x u∧RelV y w':=by
 cases r with
 | cons r1 r2=>
  cases r2 with
  | cons r3 r4=>cases r4;exact ⟨_,_,rfl,r1,r3⟩
theorem r_(hc:X.calm=true):cH X (.builtin "max") (fun xs H Q=>∃i j,xs=[.int i,.int j]∧Q (.int (if j>i then j else i)) H):=by
 intro pins s σ H xs us Q I r h
 obtain ⟨i,j,rfl,q⟩:=h
 obtain ⟨u,w',rfl,⟨t,rfl⟩,⟨t',rfl⟩⟩:=vals2 r
 refine max_two_ints (I.ok.hd hc) fun h' tk k=>⟨_,H,I.kept k,?_,q⟩
 by_cases hj:j>i
 ·rw [if_pos hj,if_pos hj];exact ⟨_,rfl⟩
 ·rw [if_neg hj,if_neg hj];exact ⟨_,rfl⟩
theorem si(hc:X.calm=true):cH X (.builtin "min") (fun xs H Q=>∃i j,xs=[.int i,.int j]∧Q (.int (if j<i then j else i)) H):=by
 intro pins s σ H xs us Q I r h
 obtain ⟨i,j,rfl,q⟩:=h
 obtain ⟨u,w',rfl,⟨t,rfl⟩,⟨t',rfl⟩⟩:=vals2 r
 refine min_two_ints (I.ok.hd hc) fun h' tk k=>⟨_,H,I.kept k,?_,q⟩
 by_cases hj:j<i
 ·rw [if_pos hj,if_pos hj];exact ⟨_,rfl⟩
 ·rw [if_neg hj,if_neg hj];exact ⟨_,rfl⟩
end
structure j7 (h:Heap) (x dx C:Addr) (mA:Str→Option Value):Prop where
 obj:h.get? x=some (PySem.W.instObj C dx)
 ns:h.Ns1 dx mA
 ne:dx≠x
theorem sj{h:Heap}{dx:Addr}{mA:Str→Option Value}(n:h.Ns1 dx mA):∃od,h.get? dx=some od∧∀name,PySem.W.lookIn name od=some (mA name):=by
 obtain ⟨o,es,ep,ho,hd,hk,_,hm⟩:=n
 refine ⟨o,ho,fun name=>?_⟩
 have e:=hm name
 unfold nsFind findBy at e
 rw [←Array.find?_toList] at e
 unfold PySem.W.lookIn
 rw [hd]
 dsimp only
 split
 ·rename_i y q
  rw [q] at e
  exact congrArg some e
 ·rename_i q
  rw [q] at e
  have a:es.toList.any (·.refKey)=false:=by
   rw [List.any_eq_false]
   intro y hy
   obtain ⟨z,t,sk⟩:=hk y (Array.mem_toList_iff.mp hy)
   simp [DictEntry.refKey,sk]
  have a':¬es.toList.any (·.refKey)=true:=by rw [a];exact Bool.false_ne_true
  rw [if_neg a']
  exact congrArg some e
theorem j7.look{h:Heap}{x dx C:Addr}{mA:Str→Option Value}(I:j7 h x dx C mA):∃od,PySem.W.InstAt h x (PySem.W.instObj C dx) C (some od)∧∀name,PySem.W.lookIn name od=some (mA name):=
 let ⟨od,ho,hl⟩:=sj I.ns
 ⟨od,⟨I.obj,rfl,rfl,ho⟩,hl⟩
section
variable {prog:Program} {w:World} {A:Around} {E:Value→Shared→Prop} {s:Shared} {K:PySem.W.Frag} {x dx C f:Addr} {mA:Str→Option Value} {name:Str} {v:Value}
end
section
variable {P:Program} {w:World} {H H':Hp} {h h':Heap} {a C dx:Addr} {fs jL:List (Str×V)}
theorem so(aj:aK P w H h)(e:H a=some (.ins C dx fs)):∃mA,j7 h a dx C mA∧(∀f,d8 (fs.lookup f) (mA f))∧PySem.Within mA (fs.map (·.1))∧fs.length≤1000∧H dx=some (.own a):=by
 obtain ⟨d,z,ne,ob,mA,n,r,q⟩:=(show aI P w H h a (.ins C dx fs) from aj a _ e)
 exact ⟨mA,⟨ob,n,ne⟩,r,q,z,d⟩
end
structure j8 (K:PySem.W.Frag) (C:Addr):Prop where
 pg:PySem.W.plainGet K C Str.empty=true
 hd:PySem.W.hasDictIn K C=true
 po:PySem.W.plainOver K C=true
 sa:PySem.W.findIn K (.ref C) "__setattr__" = some (some (.builtin "object.__setattr__"))
theorem j8.get{K:PySem.W.Frag}{C:Addr}(c:j8 K C)(f:Str):PySem.W.plainGet K C f=true:=c.pg
section
variable {X:Cx} {pins:List (Addr×Obj)} {σ:St} {H:Hp} {s:Shared} {a C dx:Addr} {fs:List (Str×V)} {f:Str} {v:V} {A:Around} {E:Value→Shared→Prop}
end
section
variable {X:Cx} {o e value:Expr} {f:Str} {pos pos' m_:Pos} {ta tv:TE}
end
section
variable {X:Cx} {pins:List (Addr×Obj)} {σ:St} {H:Hp} {s:Shared} {A:Around} {E:Value→Shared→Prop} {Q:Value→Shared→Prop} {c:Value} {b:Bool}
inductive b_ (K:PySem.W.Frag) (H:Hp):V→Value→Prop where
 | av:b_ K H .av (.type "NoneType")
 | bl (x:Bool):b_ K H (.bl x) (.type "bool")
 | int (i:Int):b_ K H (.int i) (.type "int")
 | str (x:Str):b_ K H (.str x) (.type "str")
 | fj (x:UInt64):b_ K H (.fj x) (.type "float")
 | lst {a:Addr} {xs:List V} (e:H a=some (.lst xs)):b_ K H (.ref a) (.type "list")
 | aB {a:Addr} {o:Obj} {xs:List V} (e:H a=some (.aB o (.lst xs))):b_ K H (.ref a) (.type "list")
 | tup {a:Addr} {xs:List V} (e:H a=some (.tup xs)):b_ K H (.ref a) (.type "tuple")
 | dK {a:Addr} {kvs:List (Key×V)} (e:H a=some (.dK kvs)):b_ K H (.ref a) (.type "dict")
 | dT {a:Addr} {kvs:List (List Key×V)} (e:H a=some (.dT kvs)):b_ K H (.ref a) (.type "dict")
 | ins {a C dx:Addr} {fs:List (Str×V)} (e:H a=some (.ins C dx fs)) (cl:j8 K C) (ha:PySem.W.findIn K (.ref C) "__class__" = some (some (.builtin "object.__class__")))
   (hn:PySem.W.specialIn K (.builtin "object.__class__") "__get__" = some (some (.builtin "getset_descriptor.__get__"))) (ng:PySem.W.takesIn K (.builtin "object.__class__")=some true)
   (hm:PySem.W.mroIn K C (.type "object")=some true):b_ K H (.ref a) (.ref C)
theorem sq{x:V}{u t:Value}(I:Inv X pins σ H s)(rx:RelV x u)(ty:b_ X.K H x t)(e:PySem.W.kitOne X.K t c=some b)(h:∀tk,Q (.bool b) {s with toks:=tk}) :
  wpAny (model X.prog X.w) A (call (.builtin "isinstance") [u,c]) Q E s:=by
 cases ty with
 | av=>cases (show u=Value.none from rx);exact PySem.W.kia_one PySem.W.kitx_none I.bq True.intro e (fun z=>nomatch z) h
 | bl y=>cases (show u=Value.bool y from rx);exact PySem.W.kia_one PySem.W.kitx_bool I.bq True.intro e (fun z=>nomatch z) h
 | int i=>obtain ⟨t,q⟩:=(show ∃t,u=Value.int i t from rx);cases q;exact PySem.W.kia_one PySem.W.kitx_int I.bq True.intro e (fun z=>nomatch z) h
 | str y=>obtain ⟨t,q⟩:=(show ∃t,u=Value.str y t from rx);cases q;exact PySem.W.kia_one PySem.W.kitx_str I.bq True.intro e (fun z=>nomatch z) h
 | fj y=>obtain ⟨t,q⟩:=(show ∃t,u=Value.float y t from rx);cases q;exact PySem.W.kia_one PySem.W.kitx_float I.bq True.intro e (fun z=>nomatch z) h
 | @lst a xs ea=>
  cases (show u=Value.ref a from rx)
  obtain ⟨_,_,n,_,h1⟩:=(show aI X.prog X.w H s.heap a (.lst xs) from I.aj a _ ea)
  exact PySem.W.kia_one PySem.W.kitx_list I.bq ⟨_,h1,rfl⟩ e (fun z=>nomatch z) h
 | @aB a ob xs ea=>
  cases (show u=Value.ref a from rx)
  obtain ⟨_,_,_,n,_,h1⟩:=(show aI X.prog X.w H s.heap a (.aB ob (.lst xs)) from I.aj a _ ea)
  exact PySem.W.kia_one PySem.W.kitx_list I.bq ⟨_,h1,rfl⟩ e (fun z=>nomatch z) h
 | @tup a xs ea=>
  cases (show u=Value.ref a from rx)
  obtain ⟨_,_,_,p⟩:=(show aI X.prog X.w H s.heap a (.tup xs) from I.aj a _ ea)
  obtain ⟨o,h1,h2,_⟩:=p
  exact PySem.W.kia_one PySem.W.kitx_tuple I.bq ⟨o,h1,h2⟩ e (fun z=>nomatch z) h
 | @dK a kvs ea=>
  cases (show u=Value.ref a from rx)
  obtain ⟨_,_,vs,_,p⟩:=(show aI X.prog X.w H s.heap a (.dK kvs) from I.aj a _ ea)
  obtain ⟨o,es,ep,h1,h2,_⟩:=p
  exact PySem.W.kia_one PySem.W.kitx_dict I.bq ⟨o,h1,h2.1⟩ e (fun z=>nomatch z) h
 | @dT a kvs ea=>
  cases (show u=Value.ref a from rx)
  obtain ⟨_,_,xs,_,o,es,ep,h1,h2,_⟩:=(show aI X.prog X.w H s.heap a (.dT kvs) from I.aj a _ ea)
  exact PySem.W.kia_one PySem.W.kitx_dict I.bq ⟨o,h1,h2.1⟩ e (fun z=>nomatch z) h
 | @ins a C dx fs ea cl ha hn ng hm=>
  cases (show u=Value.ref a from rx)
  obtain ⟨mA,O,_⟩:=so I.aj ea
  obtain ⟨od,J,_⟩:=O.look
  exact PySem.W.kia_one (PySem.W.kitx_own (cl.get _) cl.hd ha hn ng hm) I.bq J e (fun z=>nomatch z) h
end
structure bg (k:Nat) (A:Around):Prop where
 hd:A.handled=none
 dp:A.depth+3*k+5<recursionLimit
 un:A.units+16*k+200<cLine
theorem bg.mono{j k:Nat}{A:Around}(r:bg k A)(h:j≤k):bg j A:=⟨r.hd,by have:=r.dp;omega,by have:=r.un;omega⟩
theorem bg.deeper{k:Nat}{A:Around}(r:bg (k+1) A)(env:Env):bg k (A.deeper env):=
 ⟨r.hd,by have:=r.dp;show A.depth+1+3*k+5<_;omega,by have:=r.un;show A.units+3+16*k+200<_;omega⟩
theorem bg.depth{k:Nat}{A:Around}(r:bg k A):A.depth<recursionLimit:=by have:=r.dp;omega
theorem bg.units{k:Nat}{A:Around}(r:bg k A):A.units+64<cLine:=by have:=r.un;omega
theorem bg.sr{k:Nat}{A:Around}(r:bg k A):A.units<cLine:=by have:=r.un;omega
def nh:TA:=fun _ H Q=>Q [] H
def j9(ta:TE)(tr:TA):TA:=fun σ H Q=>ta σ H fun x H1=>tr σ H1 fun xs H2=>Q (x::xs) H2
section
variable {X:Cx} {e:Expr} {es:List Expr} {te:TE} {t:TA} {pos:Pos}
theorem ak:PA X [] nh:=fun _ _ _ _ H Q I h=>Calls.spliced_nil ⟨[],H,I,.nil,h⟩
theorem su(ha:PE X e te)(hr:PA X es t)(hs:starEach (e::es) X.env=(false,eval e X.env)::starEach es X.env:=by rfl):PA X (e::es) (j9 te t):=by
 intro pos pins s σ H Q I h
 rw [hs]
 show wpAny _ _ (spliced ((false,eval e X.env)::backTo pos (starEach es X.env))) _ _ s
 refine Calls.spliced_cons (ar (ha pins s σ H _ I h) fun u s1 ⟨x,H1,I1,r1,q1⟩=>?_)
 exact ar (hr pos pins s1 σ H1 _ I1 q1) fun us s2 ⟨xs,H2,I2,r2,q2⟩=>⟨x::xs,H2,I2,.cons r1 r2,q2⟩
def sA(t:TA):TE:=fun σ H Q=>t σ H fun xs H1=>xs.length≤sizeLine∧∀p,H1 p=none→Q (.ref p) (upd H1 p (.tup xs))
def sC(t:TA):TE:=fun σ H Q=>t σ H fun xs H1=>xs.length≤sizeLine∧∀p,H1 p=none→Q (.ref p) (upd H1 p (.lst xs))
theorem iH{x1}(h:PA X es t):PE X (.Tuple es x1 pos) (sA t):=by
 intro pins s σ H Q I hq
 refine wpAny_Tuple_spliced (ar (h pos pins s σ H _ I hq) fun us s1 ⟨xs,H1,I1,r,z,q⟩=>⟨by rw [←r.length];exact z,?_⟩)
 have hf:H1 s1.heap.objs.size=none:=I1.aj.fresh (Nat.le_refl _)
 refine ⟨.ref s1.heap.objs.size,upd H1 s1.heap.objs.size (.tup xs),I1.laid (t':=s1.toks) (fun b u e=>Heap.get?_push_of_some _ e) (Nat.le_refl _) ?_,rfl,q _ hf⟩
 exact ⟨z,us,r,⟨_,Heap.get?_push_size _ rfl,rfl,_,rfl⟩⟩
theorem bN(h:PA X es t):PE X (.List es pos) (sC t):=by
 intro pins s σ H Q I hq
 refine wpAny_List_spliced (ar (h pos pins s σ H _ I hq) fun us s1 ⟨xs,H1,I1,r,z,q⟩=>⟨by rw [←r.length];exact z,?_⟩)
 have hf:H1 s1.heap.objs.size=none:=I1.aj.fresh (Nat.le_refl _)
 refine ⟨.ref s1.heap.objs.size,upd H1 s1.heap.objs.size (.lst xs),I1.laid (t':=s1.toks) (fun b u e=>Heap.get?_push_of_some _ e) (Nat.le_refl _) ?_,rfl,q _ hf⟩
 exact ⟨z,us,0,r,Heap.get?_push_size _ rfl⟩
end
abbrev Sp:=List V→Hp→VK→XK→Prop
abbrev bO:=List Env→Hp→Shared→XK→Value→Shared→Prop
structure iI (P:Program) (w:World) (K:PySem.W.Frag) (mg:Str→Option Value) (base:Heap) (A:Around) (outer:List Env) (s:Shared) (H:Hp):Prop where
 frames:A.frames=some outer
 mod:Mod K mg base
 bs:∀b o,base.get? b=some o→s.heap.get? b=some o∧H b=none
 cS:base.objs.size≤s.heap.objs.size
 cD:s.heap.FunFrames base outer
 dR:∀b∈aQ outer,H b=none
 aj:aK P w H s.heap
 bare:AllBare s.gens
def CE(outer:List Env)(P:Program)(w:World)(H:Hp)(s:Shared)(Q:VK)(u:Value)(s':Shared):Prop:=
 ∃v H',s'.os=s.os∧AllBare s'.gens∧Un (aQ outer) [] H H' s.heap s'.heap∧aK P w H' s'.heap∧RelV v u∧Q v H'
def CR(CX:bO)(outer:List Env)(P:Program)(w:World)(H:Hp)(s:Shared)(Q:VK)(E:XK)(r:Result)(s':Shared):Prop:=
 match r with
 | .ok (.ret u)=>CE outer P w H s Q u s'
 | .ok _=>False
 | .error e=>CX outer H s E e s'
structure aX (P:Program) (w:World) (K:PySem.W.Frag) (mg:Str→Option Value) (base:Heap) (CX:bO) (k:Nat) (f:Addr) (fd:FuncData) (ps:List Str) (sp:Sp):Prop where
 len:∀vs H Q E,sp vs H Q E→vs.length=ps.length
 run:∀(A:Around) (outer:List Env) (s:Shared) (H:Hp) (args:Args) (us:List Value) (vs:List V) (Q:VK) (E:XK),bg k A→iI P w K mg base A outer s H→BindsTo s fd args (ps.zip us)→Vals vs us→sp vs H Q E→
  codeAny (model P w) A (.call (.ref f) args) (CR CX outer P w H s Q E) s
section
variable {X:Cx} {pins:List (Addr×Obj)} {σ:St} {H:Hp} {s s':Shared}
theorem Inv.sD(I:Inv X pins σ H s):iI X.prog X.w X.K X.mg X.base X.A X.stack s H:=
 ⟨I.ok.frames,I.ok.mod,I.bs,Nat.le_trans I.ok.cS I.sz,I.stack,I.ip,I.aj,I.bare⟩
theorem Inv.after{Q:VK}{u:Value}(I:Inv X pins σ H s)(h:CE X.stack X.prog X.w H s Q u s'):EP X pins σ Q u s':=by
 obtain ⟨v,H',os,bare,un,aj,r,q⟩:=h
 obtain ⟨hh,g,d,t,sE⟩:=s'
 obtain rfl:sE=s.os:=os
 exact ⟨v,H',I.call (h':=hh) (g':=g) (d':=d) (t':=t) (ch:=[]) un aj bare (fun b z=>absurd z (by simp)),r,q⟩
end
def sF(sp:Sp)(cX:List V)(E:XK)(t:TA):TE:=fun σ H Q=>t σ H fun vs H1=>sp (vs++cX) H1 Q E
def Binds(K:PySem.W.Frag)(fd:FuncData)(ps:List Str)(ds:List Value):Prop:=
 ∀(s:Shared) (us:List Value),K.In s.heap→(us++ds).length=ps.length→BindsTo s fd ⟨us,[]⟩ (ps.zip (us++ds))
theorem Binds.all{K:PySem.W.Frag}{fd:FuncData}{ps:List Str}(h:∀us:List Value,us.length=ps.length→bindArgs fd ⟨us,[]⟩=pure (ps.zip us)):Binds K fd ps []:=fun s us _ hl=>by
 rw [List.append_nil] at hl ⊢
 exact .of_eq (h us hl)
def Passes(CX:bO)(X:Cx)(E:XK):Prop:=∀(pins:List (Addr×Obj)) (σ:St) (H:Hp) (s:Shared) (e:Value) (s':Shared),Inv X pins σ H s→CX X.stack H s E e s'→X.xe e s'
section
variable {X:Cx} {CX:bO} {k:Nat} {f C:Addr} {fd:FuncData} {ps:List Str} {sp:Sp} {cX:List V} {ds:List Value} {E:XK} {x m:Str} {p pos apos:Pos} {e o:Expr} {es:List Expr} {ta:TE} {t:TA}
theorem sG{pins:List (Addr×Obj)}{σ:St}{H:Hp}{s:Shared}{Q:VK}{us:List Value}{vs:List V}(F:aX X.prog X.w X.K X.mg X.base CX k f fd ps sp)(hr:bg k X.A)(hb:Binds X.K fd ps ds)(hd:Vals cX ds)(hx:Passes CX X E)
  (I:Inv X pins σ H s) (r:Vals vs us) (h:sp (vs++cX) H Q E):wpAny (model X.prog X.w) X.A (call (.ref f) us) (EP X pins σ Q) X.xe s:=by
 have r2:Vals (vs++cX) (us++ds):=r.append hd
 have hl:(us++ds).length=ps.length:=by rw [←r2.length];exact F.len _ _ _ _ h
 refine wpAny_call (codeAny_mono (F.run X.A X.stack s H ⟨us,[]⟩ (us++ds) (vs++cX) Q E hr I.sD (hb s us I.bq hl) r2 h) fun r s' hq=>?_)
 cases r with
 | error e=>exact hx pins σ H s e s' I hq
 | ok fl=>
  cases fl with
  | ret u=>exact I.after hq
  | next=>exact False.elim hq
  | brk=>exact False.elim hq
  | cont=>exact False.elim hq
theorem aU(F:aX X.prog X.w X.K X.mg X.base CX k f fd ps sp)(hr:bg k X.A)(hg:Gl X x)(hm:X.mg x=some (.ref f))(hk:PySem.W.keepIn X.K (.ref f)=true)(hb:Binds X.K fd ps ds)(hd:Vals cX ds)(hx:Passes CX X E)
  (ha:PA X (e::es) t) (gH:(x == ("__debug__":Str))=false:=by decide) (he:starEach (e::es) X.env=(false,eval e X.env)::starEach es X.env:=by rfl) (fv:(backTo pos (starEach es X.env)).any (·.1)=false:=by rfl) :
  PE X (.Call (.Name x p) (e::es) [] pos) (sF sp cX E t):=by
 intro pins s σ H Q I h
 refine wpAny_Call_Name_kw (jQ I hg hm ?_ gH)
 refine PySem.W.callWith_K (h₀:=X.base) I.ok.mod.aP hk (ar (ha pos pins s σ H _ I h) fun us s1 ⟨vs,H1,I1,r,q⟩=>⟨I1.bq,?_⟩) he fv
 exact sG F hr hb hd hx I1 r q
end
section
variable {X:Cx} {CX:bO} {k:Nat} {f C:Addr} {fd:FuncData} {ps ks:List Str} {sp:Sp} {E:XK} {x m:Str} {p pos apos ni:Pos} {e o:Expr} {es:List Expr} {sI:List Keyword} {te ta:TE} {t tk:TA} {nm:Option Str}
variable {g:List Value→List Value→List Value} {gV:List V→List V→List V}
end
structure bh (N P:List Str) (sc:Scope):Prop where
 kind:sc.kind=.function
 co:sc.isCoroutine=false
 gen:sc.isGenerator=false
 nd:N.Nodup
 pre:N.take P.length=P
 par:∀x∈P,sc.names.lookup x=some .local∨sc.names.lookup x=some .cell
 sJ:∀y∈sc.names,y.2≠.free
theorem nj{kindOf:Str→Option NameKind}{x:Str}:∀{binds:List (Str×Value)} {m:Str→Option Value},(∀v,(x,v)∉binds)→bindL kindOf binds m x=m x
 | [],_,_=>rfl
 | (n,v)::r,m,h=>by
  unfold bindL
  rw [nj fun w hw=>h w (List.mem_cons_of_mem _ hw)]
  split
  ·have:x≠n:=by rintro rfl;exact h v List.mem_cons_self
   simp [this]
  ·rfl
theorem nk{kindOf:Str→Option NameKind}{x:Str}:∀{binds:List (Str×Value)} {m:Str→Option Value},(∀v,(x,v)∉binds)→bindC kindOf binds m x=m x
 | [],_,_=>rfl
 | (n,v)::r,m,h=>by
  unfold bindC
  rw [nk fun w hw=>h w (List.mem_cons_of_mem _ hw)]
  split
  ·rfl
  ·have:x≠n:=by rintro rfl;exact h v List.mem_cons_self
   simp [this]
theorem nq{kindOf:Str→Option NameKind}{x:Str}{v:Value}:∀{P:List Str} {vs:List Value} {i:Nat} {m:Str→Option Value},P.Nodup→P[i]?=some x→vs[i]?=some v→kindOf x=some .local→
  bindL kindOf (P.zip vs) m x=some v
 | [],_,_,_,_,h,_,_=>by simp at h
 | _::_,[],_,_,_,_,h,_=>by simp at h
 | p::P,w::vs,0,m,nd,h1,h2,hk=>by
  simp at h1 h2;subst h1;subst h2
  show bindL kindOf ((p,w)::P.zip vs) m p=_
  unfold bindL
  rw [nj fun v hv=>(List.nodup_cons.mp nd).1 (List.of_mem_zip hv).1,if_pos hk]
  simp
 | p::P,w::vs,i+1,m,nd,h1,h2,hk=>by
  show bindL kindOf ((p,w)::P.zip vs) m x=_
  unfold bindL
  exact nq (i:=i) (List.nodup_cons.mp nd).2 (by simpa using h1) (by simpa using h2) hk
theorem nu{kindOf:Str→Option NameKind}{x:Str}{v:Value}:∀{P:List Str} {vs:List Value} {i:Nat} {m:Str→Option Value},P.Nodup→P[i]?=some x→vs[i]?=some v→kindOf x≠some .local→
  bindC kindOf (P.zip vs) m x=some v
 | [],_,_,_,_,h,_,_=>by simp at h
 | _::_,[],_,_,_,_,h,_=>by simp at h
 | p::P,w::vs,0,m,nd,h1,h2,hk=>by
  simp at h1 h2;subst h1;subst h2
  show bindC kindOf ((p,w)::P.zip vs) m p=_
  unfold bindC
  rw [nk fun v hv=>(List.nodup_cons.mp nd).1 (List.of_mem_zip hv).1,if_neg hk]
  simp
 | p::P,w::vs,i+1,m,nd,h1,h2,hk=>by
  show bindC kindOf ((p,w)::P.zip vs) m x=_
  unfold bindC
  exact nu (i:=i) (List.nodup_cons.mp nd).2 (by simpa using h1) (by simpa using h2) hk
def start(N:List Str)(vs:List V):St:=vs.map some++List.replicate (N.length-vs.length) none
def dZ(CX:bO)(P:Program)(w:World)(K:PySem.W.Frag)(mg:Str→Option Value)(base:Heap)(N:List Str)(qual:Str)(scope:Scope)(f:Addr)(cd:Value)(A:Around)(outer:List Env)(s:Shared)(H:Hp)(E:XK):Cx where
 prog:=P
 w:=w
 K:=K
 mg:=mg
 base:=base
 A:=A.deeper (envOfC qual scope s.heap.objs.size f cd)
 N:=N
 s₀:=s
 H₀:=H
 env:=envOfC qual scope s.heap.objs.size f cd
 outer:=outer
 stack:=envOfC qual scope s.heap.objs.size f cd::outer
 ex:=[]
 calm:=true
 fn:=fun _=>true
 pn:=[]
 xe:=fun e s'=>wpAny (model P w) (A.deeper (envOfC qual scope s.heap.objs.size f cd)) (leaving (envOfC qual scope s.heap.objs.size f cd) e) (fun _ cY=>CX outer H s E e cY) (fun e' cY=>CX outer H s E e' cY) s'
theorem nz{sc:Scope}{n:Nat}{x:Str}(h:sc.names.lookup x=some .cell):∃c,(cellsFrom n sc.names []).lookup x=some c:=by
 have q:=PySem.W.cellsFrom_some sc.names n [] (.inl h)
 exact Option.isSome_iff_exists.mp q
theorem sL{CX:bO}{P:Program}{w:World}{K:PySem.W.Frag}{mg:Str→Option Value}{base:Heap}{N ps:List Str}{qual:Str}{scope:Scope}{f:Addr}{cd:Value}{A:Around}{outer:List Env}{s s1:Shared}{H:Hp}{E:XK}{us:List Value}{vs:List V}
  (S:bh N ps scope) (hd:A.handled=none) (e0:iI P w K mg base A outer s H) (hl:vs.length=ps.length) (r:Vals vs us)
  (x:InCallC s s.heap.objs.size (bindL (envOfC qual scope s.heap.objs.size f cd).kindOf (ps.zip us) fun _=>none) (cellsFrom (s.heap.objs.size+1) scope.names []) (bindC (envOfC qual scope s.heap.objs.size f cd).kindOf (ps.zip us) fun _=>none) s1) :
  Inv (dZ CX P w K mg base N qual scope f cd A outer s H E) [] (start N vs) H s1:=by
 have fv:ps.length≤N.length:=by have:=congrArg List.length S.pre;rw [List.length_take] at this;omega
 obtain ⟨h1,tk,rfl,hk⟩:=x.done
 have gI:∀b:Addr,b∉(dZ CX P w K mg base N qual scope f cd A outer s H E).ex:=fun b z=>absurd (show b∈([]:List Addr) from z) (by simp)
 refine ⟨⟨e0.mod,S.kind,rfl,rfl,Nat.le_refl _,fun y z c h1 h2=>?_,fun y hy=>?_,fun y c _ h=>?_,fun _=>hd,Around.frames_deeper e0.frames,.inr ⟨rfl,rfl⟩,fun b z=>absurd z (gI b),e0.bs,e0.cS,fun b _ _=>gI b,fun b z=>absurd z (gI b),e0.cD,e0.dR⟩,
  rfl,e0.bare,Un.kept hk,⟨_,x.toInCall.ns,fun i y v h1 h2 h3=>?_⟩,fun y c h=>⟨_,x.cell y c h⟩,e0.aj.fresh (Nat.le_refl _),fun y c h=>?_,fun p hp=>absurd (show p∈([]:List (Addr×Obj)) from hp) (by simp),e0.aj.kept hk,?_⟩
 ·exact name_of_addr x.apart (PySem.mem_of_lookup h1) (PySem.mem_of_lookup h2)
 ·have hy:scope.names.lookup y=some .cell∨scope.names.lookup y=some .free:=hy
  rcases hy with hy | hy
  ·exact nz hy
  ·exact absurd rfl (S.sJ _ (PySem.mem_of_lookup hy))
 ·exact Nat.le_of_lt (x.above y c (PySem.mem_of_lookup h))
 ·have hi:i<vs.length:=by
   unfold start at h2
   by_cases hi:i<vs.length
   ·exact hi
   ·rw [List.getElem?_append_right (by simpa using hi)] at h2
    rw [List.getElem?_replicate] at h2
    split at h2 <;> cases h2
  have ha:vs[i]?=some v:=by
   unfold start at h2
   rw [List.getElem?_append_left (by simpa using hi),List.getElem?_map] at h2
   cases e:vs[i]? with
   | none=>rw [e] at h2;cases h2
   | some a=>rw [e] at h2;cases h2;rfl
  obtain ⟨u,hu,rv⟩:=r.get ha
  have hp:ps[i]?=some y:=by
   rw [←S.pre,List.getElem?_take_of_lt (by omega)];exact h1
  have nB:ps.Nodup:=by rw [←S.pre];exact S.nd.sublist (List.take_sublist _ _)
  refine ⟨u,rv,?_⟩
  rcases S.par y (List.mem_of_getElem? hp) with k | k
  ·exact .inl ⟨k,nq nB hp hu k⟩
  ·obtain ⟨c,e⟩:=nz (n:=s.heap.objs.size+1) k
   refine .inr ⟨.inl k,c,e,?_⟩
   have q:=x.cell y c e
   rw [nu nB hp hu (by show scope.names.lookup y≠_;rw [k];decide)] at q
   exact q
 ·exact e0.aj.fresh (Nat.le_of_lt (x.above y c (PySem.mem_of_lookup h)))
 ·unfold start
  show _=N.length
  rw [List.length_append,List.length_map,List.length_replicate]
  omega
theorem nC{CX:bO}{P:Program}{w:World}{K:PySem.W.Frag}{mg:Str→Option Value}{base:Heap}{k:Nat}{f:Addr}{name qual:Str}{params:Arguments}{body:List Stmt}{scope:Scope}{dV kV doc pm ay ct oc:Value}{an od:Option Addr}
  {cZ:Array (Option Value)} {N ps:List Str} {sp:Sp} (lk:K.lookup f=some ⟨oc,od,.func (PySem.W.fnOf name qual params body scope dV kV doc pm an ay ct),cZ⟩) (bZ:PySem.W.codeIn K ay qual=true) (S:bh N ps scope)
  (len:∀vs H Q E,sp vs H Q E→vs.length=ps.length)
  (gJ:∀(A:Around) (outer:List Env) (s:Shared) (H:Hp) (vs:List V) (Q:VK) (E:XK),bg k (A.deeper (envOfC qual scope s.heap.objs.size f ay))→sp vs H Q E→
   ∃t,bY (dZ CX P w K mg base N qual scope f ay A outer s H E) body t∧t {nx:=fun _ H'=>Q .av H',rt:=Q} (start N vs) H) :
  aX P w K mg base CX (k+1) f (PySem.W.fnOf name qual params body scope dV kV doc pm an ay ct) ps sp:=by
 refine ⟨len,fun A outer s H args us vs Q E hr e0 hb r c_=>?_⟩
 have hl:=len _ _ _ _ c_
 have KX:K.In s.heap:=e0.mod.aP.keeps fun b o e=>(e0.bs b o e).1
 have lim:s.heap.NoLimit:=e0.mod.nolimit.keeps fun b o e=>(e0.bs b o e).1
 have sM:∀y∈ps.zip us,scope.names.lookup y.1=some .local∨(scope.names.lookup y.1=some .cell∧((cellsFrom (s.heap.objs.size+1) scope.names []).lookup y.1).isSome=true):=fun⟨n,v⟩ hy=>by
  rcases S.par n (List.of_mem_zip hy).1 with q | q
  ·exact .inl q
  ·exact .inr ⟨q,PySem.W.cellsFrom_some _ _ _ (.inl q)⟩
 refine codeAny_call_function hr.depth (KX _ _ lk) rfl S.co S.gen rfl (PySem.W.codeRec_of KX bZ) (hb _ _ _ _ ?_)
 refine wpAny_newFunctionEnv_cells S.kind sM fun env he s1 x=>?_
 subst he
 refine ⟨lim.keeps x.toInCall.keep,codeAny_func ?_⟩
 obtain ⟨t,ht,hq⟩:=gJ A outer s H vs Q E (hr.deeper _) c_
 have I:Inv (dZ CX P w K mg base N qual scope f ay A outer s H E) [] (start N vs) H s1:=sL S hr.hd e0 hl r x
 refine wpAny_mono (ht [] s1 (start N vs) H _ I hq) (fun fl s' hs=>?_) fun e s' hs=>hs
 have fin:∀{σ':St} {H':Hp} {v:V} {u:Value},Inv (dZ CX P w K mg base N qual scope f ay A outer s H E) [] σ' H' s'→RelV v u→Q v H'→CE outer P w H s Q u s':=
  fun{σ' H' v u} J rv q=>⟨v,H',J.os,J.bare,J.base,J.aj,rv,q⟩
 cases fl with
 | ret u=>
  obtain ⟨v,σ',H',J,rv,q⟩:=hs
  exact fin J rv q
 | next=>
  obtain ⟨σ',H',J,q⟩:=hs
  exact fin (v:=V.av) (u:=Value.none) J rfl q
 | brk=>
  obtain ⟨_,_,_,q⟩:=hs
  exact False.elim q
 | cont=>
  obtain ⟨_,_,_,q⟩:=hs
  exact False.elim q
section
variable {X:Cx} {x:Str} {p pos:Pos} {e:Expr} {es:List Expr} {t:TA} {id T:String} {r:List V→Hp→VK→Prop}
def j_(r:List V→Hp→VK→Prop)(t:TA):TE:=fun σ H Q=>t σ H fun vs H1=>r vs H1 Q
theorem cx(hc:cH X (.builtin id) r)(hg:Gl X x)(hm:X.mg x=none)(hv:bootBuiltins x=some (.builtin id))(ha:PA X (e::es) t)(hn:x ≠ "__name__":=by decide)(gH:(x == ("__debug__":Str))=false:=by decide)
  (he:starEach (e::es) X.env=(false,eval e X.env)::starEach es X.env:=by rfl) (fv:(backTo pos (starEach es X.env)).any (·.1)=false:=by rfl):PE X (.Call (.Name x p) (e::es) [] pos) (j_ r t):=by
 intro pins s σ H Q I h
 refine wpAny_Call_Name_kw (gx I hg hm hv ?_ hn gH)
 exact PyProof.Rows.callWith_builtin1 (ar (ha pos pins s σ H _ I h) fun us s1 ⟨vs,H1,I1,r1,q1⟩=>hc pins s1 σ H1 vs us Q I1 r1 q1) he fv
theorem gK(hc:cH X (.type T) r)(hg:Gl X x)(hm:X.mg x=none)(hv:bootBuiltins x=some (.type T))(ha:PA X (e::es) t)(hn:x ≠ "__name__":=by decide)(gH:(x == ("__debug__":Str))=false:=by decide)
  (he:starEach (e::es) X.env=(false,eval e X.env)::starEach es X.env:=by rfl) (fv:(backTo pos (starEach es X.env)).any (·.1)=false:=by rfl):PE X (.Call (.Name x p) (e::es) [] pos) (j_ r t):=by
 intro pins s σ H Q I h
 refine wpAny_Call_Name_kw (gx I hg hm hv ?_ hn gH)
 exact PyProof.Rows.callWith_type1 (ar (ha pos pins s σ H _ I h) fun us s1 ⟨vs,H1,I1,r1,q1⟩=>hc pins s1 σ H1 vs us Q I1 r1 q1) he fv
end
end L2
namespace HT
open PySem PyProof.Rows
section
open PySem.SeqAt
open PySem.AutoSeq1 (wpAny_loadPart')
open PySem.MeetsSeq PySem.MeetsSeq2 PySem.MeetsSeq3
end
section
variable {prog:Program} {w:World} {A:Around} {E:Value→Shared→Prop} {s:Shared}
def bP(n d:Nat):Option Int→Nat
 | none=>d
 | some v=>if v<0 then (v+(n:Int)).toNat else min v.toNat n
end
end HT
namespace L2
open PySem PySem.Spec PyProof.Rows
section
variable {X:Cx} {e:Expr} {te:TE} {lo hi:Option Expr} {tl th:TO} {pos p2:Pos}
def sN(X:Cx)(r:V→Option Int→Option Int→Hp→VK→Prop):Prop:=
 ∀(pins:List (Addr×Obj)) (s:Shared) (σ:St) (H:Hp) (x:V) (v vl vu:Value) (lo hi:Option Int) (sl:Addr) (Q:VK),Inv X pins σ H s→RelV x v→s.heap.IsSliceOf sl vl vu .none→IsPart vl lo→IsPart vu hi→r x lo hi H Q→
  ∃T id,typeLookup (.type T) "__getitem__" = pure (some (.builtin id))∧s.TypeIs v T∧wpAny (model X.prog X.w) X.A (getItem v (.ref sl)) (EP X pins σ Q) X.xe s
def iJ(xs:List V)(lo hi:Option Int):List V:=(xs.drop (HT.bP xs.length 0 lo)).take (HT.bP xs.length xs.length hi-HT.bP xs.length 0 lo)
theorem sO(xs:List V)(lo hi:Option Int):(iJ xs lo hi).length≤xs.length:=by
 unfold iJ
 rw [List.length_take,List.length_drop]
 omega
end
def eo(n:Nat)(i:Int):Option Nat:=if 0≤i then (if i<n then some i.toNat else none) else if -(n:Int)≤i then some (i+n).toNat else none
def cI{α:Type}(xs:List α)(i:Int):Option α:=(eo xs.length i).bind fun j=>xs[j]?
theorem nE{n:Nat}{i:Int}{j:Nat}(h:eo n i=some j):seqIndex? i n=some j∧j<n∧-(n:Int)≤i∧i<n:=by
 unfold eo at h
 by_cases h0:0≤i
 ·rw [if_pos h0] at h
  by_cases h1:i<n
  ·rw [if_pos h1] at h
   have e:i.toNat=j:=Option.some.inj h
   exact ⟨by rw [seqIndex_of h0 h1,e],by omega,by omega,h1⟩
  ·rw [if_neg h1] at h;cases h
 ·rw [if_neg h0] at h
  by_cases h1:-(n:Int)≤i
  ·rw [if_pos h1] at h
   have e:(i+n).toNat=j:=Option.some.inj h
   exact ⟨by rw [seqIndex_neg (by omega) h1,e],by omega,h1,by omega⟩
  ·rw [if_neg h1] at h;cases h
theorem nF{α:Type}{xs:List α}{i:Int}{v:α}(h:cI xs i=some v):∃j,seqIndex? i xs.length=some j∧xs[j]?=some v∧j<xs.length∧-(xs.length:Int)≤i∧i<xs.length:=by
 unfold cI at h
 cases e:eo xs.length i with
 | none=>rw [e] at h;cases h
 | some j=>
  rw [e] at h
  obtain ⟨h1,h2,h3,h4⟩:=nE e
  exact ⟨j,h1,h,h2,h3,h4⟩
theorem fw{α:Type}{xs:List α}{j:Nat}{v:α}(h:xs[j]?=some v):cI xs (j:Int)=some v:=by
 have hj:j<xs.length:=(List.getElem?_eq_some_iff.mp h).1
 have e:eo xs.length (j:Int)=some j:=by
  unfold eo
  rw [if_pos (by omega),if_pos (by omega)];simp
 unfold cI;rw [e];exact h
def sP(b:Expr):Prop:=∀o i,subscripted b false o i=operate [o,i] (getItem o i)
def ka(X:Cx)(r:R2):Prop:=
 ∀(value slice:Expr) (pins:List (Addr×Obj)) (s:Shared) (σ:St) (H:Hp) (x y:V) (v u:Value) (Q:VK),Inv X pins σ H s→RelV x v→RelV y u→r x y H Q→
  subscripted slice false v u=operate [v,u] (getItem v u)→wpAny (model X.prog X.w) X.A (subscriptTail value slice v u) (EP X pins σ Q) X.xe s
def nG(X:Cx)(id:String)(r:V→List V→Hp→VK→Prop):Prop:=
 ∀(pins:List (Addr×Obj)) (s:Shared) (σ:St) (H:Hp) (x:V) (xs:List V) (v:Value) (us:List Value) (Q:VK),Inv X pins σ H s→RelV x v→Vals xs us→r x xs H Q→
  wpAny (model X.prog X.w) X.A (call (.builtin id) (v::us)) (EP X pins σ Q) X.xe s
section
variable {X:Cx} {a b:Expr} {ta tb:TE} {pos:Pos}
theorem aN{r:R2}(hr:ka X r)(ha:PE X a ta)(hb:PE X b tb)(hs:sP b):PE X (.Subscript a b pos) (iC r ta tb):=by
 intro pins s σ H Q I h
 exact Subscript_ (j4 ha hb I h fun v u s2 x y H2 I2 rx ry q=>hr a b pins s2 σ H2 x y v u Q I2 rx ry q (hs _ _))
def sQ(K:PySem.W.Frag):R2:=fun x y H Q=>∃p xs i v,x=.ref p∧y=.int i∧aH K H p xs∧cI xs i=some v∧Q v H
def sR(K:PySem.W.Frag):R2:=fun x y H Q=>∃p xs i v,x=.ref p∧y=.int i∧bE K H p xs∧cI xs i=some v∧Q v H
theorem ba:ka X (sQ X.K):=by
 intro value slice pins s σ H x y v u Q I rx ry h hs
 obtain ⟨p,xs,i,z,rfl,rfl,hq,he,q⟩:=h
 cases rx
 obtain ⟨t,rfl⟩:=ry
 obtain ⟨aa,r,pl,hz⟩:=I.list hq
 obtain ⟨j,h1,h2,h3,h4,h5⟩:=nF he
 obtain ⟨w,ew,gM⟩:=r.get h2
 have hl:=r.length
 have hn:=iG
 have fin:EP X pins σ Q w s:=⟨z,H,I,gM,q⟩
 by_cases h0:0≤i
 ·have hj:i.toNat=j:=by
   rw [seqIndex_of h0 h5] at h1
   exact Option.some.inj h1
  exact item_listR pl.isList h0 (by omega) (by rw [hj];simpa using ew) fin hs
 ·have hj:(i+(aa.toArray.size:Int)).toNat=j:=by
   rw [seqIndex_neg (by omega) h4] at h1
   rw [List.size_toArray,←hl]
   exact Option.some.inj h1
  exact subscriptTail_builtinR (x:=w) pl.isList.typeIs slot_list_getitem.lookup
   (wpAny_getItem_list_neg (Q:=fun r s'=>r=w∧EP X pins σ Q r s') pl.isList (by omega) (by rw [List.size_toArray] <;> omega) (by omega) (by rw [hj];simpa using ew) ⟨rfl,fin⟩) hs
theorem d0:ka X (sR X.K):=by
 intro value slice pins s σ H x y v u Q I rx ry h hs
 obtain ⟨p,xs,i,z,rfl,rfl,hq,he,q⟩:=h
 cases rx
 obtain ⟨t,rfl⟩:=ry
 obtain ⟨aa,r,pl,hz⟩:=I.tuple hq
 obtain ⟨j,h1,h2,h3,h4,h5⟩:=nF he
 obtain ⟨w,ew,gM⟩:=r.get h2
 have hl:=r.length
 have hn:=iG
 have fin:EP X pins σ Q w s:=⟨z,H,I,gM,q⟩
 exact subscriptTail_builtinR (x:=w) pl.typeIs slot_tuple_getitem.lookup
  (getItem_tuple (j:=j) (Q:=fun r s'=>r=w∧EP X pins σ Q r s') pl (by omega) (by omega) (by rw [List.size_toArray,←hl];exact h1) (by simpa using ew) ⟨rfl,fin⟩) hs
theorem sS(aa:List Value)(n j:Nat)(u:Value):Obj.mapSeq (·.setIfInBounds j u) {cls:=.type "list",data:=.seq aa.toArray n}={cls:=.type "list",data:=.seq (aa.set j u).toArray n}:=by
 simp [Obj.mapSeq]
theorem Inv.lst{pins:List (Addr×Obj)}{σ:St}{H:Hp}{s:Shared}{p:Addr}{xs:List V}(I:Inv X pins σ H s)(h:H p=some (.lst xs)) :
  ∃(aa:List Value) (n:Nat),Vals xs aa∧s.heap.get? p=some {cls:=.type "list",data:=.seq aa.toArray n}∧xs.length≤sizeLine:=by
 obtain ⟨z,aa,n,r,e⟩:=I.aj p _ h
 exact ⟨aa,n,r,e,z⟩
theorem Inv.sU{pins:List (Addr×Obj)}{σ:St}{H:Hp}{s:Shared}{p:Addr}{xs ys:List V}{aa its':List Value}{n n':Nat}{f:Obj→Obj}(I:Inv X pins σ H s)(h:H p=some (.lst xs))
  (ho:s.heap.get? p=some {cls:=.type "list",data:=.seq aa.toArray n}) (hf:f {cls:=.type "list",data:=.seq aa.toArray n}={cls:=.type "list",data:=.seq its'.toArray n'}) (r:Vals ys its') (hz:ys.length≤sizeLine) (t:Nat) :
  Inv X pins σ (upd H p (.lst ys)) {s with heap:=s.heap.update p f,toks:=t}:=by
 have e:(s.heap.update p f).get? p=some {cls:=.type "list",data:=.seq its'.toArray n'}:=by
  rw [Heap.get?_update_self f ho (by rw [hf] <;> rfl),hf]
 refine I.write (x:=p) (e:=p) (by rw [h];trivial) (.inl rfl) (fun b u hb q=>(Heap.get?_update_other _ _ (Ne.symm hb)).trans q) ⟨_,e⟩ ?_
 exact ⟨hz,its',n',r,e⟩
def sV:V→V→V→Hp→(Hp→Prop)→Prop:=fun o i v H Q=>∃p xs k j,o=.ref p∧i=.int k∧H p=some (.lst xs)∧eo xs.length k=some j∧Q (upd H p (.lst (xs.set j v)))
theorem set_list:mS X sV:=by
 intro pins s σ H o i v ov iv u Q I ro ri rv h
 obtain ⟨p,xs,k,j,rfl,rfl,hp,hj,q⟩:=h
 cases ro
 obtain ⟨t,rfl⟩:=ri
 obtain ⟨aa,n,r,ho,hz⟩:=I.lst hp
 obtain ⟨h1,h2,h3,h4⟩:=nE hj
 have hl:=r.length
 have hn:=iG
 have I':Inv X pins σ (upd H p (.lst (xs.set j v))) {s with heap:=s.heap.update p (Obj.mapSeq (·.setIfInBounds j u))}:=
  I.sU hp ho (sS aa n j u) (r.set rv j) (by rw [List.length_set];exact hz) s.toks
 by_cases h0:0≤k
 ·have hk:k.toNat=j:=by
   rw [seqIndex_of h0 h4] at h1
   exact Option.some.inj h1
  exact PySem.W.ki_setAt ho h0 (by omega) (by rw [List.size_toArray,←hl];exact h4) (by rw [hk];exact ⟨_,I',q⟩)
 ·have hk:(k+(aa.toArray.size:Int)).toNat=j:=by
   rw [seqIndex_neg (by omega) h3] at h1
   rw [List.size_toArray,←hl]
   exact Option.some.inj h1
  exact PySem.W.ki_setBack ho (by omega) (by rw [List.size_toArray,←hl];exact h3) (by omega) (by rw [hk];exact ⟨_,I',q⟩)
theorem sW(lo hi:Option Int)(n:Nat):(sliceBounds lo hi none n).1=((HT.bP n 0 lo:Nat):Int)∧(sliceBounds lo hi none n).2.1=((HT.bP n n hi:Nat):Int)∧(sliceBounds lo hi none n).2.2=1:=by
 refine ⟨?_,?_,rfl⟩
 ·cases lo with
  | none=>simp [sliceBounds,HT.bP]
  | some i=>
   simp only [sliceBounds,HT.bP,Option.getD_none,show (1:Int)>0 by decide,if_true]
   by_cases h:i<0
   ·simp only [h,if_true] <;> omega
   ·simp only [h,if_false] <;> omega
 ·cases hi with
  | none=>simp [sliceBounds,HT.bP]
  | some i=>
   simp only [sliceBounds,HT.bP,Option.getD_none,show (1:Int)>0 by decide,if_true]
   by_cases h:i<0
   ·simp only [h,if_true] <;> omega
   ·simp only [h,if_false] <;> omega
theorem sX(aa:List Value)(lo hi:Option Int):slicePick aa.toArray lo hi none=((aa.drop (HT.bP aa.length 0 lo)).take (HT.bP aa.length aa.length hi-HT.bP aa.length 0 lo)).toArray:=by
 obtain ⟨h1,h2,h3⟩:=sW lo hi aa.toArray.size
 unfold slicePick
 rw [h1,h2,h3]
 simp only [sliceRange_one,pick_run,List.size_toArray] <;> rfl
def sY(K:PySem.W.Frag):V→Option Int→Option Int→Hp→VK→Prop:=fun x lo hi H Q=>∃a xs,x=.ref a∧aH K H a xs∧∀p,H p=none→Q (.ref p) (upd H p (.lst (iJ xs lo hi)))
theorem zy:sN X (sY X.K):=by
 intro pins s σ H x v vl vu lo hi sl Q I rx hs pl pu h
 obtain ⟨a,xs,rfl,hx,q⟩:=h
 cases rx
 obtain ⟨aa,r,ht,hz⟩:=I.list hx
 have hlen:=r.length
 refine ⟨"list",_,slot_list_getitem.lookup,ht.isList.typeIs,?_⟩
 refine wpAny_getItem_list_slice ht.isList hs pl pu .none (by simp) ?_ (by rw [List.size_toArray] <;> omega)
 rw [sX,←hlen]
 refine ⟨.ref s.heap.objs.size,_,I.laid (t':=s.toks) (o:=.lst (iJ xs lo hi)) (fun b ob q=>Heap.get?_push_of_some _ q) (Nat.le_refl _) ?_,rfl,q _ (I.aj.fresh (Nat.le_refl _))⟩
 exact ⟨Nat.le_trans (sO xs lo hi) hz,_,0,(r.drop (HT.bP xs.length 0 lo)).take (HT.bP xs.length xs.length hi-HT.bP xs.length 0 lo),Heap.get?_push_size _ rfl⟩
def da:V→Bool
 | .av=>true
 | .bl _=>true
 | .int _=>true
 | .str _=>true
 | _=>false
def du:V→V→Bool
 | .av,.av=>true
 | .bl a,.bl b=>a == b
 | .bl a,.int b=>(if a then 1 else 0) == b
 | .int a,.bl b=>a == (if b then 1 else 0)
 | .int a,.int b=>a == b
 | .str a,.str b=>a == b
 | _,_=>false
theorem sZ{A:Around}{s:Shared}{y x:V}{u v:Value}(ry:RelV y u)(rx:RelV x v)(fy:da y=true)(fx:da x=true):SeqAt.EqAt A s u v (du y x):=by
 cases y with
 | av=>
  cases ry
  cases x with
  | av=>cases rx;exact SeqAt.EqAt.same _
  | bl b=>cases rx;exact SeqAt.EqAt.none_bool b
  | int b=>obtain ⟨t,rfl⟩:=rx;exact SeqAt.EqAt.none_int b t
  | str b=>obtain ⟨t,rfl⟩:=rx;exact SeqAt.EqAt.none_str b t
  | _=>exact absurd (show false=true from fx) Bool.false_ne_true
 | bl a=>
  cases ry
  cases x with
  | av=>cases rx;exact SeqAt.EqAt.bool_none a
  | bl b=>cases rx;exact SeqAt.EqAt.bool_bool a b
  | int b=>obtain ⟨t,rfl⟩:=rx;exact SeqAt.EqAt.bool_int a b t
  | str b=>obtain ⟨t,rfl⟩:=rx;exact SeqAt.EqAt.bool_str a b t
  | _=>exact absurd (show false=true from fx) Bool.false_ne_true
 | int a=>
  obtain ⟨t',rfl⟩:=ry
  cases x with
  | av=>cases rx;exact SeqAt.EqAt.int_none a t'
  | bl b=>cases rx;exact SeqAt.EqAt.int_bool a t' b
  | int b=>obtain ⟨t,rfl⟩:=rx;exact SeqAt.EqAt.int_int a t' b t
  | str b=>obtain ⟨t,rfl⟩:=rx;exact SeqAt.EqAt.int_str a t' b t
  | _=>exact absurd (show false=true from fx) Bool.false_ne_true
 | str a=>
  obtain ⟨t',rfl⟩:=ry
  cases x with
  | av=>cases rx;exact SeqAt.EqAt.str_none a t'
  | bl b=>cases rx;exact SeqAt.EqAt.str_bool a t' b
  | int b=>obtain ⟨t,rfl⟩:=rx;exact SeqAt.EqAt.str_int a t' b t
  | str b=>obtain ⟨t,rfl⟩:=rx;exact SeqAt.EqAt.str_str a t' b t
  | _=>exact absurd (show false=true from fx) Bool.false_ne_true
 | _=>exact absurd (show false=true from fy) Bool.false_ne_true
def bQ(x:V)(u:Value):Bool:=match u with
 | .none=>du .av x
 | .bool b=>du (.bl b) x
 | .int i _=>du (.int i) x
 | .str z _=>du (.str z) x
 | _=>false
theorem nH{x y:V}{u:Value}(r:RelV y u)(f:da y=true):bQ x u=du y x:=by
 cases y with
 | av=>cases r;rfl
 | bl b=>cases r;rfl
 | int i=>obtain ⟨t,rfl⟩:=r;rfl
 | str z=>obtain ⟨t,rfl⟩:=r;rfl
 | _=>exact absurd (show false=true from f) Bool.false_ne_true
theorem gN{x:V}:∀{xs:List V} {us:List Value},Vals xs us→xs.all da=true→us.any (bQ x)=xs.any fun y=>du y x
 | _,_,.nil,_=>rfl
 | y::xs,u::us,.cons r t,f=>by
  rw [List.all_cons,Bool.and_eq_true] at f
  rw [List.any_cons,List.any_cons,nH r f.1,gN t f.2]
theorem gO{A:Around}{s:Shared}{x:V}{v:Value}(rx:RelV x v)(fx:da x=true):∀{xs:List V} {us:List Value},Vals xs us→xs.all da=true→∀u∈us,SeqAt.EqAt A s u v (bQ x u)
 | _,_,.nil,_=>fun u hu=>by cases hu
 | y::xs,u::us,.cons r t,f=>fun u' hu=>by
  rw [List.all_cons,Bool.and_eq_true] at f
  rcases List.mem_cons.mp hu with rfl | hu
  ·rw [nH r f.1];exact sZ r rx f.1 fx
  ·exact gO rx fx t f.2 u' hu
def cy(x:V)(xs:List V):Bool:=xs.any fun y=>du y x
def kd(K:PySem.W.Frag)(neg:Bool):R2:=fun x y H Q=>∃p xs,y=.ref p∧(aH K H p xs∨bE K H p xs)∧da x=true∧xs.all da=true∧Q (.bl (if neg then !cy x xs else cy x xs)) H
theorem nI:aZ X (compareOp .In) (kd X.K false):=by
 intro pins s σ H x y v u Q I rx ry h
 obtain ⟨p,xs,rfl,hq,fx,fs,q⟩:=h
 cases ry
 rcases hq with hq | hq
 ·obtain ⟨aa,r,pl,hz⟩:=I.list hq
  refine SeqAt.in_listAt (bQ x) pl.isList (fun w hw=>gO rx fx r fs w (by simpa using hw)) ⟨.bl _,H,I,rfl,?_⟩
  rw [show aa.toArray.any (bQ x)=aa.any (bQ x) by simp,gN r fs]
  exact q
 ·obtain ⟨aa,r,pl,hz⟩:=I.tuple hq
  refine SeqAt.in_tupleAt (bQ x) pl (fun w hw=>gO rx fx r fs w (by simpa using hw)) ⟨.bl _,H,I,rfl,?_⟩
  rw [show aa.toArray.any (bQ x)=aa.any (bQ x) by simp,gN r fs]
  exact q
theorem s_:aZ X (compareOp .NotIn) (kd X.K true):=by
 intro pins s σ H x y v u Q I rx ry h
 obtain ⟨p,xs,rfl,hq,fx,fs,q⟩:=h
 cases ry
 rcases hq with hq | hq
 ·obtain ⟨aa,r,pl,hz⟩:=I.list hq
  refine SeqAt.notIn_listAt (bQ x) pl.isList (fun w hw=>gO rx fx r fs w (by simpa using hw)) ⟨.bl _,H,I,rfl,?_⟩
  rw [show aa.toArray.any (bQ x)=aa.any (bQ x) by simp,gN r fs]
  exact q
 ·obtain ⟨aa,r,pl,hz⟩:=I.tuple hq
  refine SeqAt.notIn_tupleAt (bQ x) pl (fun w hw=>gO rx fx r fs w (by simpa using hw)) ⟨.bl _,H,I,rfl,?_⟩
  rw [show aa.toArray.any (bQ x)=aa.any (bQ x) by simp,gN r fs]
  exact q
theorem eA:cH X (.builtin "len") (fun xs H Q=>∃p ys,xs=[.ref p]∧(aH X.K H p ys∨bE X.K H p ys)∧Q (.int ys.length) H):=by
 intro pins s σ H xs us Q I r h
 obtain ⟨p,ys,rfl,hq,q⟩:=h
 obtain ⟨u,rfl,rx⟩:=vals1 r
 cases rx
 have hn:=iG
 rcases hq with hq | hq
 ·obtain ⟨aa,r',pl,hz⟩:=I.list hq
  have hlen:=r'.length
  exact Calls.call_len_list pl.isList (by simp only [List.size_toArray] <;> omega) ⟨.int ys.length,H,I.tok _,⟨s.toks+1,by rw [List.size_toArray,hlen]⟩,q⟩
 ·obtain ⟨aa,r',pl,hz⟩:=I.tuple hq
  have hlen:=r'.length
  exact len_tuple pl (by simp only [List.size_toArray] <;> omega) ⟨.int ys.length,H,I.tok _,⟨s.toks+1,by rw [List.size_toArray,hlen]⟩,q⟩
theorem tf:cH X (.type "list") (fun xs H Q=>∃p ys,xs=[.ref p]∧(aH X.K H p ys∨bE X.K H p ys)∧∀l,H l=none→Q (.ref l) (upd H l (.lst ys))):=by
 intro pins s σ H xs us Q I r h
 obtain ⟨p,ys,rfl,hq,q⟩:=h
 obtain ⟨u,rfl,rx⟩:=vals1 r
 cases rx
 have fin:∀(aa:List Value),Vals ys aa→ys.length≤sizeLine→∀(h':Heap) (c':Nat),(∀b o',s.heap.get? b=some o'→h'.get? b=some o')→
   h'.get? s.heap.objs.size=some {cls:=.type "list",dict:=none,data:=.seq aa.toArray c',slots:=#[]}→EP X pins σ Q (.ref s.heap.objs.size) {s with heap:=h'}:=fun aa r' hz h' c' kp e=>
  ⟨.ref s.heap.objs.size,_,I.laid (t':=s.toks) kp (Nat.le_refl _) (show aI X.prog X.w _ h' _ (.lst ys) from ⟨hz,aa,c',r',e⟩),rfl,q _ (I.aj.fresh (Nat.le_refl _))⟩
 rcases hq with hq | hq
 ·obtain ⟨aa,r',pl,hz⟩:=I.list hq
  have hlen:=r'.length
  obtain ⟨o,ho,hc,n,hd⟩:=pl.isList
  exact call_list_seq p (.inl rfl) ho hc hd (fun h' c' kp e=>fin aa r' hz h' c' kp e) (by simp only [List.size_toArray] <;> omega)
 ·obtain ⟨aa,r',pl,hz⟩:=I.tuple hq
  have hlen:=r'.length
  obtain ⟨o,ho,hc,n,hd⟩:=pl
  exact call_list_seq p (.inr rfl) ho hc hd (fun h' c' kp e=>fin aa r' hz h' c' kp e) (by simp only [List.size_toArray] <;> omega)
theorem nJ:cH X (.type "tuple") (fun xs H Q=>∃p ys,xs=[.ref p]∧((aH X.K H p ys∧∀l,H l=none→Q (.ref l) (upd H l (.tup ys)))∨(bE X.K H p ys∧Q (.ref p) H))):=by
 intro pins s σ H xs us Q I r h
 obtain ⟨p,ys,rfl,h⟩:=h
 obtain ⟨u,rfl,rx⟩:=vals1 r
 cases rx
 rcases h with ⟨hq,q⟩ | ⟨hq,q⟩
 ·obtain ⟨aa,r',pl,hz⟩:=I.list hq
  have hlen:=r'.length
  refine call_tuple_list pl.isList (fun h' kp=>?_) (by simp only [List.size_toArray] <;> omega)
  have I1:Inv X pins σ H {s with heap:=h'}:=I.kept (t':=s.toks) kp
  have I2:Inv X pins σ (upd H h'.objs.size (.tup ys)) {s with heap:=h'.push {cls:=.type "tuple",data:=.seq aa.toArray}}:=
   I1.laid (t':=s.toks) (fun b o e=>Heap.get?_push_of_some _ e) (Nat.le_refl _) (show aI X.prog X.w _ _ _ (.tup ys) from ⟨hz,aa,r',IsTup.new _ _⟩)
  exact ⟨.ref h'.objs.size,_,I2,rfl,q _ (I1.aj.fresh (Nat.le_refl _))⟩
 ·obtain ⟨aa,r',pl,hz⟩:=I.tuple hq
  exact call_tuple_same pl ⟨.ref p,H,I,rfl,q⟩
def ke(K:PySem.W.Frag)(T:String)(x:V)(H:Hp):Prop:=match x with
 | .str _=>T = "str"
 | .int _=>T = "int"
 | .ref p=>(T = "list"∧∃xs,aH K H p xs)∨(T = "tuple"∧∃o,K.lookup p=some o∧o.cls=.type "tuple"∧o.dict=none) ∨
   (T = "dict"∧((∃kvs,H p=some (.dK kvs))∨∃kvs,H p=some (.dT kvs)))∨(T = "set"∧∃S n,H p=some (.set S n))
 | _=>False
theorem nK{pins:List (Addr×Obj)}{σ:St}{H:Hp}{s:Shared}{T:String}{x:V}{v:Value}(I:Inv X pins σ H s)(r:RelV x v)(ty:ke X.K T x H) :
  s.TypeIs v T∧∀a,v=.ref a→∃ob,s.heap.get? a=some ob∧ob.dict=none:=by
 cases x with
 | str z=>
  obtain ⟨t,rfl⟩:=r
  cases (show T = "str" from ty)
  exact ⟨typeIs_str s z t,fun _ e=>nomatch e⟩
 | int i=>
  obtain ⟨t,rfl⟩:=r
  cases (show T = "int" from ty)
  exact ⟨typeIs_int s i t,fun _ e=>nomatch e⟩
 | ref p=>
  cases r
  rcases ty with ⟨rfl,xs,hq⟩ | ⟨rfl,o,hk,hc,hd⟩ | ⟨rfl,hk⟩ | ⟨rfl,S,n,hk⟩
  ·obtain ⟨aa,_,pl,_⟩:=I.list hq
   refine ⟨pl.isList.typeIs,fun a e=>?_⟩
   cases e
   obtain ⟨o,n,e,c,hd,_⟩:=pl
   exact ⟨o,e,hd⟩
  ·refine ⟨⟨o,I.bq p o hk,hc⟩,fun a e=>?_⟩
   cases e
   exact ⟨o,I.bq _ o hk,hd⟩
  ·have z:∃o,s.heap.get? p=some o∧o.ExactDict:=by
    rcases hk with ⟨kvs,hk⟩ | ⟨kvs,hk⟩
    ·obtain ⟨_,_,_,_,o,_,_,e,ex,_⟩:=I.aj p _ hk
     exact ⟨o,e,ex⟩
    ·obtain ⟨_,_,_,_,o,_,_,e,ex,_⟩:=I.aj p _ hk
     exact ⟨o,e,ex⟩
   obtain ⟨o,e,ex⟩:=z
   refine ⟨⟨o,e,ex.1⟩,fun a e2=>?_⟩
   cases e2
   exact ⟨o,e,ex.2.1⟩
  ·obtain ⟨o,_,_,_,e,ex,_⟩:=I.aj p _ hk
   refine ⟨⟨o,e,ex.1⟩,fun a e2=>?_⟩
   cases e2
   exact ⟨o,e,ex.2.1⟩
 | _=>exact False.elim ty
def tj(K:PySem.W.Frag)(T:String)(r:V→List V→Hp→VK→Prop)(to:TE):TE:=fun σ H Q=>to σ H fun x H1=>ke K T x H1∧r x [] H1 Q
def tm(K:PySem.W.Frag)(T:String)(r:V→List V→Hp→VK→Prop)(to:TE)(t:TA):TE:=fun σ H Q=>to σ H fun x H1=>ke K T x H1∧t σ H1 fun xs H2=>r x xs H2 Q
variable {o e:Expr} {es:List Expr} {to:TE} {t:TA} {name:Str} {apos bR:Pos} {T id:String} {r:V→List V→Hp→VK→Prop}
theorem nM(pa:PlainAttrs T)(slot:Slot T name id)(kf:typeOf (.builtin id)=pure (.type "method_descriptor"))(hm:nG X id r)(ho:PE X o to)
  (kg:attributeBase o name X.env (eval o X.env)=eval o X.env:=by rfl) (kh:(apos.endLine == bR.line)=true:=by rfl):PE X (.Call (.Attribute o name apos) [] [] bR) (tj X.K T r to):=by
 intro pins s σ H Q I h
 refine wpAny_Call_method0_late kg kh (ar (ho pins s σ H _ I h) fun v s1 ⟨x,H1,I1,r1,ty,q1⟩=>?_)
 obtain ⟨h1,h2⟩:=nK I1 r1 ty
 exact ⟨T,id,pa,slot,kf,h1,h2,Calls.callWith_builtin rfl (PySem.evalArgs_none (hm pins s1 σ H1 x [] v [] Q I1 r1 .nil q1))⟩
theorem dc(pa:PlainAttrs T)(slot:Slot T name id)(kf:typeOf (.builtin id)=pure (.type "method_descriptor"))(hm:nG X id r)(ho:PE X o to)(ha:PA X (e::es) t)
  (kg:attributeBase o name X.env (eval o X.env)=eval o X.env:=by rfl)
  (tq:((backTo bR (starEach (e::es) X.env)).all (fun x=>!x.1) && (backToKw bR (keywordEach [] X.env)).all (fun x=>x.1.isSome)
   && decide ((e::es).length+([]:List Keyword).length+(if ([]:List Keyword).isEmpty then 0 else 1)<30))=true:=by rfl)
  (kh:(apos.endLine == bR.line)=true:=by rfl) (hs:starEach (e::es) X.env=(false,eval e X.env)::starEach es X.env:=by rfl) (tu:(backTo bR (starEach es X.env)).any (·.1)=false:=by rfl) :
  PE X (.Call (.Attribute o name apos) (e::es) [] bR) (tm X.K T r to t):=by
 intro pins s σ H Q I h
 refine wpAny_Call_method_late kg tq kh rfl (ar (ho pins s σ H _ I h) fun v s1 ⟨x,H1,I1,r1,ty,q1⟩=>?_)
 obtain ⟨h1,h2⟩:=nK I1 r1 ty
 refine ⟨T,id,pa,slot,kf,h1,h2,?_⟩
 have hA:=ha bR pins s1 σ H1 _ I1 q1
 rw [hs] at hA ⊢
 refine Calls.callWith_builtin (by show (false || (backTo bR (starEach es X.env)).any (·.1))=false;rw [tu] <;> rfl) (Calls.evalArgs_plain ?_)
 exact ar hA fun us s2 ⟨vs,H2,I2,r2,q2⟩=>hm pins s2 σ H2 x vs v us Q I2 r1 r2 q2
end
def iK(X:Cx)(id:String)(r:V→List V→Hp→VK→Prop):Prop:=
 ∀(pins:List (Addr×Obj)) (s:Shared) (σ:St) (H:Hp) (x:V) (xs:List V) (v:Value) (us:List Value) (Q:VK),Inv X pins σ H s→RelV x v→Vals xs us→r x xs H Q→
  wpAny (model X.prog X.w) X.A (call (.builtin id) (v::us)) (EP X pins σ Q) X.xe s
theorem Vals.one:∀{x:V} {us:List Value},Vals [x] us→∃u,us=[u]∧RelV x u
 | _,_,.cons r .nil=>⟨_,rfl,r⟩
theorem Vals.zero:∀{us:List Value},Vals [] us→us=[]
 | _,.nil=>rfl
theorem Vals.dropLast{xs:List V}{us:List Value}(h:Vals xs us):Vals xs.dropLast us.dropLast:=by
 induction h with
 | nil=>exact .nil
 | cons r t ih=>
  cases t with
  | nil=>exact .nil
  | cons q t'=>exact .cons r ih
theorem Vals.eraseIdx:∀{xs:List V} {us:List Value} (i:Nat),Vals xs us→Vals (xs.eraseIdx i) (us.eraseIdx i)
 | _,_,_,.nil=>.nil
 | _,_,0,.cons _ t=>t
 | _,_,i+1,.cons r t=>.cons r (Vals.eraseIdx i t)
theorem tw{α:Type}(l:List α):l.eraseIdx (l.length-1)=l.dropLast:=by
 induction l with
 | nil=>rfl
 | cons a r ih=>
  cases r with
  | nil=>rfl
  | cons b r=>
   have e:(a::b::r).length-1=((b::r).length-1)+1:=by
    have h1:(a::b::r).length=r.length+2:=rfl
    have h2:(b::r).length=r.length+1:=rfl
    omega
   rw [e,List.eraseIdx_cons_succ,ih]
   all_goals rfl
theorem nN{α:Type}:∀(l:List α) (i:Nat),(l.eraseIdx i).length≤l.length
 | [],_=>Nat.le_refl _
 | _::_,0=>Nat.le_succ _
 | _::r,i+1=>Nat.succ_le_succ (nN r i)
section
variable {X:Cx} {pins:List (Addr×Obj)} {σ:St} {H:Hp} {s:Shared} {l b:Addr} {xs ys zs:List V}
theorem Inv.iL{aa its':List Value}{n:Nat}{f:Array Value→Array Value}{t':Nat}(I:Inv X pins σ H s)(hH:H l=some (.lst xs))
  (e:s.heap.get? l=some {cls:=.type "list",data:=.seq aa.toArray n}) (hf:f aa.toArray=its'.toArray) (hv:Vals ys its') (hz:ys.length≤sizeLine) :
  Inv X pins σ (upd H l (.lst ys)) {s with heap:=s.heap.update l (Obj.mapSeq f),toks:=t'}:=by
 have q:=PySem.IsL.update e f
 rw [hf] at q
 refine I.write (x:=l) (e:=l) (by rw [hH];exact trivial) (.inl rfl) (fun b' u hb hu=>(Heap.get?_update_other s.heap (Obj.mapSeq f) (Ne.symm hb)).trans hu) ⟨_,q⟩ ?_
 exact ⟨hz,its',_,hv,q⟩
theorem Inv.tD{aa:List Value}{t':Nat}(I:Inv X pins σ H s)(hv:Vals ys aa)(hz:ys.length≤sizeLine) :
  Inv X pins σ (upd H s.heap.objs.size (.lst ys)) {s with heap:=s.heap.push {cls:=.type "list",data:=.seq aa.toArray},toks:=t'}:=
 I.laid (fun _ _ q=>Heap.get?_push_of_some _ q) (Nat.le_refl _) ⟨hz,aa,0,hv,Heap.get?_push_size _ rfl⟩
theorem Inv.fresh(I:Inv X pins σ H s):H s.heap.objs.size=none:=I.aj.fresh (Nat.le_refl _)
theorem Inv.eB(I:Inv X pins σ H s)(hH:H l=some (.lst xs)):xs.length≤sizeLine∧∃(aa:List Value) (n:Nat),Vals xs aa∧xs.length=aa.length∧s.heap.get? l=some {cls:=.type "list",data:=.seq aa.toArray n}:=by
 obtain ⟨z,aa,n,r,e⟩:=I.aj l _ hH
 exact ⟨z,aa,n,r,r.length,e⟩
theorem tE{n:Nat}(h:n≤sizeLine):Builtin.List.listTooLong n=false:=by
 unfold Builtin.List.listTooLong
 exact decide_eq_false (by omega)
end
section
variable {X:Cx}
def tF:V→List V→Hp→VK→Prop:=fun x vs H Q=>∃l xs y,x=.ref l∧vs=[y]∧H l=some (.lst xs)∧xs.length<sizeLine∧Q .av (upd H l (.lst (xs++[y])))
theorem de:iK X "list.append" tF:=by
 intro pins s σ H x vs v us Q I rx rv h
 obtain ⟨l,xs,y,rfl,rfl,hH,hz,q⟩:=h
 cases rx
 obtain ⟨u,rfl,ru⟩:=rv.one
 obtain ⟨z,aa,n,r,hl,e⟩:=I.eB hH
 refine call_meets F.slot_list_append ⟨_,e,rfl⟩ F.entry_list_append (F.args_list_append_2 _ _) (PySem.list_append l aa.toArray n u (by rw [List.size_toArray];omega)) ⟨e,?_⟩
 refine ⟨.av,_,I.iL (its':=aa++[u]) hH e (by simp) (r.append (.cons ru .nil)) ?_,rfl,q⟩
 rw [List.length_append,List.length_singleton]
 omega
def tG:V→List V→Hp→VK→Prop:=fun x vs H Q=>∃l b xs zs,x=.ref l∧vs=[.ref b]∧H l=some (.lst xs)∧H b=some (.lst zs)∧xs.length+zs.length≤sizeLine∧Q .av (upd H l (.lst (xs++zs)))
theorem tH:iK X "list.extend" tG:=by
 intro pins s σ H x vs v us Q I rx rv h
 obtain ⟨l,b,xs,zs,rfl,rfl,hH,hB,hz,q⟩:=h
 cases rx
 obtain ⟨u,rfl,ru⟩:=rv.one
 cases ru
 obtain ⟨z,aa,n,r,hl,e⟩:=I.eB hH
 obtain ⟨z2,d2,n2,r2,tI,e2⟩:=I.eB hB
 have hsz:aa.toArray.size+d2.toArray.size≤sizeLine:=by rw [List.size_toArray,List.size_toArray];omega
 have tJ:¬(!aa.toArray.isEmpty && Builtin.List.listTooLong (aa.toArray.size+d2.toArray.size))=true:=by
  rw [tE hsz,Bool.and_false]
  exact Bool.false_ne_true
 refine call_meets F.slot_list_extend ⟨_,e,rfl⟩ F.entry_list_extend (F.args_list_extend_2 _ _)
  (AutoSeq1.list_extend_list_list_0 l aa.toArray n b d2.toArray n2 tJ (by rw [List.size_toArray];omega) (by omega)) ⟨e,e2,?_⟩
 refine ⟨.av,_,I.iL (its':=aa++d2) hH e (by simp) (r.append r2) ?_,rfl,q⟩
 rw [List.length_append]
 omega
def tK:V→List V→Hp→VK→Prop:=fun x vs H Q=>∃l xs y,x=.ref l∧vs=[]∧H l=some (.lst xs)∧xs[xs.length-1]?=some y∧Q y (upd H l (.lst xs.dropLast))
theorem nO:iK X "list.pop" tK:=by
 intro pins s σ H x vs v us Q I rx rv h
 obtain ⟨l,xs,y,rfl,rfl,hH,hy,q⟩:=h
 cases rx
 have ki:=rv.zero
 subst ki
 obtain ⟨z,aa,n,r,hl,e⟩:=I.eB hH
 obtain ⟨u,hu,ru⟩:=r.get hy
 have tL:aa.toArray[aa.toArray.size-1]?=some u:=by
  show aa.toArray[aa.length-1]?=some u
  rw [←Array.getElem?_toList,←hl]
  exact hu
 refine call_meets F.slot_list_pop ⟨_,e,rfl⟩ F.entry_list_pop (F.args_list_pop_1 _) (MeetsSeq.list_pop_last l aa.toArray n u tL (by rw [List.size_toArray];omega)) ⟨e,?_⟩
 refine ⟨y,_,I.iL (its':=aa.dropLast) hH e ?_ r.dropLast ?_,ru,q⟩
 ·show aa.toArray.eraseIdxIfInBounds (aa.toArray.size-1)=aa.dropLast.toArray
  rw [List.size_toArray,List.eraseIdxIfInBounds_toArray,tw]
 ·rw [List.length_dropLast]
  omega
def tM:V→List V→Hp→VK→Prop:=fun x vs H Q=>∃l xs i k y,x=.ref l∧vs=[.int i]∧H l=some (.lst xs)∧-(2 ^ 63)≤i∧i<2 ^ 63∧seqIndex? i xs.length=some k∧xs[k]?=some y∧Q y (upd H l (.lst (xs.eraseIdx k)))
theorem tN:iK X "list.pop" tM:=by
 intro pins s σ H x vs v us Q I rx rv h
 obtain ⟨l,xs,i,k,y,rfl,rfl,hH,h1,h2,hk,hy,q⟩:=h
 cases rx
 obtain ⟨u,rfl,ru⟩:=rv.one
 obtain ⟨t,rfl⟩:=ru
 obtain ⟨z,aa,n,r,hl,e⟩:=I.eB hH
 obtain ⟨w,hw,gM⟩:=r.get hy
 refine call_meets F.slot_list_pop ⟨_,e,rfl⟩ F.entry_list_pop (F.args_list_pop_2 _ _)
  (MeetsSeq.list_pop_at l aa.toArray n i t k w (fitsIndex_both h1 h2) (by rw [List.size_toArray,←hl];exact hk) (by rw [←Array.getElem?_toList];exact hw) (by rw [List.size_toArray];omega)) ⟨e,?_⟩
 refine ⟨y,_,I.iL (its':=aa.eraseIdx k) hH e ?_ (r.eraseIdx k) ?_,gM,q⟩
 ·show aa.toArray.eraseIdxIfInBounds k=(aa.eraseIdx k).toArray
  rw [List.eraseIdxIfInBounds_toArray]
 ·have:=nN xs k
  omega
def tO:R2:=fun x y H Q=>∃l b xs zs,x=.ref l∧y=.ref b∧H l=some (.lst xs)∧H b=some (.lst zs)∧xs.length+zs.length≤sizeLine∧∀p,H p=none→Q (.ref p) (upd H p (.lst (xs++zs)))
theorem tP:aZ X (binaryOp .Add) tO:=by
 intro pins s σ H x y v u Q I rx ry h
 obtain ⟨l,b,xs,zs,rfl,rfl,hH,hB,hz,q⟩:=h
 cases rx
 cases ry
 obtain ⟨z,aa,n,r,hl,e⟩:=I.eB hH
 obtain ⟨z2,d2,n2,r2,tI,e2⟩:=I.eB hB
 refine PySem.P.add_list e e2 ?_ (by rw [List.size_toArray,List.size_toArray];omega)
 have ea:aa.toArray++d2.toArray=(aa++d2).toArray:=by simp
 rw [ea]
 exact ⟨.ref _,_,I.tD (t':=s.toks) (r.append r2) (by rw [List.length_append];omega),rfl,q _ I.fresh⟩
end
section
variable {prog:Program} {w:World} {A:Around} {E:Value→Shared→Prop} {s:Shared}
end
section
variable {X:Cx}
end
end L2
namespace iM
open PySem PySem.W PySem.Calls PyProof.Rows
theorem tQ{P:Params}{h:Heap}:∀(ns:List Int) (vs:List Value),WellAll P h vs (ns.map WData.int)→IntsAre vs ns:=by
 intro ns
 induction ns with
 | nil=>
  intro vs w
  rw [List.map_nil] at w
  cases w
  exact .nil
 | cons n ns ih=>
  intro vs w
  rw [List.map_cons] at w
  cases w with
  | cons a b=>
   cases a
   exact .cons _ _ (ih _ b)
theorem tR{l:OpenLaw}{n:Nat}(hn:l.most=some n){P:Params}{h:Heap}{args:List WData}{vals:List Value}
  (iN:l.row.toRowW.claim.pre args=true) (kj:WellAll P h vals args) :
  ∃a vs ns,vals=[Value.ref a]∧args=[WData.list (ns.map WData.int)]∧h.get? a=some {cls:=.type "list",data:=.seq vs.toArray}∧IntsAre vs ns∧ns.length≤n:=by
 have tS:WShape.hasAll [] args [.list .int]=true:=(pre_splitW iN).1
 have hc:l.pre.holds [] {args:=args}=true:=(pre_splitW iN).2
 obtain ⟨d,r,rfl,h1,h2⟩:=hasAllW_cons tS
 obtain rfl:=hasAllW_nil h2
 obtain ⟨xs,rfl,h3⟩:=hasW_list h1
 obtain ⟨ns,rfl⟩:=items_int h3
 have hlen:ns.length≤n:=by
  unfold OpenLaw.pre at hc
  have h4:(WTm.not (.lt (.lit (.int (n:Int))) (.len (.arg 0)))).holds [] {args:=[.list (ns.map .int)]}=true:=by
   have h4:=(holds_andW hc).1
   rw [hn] at h4
   exact h4
  have h5:=condW_of h4 (w_not (w_lt w_lit (w_len_list (w_arg rfl))))
  rw [List.length_map] at h5
  refine Nat.le_of_not_lt fun q=>?_
  have q':(n:Int)<((ns.length:Nat):Int):=by omega
  first
   | (rw [decide_eq_true q'] at h5;exact absurd h5 (by decide))
   | (simp at h5;omega)
 cases kj with
 | cons w1 w2=>
  cases w2
  cases w1 with
  | list ho ko=>exact ⟨_,_,ns,rfl,rfl,ho,tQ ns _ ko,hlen⟩
theorem tT(l:OpenLaw)(args:List WData):l.row.toRowW.claim.post args (.bool true) args=true:=
 postW_of (r:=l.row.toRowW) (X:=(true == true))
  (show WShape.has [] (.bool true) .bool=true by first | rfl | decide | simp [WShape.has,WShape.arms,WShape.armsAll])
  (show (WTm.eq .res (.lit (.bool true))).value [] {args:=args,res:=some (.bool true),after:=args}=some (.bool (true == true)) from w_eq_bool (w_res rfl) w_lit) rfl
theorem tU{l:OpenLaw}{n:Nat}{q:Program}{loose:List Str}{XP:(Str→Option Value)→Heap→Prop}{YP:World→Heap→Prop}{d:DefRec}
  (hn:l.most=some n) (gP:d.params.defaults=[])
  (call:∀(w:World) (s₀ s₁:Shared) (mg mb:Str→Option Value) (fa:Addr) (o:Obj) (pm cd doc:Value) (a:Addr) (vs:List Value) (ns:List Int),
   Ground q loose [] XP w s₀ mg mb s₁.heap→YP w s₁.heap→
   s₁.heap.get? fa=some o→o.data=.func (docDef d.name d.params d.body d.scope pm cd doc)→s₁.heap.CodeRec cd d.name→mg d.name=some (.ref fa)→
   s₁.heap.get? a=some {cls:=.type "list",data:=.seq vs.toArray}→IntsAre vs ns→ns.length≤n→s₁.gens = #[]→
   codeAny (model l.prog w) callerA (.call (.ref fa) ⟨[.ref a],[]⟩) (fun r s'=>r=.ok (.ret (.bool true))∧OldK s₁.heap s'.heap∧s'.os=s₁.os∧AllBare s'.gens) s₁) :
  WalkO q loose XP YP l.row.toRowW d [] (fun f vs=>PySem.call f vs):=by
 intro w s₀ s₁ mg mb G Y fa o pm cd doc dV kV ho hd bZ hD gQ hg args vals as iN zA zB kj zC
 obtain rfl:dV=.none:=Dflts.none hD gP
 obtain rfl:kV=.none:=Dflts.noKw hD
 obtain ⟨a,vs,ns,rfl,rfl,kq,hints,hlen⟩:=tR hn iN kj
 refine enter_call (codeAny_mono (call w s₀ s₁ mg mb fa o pm cd doc a vs ns G Y ho (fd_plain hd) bZ gQ kq hints hlen hg) fun r s' hq=>?_)
 obtain ⟨rfl,h2,h3,h4⟩:=hq
 exact ⟨.inl ⟨.bool true,.bool true,[],rfl,fun _=>rfl,.bool true,tT l _,fun _=>⟨List.Pairwise.nil,fun _ hm=>(nomatch hm)⟩⟩,h2,h3,h4⟩
section
variable {prog:Program} {w:World} {A:Around} {E:Value→Shared→Prop} {s:Shared} {K:Frag}
end
end iM
namespace L2
open PySem PySem.Spec PyProof.Rows
theorem nQ:∀{vs:List Value} {ns:List Int},IntsAre vs ns→Vals (ns.map V.int) vs
 | _,_,.nil=>.nil
 | _,_,.cons n t h=>.cons ⟨t,rfl⟩ (nQ h)
def kr(H:Hp):Prop:=∀b,H b=none∨∃o xs,H b=some (.aB o (.lst xs))
theorem tV{P:Program}{w:World}{K:PySem.W.Frag}{mg mb:Str→Option Value}{CX:bO}{k:Nat}{fa a:Addr}{fd:FuncData}{x:Str}{sp:Sp}{s₁:Shared}{vs:List Value}{ns:List Int}
  (KX:K.In s₁.heap) (nR:s₁.heap.Ns mainGlobals mg) (hb:s₁.heap.Ns builtinsNs mb) (tW:∀x:Str,x ≠ "__name__"→mb x=bootBuiltins x) (tX:s₁.heap.NoLimit) (hg:s₁.gens = #[])
  (ha:s₁.heap.get? a=some {cls:=.type "list",data:=.seq vs.toArray}) (hi:IntsAre vs ns) (hl:ns.length≤sizeLine) (hr:bg k callerA)
  (F:∀base:Heap,K.In base→base.Ns mainGlobals mg→aX P w K mg base CX k fa fd [x] sp) (tY:∀(s:Shared) (u:Value),BindsTo s fd ⟨[u],[]⟩ [(x,u)])
  (c_:∀H:Hp,kr H→aH K H a (ns.map V.int)→sp [.ref a] H (fun v _=>v=.bl true) fun _ _ _=>False)
  (ku:∀H e s',CX [] H s₁ (fun _ _ _=>False) e s'→False) :
  codeAny (model P w) callerA (.call (.ref fa) ⟨[.ref a],[]⟩) (fun r s'=>r=.ok (.ret (.bool true))∧OldK s₁.heap s'.heap∧s'.os=s₁.os∧AllBare s'.gens) s₁:=by
 have rv:=nQ hi
 have tZ:=hi.length
 have core:∀H:Hp,kr H→aH K H a (ns.map V.int)→aK P w H s₁.heap→(∀b,H b≠none→b=a)→(H a≠none→K.lookup a=none)→
   codeAny (model P w) callerA (.call (.ref fa) ⟨[.ref a],[]⟩) (fun r s'=>r=.ok (.ret (.bool true))∧OldK s₁.heap s'.heap∧s'.os=s₁.os∧AllBare s'.gens) s₁:=by
  intro H hO hS aj hA hK
  have nS:∀{b:Addr} {o:Obj},s₁.heap.get? b=some o→H b=none→(dm s₁.heap H).get? b=some o:=fun e n=>qS e n
  have gI:∀{b:Addr} {o:Obj} {es:Array DictEntry} {ep:Nat},s₁.heap.get? b=some o→o.data=.dict es ep→H b=none:=fun{b o es ep} e d=>by
   cases q:H b with
   | none=>rfl
   | some u=>
    have e':b=a:=hA b (by rw [q];simp)
    subst e'
    rw [ha] at e;cases e
    have d':Data.seq vs.toArray _=Data.dict es ep:=d
    cases d'
  have iO:∀{b:Addr} {m:Str→Option Value},s₁.heap.Ns b m→(dm s₁.heap H).Ns b m:=fun{b m} ⟨o,es,ep,e,d,r⟩=>⟨o,es,ep,nS e (gI e d),d,r⟩
  have nT:K.In (dm s₁.heap H):=fun b o e=>nS (KX b o e) (by
   cases q:H b with
   | none=>rfl
   | some u=>
    have e':b=a:=hA b (by rw [q];simp)
    subst e'
    rw [hK (by rw [q];simp)] at e;cases e)
  have hM:Mod K mg (dm s₁.heap H):=⟨nT,iO nR,⟨mb,iO hb,tW⟩,let ⟨mc,h1,h2⟩:=tX;⟨mc,iO h1,h2⟩⟩
  have e0:iI P w K mg (dm s₁.heap H) callerA [] s₁ H:=⟨rfl,hM,fun b o e=>qT e,Nat.le_of_eq (qR _ _),trivial,fun b hb=>absurd (show b∈([]:List Addr) from hb) (by simp),aj,.of_eq hg⟩
  refine codeAny_mono ((F _ nT (iO nR)).run callerA [] s₁ H ⟨[.ref a],[]⟩ [.ref a] [.ref a] _ _ hr e0 (tY s₁ (.ref a)) (.cons rfl .nil) (c_ H hO hS)) fun r s' h=>?_
  cases r with
  | error e=>exact (ku H e s' h).elim
  | ok fl=>
   cases fl with
   | next=>exact False.elim h
   | brk=>exact False.elim h
   | cont=>exact False.elim h
   | ret u=>
    obtain ⟨v,H',os,bare,un,t4,r',q⟩:=h
    have q':v=.bl true:=q
    subst q'
    obtain rfl:u=Value.bool true:=r'
    refine ⟨rfl,OldK.of_keep fun b o e=>?_,os,bare⟩
    cases q:H b with
    | none=>exact un.keep b o e q (by intro z;exact absurd (show b∈([]:List Addr) from z) (by simp)) (by simp)
    | some u=>
     rcases hO b with z | ⟨ob,xs,z⟩
     ·rw [q] at z;cases z
     ·have z2:=un.bL b ob _ z
      obtain ⟨e1,_⟩:=aj b _ z
      obtain ⟨e2,_⟩:=t4 b _ z2
      rw [e] at e1;cases e1
      exact e2
 cases hk:K.lookup a with
 | some o=>
  have e:=KX a o hk
  rw [ha] at e
  cases e
  refine core (fun _=>none) (fun _=>.inl rfl) (.inr ⟨_,vs.toArray,_,hk,rfl,rfl,rfl,by rw [List.size_toArray,tZ];exact hl,by simpa using rv⟩) (fun b u z=>by have z':(none:Option HO)=some u:=z;cases z') (fun b z=>absurd rfl z) fun z=>absurd rfl z
 | none=>
  refine core (fun b=>if b=a then some (.aB {cls:=.type "list",data:=.seq vs.toArray} (.lst (ns.map V.int))) else none) (fun b=>?_) (.inl (.inr ⟨{cls:=.type "list",data:=.seq vs.toArray},if_pos rfl⟩)) (fun b u z=>?_) (fun b z=>?_) fun _=>hk
  ·by_cases hb:b=a
   ·exact .inr ⟨_,_,if_pos hb⟩
   ·exact .inl (if_neg hb)
  ·by_cases hb:b=a
   ·have z':=(if_pos hb).symm.trans z
    cases z'
    subst hb
    exact ⟨ha,by rw [List.length_map];exact hl,vs,_,rv,ha⟩
   ·have z':=(if_neg hb).symm.trans z
    cases z'
  ·by_cases hb:b=a
   ·exact hb
   ·exact absurd (if_neg hb) z
abbrev nU {K:PySem.W.Frag} {h:Heap} (_:K.In h):PySem.W.Frag:=K
theorem t5{l:PySem.W.OpenLaw}{n k:Nat}{q:Program}{loose:List Str}{XP:(Str→Option Value)→Heap→Prop}{YP:World→Heap→Prop}{d:DefRec}{K:Params→PySem.W.Frag}{CX:World→bO}{sp:World→Sp}{x:Str}
  (hn:l.most=some n) (t6:n≤sizeLine) (gP:d.params.defaults=[]) (hr:bg k callerA)
  (hY:∀(w:World) (h:Heap),YP w h→(K w.params).In h)
  (F:∀(w:World) (mg:Str→Option Value) (fa:Addr) (h:Heap),(K w.params).In h→h.Ns mainGlobals mg→mg d.name=some (.ref fa)→
   ∃fd:FuncData,(∀(s:Shared) (u:Value),BindsTo s fd ⟨[u],[]⟩ [(x,u)]) ∧
    ∀base:Heap,(K w.params).In base→base.Ns mainGlobals mg→aX l.prog w (K w.params) mg base (CX w) k fa fd [x] (sp w))
  (c_:∀(w:World) (H:Hp) (a:Addr) (ns:List Int),ns.length≤n→kr H→aH (K w.params) H a (ns.map V.int)→sp w [.ref a] H (fun v _=>v=.bl true) fun _ _ _=>False)
  (ku:∀(w:World) (H:Hp) (s:Shared) (e:Value) (s':Shared),CX w [] H s (fun _ _ _=>False) e s'→False) :
  PySem.W.WalkO q loose XP YP l.row.toRowW d [] (fun f vs=>PySem.call f vs):=by
 refine iM.tU hn gP fun w s₀ s₁ mg mb fa o pm cd doc a vs ns G Y ho hd bZ gQ kq hints hlen hg=>?_
 have KX:=hY w _ Y
 obtain ⟨fd,hb,hF⟩:=F w mg fa _ KX G.T.g gQ
 exact tV KX G.T.g G.T.b G.T.builtins G.T.nolimit hg kq hints (Nat.le_trans hlen t6) hr hF hb (fun H hO hS=>c_ w H a ns hlen hO hS) fun H e s'=>ku w H s₁ e s'
def iP(s:Stmt):Arguments:=match s with
 | .FunctionDef _ a _ _ _ _ _ _ _ _=>a
 | _=>{posonlyargs:=[],args:=[],vararg:=none,kwonlyargs:=[],kw_defaults:=[],kwarg:=none,defaults:=[]}
def fz(s:Stmt):List Stmt:=match s with
 | .FunctionDef _ _ b _ _ _ _ _ _ _=>b
 | _=>[]
def aT(s:Stmt):Scope:=match s with
 | .FunctionDef _ _ _ _ _ _ sc _ _ _=>sc
 | _=>{kind:=.function,names:=[],isGenerator:=false,isCoroutine:=false}
abbrev bj:bO:=fun _ _ _ _ _ _=>False
abbrev E0:XK:=fun _ _ _=>False
theorem aY{X:Cx}:Passes bj X E0:=fun _ _ _ _ _ _ _ h=>h.elim
structure aC (K:PySem.W.Frag) (x qual:Str) (st:Stmt) (f:Addr) (fd:FuncData):Prop where
 ex:∃(oc:Value) (od:Option Addr) (kV doc pm:Value) (an:Option Addr) (ay ct:Value) (cZ:Array (Option Value)),
  fd=PySem.W.fnOf x qual (iP st) (fz st) (aT st) .none kV doc pm an ay ct∧K.lookup f=some ⟨oc,od,.func fd,cZ⟩∧PySem.W.codeIn K ay qual=true
 kp:PySem.W.keepIn K (.ref f)=true
section
variable {P:Program} {w:World} {K:PySem.W.Frag} {mg:Str→Option Value} {base:Heap}
theorem aC.ok{x qual:Str}{st:Stmt}{f:Addr}{fd:FuncData}{N ps:List Str}{k:Nat}{sp:Sp}(F:aC K x qual st f fd)(S:bh N ps (aT st))(len:∀vs H Q E,sp vs H Q E→vs.length=ps.length)
  (gJ:∀(ay:Value) (A:Around) (outer:List Env) (s:Shared) (H:Hp) (vs:List V) (Q:VK) (E:XK),bg k (A.deeper (envOfC qual (aT st) s.heap.objs.size f ay))→sp vs H Q E→
   ∃t,bY (dZ bj P w K mg base N qual (aT st) f ay A outer s H E).ir (fz st) t∧t {nx:=fun _ H'=>Q .av H',rt:=Q} (start N vs) H):aX P w K mg base bj (k+1) f fd ps sp:=by
 obtain ⟨oc,od,kV,doc,pm,an,ay,ct,cZ,rfl,lk,bZ⟩:=F.ex
 refine nC lk bZ S len fun A outer s H vs Q E hr c_=>?_
 obtain ⟨t,h,q⟩:=gJ ay A outer s H vs Q E hr c_
 exact ⟨t,h.ir,q⟩
theorem aC.binds{x qual:Str}{st:Stmt}{f:Addr}{fd:FuncData}{ps:List Str}(F:aC K x qual st f fd)
  (h:∀(kV doc pm:Value) (an:Option Addr) (ay ct:Value) (us:List Value),us.length=ps.length→bindArgs (PySem.W.fnOf x qual (iP st) (fz st) (aT st) .none kV doc pm an ay ct) ⟨us,[]⟩=pure (ps.zip us)):Binds K fd ps []:=by
 obtain ⟨oc,od,kV,doc,pm,an,ay,ct,cZ,rfl,lk,bZ⟩:=F.ex
 exact .all (h kV doc pm an ay ct)
theorem bG{x qual:Str}{st:Stmt}{f:Addr}{oc:Value}{od an:Option Addr}{cZ:Array (Option Value)}{kV doc pm ay ct:Value}(l:K.lookup f=some ⟨oc,od,.func (PySem.W.fnOf x qual (iP st) (fz st) (aT st) .none kV doc pm an ay ct),cZ⟩)
  (c:PySem.W.codeIn K ay qual=true) (k:PySem.W.keepIn K (.ref f)=true):aC K x qual st f (PySem.W.fnOf x qual (iP st) (fz st) (aT st) .none kV doc pm an ay ct):=⟨⟨oc,od,kV,doc,pm,an,ay,ct,cZ,rfl,l,c⟩,k⟩
end
theorem bt{n:Nat}(h:n≤1000):n<sizeLine:=Nat.lt_of_le_of_lt h (by decide)
section
variable {X:Cx}
theorem pv(i:Nat){x:Str}{pos:Pos}(hN:X.N[i]?=some x:=by rfl)(hv:ig X.env.scope x:=by first | exact Or.inl rfl | exact Or.inr (Or.inl rfl) | exact Or.inr (Or.inr rfl))(hd:(x == ("__debug__":Str))=false:=by decide)
  (bZ:(x == ("__classdict__":Str))=false:=by decide):PE X (.Name x pos) (mL i):=q_ hN hv hd bZ
end
theorem gR{A B:Prop}(h:B):if false=true then A else B:=by
 rw [if_neg Bool.false_ne_true]
 exact h
theorem kx{A B:Prop}(h:A):if true=true then A else B:=by
 rw [if_pos rfl]
 exact h
theorem a7{c A B:Prop}[Decidable c](h1:c→A)(h2:¬c→B):if c then A else B:=by
 by_cases h:c
 ·rw [if_pos h]
  exact h1 h
 ·rw [if_neg h]
  exact h2 h
def ag(H H':Hp):Prop:=∀b o,H b=some o→H' b=some o
theorem ag.refl(H:Hp):ag H H:=fun _ _ h=>h
theorem ag.trans{H H1 H2:Hp}(a:ag H H1)(b:ag H1 H2):ag H H2:=fun c o h=>b c o (a c o h)
theorem ag.seq{K:PySem.W.Frag}{H H':Hp}{a:Addr}{xs:List V}(e:ag H H')(h:aH K H a xs):aH K H' a xs:=by
 rcases h with (h | ⟨o,h⟩) | h
 ·exact .inl (.inl (e _ _ h))
 ·exact .inl (.inr ⟨o,e _ _ h⟩)
 ·exact .inr h
end L2
set_option maxHeartbeats 4000000
namespace L2
open PySem PySem.Spec PyProof.Rows
structure iQ (P:Program) (w:World) (outer:List Env) (H:Hp) (s:Shared) (H':Hp) (ea C:Addr) (B:Heap) (t:Addr) (s':Shared):Prop where
 os:s'.os=s.os
 bare:AllBare s'.gens
 fl:Heap.FlyingW B outer ea (.ref C) (.ref t) s'.heap
 aj:aK P w H' B
 kb:∀b o,s.heap.get? b=some o→H b=none→b∉aQ outer→B.get? b=some o
 tb:∀b o,s.heap.get? b=some o→b∉aQ outer→∃o',B.get? b=some o'
 sl:∀b o,s.heap.get? b=some o→H b=none→b∈aQ outer→∃l,s'.heap.get? b=some {o with slots:=l}
 zD:∀b∈aQ outer,H b=none
 t7:∀b o,s.heap.get? b=some o→H b=none→H' b=none
 bW:∀b xs,H b=some (.tup xs)→H' b=some (.tup xs)
 bL:∀b o u,H b=some (.aB o u)→H' b=some (.aB o u)
 bX:∀b ps,H b=some (.di ps)→∃more,H' b=some (.di (ps++more))
def dv(P:Program)(w:World):bO:=fun outer H s E e s'=>∃ea C H' B t,e=.ref ea∧iQ P w outer H s H' ea C B t s'∧E (.ref C) none H'
section
variable {P:Program} {w:World} {outer:List Env} {H H':Hp} {s s':Shared} {ea C t:Addr} {B:Heap}
def ExcAt(ea C:Addr)(h:Heap):Prop:=∃oe,h.get? ea=some oe∧oe.cls=.ref C∧PySem.W.notCls oe=true
def t8(ea C:Addr):HO:=.ext (ExcAt ea C)
end
section
variable {X:Cx} {pins:List (Addr×Obj)} {σ:St} {H H':Hp} {s s':Shared} {ea C t:Addr} {B:Heap}
structure iR (X:Cx) (E:XK):Prop where
 b6:X.stack=X.env::X.outer
 fr:X.env.frame=some X.env.locals
 ex:X.ex=[]
 xe:X.xe=fun e s'=>wpAny (model X.prog X.w) X.A (leaving X.env e) (fun _ cY=>dv X.prog X.w X.outer X.H₀ X.s₀ E e cY) (fun e' cY=>dv X.prog X.w X.outer X.H₀ X.s₀ E e' cY) s'
theorem iS{env:Env}{outer:List Env}{L:Addr}(h:env.frame=some L):aQ (env::outer)=L::aQ outer:=by
 unfold aQ
 rw [List.filterMap_cons,h]
theorem iQ.leave{E:XK}(L:iR X E)(I:Inv X pins σ H s)(f:iQ X.prog X.w X.stack H s H' ea C B t s'){h:Heap}(x:Heap.FlyingW B X.outer ea (.ref C) (.ref t) h)(up:s'.heap.UpToSlots h):iQ X.prog X.w X.outer X.H₀ X.s₀ H' ea C B t {s' with heap:=h}:=by
 have nL:∀b o,X.s₀.heap.get? b=some o→b≠X.env.locals:=fun b o e=>Nat.ne_of_lt (Nat.lt_of_lt_of_le (Heap.lt_size e) I.ok.above)
 have ns:∀b o,X.s₀.heap.get? b=some o→b∉aQ X.outer→b∉aQ X.stack:=fun b o e nb z=>by
  rw [L.b6,iS L.fr] at z
  rcases List.mem_cons.mp z with z | z
  ·exact nL b o e z
  ·exact nb z
 have nx:∀b:Addr,b∉X.ex:=fun b z=>by rw [L.ex] at z;cases z
 refine ⟨f.os.trans I.os,f.bare,x,f.aj,fun b o e n nb=>?_,fun b o e nb=>?_,fun b o e n hb=>?_,I.ok.dR,fun b o e n=>?_,fun b xs e=>f.bW b xs (I.base.bW b xs e),fun b o u e=>f.bL b o u (I.base.bL b o u e),fun b ps e=>?_⟩
 ·exact f.kb b o (I.base.keep b o e n nb (nx b)) (I.base.free b o e n (nx b)) (ns b o e nb)
 ·obtain ⟨o',e'⟩:=I.base.there b o e (nx b)
  exact f.tb b o' e' (ns b o e nb)
 ·obtain ⟨l,q⟩:=I.base.slot b o e n hb (nx b)
  have hs:b∈aQ X.stack:=by rw [L.b6,iS L.fr];exact List.mem_cons_of_mem _ hb
  obtain ⟨l2,q2⟩:=f.sl b _ q (I.base.free b o e n (nx b)) hs
  obtain ⟨_,o2,q3,nf⟩:=f.fl.2.2.1.mem hs
  rw [q2] at q3
  cases q3
  obtain ⟨l3,q4⟩:=up b _ q2 nf
  exact ⟨l3,q4⟩
 ·obtain ⟨o',e'⟩:=I.base.there b o e (nx b)
  exact f.t7 b o' e' (I.base.free b o e n (nx b))
 ·obtain ⟨m1,e1⟩:=I.base.bX b ps e
  obtain ⟨m2,e2⟩:=f.bX b _ e1
  exact ⟨m1++m2,by rw [e2,Array.append_assoc]⟩
theorem t9:Passes (dv X.prog X.w) X (fun _ _ _=>False):=fun pins σ H s e s' I h=>by
 obtain ⟨_,_,_,_,_,_,_,q⟩:=h
 exact q.elim
theorem t_{E:XK}(L:iR X E):Passes (dv X.prog X.w) X E:=fun pins σ H s e s' I h=>by
 obtain ⟨ea,C,H',B,t,rfl,f,q⟩:=h
 rw [L.xe]
 refine wpAny_leaves_onW (by rw [I.ok.frames,L.b6]) L.fr (by have z:=f.fl;rw [L.b6] at z;exact z) fun h' x up=>?_
 exact ⟨ea,C,H',B,t,rfl,f.leave L I x up,q⟩
end
theorem ua{K:PySem.W.Frag}{h:Heap}{C:Addr}{fA:List Value}{newId:String}(aP:K.In h)(hq:PySem.W.excIn K C fA newId=true) :
  ∃bm N nm qn bs hdct sn sub ab col dd k0 k1 k2 k3 k5 mN,h.get? C=some (excClassObj nm qn C N bs bm hdct sn sub ab col dd k0 k1 k2 k3 k5 newId)∧h.Ns N mN∧mN "__init__" = none∧OwnTail h fA bm∧PySem.W.mroIn K C=fun b=>some ((Value.ref C::bm).contains b):=by
 unfold PySem.W.excIn at hq
 split at hq
 ·rename_i fB cls slt look
  split at hq
  ·rename_i CC rest a0 a1 a2 a3 nn a5 em es
   simp only [Bool.and_eq_true,beq_iff_eq,Bool.not_eq_true'] at hq
   obtain ⟨⟨⟨⟨⟨e1,e2⟩,e3⟩,e4⟩,e5⟩,e6⟩:=hq
   subst e1 e2
   have ub:PySem.W.mroIn K CC=fun b=>some ((Value.ref CC::rest).contains b):=by
    funext b
    unfold PySem.W.mroIn PySem.W.clsIn
    rw [look]
    simp [em]
   obtain ⟨c1,c2,c3,c4,c5,c6,c7,c8,c9,uc,zE⟩:=cls
   dsimp only at em e3 e5 e6
   subst em e3
   have ud:slt = #[a0,a1,a2,a3,some (.builtin nn),a5]:=by
    obtain ⟨ll⟩:=slt
    simp only at es
    rw [es]
   subst ud
   exact ⟨rest,c4,c1,c5,c2,c6,c7,c8,c9,uc,fB,a0,a1,a2,a3,a5,_,aP _ _ look,.of_isNs (PySem.W.isNs_of_in aP e5),PySem.W.nsMap_none_of_in aP e5 e6,PySem.W.tail_of_in aP e4,ub⟩
  ·cases hq
 ·cases hq
section
variable {X:Cx} {E:XK} {x:Str} {C:Addr} {np bR pos:Pos} {e:Expr} {es:List Expr} {ta:TA} {B newId ue:String} {fA:List Value}
def uf(C:Addr)(E:XK)(ta:TA):TS:=fun _ σ H=>ta σ H fun vs H1=>vs.length≤sizeLine∧E (.ref C) none H1
theorem ug(L:iR X E)(hc:X.calm=true)(FB:ExcBaseFacts B newId ue fA)(hq:PySem.W.excIn X.K C fA newId=true)(hg:Gl X x)(hm:X.mg x=some (.ref C))(ha:PA X (e::es) ta)
  (hs:starEach (e::es) X.env=(false,eval e X.env)::starEach es X.env:=by rfl) (hp:(backTo bR (starEach es X.env)).any (·.1)=false:=by rfl) (hd:(x == ("__debug__":Str))=false:=by decide) :
  PS X (.Raise (some (.Call (.Name x np) (e::es) [] bR)) none pos) (uf C E ta):=by
 intro pins s σ H D I h
 obtain ⟨bm,N,nm,qn,bs,hdct,sn,sub,ab,col,dd,k0,k1,k2,k3,k5,mN,hC,hN,uh,T,_⟩:=ua I.ok.mod.aP hq
 refine wpAny_Raise_call_subT (C:=C) (nm:=nm) (q:=qn) (N:=N) (bs:=bs) (bm:=bm) (hdct:=hdct) (sn:=sn) (sub:=sub) (ab:=ab) (col:=col) (dd:=dd) (k0:=k0) (k1:=k1) (k2:=k2) (k3:=k3) (k5:=k5) FB (mN:=mN) (T.hasType FB.hasBase) (I.ok.hd hc)
  (by rw [hs];show (false || (backTo bR (starEach es X.env)).any (·.1))=false;rw [hp];rfl) uh (jQ I hg hm ⟨rfl,?_⟩ hd)
 have h1:=ha bR pins s σ H _ I h
 rw [hs] at h1 ⊢
 refine Calls.evalArgs_plain (ar h1 fun us s2 ⟨vs,H1,I1,r,hl,q⟩=>⟨rfl,by rw [←r.length];exact hl,I1.bk _ _ hC,hN.keeps I1.bk,T.keeps I1.bk,fun h' ea mk=>?_⟩)
 rw [L.xe]
 have nL:∀b o,X.s₀.heap.get? b=some o→b≠X.env.locals:=fun b o q=>Nat.ne_of_lt (Nat.lt_of_lt_of_le (Heap.lt_size q) I1.ok.above)
 have ns:∀b o,X.s₀.heap.get? b=some o→b∉aQ X.outer→b∉aQ X.stack:=fun b o q nb z=>by
  rw [L.b6,iS L.fr] at z
  rcases List.mem_cons.mp z with z | z
  ·exact nL b o q z
  ·exact nb z
 have nx:∀b:Addr,b∉X.ex:=fun b z=>by rw [L.ex] at z;cases z
 have ff:s2.heap.FunFrames (PySem.W.hideAll s2.heap (aQ X.stack)) (X.env::X.outer):=by
  have z:=I1.stack
  rw [←L.b6]
  exact PySem.W.funFrames_hide z fun env he a hf=>List.mem_filterMap.mpr ⟨env,he,hf⟩
 refine wpAny_leaves_madeW (base:=PySem.W.hideAll s2.heap (aQ X.stack)) (h:=s2.heap) (by rw [I1.ok.frames,L.b6]) L.fr (fun b o q=>PySem.W.of_hideAll _ q) ff mk fun h2 t fl _ _ up=>?_
 refine ⟨ea,C,H1,_,t,rfl,⟨I1.os,I1.bare,fl,fun a o e1=>?_,fun b o e1 n nb=>?_,fun b o e1 nb=>?_,fun b o e1 n hb=>?_,I1.ok.dR,fun b o e1 n=>?_,I1.base.bW,I1.base.bL,I1.base.bX⟩,q⟩
 ·refine (I1.aj a o e1).dQ (fun b u hb e2=>PySem.W.hideAll_get _ e2 fun z=>?_) (fun _ z=>z) fun _ _ z=>z
  have n0:=I1.ip b z
  rcases hb with hb | hb
  ·subst hb
   rw [e1] at n0
   cases n0
  ·rw [hb] at n0
   cases n0
 ·exact PySem.W.hideAll_get _ (I1.base.keep b o e1 n nb (nx b)) (ns b o e1 nb)
 ·obtain ⟨o',e2⟩:=I1.base.there b o e1 (nx b)
  exact ⟨o',PySem.W.hideAll_get _ e2 (ns b o e1 nb)⟩
 ·obtain ⟨l,e2⟩:=I1.base.slot b o e1 n hb (nx b)
  have iB:b∈aQ X.stack:=by rw [L.b6,iS L.fr];exact List.mem_cons_of_mem _ hb
  obtain ⟨_,o2,e3,nf⟩:=I1.stack.mem iB
  rw [e2] at e3
  cases e3
  obtain ⟨l2,e4⟩:=up b _ (mk.keeps _ _ e2) nf
  exact ⟨l2,e4⟩
 ·obtain ⟨o',e2⟩:=I1.base.there b o e1 (nx b)
  exact I1.base.free b o e1 n (nx b)
end
section
variable {X:Cx} {k:Nat} {f C:Addr} {fd:FuncData} {ps:List Str} {sp:Sp} {cX:List V} {ds:List Value} {x m:Str} {p pos apos:Pos} {e o:Expr} {es:List Expr} {ta:TE} {t:TA}
variable {te:TX} {i:Nat} {pos':Pos}
end
section
variable {X:Cx} {pins:List (Addr×Obj)} {σ:St} {H:Hp} {s:Shared} {ea:Addr}
end
section
variable {M:Model} {A:Around} {E:Value→Shared→Prop} {h:Heap} {g:Array GenState} {d:Drawn} {t:Nat} {os:OsState} {e:Addr} {oe:Obj} {Q:Bool→Shared→Prop}
variable {nm q zF q':Str} {C N D N':Addr} {bs bm zG zH:List Value} {hdct zI:Bool} {sn zJ:List Str} {sub nV:List Value} {ab zK:Bool} {col zL:Option Bool} {dd d3:Option Addr} {k0 k1 k2 k3 k5 j0 j1 j2 j3 j5:Option Value} {newId zM:String}
end
section
variable {X:Cx} {body:List Stmt} {b₀:Stmt} {zN:List Stmt} {np zO pos:Pos} {x n:Str} {D:Addr} {tb:zP} {ts:TS} {fA:List Value} {newId:String} {i:Nat}
end
section
variable {P:Program} {w:World} {K:PySem.W.Frag} {mg:Str→Option Value} {base:Heap}
theorem aC.nW{x qual:Str}{st:Stmt}{f:Addr}{fd:FuncData}{N ps:List Str}{k:Nat}{sp:Sp}(F:aC K x qual st f fd)(S:bh N ps (aT st))(len:∀vs H Q E,sp vs H Q E→vs.length=ps.length)
  (gJ:∀(ay:Value) (A:Around) (outer:List Env) (s:Shared) (H:Hp) (vs:List V) (Q:VK) (E:XK),bg k (A.deeper (envOfC qual (aT st) s.heap.objs.size f ay))→sp vs H Q E→
   iR (dZ (dv P w) P w K mg base N qual (aT st) f ay A outer s H E) E→
   ∃t,bY (dZ (dv P w) P w K mg base N qual (aT st) f ay A outer s H E) (fz st) t∧t {nx:=fun _ H'=>Q .av H',rt:=Q} (start N vs) H):aX P w K mg base (dv P w) (k+1) f fd ps sp:=by
 obtain ⟨oc,od,kV,doc,pm,an,ay,ct,cZ,rfl,lk,bZ⟩:=F.ex
 exact nC lk bZ S len fun A outer s H vs Q E hr c_=>gJ ay A outer s H vs Q E hr c_ ⟨rfl,rfl,rfl,rfl⟩
end
structure eC (K:PySem.W.Frag) (C:Addr):Prop where
 ci:PySem.W.hasDictIn K C=true
 ga:PySem.W.findIn K (.ref C) "__getattribute__" = some (some (.builtin "BaseException.__getattribute__"))
 gn:PySem.W.findIn K (.ref C) "__getattr__" = some none
 ca:PySem.W.findIn K (.ref C) "__class__" = some (some (.builtin "object.__class__"))
 mo:PySem.W.mroIn K C (.type "object")=some true
 mb:PySem.W.mroIn K C (.type "BaseException")=some true
section
variable {prog:Program} {w:World} {A:Around} {E:Value→Shared→Prop} {h:Heap} {g:Array GenState} {d:Drawn} {t:Nat} {os:OsState} {K:PySem.W.Frag} {a C:Addr} {o:Obj}
theorem uj{R:Result→Shared→Prop}(aP:K.In h)(c:eC K C)(hx:h.get? a=some o)(hc:o.cls=.ref C)(hq:R (.ok (.ret (.ref C))) ⟨h,g,d,t,os⟩) :
  codeAny (model prog w) A (.call (.builtin "getset_descriptor.__get__") ⟨[.builtin "object.__class__",.ref a,.ref C],[]⟩) R ⟨h,g,d,t,os⟩:=by
 have nX:(⟨h,g,d,t,os⟩:Shared).TypeIs (.builtin "object.__class__") "getset_descriptor":=F.typeOf_object_class
 have L1:=PySem.W.looks_mroIn (M:=model prog w) aP c.mo
 have ow:=F.owner_object_class
 refine codeAny_call_builtin F.slot_gs_get.plain F.entry_gs_get (F.slot_gs_get.check _ _ _ _ _ _ _ _ nX (F.args_gs_get _ _ _) ?_)
 repeat (any_goals (first | assumption | (with_reducible refine wpAny_loadPart_at hx ?_;rw [hc]) | (rw [ow];with_reducible refine L1.at ?_) | wp_step))
 refine ⟨Code.quiet_builtin _ (by decide +kernel),codeAny_builtin F.entry_object_class ?_⟩
 repeat (any_goals (first | assumption | (with_reducible refine wpAny_loadPart_at hx ?_;rw [hc]) | wp_step))
theorem um{tk:Tok}{Q:Fin→Shared→Prop}(aP:K.In h)(c:eC K C)(hx:h.get? a=some o)(hc:o.cls=.ref C)(hq:Q (.done (.ret (.ref C))) ⟨h,g,d,t,os⟩) :
  wpAny (model prog w) A (Builtin.«object.__getattribute__» ⟨[.ref a,.str "__class__" tk],[]⟩) Q E ⟨h,g,d,t,os⟩:=by
 have nX:(⟨h,g,d,t,os⟩:Shared).TypeIs (.builtin "object.__class__") "getset_descriptor":=F.typeOf_object_class
 have L1:=PySem.W.looks_findIn (M:=model prog w) aP c.ca
 have f5:=F.typeOf_object_class
 have f6:=F.slot_gs_get.lookup
 have f7:=F.slot_gs_set.lookup
 repeat (any_goals (first | assumption | (with_reducible refine wpAny_loadPart_at hx ?_;rw [hc]) | with_reducible refine L1.at ?_ | wp_step))
 refine uj aP c hx hc ?_
 repeat (any_goals (first | assumption | wp_step))
theorem uo{M:Model}{nv:Value}{Q:Unit→Shared→Prop}(aP:K.In h)(c:eC K C)(hx:h.get? a=some o)(hc:o.cls=.ref C)(hq:Q () ⟨h,g,d,t,os⟩) :
  wpAny M A (checkBuiltinCall "BaseException.__getattribute__" ⟨[.ref a,nv],[]⟩) Q E ⟨h,g,d,t,os⟩:=by
 have hk:builtinKind "BaseException.__getattribute__" = some .slot:=by decide +kernel
 have hs:splitId "BaseException.__getattribute__" = some ("BaseException","__getattribute__"):=by decide +kernel
 have L1:=PySem.W.looks_mroIn (M:=M) aP c.mb
 have ha:=F.args_bexc_ga (.ref a) nv
 simp only [checkBuiltinCall,hk,hs]
 refine wpAny_bind ?_
 unfold isInstance
 repeat (first | (with_reducible refine wpAny_loadPart_at hx ?_;rw [hc]) | with_reducible refine L1.at ?_ | wp_step)
 exact hq
theorem uq{tk:Tok}{fill expr:Bool}{Q:Value→Shared→Prop}(aP:K.In h)(c:eC K C)(hx:h.get? a=some o)(hc:o.cls=.ref C)(hq:Q (.ref C) ⟨h,g,d,t,os⟩) :
  wpAny (model prog w) A (getAttrBy (.ref a) (.str "__class__" tk) fill expr) Q E ⟨h,g,d,t,os⟩:=by
 have f3:=F.attrBase_ValueError.ga.bind (.ref a)
 have z0:(expr && onTheHeap (Value.builtin "BaseException.__getattribute__"))=false:=by cases expr <;> rfl
 have z2:(Value.builtin "BaseException.__getattribute__" == Value.builtin "object.__getattribute__")=false:=by decide +kernel
 have z1:(onTheHeap (Value.ref C) && Value.builtin "BaseException.__getattribute__" == Value.builtin "object.__getattribute__")=false:=by rw [z2];rfl
 have L1:=PySem.W.looks_findIn (M:=model prog w) aP c.ga
 have L2:=PySem.W.looks_findIn (M:=model prog w) aP c.gn
 repeat (any_goals (first | assumption | (with_reducible refine wpAny_loadPart_at hx ?_;rw [hc]) | with_reducible refine L1.at ?_ | with_reducible refine L2.at ?_ | wp_step))
 refine codeAny_call_builtin F.attrBase_ValueError.ga.plain F.entry_bexc_ga (uo aP c hx hc (um aP c hx hc ?_))
 repeat (any_goals (first | assumption | wp_step))
theorem ur{Q:Option Value→Shared→Prop}(aP:K.In h)(c:eC K C)(hx:h.get? a=some o)(hc:o.cls=.ref C)(hq:Q (some (.ref C)) ⟨h,g,d,t+1,os⟩) :
  wpAny (model prog w) A (getAttr? (.ref a) "__class__") Q E ⟨h,g,d,t,os⟩:=by
 unfold getAttr? getAttrBy?
 repeat (any_goals (first | assumption | with_reducible apply uq aP c hx hc | wp_step))
theorem uu(c:eC K C):PySem.W.KitX K (.ref a) (.ref C) (ExcAt a C) where
 ty:=fun M h _ k=>by
  obtain ⟨oe,e1,e2,_⟩:=k
  exact e2▸(PySem.W.Looks.ld e1).andThen .now
 it:=fun M h aP _=>by
  obtain ⟨cd,hc,_⟩:=PySem.W.any_some c.ci
  unfold PySem.W.clsIn at hc
  split at hc
  ·rename_i look
   intro A' Q' E' s' k q
   unfold isType loadHead
   exact wpAny_bind (wpAny_loadPart (k _ _ (aP _ _ look)) (wpAny_pure q))
  ·cases hc
 ne:=fun h tp dd aa n sl aP uv=>by
  obtain ⟨cd,hc,_⟩:=PySem.W.any_some c.ci
  refine Bool.eq_false_iff.mpr fun q=>?_
  have e:C=tp:=Value.ref.inj (beq_iff_eq.mp q)
  subst e
  unfold PySem.W.clsIn at hc
  split at hc
  ·rename_i look
   have z:=(aP _ _ look).symm.trans uv
   cases z
  ·cases hc
 ca:=fun{prog w A E Q s} aP k z=>by
  obtain ⟨oe,e1,e2,_⟩:=k
  obtain ⟨h,g,d,t,os⟩:=s
  exact ur aP c e1 e2 z
end
def iT(a:Addr)(h:Heap):Prop:=∃o ep,h.get? a=some o∧o.ExactDict∧o.data=.dict #[] ep∧(a == sysModules)=false
theorem iT.ky{a:Addr}{h:Heap}(e:iT a h):PySem.W.KitAt a "dict" h:=by
 obtain ⟨o,_,e,c,_⟩:=e
 exact ⟨o,e,c.1⟩
def nY(a:Addr):HO:=.ext (iT a)
inductive gS (K:PySem.W.Frag) (H:Hp):V→Value→Prop where
 | of {x:V} {t:Value} (h:b_ K H x t):gS K H x t
 | exc {a C:Addr} (e:H a=some (t8 a C)) (c:eC K C):gS K H (.ref a) (.ref C)
 | fB {a:Addr} (e:H a=some (nY a)):gS K H (.ref a) (.type "dict")
def nZ:V→Value
 | .ty n=>.type n
 | .ref a=>.ref a
 | _=>.none
def uw:V→Bool
 | .ty _=>true
 | .ref _=>true
 | _=>false
def ux(K:PySem.W.Frag):List V→Hp→VK→Prop:=fun xs H Q=>∃x c t b,xs=[x,c]∧uw c=true∧gS K H x t∧PySem.W.kitOne K t (nZ c)=some b∧Q (.bl b) H
theorem n4{X:Cx}{K:PySem.W.Frag}(hK:X.K=K:=by rfl):cH X (.builtin "isinstance") (ux K):=by
 intro pins s σ H xs us Q I r h
 subst hK
 obtain ⟨x,c,t,b,rfl,hc,ty,e,q⟩:=h
 obtain ⟨u,cv,rfl,rx,rc⟩:=vals2 r
 have ec:cv=nZ c:=by
  cases c with
  | ty n=>exact rc
  | ref a=>exact rc
  | _=>cases hc
 subst ec
 cases ty with
 | of ty=>exact sq I rx ty e fun tk=>⟨.bl b,H,I.tok tk,rfl,q⟩
 | @fB a ea=>
  cases rx
  obtain ⟨k,_,_⟩:=(show aI X.prog X.w H s.heap a (.ext (iT a)) from I.aj a _ ea)
  exact PySem.W.kia_one PySem.W.kitx_dict I.bq k.ky e (fun z=>nomatch z) fun tk=>⟨.bl b,H,I.tok tk,rfl,q⟩
 | @exc a C ea cc=>
  cases rx
  obtain ⟨k,_,_⟩:=(show aI X.prog X.w H s.heap a (.ext (ExcAt a C)) from I.aj a _ ea)
  exact PySem.W.kia_one (uu cc) I.bq k e (fun z=>nomatch z) fun tk=>⟨.bl b,H,I.tok tk,rfl,q⟩
theorem boot_isinstance:bootBuiltins "isinstance" = some (.builtin "isinstance"):=by decide +kernel
theorem boot_min:bootBuiltins "min" = some (.builtin "min"):=by decide +kernel
theorem boot_max:bootBuiltins "max" = some (.builtin "max"):=by decide +kernel
theorem boot_int:bootBuiltins "int" = some (.type "int"):=by decide +kernel
theorem boot_bool:bootBuiltins "bool" = some (.type "bool"):=by decide +kernel
theorem boot_tuple:bootBuiltins "tuple" = some (.type "tuple"):=by decide +kernel
theorem boot_list:bootBuiltins "list" = some (.type "list"):=by decide +kernel
end L2
namespace My
open PySem L2
end My
namespace L2
open PySem PySem.Spec PyProof.Rows
abbrev Cx.aO (X:Cx) (N:List Str) (scope:Scope) (cl:List (Str×Addr)) (s₃:Shared) (H₃:Hp) (fp:List Addr):Cx:=
 {X with N:=N,s₀:=s₃,H₀:=H₃,env:=compEnvC scope cl s₃.heap.objs.size X.env,outer:=X.stack,stack:=X.stack,ex:=fp,fn:=fun _=>false,pn:=[],xe:=fun _ _=>False}
inductive fC (X:Cx):List Expr→TT→Prop where
 | nil:fC X [] (fun _ H Q=>Q true H)
 | one {c:Expr} {t:TT} (h:PT X c t):fC X [c] t
def cJ(wi:TI)(ρ:St→St)(tt:TT)(te:TE):TE:=fun σ H Q=>wi σ H fun J H1=>∀D,H1 D=none→∃W:Nat→Nat→List V→Hp→Prop,(∃m,W 0 m [] (upd H1 D (.lst []))) ∧
 ∀i m ys Hc,W i m ys Hc→Hc D=some (.lst ys)∧((J.stop i Hc∧Q (.ref D) Hc)∨(J.go i Hc∧∀x H',J.bF i Hc x H'→tt (some x::ρ σ) H' fun b H2=>
  if b=true then te (some x::ρ σ) H2 fun y H3=>H3 D=some (.lst ys)∧ys.length<sizeLine∧∃m',m'<m∧W (i+1) m' (ys++[y]) (upd H3 D (.lst (ys++[y]))) else ∃m',m'<m∧W (i+1) m' ys H2))
section
variable {X:Cx} {N:List Str} {scope:Scope} {cl:List (Str×Addr)} {x:Str} {px pos:Pos} {iter elt:Expr} {ifs:List Expr} {wi:TI} {ρ:St→St} {tt:TT} {te:TE}
structure n5 (X:Cx) (N:List Str) (scope:Scope) (cl:List (Str×Addr)) (x:Str) (ρ:St→St):Prop where
 n6:closureFor scope X.env=pure cl
 kind:scope.kind=.function
 n8:∀y∈scope.names,y.2≠.cell
 names:∀y∈scope.names,y.2=.local→scope.names.lookup y.1=some .local
 sub:∀p∈cl,X.env.cells.lookup p.1=some p.2
 has:∀y,((relabel scope X.env).names.lookup y=some .cell∨(relabel scope X.env).names.lookup y=some .free)→∃c,cl.lookup y=some c
 n0:N[0]?=some x
 nd:N.Nodup
 hx:scope.names.lookup x=some .local
 n_:∀(σ:St) (j:Nat) (v:V),(ρ σ)[j]?=some (some v)→∃(i:Nat) (y:Str),N[j+1]?=some y∧X.N[i]?=some y∧σ[i]?=some (some v)∧ig X.env.scope y∧(X.env.kindOf y=some .cell∨X.env.kindOf y=some .free)∧((relabel scope X.env).names.lookup y=some .cell∨(relabel scope X.env).names.lookup y=some .free)
 len:∀σ:St,σ.length=X.N.length→(ρ σ).length+1=N.length
theorem d4{names:List (Str×NameKind)}{cl:List (Str×Addr)}(h:(names.all fun q=>(q.2 != .cell && q.2 != .free) || (cl.lookup q.1).isSome)=true) :
  ∀y,(names.lookup y=some .cell∨names.lookup y=some .free)→∃c,cl.lookup y=some c:=fun y hy=>by
 have key:∀k:NameKind,(k != .cell && k != .free)=false→names.lookup y=some k→∃c,cl.lookup y=some c:=fun k hk e=>by
  have z:=List.all_eq_true.mp h (y,k) (PySem.mem_of_lookup e)
  rw [hk,Bool.false_or] at z
  exact Option.isSome_iff_exists.mp z
 rcases hy with e | e
 ·exact key .cell rfl e
 ·exact key .free rfl e
theorem join_some{o:Option (Option V)}{v:V}(h:some o.join=some (some v)):o=some (some v):=by
 cases o with
 | none=>cases h
 | some o=>cases h;rfl
theorem iU(B:n5 X N scope cl x ρ)(hc:X.calm=true)(hi:PI X (.Name x px) iter wi)(ht:∀s₃ H₃ fp,fC (X.aO N scope cl s₃ H₃ fp) ifs tt)(he:∀s₃ H₃ fp,PE (X.aO N scope cl s₃ H₃ fp) elt te)
  (hs:∀x,foldedSetIterable iter X.env x=pure x:=by intro _;rfl):PE X (.ListComp elt [⟨.Name x px,iter,ifs,0⟩] scope pos) (cJ wi ρ tt te):=by
 intro pins s σ H Q I h
 rw [eval_ListComp]
 refine wpAny_comprehension_free (use:=none) rfl hs B.n6 B.kind B.names (ar (hi pins s σ H _ I h) fun v s1 h1=>ar h1 fun iy s2 h2=>?_)
 obtain ⟨it,fp,tn,J,H2,rfl,I2,T,dt,f2,q2⟩:=h2
 have nD:H2 s2.heap.objs.size=none:=I2.aj.fresh (Nat.le_refl _)
 obtain ⟨W,⟨m0,w0⟩,turn⟩:=q2 _ nD
 refine wpAny_newObj_type (wpAny_newFunctionEnv B.n8 (by intro y hy;simp at hy) (fun h₁ dw dy=>?_) B.kind)
 dsimp only at dw dy ⊢
 generalize hD:s2.heap.objs.size=D at nD w0 turn dw dy ⊢
 generalize eE:({s2 with heap:=s2.heap.push {cls:=.type "list",dict:=none,data:=.seq ([]:List Value).toArray}}:Shared)=s3
 have I3:Inv X pins σ (upd H2 D (.lst [])) s3:=by
  subst hD eE
  exact I2.laid (t':=s2.toks) (fun b u e=>Heap.get?_push_of_some _ e) (Nat.le_refl _) ⟨Nat.zero_le _,[],_,.nil,Heap.get?_push_size _ rfl⟩
 have e3:s3.heap=s2.heap.push {cls:=.type "list",dict:=none,data:=.seq ([]:List Value).toArray}:=by rw [←eE]
 have dz:∀b o,s2.heap.get? b=some o→s3.heap.get? b=some o:=fun b o e=>by rw [e3];exact Heap.get?_push_of_some _ e
 rw [←e3] at dw dy ⊢
 have below:∀b o,s3.heap.get? b=some o→b≠s3.heap.objs.size:=fun b o e=>Nat.ne_of_lt (Heap.lt_size e)
 have cb:∀b o,s3.heap.get? b=some o→h₁.get? b=some o:=fun b o e=>dy.extBut b o (below b o e) (Heap.get?_push_of_some _ e)
 have eF:∀b∈fp,∃o,s2.heap.get? b=some o∧∀v,o.data≠.cell v:=T.obj _ _ dt
 have kA:∀b∈fp,b≠D:=fun b hb z=>by
  obtain ⟨o,e,_⟩:=eF b hb
  rw [z,←hD] at e
  exact absurd (Heap.lt_size e) (Nat.lt_irrefl _)
 have bS:∀y c,cl.lookup y=some c→X.env.cells.lookup y=some c:=fun y c e=>B.sub (y,c) (PySem.mem_of_lookup e)
 have kB:=I3.ip
 have gT:(X.aO N scope cl s3 (upd H2 D (.lst [])) fp).Ok:=by
  refine ⟨I.ok.mod,B.kind,I.ok.glob,I.ok.blt,Nat.le_refl _,fun a b c e1 e2=>I.ok.inj a b c (bS a c e1) (bS b c e2),fun y hy=>B.has y hy,(fun _ _ z _=>absurd z Bool.false_ne_true),(fun _=>I.ok.hd hc),I.ok.frames,.inl rfl,fun b hb=>⟨?_,fun y c e z=>?_⟩,fun b o e=>?_,Nat.le_trans I.ok.cS I3.sz,fun b o e hb=>?_,fun b hb z=>?_,I3.stack,kB⟩
  ·obtain ⟨o,e,_⟩:=eF b hb
   exact below b o (dz b o e)
  ·exact (f2 b hb).2.2.2.2.1 y c (bS y c e) z
  ·exact I3.bs b o e
  ·rcases (f2 b hb).2.2.2.1 with z | z
   ·exact I.ok.fm b o e z
   ·exact absurd (Nat.lt_of_lt_of_le (Heap.lt_size e) (Nat.le_trans I.ok.cS z)) (Nat.lt_irrefl _)
  ·rcases List.mem_cons.mp (I3.il b z) with z | z
   ·exact (f2 b hb).2.1 z
   ·exact (f2 b hb).2.2.1 z
 have IB:∀tk:Nat,Inv (X.aO N scope cl s3 (upd H2 D (.lst [])) fp) [] (none::ρ σ) (upd H2 D (.lst [])) {s3 with heap:=h₁,toks:=tk}:=fun tk=>by
  refine ⟨gT,rfl,I3.bare,Un.kept cb,⟨_,dw,fun j y v e1 e2 e3=>?_⟩,fun y c e=>?_,?_,fun y c e=>I3.cE y c (bS y c e),(fun p hp=>nomatch hp),I3.aj.kept cb,?_⟩
  ·cases j with
   | zero=>cases e2
   | succ j=>
    obtain ⟨i,y',a1,a2,a3,a4,a5,a6⟩:=B.n_ σ j v e2
    have kC:N[j+1]?=some y:=e1
    rw [kC] at a1
    cases a1
    obtain ⟨m,hn,hl⟩:=I3.loc
    obtain ⟨u,r,l⟩:=hl i y v a2 a3 a4
    refine ⟨u,r,.inr ⟨a6,?_⟩⟩
    obtain ⟨c,ec⟩:=B.has y a6
    rcases l with ⟨k,_⟩ | ⟨_,c',gU,z⟩
    ·rcases a5 with q | q <;> (rw [k] at q;cases q)
    ·have:=bS y c ec
     rw [this] at gU
     cases gU
     obtain ⟨o,ho,hd⟩:=z
     exact ⟨c,ec,o,cb _ _ ho,hd⟩
  ·obtain ⟨v,o,ho,hd⟩:=I3.cell y c (bS y c e)
   exact ⟨v,o,cb _ _ ho,hd⟩
  ·exact I3.aj.fresh (Nat.le_refl _)
  ·show (none::ρ σ).length=N.length
   rw [List.length_cons]
   exact B.len σ I.len
 have fin:∀{σ':St} {H':Hp} {s':Shared},Inv (X.aO N scope cl s3 (upd H2 D (.lst [])) fp) [] σ' H' s'→Q (.ref D) H'→compPost (model X.prog X.w) X.A X.xe none (EP X pins σ Q) (.ref D) s3.heap.objs.size (.ok .next) s':=fun{σ' H' s'} J q=>by
  obtain ⟨m,hn,_⟩:=J.loc
  refine ⟨m,hn,fun h' dA=>⟨.ref D,H',?_,rfl,q⟩⟩
  have old:∀b o,s3.heap.get? b=some o→b≠s3.heap.objs.size:=below
  have u1:Un (aQ X.stack) fp (upd H2 D (.lst [])) H' s3.heap h':=by
   refine ⟨fun b o e n hb hx=>?_,fun b o e n hb hx=>?_,J.base.free,fun b o e hx=>?_,J.base.bW,J.base.bL,J.base.bX⟩
   ·exact (dA.2 b (old b o e)).trans (J.base.keep b o e n hb hx)
   ·obtain ⟨sl,z⟩:=J.base.slot b o e n hb hx
    exact ⟨sl,(dA.2 b (old b o e)).trans z⟩
   ·obtain ⟨o',z⟩:=J.base.there b o e hx
    exact ⟨o',(dA.2 b (old b o e)).trans z⟩
  have kD:aK X.prog X.w H' h':=fun b u e=>by
   refine (J.aj b u e).dQ (fun c v hc z=>(dA.2 c fun y=>?_).trans z) (fun _ z=>z) fun _ _ z=>z
   have fr:=J.free
   have y':c=s3.heap.objs.size:=y
   rcases hc with hc | hc
   ·rw [←hc,y'] at e
    exact absurd (fr.symm.trans e) (by simp)
   ·rw [y'] at hc
    exact absurd (fr.symm.trans hc) (by simp)
  refine I3.jP (s':={s' with heap:=h'}) (ch:=fp) (J.os) u1 kD J.bare fun b hb=>?_
  obtain ⟨g0,g1,g2,g3,g4,g5⟩:=f2 b hb
  exact ⟨g3,g1,g4,g5⟩
 have cF:∀{H':Hp},(∀b∈fp,H' b=none)→∀b∈fp,dU (X.aO N scope cl s3 (upd H2 D (.lst [])) fp) [] H' b:=fun hn b hb=>by
  refine ⟨hn b hb,?_,?_,.inl hb,fun y c e z=>(f2 b hb).2.2.2.2.1 y c (bS y c e) z,fun p hp=>nomatch hp⟩
  ·obtain ⟨o,e,_⟩:=eF b hb
   exact below b o (dz b o e)
  ·exact gT.fo b hb
 have loop:∀tk:Nat,codeAny (model X.prog X.w) X.A (.compLoop (.ListComp elt [⟨.Name x px,iter,ifs,0⟩] scope pos) 0 (.ref it) (.ref D) (compEnvC scope cl s3.heap.objs.size X.env))
   (compPost (model X.prog X.w) X.A X.xe none (EP X pins σ Q) (.ref D) s3.heap.objs.size) {s3 with heap:=h₁,toks:=tk}:=fun tk=>by
  refine codeAny_compLoop_tests (fun n s'=>∃i ys o H',Inv (X.aO N scope cl s3 (upd H2 D (.lst [])) fp) [] (o::ρ σ) H' s'∧tn i s'.heap∧(∀b∈fp,H' b=none)∧W i n ys H') ?_ m0
   ⟨0,[],none,_,IB tk,T.keep _ _ _ dt fun b hb o e=>cb _ _ (dz _ _ e),fun b hb=>by rw [ax (kA b hb)];exact (f2 b hb).1,w0⟩
  rintro n s4 ⟨i,ys,o,H4,I4,gW,gX,w4⟩
  obtain ⟨uy,kE⟩:=turn i n ys H4 w4
  rcases kE with ⟨stop,qn⟩ | ⟨go,step⟩
  ·refine wpAny_mono (T.done (X.aO N scope cl s3 (upd H2 D (.lst [])) fp) rfl rfl rfl hc i [] s4 _ H4 (fun _ _=>False) I4 (cF gX) gW stop) (fun r s5 ⟨hr,I5⟩=>?_) fun _ _ z=>z.elim
   subst hr
   exact fin I5 qn
  ·refine wpAny_mono (T.item (X.aO N scope cl s3 (upd H2 D (.lst [])) fp) rfl rfl rfl hc i [] s4 _ H4 (fun _ _=>False) I4 (cF gX) gW go) (fun r s5 ⟨u,hr,h5⟩=>?_) fun _ _ z=>z.elim
   subst hr
   have z:letOwnedTupleGo (.Name x px) (.ref it) u=pure ():=rfl
   rw [z] at h5
   show wpAny _ _ ((pure ():Sem Unit) >>= fun _=>assign (.Name x px) (compEnvC scope cl s3.heap.objs.size X.env) u) _ _ s5
   refine wpAny_bind (wpAny_mono h5 (fun _ s5 ⟨y,H5,I5,r5,y5,cG,gC⟩=>?_) fun _ _ z=>z.elim)
   have gD:=I5.pinned (cF gC) (T.obj _ _ cG)
   have pg:PG (X.aO N scope cl s3 (upd H2 D (.lst [])) fp) (.Name x px) (aF 0):=bM (i:=0) B.nd B.n0 (.inl (lookup_relabel_local B.hx)) (.inr (lookup_relabel_local B.hx))
   have again:∀{σ7:St} {H7:Hp} {s7:Shared},Inv (X.aO N scope cl s3 (upd H2 D (.lst [])) fp) ([]++dX fp s5.heap) σ7 H7 s7→Inv (X.aO N scope cl s3 (upd H2 D (.lst [])) fp) [] σ7 H7 s7∧tn (i+1) s7.heap∧∀b∈fp,H7 b=none:=fun{σ7 H7 s7} I7=>by
    refine ⟨I7.gB,T.keep _ _ _ cG fun b hb o e=>(I7.pin (b,o) (List.mem_append_right _ (List.mem_append_right _ (ft hb e)))).1,fun b hb=>?_⟩
    obtain ⟨o,e,d⟩:=T.obj _ _ cG b hb
    exact (I7.pin (b,o) (List.mem_append_right _ (List.mem_append_right _ (ft hb e)))).2.1
   refine wpAny_mono (pg _ s5 _ H5 y u (fun σ2 H6=>σ2=some y::ρ σ∧H6=H5) gD r5 ⟨rfl,rfl⟩) (fun _ s6 ⟨σ6,H6,I6,q6⟩=>?_) fun _ _ z=>z.elim
   obtain ⟨rfl,rfl⟩:=q6
   have kF:=step y _ y5
   have tests:∀{eG:TT},fC (X.aO N scope cl s3 (upd H2 D (.lst [])) fp) ifs eG→∀{R:Bool→Hp→Prop},eG (some y::ρ σ) H6 R→wpAny (model X.prog X.w) X.A
     (forIn ifs true fun c r=>if r=true then do let ok ←isTrue c (compEnvC scope cl s3.heap.objs.size X.env) (eval c (compEnvC scope cl s3.heap.objs.size X.env));pure (ForInStep.yield ok) else pure (ForInStep.yield r))
     (fun ok s7=>∃H7,Inv (X.aO N scope cl s3 (upd H2 D (.lst [])) fp) ([]++dX fp s5.heap) (some y::ρ σ) H7 s7∧R ok H7) (fun _ _=>False) s6:=fun{eG} p {R} hR=>by
    cases p with
    | nil=>exact wpAny_tests_nil ⟨_,I6,hR⟩
    | one p=>exact wpAny_tests_one (p _ s6 _ _ _ I6 hR)
   refine wpAny_mono (tests (ht s3 _ fp) kF) (fun ok s7 ⟨H7,I7,q7⟩=>?_) fun _ _ z=>z.elim
   cases ok with
   | false=>
    obtain ⟨m',eI,w7⟩:=q7
    obtain ⟨a1,a2,a3⟩:=again I7
    exact ⟨m',eI,i+1,ys,_,H7,a1,a2,a3,w7⟩
   | true=>
    refine wpAny_mono (he s3 _ fp _ s7 _ H7 _ I7 q7) (fun ev s8 ⟨z,H8,I8,r8,kG,hz,m',eI,w8⟩=>?_) fun _ _ z=>z.elim
    refine wpAny_mono (de (X:=X.aO N scope cl s3 (upd H2 D (.lst [])) fp) _ s8 _ H8 (.ref D) [z] (.ref D) [ev] (fun _ H9=>H9=upd H8 D (.lst (ys++[z]))) I8 rfl (.cons r8 .nil) ⟨D,ys,z,rfl,rfl,kG,hz,rfl⟩) (fun _ s9 ⟨_,H9,I9,_,q9⟩=>?_) fun _ _ z=>z.elim
    subst q9
    obtain ⟨a1,a2,a3⟩:=again I9
    exact ⟨m',eI,i+1,ys++[z],_,_,a1,a2,a3,w8⟩
 have start:=loop (s3.toks+([]:List (Str×Value)).length)
 have es:({s3 with heap:=h₁,toks:=s3.toks+([]:List (Str×Value)).length}:Shared)={s2 with heap:=h₁,toks:=s2.toks+([]:List (Str×Value)).length}:=by rw [←eE]
 rw [es] at start
 exact codeAny_compStart_list start (T.self _ 0 _ _ _ (T.keep _ _ _ dt fun b hb o e=>cb _ _ (dz _ _ e)) start)
end
def bu(i:Int):Prop:=i.natAbs<2 ^ 2048
theorem bu.log{i:Int}(h:bu i):i.natAbs.log2<2048:=by
 by_cases z:i.natAbs=0
 ·rw [z];decide
 ·exact (Nat.log2_lt z).mpr h
theorem oa:∀{xs:List V} {us:List Value},xs.length=us.length→(∀(i:Nat) (x:V) (u:Value),xs[i]?=some x→us[i]?=some u→RelV x u)→Vals xs us
 | [],[],_,_=>.nil
 | [],_::_,h,_=>by simp at h
 | _::_,[],h,_=>by simp at h
 | x::xs,u::us,h,k=>.cons (k 0 x u rfl rfl) (oa (by simpa using h) fun i a b h1 h2=>k (i+1) a b (by simpa using h1) (by simpa using h2))
section
variable {X:Cx}
def uz(i j:Int):Prop:=0<j∧bu j
theorem uA:aZ X (binaryOp .FloorDiv) (rI uz fun i j=>.int (i / j)):=iD fun i j _ _ _ _ _ hc q=>
 floordiv_int (Int.ne_of_gt hc.1) (by rw [Int.fdiv_eq_ediv_of_nonneg i (Int.le_of_lt hc.1)];exact q) (.inl (PyProof.noPylong_of_log2 (Nat.lt_of_lt_of_le hc.2.log (by decide))))
def uB:List V→Hp→VK→Prop:=fun xs H Q=>∃j:Int,xs=[.int j]∧∀p,H p=none→Q (.ref p) (upd H p (.cR 0 j))
theorem uC:cH X (.type "range") uB:=by
 intro pins s σ H xs us Q I r h
 obtain ⟨j,rfl,q⟩:=h
 obtain ⟨u,rfl,ru⟩:=vals1 r
 obtain ⟨t,rfl⟩:=ru
 refine call_range_1 ⟨.ref s.heap.objs.size,_,I.laid (o:=.cR 0 j) (fun b o e=>Heap.get?_push_of_some _ e) (Nat.le_refl _) ⟨_,_,_,Heap.get?_push_size _ rfl⟩,rfl,q _ (I.aj.fresh (Nat.le_refl _))⟩
def bH(n:Nat):List V:=(List.range n).map fun i:Nat=>V.int (i:Int)
def uD:List V→Hp→VK→Prop:=fun xs H Q=>∃p n,xs=[.ref p]∧H p=some (.cR 0 (n:Nat))∧n≤10000∧∀l,H l=none→Q (.ref l) (upd H l (.lst (bH n)))
theorem uE(hc:X.calm=true):cH X (.type "list") uD:=by
 intro pins s σ H xs us Q I r h
 obtain ⟨p,n,rfl,hp,hn,q⟩:=h
 obtain ⟨u,rfl,ru⟩:=vals1 r
 cases ru
 obtain ⟨t,u,v,e⟩:=(show aI X.prog X.w H s.heap p (.cR 0 n) from I.aj p _ hp)
 refine call_list_range (n:=n) (I.ok.hd hc) e (small_one (by omega) (by omega) (by omega) (by omega)) (by rw [rangeSize_one];split <;> omega) (by omega) fun h' tk acc c hk hD hit=>?_
 refine ⟨.ref s.heap.objs.size,_,I.laid (o:=.lst (bH n)) (fun b o e=>hk b o e) (Nat.le_refl _) ⟨?_,acc.toList,c,?_,?_⟩,rfl,q _ (I.aj.fresh (Nat.le_refl _))⟩
 ·unfold bH
  rw [List.length_map,List.length_range]
  exact Nat.le_trans hn (by decide)
 ·refine oa ?_ fun i x u h1 h2=>?_
  ·unfold bH
   rw [List.length_map,List.length_range,Array.length_toList,hit.1]
  ·have og:acc[i]?=some u:=by simpa using h2
   obtain ⟨uF,e'⟩:=hit.2 i u og
   unfold bH at h1
   rw [List.getElem?_map] at h1
   have hi:i<n:=by
    have z:=(Array.getElem?_eq_some_iff.mp og).1
    rw [hit.1] at z
    exact z
   rw [List.getElem?_range hi] at h1
   cases h1
   exact ⟨uF,by rw [e'];simp⟩
 ·rw [hD]
end
theorem uG:bootBuiltins "range" = some (.type "range"):=by decide +kernel
def oi:Expr→Bool
 | .Starred _ _=>false
 | _=>true
theorem uH{e:Expr}{es:List Expr}{env:Env}(h:oi e=true):starEach (e::es) env=(false,eval e env)::starEach es env:=by
 cases e <;> first | rfl | cases h
theorem ae{X:Cx}{e:Expr}{es:List Expr}{te:TE}{t:TA}(hs:oi e=true)(ha:PE X e te)(hr:PA X es t):PA X (e::es) (j9 te t):=
 su ha hr (uH hs)
theorem aJ{X:Cx}{pos:Pos}{i:Nat}{x:Str}{e:Expr}{te:TE}{pos':Pos}(hs:swapsWith e (some (.Name x pos')) pos.line X.env=pure false)(hf:X.fn x=true∨X.env.scope.names.lookup x=some .local)(hN:X.N.Nodup)(hi:X.N[i]?=some x)(hx:Loc X.env.scope x)(he:PE X e te) :
  PS X (.Assign [.Name x pos'] e pos) (gz te (aF i)):=rF hN hi hx he hs hf
end L2
namespace My
open PySem L2
theorem gY(a b:Int):decide (V.int a=V.int b)=decide (a=b):=by
 by_cases h:a=b
 ·subst h;simp
 ·rw [decide_eq_false h];exact decide_eq_false fun e=>h (V.int.inj e)
theorem aV{H:Hp}{p:Addr}{o:HO}(h:H p=none):ag H (upd H p o):=fun b u e=>by
 rw [ax (dj e h)]
 exact e
theorem oj{α:Type}{xs:List α}{i:Int}(h0:0≤i)(h1:i<xs.length):∃v,cI xs i=some v∧v∈xs:=by
 obtain ⟨k,rfl⟩:∃k:Nat,i=(k:Int):=⟨i.toNat,by omega⟩
 have hk:k<xs.length:=by omega
 exact ⟨xs[k],fw (by simp [hk]),List.getElem_mem _⟩
inductive Any (H:Hp):V→Prop where
 | av:Any H .av
 | bl (b:Bool):Any H (.bl b)
 | int (i:Int):Any H (.int i)
 | str (x:Str):Any H (.str x)
 | lst {a:Addr} {xs:List V} (e:H a=some (.lst xs)):Any H (.ref a)
 | tup {a:Addr} {xs:List V} (e:H a=some (.tup xs)):Any H (.ref a)
 | fB {a:Addr} (e:H a=some (nY a)):Any H (.ref a)
def uI:V→Bool
 | .int _=>true
 | _=>false
def om:V→Bool
 | .bl _=>true
 | _=>false
def iV(H:Hp):V→Bool
 | .ref a=>(match H a with | some (.tup _)=>true | _=>false)
 | _=>false
theorem Any.ky{K:PySem.W.Frag}{H:Hp}{v:V}(h:Any H v):∃T:String,gS K H v (.type T)∧PySem.W.kitOne K (.type T) (.type "int")=some (uI v || om v)∧PySem.W.kitOne K (.type T) (.type "bool")=some (om v) ∧
  PySem.W.kitOne K (.type T) (.type "tuple")=some (iV H v):=by
 cases h with
 | av=>exact ⟨"NoneType",.of .av,rfl,rfl,rfl⟩
 | bl b=>exact ⟨"bool",.of (.bl b),rfl,rfl,rfl⟩
 | int i=>exact ⟨"int",.of (.int i),rfl,rfl,rfl⟩
 | str x=>exact ⟨"str",.of (.str x),rfl,rfl,rfl⟩
 | lst e=>exact ⟨"list",.of (.lst e),rfl,rfl,by unfold iV;dsimp only;rw [e];rfl⟩
 | tup e=>exact ⟨"tuple",.of (.tup e),rfl,rfl,by unfold iV;dsimp only;rw [e];rfl⟩
 | fB e=>exact ⟨"dict",.fB e,rfl,rfl,by unfold iV;dsimp only;rw [e];rfl⟩
theorem bu.of_lt{i:Int}(h1:-(10 ^ 70)<i)(h2:i<10 ^ 70):bu i:=by
 have h3:i.natAbs<2 ^ 240:=by omega
 exact Nat.lt_of_lt_of_le h3 (Nat.pow_le_pow_right (by decide) (by decide))
def iW(K:PySem.W.Frag):Sp:=fun vs H Q _=>∃(a:Addr) (ns:List Int),vs=[.ref a]∧aH K H a (ns.map V.int)∧ns.length≤63∧∀H',Q (.bl true) H'
end My
namespace L2
open PySem PySem.Spec PyProof.Rows
end L2
namespace My
open PySem L2
end My
namespace L2
open PySem PySem.Spec PyProof.Rows
section
variable {P:Program} {w:World} {K:PySem.W.Frag} {mg:Str→Option Value} {base:Heap}
end
section
variable {X:Cx} {CX:bO} {k:Nat} {f C:Addr} {fd:FuncData} {ps:List Str} {y:Str} {sp:Sp} {E:XK} {m:Str} {pos apos ni:Pos} {e e' o:Expr} {ta:TE} {t tk:TA}
end
end L2
namespace My
open PySem L2
end My
namespace L2
open PySem PySem.Spec PyProof.Rows
section
variable {X:Cx}
end
end L2
namespace My
open PySem L2
section
variable {C N z:Addr} {q:Int} {v u:V} {t b t' b':Int} {H:Hp} {Q:VK} {E:XK}
end
end My
namespace L2
open PySem PySem.Spec PyProof.Rows
structure eJ (J:It) (xs:List V) (H1:Hp):Prop where
 go:∀i Hc,ag H1 Hc→i<xs.length→J.go i Hc
 bF:∀i Hc x H',ag H1 Hc→J.bF i Hc x H'→H'=Hc∧(i<xs.length→xs[i]?=some x)
 stop:∀i Hc,ag H1 Hc→xs.length≤i→J.stop i Hc
theorem uJ{K:PySem.W.Frag}{a:Addr}{xs:List V}{H1:Hp}(h:aH K H1 a xs):eJ (ej K a) xs H1 where
 go:=fun i Hc s hi=>⟨xs,xs[i],s.seq h,by simp [hi]⟩
 bF:=fun i Hc x H' s y=>⟨y.1,fun _=>y.2 xs (s.seq h)⟩
 stop:=fun i Hc s hi=>⟨xs,s.seq h,hi⟩
theorem oo{lo:Int}{n:Nat}{H1:Hp}:eJ (dr lo n) ((List.range n).map fun i:Nat=>V.int (lo+(i:Int))) H1 where
 go:=fun i Hc s hi=>by
  have hi:i<n:=by simpa using hi
  exact hi
 bF:=fun i Hc x H' s y=>⟨y.1,fun hi=>by
  have hi:i<n:=by simpa using hi
  rw [y.2]
  simp [hi]⟩
 stop:=fun i Hc s hi=>by
  have hi:n≤i:=by simpa using hi
  exact hi
theorem dB{H H':Hp}{D:Addr}{o:HO}(s:ag H H')(n:H D=none):ag H (upd H' D o):=fun b u e=>by
 rw [ax (dj e n)]
 exact s b u e
theorem uK{J:It}{xs:List V}{H1:Hp}{ρσ:St}{te:TE}{D:Addr}{Q:VK}(js:eJ J xs H1)(nD:H1 D=none)(hn:xs.length<sizeLine)
  (P:Nat→V→Hp→Prop) (mono:∀i y H H' ys,P i y H→H D=some (.lst ys)→(∀b o,b≠D→H b=some o→H' b=some o)→P i y H')
  (step:∀i x,xs[i]?=some x→∀(Hc:Hp) (R:VK),ag H1 Hc→(∃ys,Hc D=some (.lst ys))→(∀y H3,ag Hc H3→P i y H3→R y H3)→te (some x::ρσ) Hc R)
  (fin:∀ys Hc,ag H1 Hc→ys.length=xs.length→(∀i y,ys[i]?=some y→P i y Hc)→Hc D=some (.lst ys)→Q (.ref D) Hc) :
  ∃W:Nat→Nat→List V→Hp→Prop,(∃m,W 0 m [] (upd H1 D (.lst []))) ∧
   ∀i m ys Hc,W i m ys Hc→Hc D=some (.lst ys)∧((J.stop i Hc∧Q (.ref D) Hc)∨(J.go i Hc∧∀x H',J.bF i Hc x H'→
    if true=true then te (some x::ρσ) H' fun y H3=>H3 D=some (.lst ys)∧ys.length<sizeLine∧∃m',m'<m∧W (i+1) m' (ys++[y]) (upd H3 D (.lst (ys++[y]))) else ∃m',m'<m∧W (i+1) m' ys H')):=by
 refine ⟨fun i m ys Hc=>m=xs.length-i∧i≤xs.length∧Hc D=some (.lst ys)∧ag H1 Hc∧ys.length=i∧∀j y,ys[j]?=some y→P j y Hc,⟨_,rfl,Nat.zero_le _,ao,dB (ag.refl H1) nD,rfl,fun j y e=>by simp at e⟩,?_⟩
 rintro i m ys Hc ⟨rfl,hi,eD,sH,el,hP⟩
 refine ⟨eD,?_⟩
 by_cases aE:i<xs.length
 ·refine .inr ⟨js.go i Hc sH aE,fun x H' hy=>?_⟩
  obtain ⟨rfl,hx⟩:=js.bF i Hc x H' sH hy
  rw [if_pos rfl]
  refine step i x (hx aE) _ _ sH ⟨ys,eD⟩ fun y H3 s3 hp=>?_
  have e3:=s3 _ _ eD
  refine ⟨e3,by omega,xs.length-(i+1),by omega,rfl,aE,ao,dB (sH.trans s3) nD,by simp [el],fun j y' e=>?_⟩
  have bI:∀b o,b≠D→H3 b=some o→upd H3 D (.lst (ys++[y])) b=some o:=fun b o nb e=>by rw [ax nb];exact e
  by_cases hj:j<i
  ·have e':ys[j]?=some y':=by rw [List.getElem?_append_left (by omega)] at e;exact e
   refine mono j y' H' _ ys (hP j y' e') eD fun b o nb e=>?_
   exact bI b o nb (s3 _ _ e)
  ·have hj:j=i:=by
    have:=(List.getElem?_eq_some_iff.mp e).1
    simp at this
    omega
   subst hj
   have e':y'=y:=by rw [List.getElem?_append_right (by omega),el,Nat.sub_self] at e;simpa using e.symm
   subst e'
   exact mono _ _ H3 _ ys hp e3 bI
 ·have e:i=xs.length:=by omega
  subst e
  exact .inl ⟨js.stop _ Hc sH (Nat.le_refl _),fin ys Hc sH el hP eD⟩
theorem eK{te:TE}{g:TG}{D:Ends}{σ:St}{H:Hp}(h:te σ H fun x H1=>g x σ H1 D.nx):gz te g D σ H:=h
theorem bw{a b:TS}{D:Ends}{σ:St}{H:Hp}(h:a {D with nx:=fun σ H=>b D σ H} σ H):mQ a b D σ H:=h
section
variable {X:Cx} {N:List Str} {scope:Scope} {cl:List (Str×Addr)} {x:Str} {px pos:Pos} {iter elt:Expr} {ifs:List Expr} {wi:TI} {ρ:St→St} {tt:TT} {te:TE}
theorem iX{y:Str}{py oq:Pos}{i0:Nat}(B:n5 X N scope cl x ρ)(hc:X.calm=true)(hN:X.N.Nodup)(uL:X.N[i0]?=some y)(hy:Loc X.env.scope y)(hi:PI X (.Name x px) iter wi)(ht:∀s₃ H₃ fp,fC (X.aO N scope cl s₃ H₃ fp) ifs tt)(he:∀s₃ H₃ fp,PE (X.aO N scope cl s₃ H₃ fp) elt te)
  (uN:swapsWith (.ListComp elt [⟨.Name x px,iter,ifs,0⟩] scope pos) (some (.Name y py)) oq.line X.env=pure true:=by rfl) (hf:X.fn y=true∨X.env.scope.names.lookup y=some .local:=by first | exact .inl rfl | exact .inr rfl | assumption)
  (hs:∀x,foldedSetIterable iter X.env x=pure x:=by intro _;rfl):PS X (.Assign [.Name y py] (.ListComp elt [⟨.Name x px,iter,ifs,0⟩] scope pos) oq) (gz (cJ wi ρ tt te) (aF i0)):=by
 intro pins s σ H D0 I h
 have h:cJ wi ρ tt te σ H (fun v H1=>D0.nx (σ.set i0 (some v)) H1):=h
 rw [exec_Assign_Name_used _ _ _ _ uN]
 refine wpAny_bind (wpAny_standAt (wpAny_bind ?_))
 show wpAny _ X.A (do let _ ←comprehension (.ListComp elt [⟨.Name x px,iter,ifs,0⟩] scope pos) scope X.env _ (newList []) false (eval iter X.env) (some (assign (.Name y py) X.env))) _ _ s
 refine wpAny_bind (wpAny_mono (Q:=fun _ s'=>SP X pins D0 .next s') ?_ (fun _ s' hq=>wpAny_pure (wpAny_pure hq)) fun _ _ e=>e)
 refine wpAny_comprehension_free (use:=some (assign (.Name y py) X.env)) rfl hs B.n6 B.kind B.names (ar (hi pins s σ H _ I h) fun v s1 h1=>ar h1 fun iy s2 h2=>?_)
 obtain ⟨it,fp,tn,J,H2,rfl,I2,T,dt,f2,q2⟩:=h2
 have nD:H2 s2.heap.objs.size=none:=I2.aj.fresh (Nat.le_refl _)
 obtain ⟨W,⟨m0,w0⟩,turn⟩:=q2 _ nD
 refine wpAny_newObj_type (wpAny_newFunctionEnv B.n8 (by intro y hy;simp at hy) (fun h₁ dw dy=>?_) B.kind)
 dsimp only at dw dy ⊢
 generalize hD:s2.heap.objs.size=D at nD w0 turn dw dy ⊢
 generalize eE:({s2 with heap:=s2.heap.push {cls:=.type "list",dict:=none,data:=.seq ([]:List Value).toArray}}:Shared)=s3
 have I3:Inv X pins σ (upd H2 D (.lst [])) s3:=by
  subst hD eE
  exact I2.laid (t':=s2.toks) (fun b u e=>Heap.get?_push_of_some _ e) (Nat.le_refl _) ⟨Nat.zero_le _,[],_,.nil,Heap.get?_push_size _ rfl⟩
 have e3:s3.heap=s2.heap.push {cls:=.type "list",dict:=none,data:=.seq ([]:List Value).toArray}:=by rw [←eE]
 have dz:∀b o,s2.heap.get? b=some o→s3.heap.get? b=some o:=fun b o e=>by rw [e3];exact Heap.get?_push_of_some _ e
 rw [←e3] at dw dy ⊢
 have below:∀b o,s3.heap.get? b=some o→b≠s3.heap.objs.size:=fun b o e=>Nat.ne_of_lt (Heap.lt_size e)
 have cb:∀b o,s3.heap.get? b=some o→h₁.get? b=some o:=fun b o e=>dy.extBut b o (below b o e) (Heap.get?_push_of_some _ e)
 have eF:∀b∈fp,∃o,s2.heap.get? b=some o∧∀v,o.data≠.cell v:=T.obj _ _ dt
 have kA:∀b∈fp,b≠D:=fun b hb z=>by
  obtain ⟨o,e,_⟩:=eF b hb
  rw [z,←hD] at e
  exact absurd (Heap.lt_size e) (Nat.lt_irrefl _)
 have bS:∀y c,cl.lookup y=some c→X.env.cells.lookup y=some c:=fun y c e=>B.sub (y,c) (PySem.mem_of_lookup e)
 have kB:=I3.ip
 have gT:(X.aO N scope cl s3 (upd H2 D (.lst [])) fp).Ok:=by
  refine ⟨I.ok.mod,B.kind,I.ok.glob,I.ok.blt,Nat.le_refl _,fun a b c e1 e2=>I.ok.inj a b c (bS a c e1) (bS b c e2),fun y hy=>B.has y hy,(fun _ _ z _=>absurd z Bool.false_ne_true),(fun _=>I.ok.hd hc),I.ok.frames,.inl rfl,fun b hb=>⟨?_,fun y c e z=>?_⟩,fun b o e=>?_,Nat.le_trans I.ok.cS I3.sz,fun b o e hb=>?_,fun b hb z=>?_,I3.stack,kB⟩
  ·obtain ⟨o,e,_⟩:=eF b hb
   exact below b o (dz b o e)
  ·exact (f2 b hb).2.2.2.2.1 y c (bS y c e) z
  ·exact I3.bs b o e
  ·rcases (f2 b hb).2.2.2.1 with z | z
   ·exact I.ok.fm b o e z
   ·exact absurd (Nat.lt_of_lt_of_le (Heap.lt_size e) (Nat.le_trans I.ok.cS z)) (Nat.lt_irrefl _)
  ·rcases List.mem_cons.mp (I3.il b z) with z | z
   ·exact (f2 b hb).2.1 z
   ·exact (f2 b hb).2.2.1 z
 have IB:∀tk:Nat,Inv (X.aO N scope cl s3 (upd H2 D (.lst [])) fp) [] (none::ρ σ) (upd H2 D (.lst [])) {s3 with heap:=h₁,toks:=tk}:=fun tk=>by
  refine ⟨gT,rfl,I3.bare,Un.kept cb,⟨_,dw,fun j y v e1 e2 e3=>?_⟩,fun y c e=>?_,?_,fun y c e=>I3.cE y c (bS y c e),(fun p hp=>nomatch hp),I3.aj.kept cb,?_⟩
  ·cases j with
   | zero=>cases e2
   | succ j=>
    obtain ⟨i,y',a1,a2,a3,a4,a5,a6⟩:=B.n_ σ j v e2
    have kC:N[j+1]?=some y:=e1
    rw [kC] at a1
    cases a1
    obtain ⟨m,hn,hl⟩:=I3.loc
    obtain ⟨u,r,l⟩:=hl i y v a2 a3 a4
    refine ⟨u,r,.inr ⟨a6,?_⟩⟩
    obtain ⟨c,ec⟩:=B.has y a6
    rcases l with ⟨k,_⟩ | ⟨_,c',gU,z⟩
    ·rcases a5 with q | q <;> (rw [k] at q;cases q)
    ·have:=bS y c ec
     rw [this] at gU
     cases gU
     obtain ⟨o,ho,hd⟩:=z
     exact ⟨c,ec,o,cb _ _ ho,hd⟩
  ·obtain ⟨v,o,ho,hd⟩:=I3.cell y c (bS y c e)
   exact ⟨v,o,cb _ _ ho,hd⟩
  ·exact I3.aj.fresh (Nat.le_refl _)
  ·show (none::ρ σ).length=N.length
   rw [List.length_cons]
   exact B.len σ I.len
 have kH:∀b o,s3.heap.get? b=some o→b≠s3.heap.objs.size:=below
 have fin:∀{σ':St} {H':Hp} {s':Shared},Inv (X.aO N scope cl s3 (upd H2 D (.lst [])) fp) [] σ' H' s'→D0.nx (σ.set i0 (some (.ref D))) H'→compPost (model X.prog X.w) X.A X.xe (some (assign (.Name y py) X.env)) (fun _ s'=>SP X pins D0 .next s') (.ref D) s3.heap.objs.size (.ok .next) s':=fun{σ' H' s'} J q=>by
  obtain ⟨m,hn,_⟩:=J.loc
  have hn:s'.heap.Ns s3.heap.objs.size m:=hn
  have JC:H' s3.heap.objs.size=none:=J.free
  have u1:Un (aQ X.stack) fp (upd H2 D (.lst [])) H' s3.heap s'.heap:=by
   refine ⟨fun b o e n hb hx=>J.base.keep b o e n hb hx,fun b o e n hb hx=>J.base.slot b o e n hb hx,J.base.free,fun b o e hx=>J.base.there b o e hx,J.base.bW,J.base.bL,J.base.bX⟩
  have IX:Inv X pins σ H' s':=I3.jP (ch:=fp) (J.os) u1 J.aj J.bare fun b hb=>by
   obtain ⟨g0,g1,g2,g3,g4,g5⟩:=f2 b hb
   exact ⟨g3,g1,g4,g5⟩
  have nl:X.env.locals≠s3.heap.objs.size:=by
   obtain ⟨m3,⟨o3,_,_,e3,_⟩,_⟩:=I3.loc
   exact kH _ _ e3
  have nc:∀z c,X.env.cells.lookup z=some c→c≠s3.heap.objs.size:=fun z c e=>by
   obtain ⟨v3,o3,e3,_⟩:=I3.cell z c e
   exact kH _ _ e3
  refine wpAny_assign_Name (mE (v:=.ref D) IX hN uL hy rfl (fun cY kI kJ=>?_) hf)
  obtain ⟨a,kJ,ha⟩:=kJ
  have na:s3.heap.objs.size≠a:=by
   rcases ha with rfl | e
   ·exact fun z=>nl z.symm
   ·exact fun z=>nc _ _ e z.symm
  refine ⟨m,hn.sameBut kJ na,fun h' dA=>⟨σ.set i0 (some (.ref D)),H',?_,q⟩⟩
  have u2:Un (aQ X.stack) [s3.heap.objs.size] H' H' cY.heap h':=by
   refine ⟨fun b o e n hb hx=>(dA.2 b (by simpa using hx)).trans e,fun b o e n hb hx=>⟨o.slots,(dA.2 b (by simpa using hx)).trans e⟩,fun b o e n hx=>n,fun b o e hx=>⟨o,(dA.2 b (by simpa using hx)).trans e⟩,fun b xs z=>z,fun b o u z=>z,fun b ps z=>⟨#[],by simpa using z⟩⟩
  have kD:aK X.prog X.w H' h':=fun b u e=>by
   refine (kI.aj b u e).dQ (fun c v hc z=>(dA.2 c fun y=>?_).trans z) (fun _ z=>z) fun _ _ z=>z
   have y':c=s3.heap.objs.size:=y
   rcases hc with hc | hc
   ·rw [←hc,y',JC] at e
    cases e
   ·rw [y',JC] at hc
    cases hc
  refine kI.jP (s':={cY with heap:=h'}) (ch:=[s3.heap.objs.size]) rfl u2 kD kI.bare fun b hb=>?_
  have eb:b=s3.heap.objs.size:=by simpa using hb
  subst eb
  refine ⟨.inr I3.sz,fun z=>nl z.symm,fun z c e=>nc z c e,fun p hp=>?_⟩
  exact kH _ _ (I3.pin p hp).1
 have cF:∀{H':Hp},(∀b∈fp,H' b=none)→∀b∈fp,dU (X.aO N scope cl s3 (upd H2 D (.lst [])) fp) [] H' b:=fun hn b hb=>by
  refine ⟨hn b hb,?_,?_,.inl hb,fun y c e z=>(f2 b hb).2.2.2.2.1 y c (bS y c e) z,fun p hp=>nomatch hp⟩
  ·obtain ⟨o,e,_⟩:=eF b hb
   exact below b o (dz b o e)
  ·exact gT.fo b hb
 have loop:∀tk:Nat,codeAny (model X.prog X.w) X.A (.compLoop (.ListComp elt [⟨.Name x px,iter,ifs,0⟩] scope pos) 0 (.ref it) (.ref D) (compEnvC scope cl s3.heap.objs.size X.env))
   (compPost (model X.prog X.w) X.A X.xe (some (assign (.Name y py) X.env)) (fun _ s'=>SP X pins D0 .next s') (.ref D) s3.heap.objs.size) {s3 with heap:=h₁,toks:=tk}:=fun tk=>by
  refine codeAny_compLoop_tests (fun n s'=>∃i ys o H',Inv (X.aO N scope cl s3 (upd H2 D (.lst [])) fp) [] (o::ρ σ) H' s'∧tn i s'.heap∧(∀b∈fp,H' b=none)∧W i n ys H') ?_ m0
   ⟨0,[],none,_,IB tk,T.keep _ _ _ dt fun b hb o e=>cb _ _ (dz _ _ e),fun b hb=>by rw [ax (kA b hb)];exact (f2 b hb).1,w0⟩
  rintro n s4 ⟨i,ys,o,H4,I4,gW,gX,w4⟩
  obtain ⟨uy,kE⟩:=turn i n ys H4 w4
  rcases kE with ⟨stop,qn⟩ | ⟨go,step⟩
  ·refine wpAny_mono (T.done (X.aO N scope cl s3 (upd H2 D (.lst [])) fp) rfl rfl rfl hc i [] s4 _ H4 (fun _ _=>False) I4 (cF gX) gW stop) (fun r s5 ⟨hr,I5⟩=>?_) fun _ _ z=>z.elim
   subst hr
   exact fin I5 qn
  ·refine wpAny_mono (T.item (X.aO N scope cl s3 (upd H2 D (.lst [])) fp) rfl rfl rfl hc i [] s4 _ H4 (fun _ _=>False) I4 (cF gX) gW go) (fun r s5 ⟨u,hr,h5⟩=>?_) fun _ _ z=>z.elim
   subst hr
   have z:letOwnedTupleGo (.Name x px) (.ref it) u=pure ():=rfl
   rw [z] at h5
   show wpAny _ _ ((pure ():Sem Unit) >>= fun _=>assign (.Name x px) (compEnvC scope cl s3.heap.objs.size X.env) u) _ _ s5
   refine wpAny_bind (wpAny_mono h5 (fun _ s5 ⟨y,H5,I5,r5,y5,cG,gC⟩=>?_) fun _ _ z=>z.elim)
   have gD:=I5.pinned (cF gC) (T.obj _ _ cG)
   have pg:PG (X.aO N scope cl s3 (upd H2 D (.lst [])) fp) (.Name x px) (aF 0):=bM (i:=0) B.nd B.n0 (.inl (lookup_relabel_local B.hx)) (.inr (lookup_relabel_local B.hx))
   have again:∀{σ7:St} {H7:Hp} {s7:Shared},Inv (X.aO N scope cl s3 (upd H2 D (.lst [])) fp) ([]++dX fp s5.heap) σ7 H7 s7→Inv (X.aO N scope cl s3 (upd H2 D (.lst [])) fp) [] σ7 H7 s7∧tn (i+1) s7.heap∧∀b∈fp,H7 b=none:=fun{σ7 H7 s7} I7=>by
    refine ⟨I7.gB,T.keep _ _ _ cG fun b hb o e=>(I7.pin (b,o) (List.mem_append_right _ (List.mem_append_right _ (ft hb e)))).1,fun b hb=>?_⟩
    obtain ⟨o,e,d⟩:=T.obj _ _ cG b hb
    exact (I7.pin (b,o) (List.mem_append_right _ (List.mem_append_right _ (ft hb e)))).2.1
   refine wpAny_mono (pg _ s5 _ H5 y u (fun σ2 H6=>σ2=some y::ρ σ∧H6=H5) gD r5 ⟨rfl,rfl⟩) (fun _ s6 ⟨σ6,H6,I6,q6⟩=>?_) fun _ _ z=>z.elim
   obtain ⟨rfl,rfl⟩:=q6
   have kF:=step y _ y5
   have tests:∀{eG:TT},fC (X.aO N scope cl s3 (upd H2 D (.lst [])) fp) ifs eG→∀{R:Bool→Hp→Prop},eG (some y::ρ σ) H6 R→wpAny (model X.prog X.w) X.A
     (forIn ifs true fun c r=>if r=true then do let ok ←isTrue c (compEnvC scope cl s3.heap.objs.size X.env) (eval c (compEnvC scope cl s3.heap.objs.size X.env));pure (ForInStep.yield ok) else pure (ForInStep.yield r))
     (fun ok s7=>∃H7,Inv (X.aO N scope cl s3 (upd H2 D (.lst [])) fp) ([]++dX fp s5.heap) (some y::ρ σ) H7 s7∧R ok H7) (fun _ _=>False) s6:=fun{eG} p {R} hR=>by
    cases p with
    | nil=>exact wpAny_tests_nil ⟨_,I6,hR⟩
    | one p=>exact wpAny_tests_one (p _ s6 _ _ _ I6 hR)
   refine wpAny_mono (tests (ht s3 _ fp) kF) (fun ok s7 ⟨H7,I7,q7⟩=>?_) fun _ _ z=>z.elim
   cases ok with
   | false=>
    obtain ⟨m',eI,w7⟩:=q7
    obtain ⟨a1,a2,a3⟩:=again I7
    exact ⟨m',eI,i+1,ys,_,H7,a1,a2,a3,w7⟩
   | true=>
    refine wpAny_mono (he s3 _ fp _ s7 _ H7 _ I7 q7) (fun ev s8 ⟨z,H8,I8,r8,kG,hz,m',eI,w8⟩=>?_) fun _ _ z=>z.elim
    refine wpAny_mono (de (X:=X.aO N scope cl s3 (upd H2 D (.lst [])) fp) _ s8 _ H8 (.ref D) [z] (.ref D) [ev] (fun _ H9=>H9=upd H8 D (.lst (ys++[z]))) I8 rfl (.cons r8 .nil) ⟨D,ys,z,rfl,rfl,kG,hz,rfl⟩) (fun _ s9 ⟨_,H9,I9,_,q9⟩=>?_) fun _ _ z=>z.elim
    subst q9
    obtain ⟨a1,a2,a3⟩:=again I9
    exact ⟨m',eI,i+1,ys++[z],_,_,a1,a2,a3,w8⟩
 have start:=loop (s3.toks+([]:List (Str×Value)).length)
 have es:({s3 with heap:=h₁,toks:=s3.toks+([]:List (Str×Value)).length}:Shared)={s2 with heap:=h₁,toks:=s2.toks+([]:List (Str×Value)).length}:=by rw [←eE]
 rw [es] at start
 exact codeAny_compStart_list start (T.self _ 0 _ _ _ (T.keep _ _ _ dt fun b hb o e=>cb _ _ (dz _ _ e)) start)
end
section
variable {X:Cx}
end
section
variable {prog:Program} {w:World} {A:Around} {R:Result→Shared→Prop} {s:Shared}
end
section
variable {X:Cx} {N:List Str} {scope:Scope} {cl:List (Str×Addr)} {x y:Str} {px py pos tp:Pos} {uO:Nat} {iter elt:Expr} {ifs:List Expr} {wi:TI} {ρ:St→St} {tt:TT} {te:TE}
end
section
variable {X:Cx}
end
section
variable {M:Model} {A:Around} {E:Value→Shared→Prop} {s:Shared}
end
section
variable {X:Cx} {N:List Str} {scope:Scope} {cl:List (Str×Addr)} {x:Str} {px pos:Pos} {iter elt:Expr} {ifs:List Expr} {wi:TI} {ρ:St→St} {tt:TT} {te:TE}
end
theorem uP{v:V}(h:da v=true):du v v=true:=by
 cases v with
 | av=>rfl
 | bl b=>show (b == b)=true;simp
 | int i=>show (i == i)=true;simp
 | str x=>show (x == x)=true;simp
 | _=>cases h
theorem all_range(n:Nat):(List.range n).all (fun _=>true)=true:=by simp
section
variable {X:Cx} {pins:List (Addr×Obj)} {σ:St} {H:Hp} {s:Shared}
end
section
variable {X:Cx}
end
section
variable {X:Cx} {N:List Str} {scope:Scope} {cl:List (Str×Addr)} {x:Str} {px pos:Pos} {iter elt:Expr} {ifs:List Expr} {wi:TI} {ρ:St→St} {tt:TT} {te:TE}
end
theorem uQ{wi:TI}{ρ:St→St}{te:TE}{σ:St}{H:Hp}{Q:VK}{xs:List V}(dC:∀R:It→Hp→Prop,(∀J H1,ag H H1→eJ J xs H1→R J H1)→wi σ H R)(hn:xs.length<sizeLine)
  (P:Addr→Nat→V→Hp→Prop) (mono:∀D i y H H' ys,P D i y H→H D=some (.lst ys)→(∀b o,b≠D→H b=some o→H' b=some o)→P D i y H')
  (step:∀D i x,xs[i]?=some x→∀(Hc:Hp) (R:VK),ag H Hc→(∃ys,Hc D=some (.lst ys))→(∀y H3,ag Hc H3→P D i y H3→R y H3)→te (some x::ρ σ) Hc R)
  (fin:∀D ys Hc,H D=none→ag H Hc→ys.length=xs.length→(∀(i:Nat) (y:V),ys[i]?=some y→P D i y Hc)→Hc D=some (.lst ys)→Q (.ref D) Hc):cJ wi ρ (fun _ H Q=>Q true H) te σ H Q:=by
 refine dC _ fun J H1 s1 js=>?_
 intro D nD
 have hD:H D=none:=by
  cases e:H D with
  | none=>rfl
  | some o=>rw [s1 _ _ e] at nD;cases nD
 exact uK (ρσ:=ρ σ) (te:=te) (Q:=Q) js nD hn (P D) (mono D) (fun i x hx Hc R sc=>step D i x hx Hc R (s1.trans sc)) (fun ys Hc sc=>fin D ys Hc hD (s1.trans sc))
section
variable {X:Cx} {K:PySem.W.Frag}
end
end L2
namespace My
open PySem L2
theorem uR{r:List V→Hp→VK→Prop}{te:TE}{σ:St}{H:Hp}{Q:VK}(h:te σ H fun x H1=>r [x] H1 Q):j_ r (j9 te nh) σ H Q:=h
theorem uS{te:TE}{D:Ends}{σ:St}{H:Hp}(h:te σ H D.rt):mR te D σ H:=h
theorem none_of{H H':Hp}{b:Addr}(s:ag H H')(h:H' b=none):H b=none:=by
 cases e:H b with
 | none=>rfl
 | some o=>rw [s _ _ e] at h;cases h
theorem getD_at{α:Type}{xs:List α}{d:α}{i:Nat}(hi:i<xs.length):xs.getD i d=xs[i]:=by
 rw [List.getD_eq_getElem?_getD,show xs[i]?=some xs[i] by simp [hi]]
 rfl
def er(P:Addr)(H:Hp):Hp:=fun b=>if b=P then none else H b
theorem eL{P:Addr}{H:Hp}:ag (er P H) H:=fun b o e=>by
 unfold er at e
 split at e
 ·cases e
 ·exact e
theorem bo{P b:Addr}{H:Hp}(h:b≠P):er P H b=H b:=if_neg h
theorem kK{P b:Addr}{H:Hp}{o:HO}(h:b≠P)(e:H b=some o):er P H b=some o:=by rw [bo h];exact e
theorem iY{P:Addr}{H H':Hp}(s:ag H H'):ag (er P H) (er P H'):=fun b o e=>by
 unfold er at e ⊢
 split at e
 ·cases e
 ·rename_i h
  rw [if_neg h]
  exact s _ _ e
theorem ot{P:Addr}{H:Hp}{o:HO}:er P (upd H P o)=er P H:=funext fun b=>by
 unfold er
 split
 ·rfl
 ·rename_i h
  exact ax h
def az(H:Hp)(P a:Addr):Prop:=∃x y:Int,H P=some (.lst [.ref a,.int x,.int y])∧0≤x∧0≤y
theorem az.mono{H H':Hp}{P a:Addr}(h:az H P a)(s:ag H H'):az H' P a:=by
 obtain ⟨x,y,e,h1,h2⟩:=h
 exact ⟨x,y,s _ _ e,h1,h2⟩
theorem az.upd{H:Hp}{P a D:Addr}{o:HO}(h:az H P a)(n:D≠P):az (L2.upd H D o) P a:=by
 obtain ⟨x,y,e,h1,h2⟩:=h
 exact ⟨x,y,by rw [ax n.symm];exact e,h1,h2⟩
theorem az.ne{H:Hp}{P a D:Addr}(h:az H P a)(n:H D=none):D≠P:=fun z=>by
 obtain ⟨x,y,e,_⟩:=h
 rw [z,e] at n
 cases n
def ai(P:Addr)(H H':Hp):Prop:=ag (er P H) (er P H')
theorem ai.refl{P:Addr}(H:Hp):ai P H H:=ag.refl _
theorem ai.trans{P:Addr}{H H' H2:Hp}(s:ai P H H')(t:ai P H' H2):ai P H H2:=ag.trans s t
theorem ai.of{P:Addr}{H H':Hp}(s:ag H H'):ai P H H':=iY s
theorem ai.df{P:Addr}{H:Hp}{o:HO}:ai P H (upd H P o):=by
 unfold ai
 rw [ot]
 exact ag.refl _
theorem ai.but{P D:Addr}{H H':Hp}{o:HO}(s:ai P H H')(n:H D=none):ai P H (upd H' D o):=fun b u e=>by
 have e0:=s b u e
 have nb:b≠P:=fun z=>by unfold er at e;rw [if_pos z] at e;cases e
 rw [bo nb] at e e0 ⊢
 rw [ax (dj e n)]
 exact e0
theorem ai.at{P b:Addr}{H H':Hp}{o:HO}(s:ai P H H')(nb:b≠P)(e:H b=some o):H' b=some o:=by
 have z:=s b o (kK nb e)
 rw [bo nb] at z
 exact z
end My
namespace L2
open PySem PySem.Spec PyProof.Rows
end L2
namespace My
open PySem L2
def uT:Sp:=fun vs H Q _=>∃c a:Int,vs=[.int c,.int a]∧0≤a∧∀r:Int,0≤r→Q (.int r) H
def uU(K:PySem.W.Frag):Sp:=fun vs H Q _=>∃(P a:Addr) (ns:List Int) (many:Int),vs=[.ref P,.int many]∧az H P a∧aH K (er P H) a (ns.map V.int)∧1≤many∧bu many∧∀(r:Int) (H':Hp),0≤r→r<many→ai P H H'→az H' P a→Q (.int r) H'
end My
namespace L2
open PySem PySem.Spec PyProof.Rows
end L2
namespace My
open PySem L2
end My
namespace L2
open PySem PySem.Spec PyProof.Rows
section
variable {X:Cx}
end
end L2
namespace My
open PySem L2
end My
namespace L2
open PySem PySem.Spec PyProof.Rows
section
variable {X:Cx} {tg:Expr}
end
end L2
namespace My
open PySem L2
theorem ou{wi:TI}{ρ:St→St}{te:TE}{σ:St}{H:Hp}{Q:VK}{xs:List V}{n:Nat}(hl:xs.length=n)(dC:∀R:It→Hp→Prop,(∀J H1,ag H H1→eJ J xs H1→R J H1)→wi σ H R)(hn:n<sizeLine)
  (P:Addr→Nat→Addr→Hp→Prop) (mono:∀D i y H H' ys,P D i y H→y≠D→H D=some (.lst ys)→(∀b o,b≠D→H b=some o→H' b=some o)→P D i y H')
  (step:∀D (i:Nat) (x:V),xs[i]?=some x→∀(Hc:Hp) (R:VK),ag H Hc→(∃ys,Hc D=some (.lst ys))→(∀y H3,ag Hc H3→Hc y=none→(∃o,H3 y=some o)→P D i y H3→R (.ref y) H3)→te (some x::ρ σ) Hc R)
  (fin:∀D (A:Nat→Addr) Hc,H D=none→ag H Hc→(∀i j,i<n→j<n→A i=A j→i=j)→(∀i,i<n→P D i (A i) Hc∧A i≠D)→Hc D=some (.lst ((List.range n).map fun i=>V.ref (A i)))→Q (.ref D) Hc):cJ wi ρ (fun _ H Q=>Q true H) te σ H Q:=by
 refine dC _ fun J H1 s1 js=>?_
 intro D nD
 have hD:H D=none:=by
  cases e:H D with
  | none=>rfl
  | some o=>rw [s1 _ _ e] at nD;cases nD
 refine ⟨fun i m ys Hc=>m=n-i∧i≤n∧Hc D=some (.lst ys)∧ag H1 Hc∧∃A:Nat→Addr,ys=(List.range i).map (fun j=>V.ref (A j))∧(∀a b,a<i→b<i→A a=A b→a=b)∧∀j,j<i→P D j (A j) Hc∧A j≠D∧∃o,Hc (A j)=some o,⟨_,rfl,Nat.zero_le _,ao,dB (ag.refl H1) nD,fun _=>D,rfl,(fun a b h=>by omega),fun j h=>by omega⟩,?_⟩
 rintro i m ys Hc ⟨rfl,hi,eD,sH,A,rfl,inj,hA⟩
 refine ⟨eD,?_⟩
 by_cases aE:i<n
 ·refine .inr ⟨js.go i Hc sH (by omega),fun x H' hy=>?_⟩
  obtain ⟨rfl,hx⟩:=js.bF i Hc x H' sH hy
  rw [if_pos rfl]
  refine step D i x (hx (by omega)) _ _ (s1.trans sH) ⟨_,eD⟩ fun y H3 s3 ny ⟨o,ho⟩ hp=>?_
  have e3:=s3 _ _ eD
  have yD:y≠D:=fun e=>by rw [e,eD] at ny;cases ny
  have bI:∀b o,b≠D→H3 b=some o→upd H3 D (.lst ((List.range i).map (fun j=>V.ref (A j))++[.ref y])) b=some o:=fun b o nb e=>by rw [ax nb];exact e
  have nA:∀j,j<i→A j≠y:=fun j hj e=>by
   obtain ⟨_,_,o',h'⟩:=hA j hj
   rw [e,ny] at h'
   cases h'
  refine ⟨e3,by simp;omega,n-(i+1),by omega,rfl,aE,ao,dB (sH.trans s3) nD,fun j=>if j=i then y else A j,?_,fun a b ha hb e=>?_,fun j hj=>?_⟩
  ·rw [List.range_succ,List.map_append]
   congr 1
   ·refine List.map_congr_left fun j hj=>?_
    dsimp only
    rw [if_neg (by have:=List.mem_range.mp hj;omega)]
   ·simp
  ·dsimp only at e
   by_cases z1:a=i
   ·by_cases z2:b=i
    ·omega
    ·rw [if_pos z1,if_neg z2] at e
     exact absurd e.symm (nA b (by omega))
   ·by_cases z2:b=i
    ·rw [if_neg z1,if_pos z2] at e
     exact absurd e (nA a (by omega))
    ·rw [if_neg z1,if_neg z2] at e
     exact inj a b (by omega) (by omega) e
  ·dsimp only
   by_cases z:j=i
   ·rw [if_pos z,z]
    exact ⟨mono D i y H3 _ _ hp yD e3 bI,yD,o,bI _ _ yD ho⟩
   ·rw [if_neg z]
    obtain ⟨h1,h2,o',h3⟩:=hA j (by omega)
    exact ⟨mono D j (A j) H' _ _ h1 h2 eD (fun b o nb e=>bI b o nb (s3 _ _ e)),h2,o',bI _ _ h2 (s3 _ _ h3)⟩
 ·have e:i=n:=by omega
  subst e
  exact .inl ⟨js.stop _ Hc sH (by omega),fin D A Hc hD (s1.trans sH) inj (fun j hj=>⟨(hA j hj).1,(hA j hj).2.1⟩) eD⟩
end My
namespace L2
open PySem PySem.Spec PyProof.Rows
end L2
namespace My
open PySem L2
end My
namespace L2
open PySem PySem.Spec PyProof.Rows
end L2
namespace My
open PySem L2
end My
namespace L2
open PySem PySem.Spec PyProof.Rows
section
variable {X:Cx}
end
end L2
namespace My
open PySem L2
end My
namespace L2
open PySem PySem.Spec PyProof.Rows
end L2
namespace My
open PySem L2
end My
namespace L2
open PySem PySem.Spec PyProof.Rows
section
variable {X:Cx} {N:List Str} {scope:Scope} {cl:List (Str×Addr)} {x y:Str} {px py pos tp:Pos} {uO:Nat} {iter elt:Expr} {ifs:List Expr} {wi:TI} {ρ:St→St} {tt:TT} {te:TE}
end
section
variable {X:Cx} {pins:List (Addr×Obj)} {σ:St} {H:Hp} {s:Shared}
end
end L2
namespace My
open PySem PySem.W PyProof.Rows
def KH{α:Type}(n:Nat)(c:Nat→Int):KasT α→(α→Prop)→Prop
 | .ret a,Q=>Q a
 | .ask i j k,Q=>i<n∧j<n∧KH n c (k (decide (c i<c j))) Q
section
variable {n:Nat} {c:Nat→Int}
theorem KH.bind{α β:Type}{f:α→KasT β}{Q:β→Prop}:∀(t:KasT α),KH n c t (fun a=>KH n c (f a) Q)→KH n c (t.bind f) Q
 | .ret _,h=>h
 | .ask _ _ k,h=>⟨h.1,h.2.1,KH.bind (k _) h.2.2⟩
theorem KH.wp{α:Type}{cmp:Nat→Nat→(Bool→Shared→Prop)→Shared→Prop}{s:Shared}(hc:∀i j (C:Bool→Shared→Prop),i<n→j<n→C (decide (c i<c j)) s→cmp i j C s){Q:α→Shared→Prop}:∀(t:KasT α),KH n c t (fun a=>Q a s)→t.kasWp cmp Q s
 | .ret _,h=>h
 | .ask i j k,h=>hc i j _ h.1 h.2.1 (KH.wp hc (k _) h.2.2)
def aL(n:Nat)(p:Array Nat):Prop:=p.Perm (List.toArray (List.range n))
theorem aL.size{p:Array Nat}(h:aL n p):p.size=n:=by
 rw [Array.Perm.size_eq h]
 simp
theorem aL.lt{p:Array Nat}(h:aL n p){i:Nat}(hn:0<n):p.getD i 0<n:=by
 by_cases z:i<p.size
 ·have e:p.getD i 0=p[i]:=by simp [Array.getD,z]
  rw [e]
  have m:p[i]∈(List.toArray (List.range n)):=(Array.Perm.mem_iff h).mp (Array.getElem_mem z)
  simpa using m
 ·have e:p.getD i 0=0:=by simp [Array.getD,z]
  omega
def vN(c:Nat→Int)(p:Array Nat)(i:Nat):Int:=c (p.getD i 0)
theorem gZ(p:Array Nat)(i:Nat):p.getD i 0=p[i]?.getD 0:=by
 by_cases z:i<p.size <;> simp [Array.getD,z]
theorem kL{p:Array Nat}{i j:Nat}(hj:j≤p.size)(k:Nat):vN c (kas_rev p i j) k=if i≤k∧k<j then vN c p (i+j-1-k) else vN c p k:=by
 have e:=getElem?_mirror_all (i:=i) hj k
 unfold vN kas_rev
 rw [gZ,e]
 split <;> rw [gZ]
theorem aL.rev{p:Array Nat}(h:aL n p)(i j:Nat):aL n (kas_rev p i j):=Array.Perm.trans (mirror_perm p i j _) h
theorem aL.uV{p:Array Nat}(h:aL n p)(k d:Nat):aL n (bubble p k d):=Array.Perm.trans (bubble_perm p k d) h
def a8(c:Nat→Int)(p:Array Nat)(k:Nat):Prop:=∀a b,a≤b→b<k→vN c p a≤vN c p b
def dg(c:Nat→Int)(p:Array Nat)(k:Nat):Prop:=∀a b,a≤b→b<k→vN c p b≤vN c p a
theorem a8.one(p:Array Nat):a8 c p 1:=fun a b h1 h2=>by
 obtain rfl:a=b:=by omega
 exact Int.le_refl _
theorem a8.more{p:Array Nat}{k:Nat}(h:a8 c p k)(hk:vN c p (k-1)≤vN c p k)(k1:1≤k):a8 c p (k+1):=fun a b h1 h2=>by
 by_cases z:b<k
 ·exact h a b h1 z
 ·obtain rfl:b=k:=by omega
  by_cases y:a=b
  ·rw [y];exact Int.le_refl _
  ·exact Int.le_trans (h a (b-1) (by omega) (by omega)) hk
theorem dg.more{p:Array Nat}{k:Nat}(h:dg c p k)(hk:vN c p k≤vN c p (k-1))(k1:1≤k):dg c p (k+1):=fun a b h1 h2=>by
 by_cases z:b<k
 ·exact h a b h1 z
 ·obtain rfl:b=k:=by omega
  by_cases y:a=b
  ·rw [y];exact Int.le_refl _
  ·exact Int.le_trans hk (h a (b-1) (by omega) (by omega))
theorem kM{p:Array Nat}(P:aL n p)(n0:0<n){Q:Nat→Prop}:∀(f m:Nat),1≤m→a8 c p m→(∀k,m≤k→k≤m+f→a8 c p k→(k<m+f→vN c p k<vN c p (k-1))→Q k)→KH n c (kas_asc p f m) Q
 | 0,m,_,hu,k=>k m (Nat.le_refl _) (Nat.le_refl _) hu fun z=>absurd z (Nat.lt_irrefl _)
 | f+1,m,m1,hu,k=>by
  refine ⟨P.lt n0,P.lt n0,?_⟩
  by_cases z:c (p.getD m 0)<c (p.getD (m-1) 0)
  ·rw [decide_eq_true z]
   dsimp only
   rw [if_pos rfl]
   exact k m (Nat.le_refl _) (by omega) hu fun _=>z
  ·rw [decide_eq_false z]
   dsimp only
   rw [if_neg (by simp)]
   refine kM P n0 f (m+1) (by omega) (hu.more (Int.not_lt.mp z) m1) fun j h1 h2 h3 h4=>k j (by omega) (by omega) h3 fun z=>h4 (by omega)
def g6(c:Nat→Int)(p:Array Nat)(a b:Nat):Prop:=∀i,a≤i→i<b→vN c p i=vN c p a
theorem kN{p:Array Nat}{i j:Nat}(hj:j≤p.size)(h:g6 c p i j)(k:Nat):vN c (kas_rev p i j) k=vN c p k:=by
 rw [kL hj]
 split
 ·rw [h _ (by omega) (by omega),h k (by omega) (by omega)]
 ·rfl
theorem iZ(n0:0<n){Q:Array Nat×Nat×Nat→Prop}:∀(f:Nat) (p:Array Nat) (m q:Nat),aL n p→1≤m→m+f≤n→q+1≤m→dg c p m→g6 c p (m-(q+1)) m→(∀p' k q',aL n p'→m≤k→k≤m+f→q'+1≤k→dg c p' k→g6 c p' (k-(q'+1)) k→Q (p',k,q'))→KH n c (kas_desc f p m q) Q
 | 0,p,m,q,P,_,_,hq,hd,he,k=>k p m q P (Nat.le_refl _) (Nat.le_refl _) hq hd he
 | f+1,p,m,q,P,m1,hm,hq,hd,he,k=>by
  refine ⟨P.lt n0,P.lt n0,?_⟩
  have sz:=P.size
  have one:∀(p:Array Nat),g6 c p (m+1-(0+1)) (m+1):=fun p i h1 h2=>by
   obtain rfl:i=m+1-(0+1):=by omega
   rfl
  by_cases z:c (p.getD m 0)<c (p.getD (m-1) 0)
  ·rw [decide_eq_true z]
   dsimp only
   rw [if_pos rfl]
   split
   ·rename_i q0
    have same:=kN (c:=c) (p:=p) (i:=m-(q+1)) (j:=m) (by omega) he
    refine iZ n0 f _ (m+1) 0 (P.rev _ _) (by omega) (by omega) (by omega) ?_ (one _) fun p' j q' a1 a2 a3 a4 a5 a6=>k p' j q' a1 (by omega) (by omega) a4 a5 a6
    refine dg.more (fun a b h1 h2=>?_) ?_ m1
    ·rw [same,same]
     exact hd a b h1 h2
    ·rw [same,same]
     exact Int.le_of_lt z
   ·exact iZ n0 f p (m+1) 0 P (by omega) (by omega) (by omega) (hd.more (Int.le_of_lt z) m1) (one _) fun p' j q' a1 a2 a3 a4 a5 a6=>k p' j q' a1 (by omega) (by omega) a4 a5 a6
  ·rw [decide_eq_false z]
   dsimp only
   rw [if_neg (by simp)]
   refine ⟨P.lt n0,P.lt n0,?_⟩
   by_cases y:c (p.getD (m-1) 0)<c (p.getD m 0)
   ·rw [decide_eq_true y]
    dsimp only
    rw [if_pos rfl]
    exact k p m q P (Nat.le_refl _) (by omega) hq hd he
   ·rw [decide_eq_false y]
    dsimp only
    rw [if_neg (by simp)]
    have e:vN c p m=vN c p (m-1):=Int.le_antisymm (Int.not_lt.mp y) (Int.not_lt.mp z)
    refine iZ n0 f p (m+1) (q+1) P (by omega) (by omega) (by omega) (hd.more (Int.le_of_eq e) m1) (fun i h1 h2=>?_) fun p' j q' a1 a2 a3 a4 a5 a6=>k p' j q' a1 (by omega) (by omega) a4 a5 a6
    rw [show m+1-(q+1+1)=m-(q+1) by omega] at h1 ⊢
    by_cases x:i<m
    ·exact he i h1 x
    ·rw [show i=m by omega,e]
     exact he (m-1) (by omega) (by omega)
theorem oy{p:Array Nat}{m:Nat}(P:aL n p)(n0:0<n)(m1:1≤m)(hm:m≤n)(hd:dg c p m){Q:Nat×Array Nat→Prop}(k:∀j p',aL n p'→m≤j→j≤n→a8 c p' j→Q (j,p')):KH n c (kas_tail3 m n p) Q:=by
 have sz:=P.size
 have P':=P.rev 0 m
 refine KH.bind _ (kM P' n0 (n-m) m m1 (fun a b h1 h2=>?_) fun j h1 h2 h3 _=>k j _ P' h1 (by omega) h3)
 rw [kL (by omega),kL (by omega),if_pos (by omega),if_pos (by omega)]
 exact hd _ _ (by omega) (by omega)
theorem oz{p:Array Nat}{m:Nat}(P:aL n p)(n0:0<n)(m1:1≤m)(hm:m+1≤n)(hd:dg c p (m+1)){Q:Nat×Array Nat→Prop}(k:∀j p',aL n p'→m≤j→j≤n→a8 c p' j→Q (j,p')):KH n c (kas_descPart m n p) Q:=by
 refine KH.bind _ (iZ n0 (n-(m+1)) p (m+1) 0 P (by omega) (by omega) (by omega) hd (fun i h1 h2=>by
  obtain rfl:i=m+1-(0+1):=by omega
  rfl) fun p' j q' P' h1 h2 h3 h4 h5=>?_)
 have sz:=P'.size
 dsimp only
 split
 ·have same:=kN (c:=c) (p:=p') (i:=j-(q'+1)) (j:=j) (by omega) h5
  exact oy (P'.rev _ _) n0 (by omega) (by omega) (fun a b y1 y2=>by rw [same,same];exact h4 a b y1 y2) fun i x a1 a2 a3 a4=>k i x a1 (by omega) a3 a4
 ·exact oy P' n0 (by omega) (by omega) h4 fun i x a1 a2 a3 a4=>k i x a1 (by omega) a3 a4
theorem uW{p:Array Nat}(P:aL n p)(n0:0<n){Q:Nat×Array Nat→Prop}(k:∀j p',aL n p'→1≤j→j≤n→a8 c p' j→Q (j,p')):KH n c (kas_count n p) Q:=by
 have sz:=P.size
 refine KH.bind _ (kM P n0 (n-1) 1 (Nat.le_refl 1) (a8.one p) fun j h1 h2 h3 h4=>?_)
 split
 ·exact k j p P h1 (by omega) h3
 ·rename_i z
  have jn:j<n:=by
   have:j≠n:=fun e=>z (by rw [e];simp)
   omega
  have lt:=h4 (by omega)
  split
  ·rename_i j1
   refine ⟨P.lt n0,P.lt n0,?_⟩
   by_cases y:c (p.getD 0 0)<c (p.getD (j-1) 0)
   ·rw [decide_eq_true y]
    dsimp only
    rw [if_pos rfl]
    exact k j p P h1 (by omega) h3
   ·rw [decide_eq_false y]
    dsimp only
    rw [if_neg (by simp)]
    have eq:g6 c p 0 j:=fun i a1 a2=>Int.le_antisymm (Int.le_trans (h3 i (j-1) (by omega) (by omega)) (Int.not_lt.mp y)) (h3 0 i (by omega) a2)
    have same:=kN (c:=c) (p:=p) (i:=0) (j:=j) (by omega) eq
    refine oz (P.rev 0 j) n0 h1 (by omega) ?_ fun i x a1 a2 a3 a4=>k i x a1 (by omega) a3 a4
    refine dg.more (fun a b a1 a2=>?_) (by rw [same,same];exact Int.le_of_lt lt) h1
    rw [same,same,eq a (by omega) (by omega),eq b (by omega) a2]
    exact Int.le_refl _
  ·refine oz P n0 h1 (by omega) ?_ fun i x a1 a2 a3 a4=>k i x a1 (by omega) a3 a4
   refine dg.more (fun a b a1 a2=>?_) (Int.le_of_lt lt) h1
   obtain rfl:a=b:=by omega
   exact Int.le_refl _
theorem kO{p:Array Nat}{k:Nat}(P:aL n p)(n0:0<n){Q:Nat→Prop}(hu:a8 c p k):∀(f l r:Nat),l≤r→r≤k→r-l≤f→(∀i,i<l→vN c p i≤vN c p k)→(∀i,r≤i→i<k→vN c p k≤vN c p i)→(∀l,l≤k→(∀i,i<l→vN c p i≤vN c p k)→(∀i,l≤i→i<k→vN c p k≤vN c p i)→Q l)→KH n c (kas_place p k f l r) Q
 | 0,l,r,h1,h2,h3,h4,h5,kk=>kk l (by omega) h4 fun i a1 a2=>h5 i (by omega) a2
 | f+1,l,r,h1,h2,h3,h4,h5,kk=>by
  unfold kas_place
  split
  ·exact kk l (by omega) h4 fun i a1 a2=>h5 i (by omega) a2
  ·refine ⟨P.lt n0,P.lt n0,?_⟩
   by_cases z:c (p.getD k 0)<c (p.getD ((l+r) / 2) 0)
   ·rw [decide_eq_true z]
    dsimp only
    rw [if_pos rfl]
    exact kO P n0 hu f l ((l+r) / 2) (by omega) (by omega) (by omega) h4 (fun i a1 a2=>Int.le_trans (Int.le_of_lt z) (hu _ i a1 a2)) kk
   ·rw [decide_eq_false z]
    dsimp only
    rw [if_neg (by simp)]
    exact kO P n0 hu f ((l+r) / 2+1) r (by omega) h2 (by omega) (fun i a1=>Int.le_trans (hu i ((l+r) / 2) (by omega) (by omega)) (Int.not_lt.mp z)) h5 kk
theorem oA{p:Array Nat}{k d:Nat}(hk:k<p.size)(hd:d≤k)(i:Nat):vN c (bubble p k d) i=if i=k-d then vN c p k else if k-d<i∧i≤k then vN c p (i-1) else vN c p i:=by
 have e:=getElem?_bubble hk d hd i
 unfold vN
 rw [gZ,e]
 by_cases z:i=k-d
 ·rw [if_pos z,if_pos z,gZ]
 ·rw [if_neg z,if_neg z]
  split <;> rw [gZ]
theorem oB(n0:0<n){Q:Array Nat→Prop}:∀(f:Nat) (p:Array Nat) (k:Nat),aL n p→k+f=n→a8 c p k→(∀p',aL n p'→a8 c p' n→Q p')→KH n c (kas_bin f p k) Q
 | 0,p,k,P,e,hu,kk=>by
  obtain rfl:k=n:=by omega
  exact kk p P hu
 | f+1,p,k,P,e,hu,kk=>by
  have sz:=P.size
  refine KH.bind _ (kO P n0 hu k 0 k (Nat.zero_le _) (Nat.le_refl _) (by omega) (fun i h=>by omega) (fun i h1 h2=>by omega) fun l hl h1 h2=>?_)
  refine oB n0 f _ (k+1) (P.uV k (k-l)) (by omega) (fun a b y1 y2=>?_) kk
  rw [oA (by omega) (by omega),oA (by omega) (by omega),show k-(k-l)=l by omega]
  by_cases a1:a=l
  ·rw [if_pos a1]
   by_cases b1:b=l
   ·rw [if_pos b1];exact Int.le_refl _
   ·rw [if_neg b1,if_pos (by omega)]
    exact h2 (b-1) (by omega) (by omega)
  ·rw [if_neg a1]
   by_cases a2:l<a∧a≤k
   ·rw [if_pos a2,if_neg (by omega),if_pos (by omega)]
    exact hu _ _ (by omega) (by omega)
   ·rw [if_neg a2]
    by_cases b1:b=l
    ·rw [if_pos b1]
     exact h1 a (by omega)
    ·rw [if_neg b1]
     split
     ·exact hu _ _ (by omega) (by omega)
     ·exact hu _ _ (by omega) (by omega)
theorem uX(n0:0<n){Q:Array Nat→Prop}(k:∀p,aL n p→a8 c p n→Q p):KH n c (kas_sort n) Q:=by
 refine KH.bind _ (uW (p:=List.toArray (List.range n)) (Array.Perm.refl _) n0 fun j p P h1 h2 h3=>?_)
 dsimp only
 split
 ·rw [show max j 1=j by omega]
  exact oB n0 _ p j P (by omega) h3 k
 ·obtain rfl:j=n:=by omega
  exact k p P h3
end
section
variable {prog:Program} {w:World} {A:Around} {E:Value→Shared→Prop} {s:Shared}
def cK(h:Heap)(v:Value)(x y:Int):Prop:=∃a o t u e,v=.ref a∧h.get? a=some o∧o.cls=.type "tuple"∧o.data=.seq #[.int x t,.int y u] e
theorem uY{v v':Value}{x y x' y':Int}(h1:cK s.heap v x y)(h2:cK s.heap v' x' y'){Q:Bool→Shared→Prop}(h:Q (decide (x<x'∨x=x'∧y<y')) s):wpAny (model prog w) A (keyLt' (tuples' true) v v') Q E s:=by
 obtain ⟨a,o,t,u,e,rfl,g,_,d⟩:=h1
 obtain ⟨a',o',t',u',e',rfl,g',_,d'⟩:=h2
 refine kat_lt g d g' d' ?_
 show KatLex prog w A true (decide (2<2)) Q [(.int x t,.int x' t'),(.int y u,.int y' u')] 0 s
 refine kat_cons (wpAny_eqBool_int ?_)
 by_cases z:x=x'
 ·subst z
  rw [show (x == x)=true by simp]
  refine kat_yes (kat_cons (wpAny_eqBool_int ?_))
  by_cases z2:y=y'
  ·subst z2
   rw [show (y == y)=true by simp]
   refine kat_yes (kat_nil ?_)
   rw [decide_eq_false (by omega)] at h
   exact h
  ·rw [show (y == y')=false by simp [z2]]
   refine kat_no ?_
   show wpAny (model prog w) A (oneLt' false (.int y u) (.int y' u')) Q _ s
   refine kat_one _ _ (lt_int ?_)
   show Q (decide (y<y')) s
   rw [show decide (y<y')=decide (x<x∨x=x∧y<y') from decide_eq_decide.mpr (by omega)]
   exact h
 ·rw [show (x == x')=false by simp [z]]
  refine kat_no ?_
  show wpAny (model prog w) A (oneLt' true (.int x t) (.int x' t')) Q _ s
  refine oneLt_int ?_
  rw [show decide (x<x')=decide (x<x'∨x=x'∧y<y') from decide_eq_decide.mpr (by omega)]
  exact h
theorem oC{h:Heap}:∀{vs:List Value},(∀v∈vs,∃x y,cK h v x y)→∃fs:List Value,KatTups h vs fs∧fs.length=vs.length∧∀f∈fs,∃n t,f=.int n t
 | [],_=>⟨[],.nil,rfl,fun f hf=>by cases hf⟩
 | v::vs,hv=>by
  obtain ⟨fs,k,l,i⟩:=oC (vs:=vs) fun v h=>hv v (List.mem_cons_of_mem _ h)
  obtain ⟨x,y,a,o,t,u,e,rfl,g,c,d⟩:=hv v List.mem_cons_self
  refine ⟨.int x t::fs,.cons g c d rfl k,by rw [List.length_cons,List.length_cons,l],fun f hf=>?_⟩
  rcases List.mem_cons.mp hf with rfl | hf
  ·exact ⟨x,t,rfl⟩
  ·exact i f hf
theorem uZ{vs:List Value}{x y:Nat→Int}(h2:2≤vs.length)(fD:vs.length<64)(hv:∀i v,vs[i]?=some v→cK s.heap v (x i) (y i)∧0≤y i∧y i<1000){Q:SortSt→Shared→Prop}
  (hQ:∀(p:Array Nat) (st:SortSt),aL vs.length p→a8 (fun i=>x i*1000+y i) p vs.length→(arrOf st).map (·.2)=List.toArray (p.toList.map fun i=>vs.getD i Value.none)→failedOf st=none→Q st s) :
  wpAny (model prog w) A (sortRuns'.run (SortSt.mk' (tuples' true) (vs.toArray.zip vs.toArray) #[] 7 none)) (fun r s'=>Q r.2 s') E s:=by
 refine kat_run (G:=fun p s'=>s'=s∧aL vs.length p∧a8 (fun i=>x i*1000+y i) p vs.length) rfl h2 fD (fun p st s' _ ha hf hg=>?_) ?_
 ·obtain ⟨rfl,hp,hu⟩:=hg
  exact hQ p st hp hu (kat_snds rfl ha) hf
 ·refine KH.wp (n:=vs.length) (c:=fun i=>x i*1000+y i) (fun i j C hi hj hC=>?_) _ (uX (by omega) fun p hp hu=>⟨rfl,hp,hu⟩)
  have gi:vs[i]?=some vs[i]:=by simp [hi]
  have gj:vs[j]?=some vs[j]:=by simp [hj]
  obtain ⟨pi,y0,y1⟩:=hv i _ gi
  obtain ⟨pj,y2,y3⟩:=hv j _ gj
  unfold kas_ask
  rw [show vs.getD i Value.none=vs[i] by simp [hi],show vs.getD j Value.none=vs[j] by simp [hj]]
  refine uY pi pj ?_
  rw [show decide (x i<x j∨x i=x j∧y i<y j)=decide (x i*1000+y i<x j*1000+y j) from decide_eq_decide.mpr (by omega)]
  exact hC
theorem u0{vs:List Value}{Q:SortKind→Shared→Prop}(h1:1≤vs.length)(hv:∀v∈vs,∃x y,cK s.heap v x y)(h:Q (tuples' true) s):wpAny (model prog w) A (keyKind' vs.toArray) Q E s:=by
 obtain ⟨fs,k,l,i⟩:=oC hv
 refine kat_kind (T:=Value.type "int") k (by omega) (fun v hv=>?_) rfl h
 obtain ⟨n,t,rfl⟩:=i v hv
 exact .now
theorem cK.mono{h h':Heap}{v:Value}{x y:Int}(k:∀b o,h.get? b=some o→h'.get? b=some o)(p:cK h v x y):cK h' v x y:=by
 obtain ⟨a,o,t,u,e,rfl,g,c,d⟩:=p
 exact ⟨a,o,t,u,e,rfl,k _ _ g,c,d⟩
theorem u3{a:Addr}{vs:List Value}{n:Nat}{x y:Nat→Int}{P:PySem.Fin→Shared→Prop}(ho:s.heap.get? a=some (seqObj "list" vs.toArray n))(fD:vs.length<64)(hv:∀i v,vs[i]?=some v→cK s.heap v (x i) (y i)∧0≤y i∧y i<1000)
  (h:∀(p:Array Nat),aL vs.length p→a8 (fun i=>x i*1000+y i) p vs.length→P (.done (.ret .none)) {s with heap:=sortedHeap s.heap a vs (List.toArray (p.toList.map fun i=>vs.getD i Value.none))}) :
  wpAny (model prog w) A (Builtin.«list.sort» ⟨[.ref a],[]⟩) P E s:=by
 have sl:vs.length≤sizeLine:=by rw [sizeLine_eq];omega
 have lt:=Heap.lt_size ho
 obtain ⟨e1,g1⟩:∃e,(s.heap.update a (Obj.mapSeq fun _=>#[])).get? a=some (seqObj "list" #[] e):=⟨_,get?_update_seq ho fun _=>#[]⟩
 have z1:(s.heap.update a (Obj.mapSeq fun _=>#[])).objs.size=s.heap.objs.size:=Heap.size_update _ _ _
 have up:∀b u,b<s.heap.objs.size→(s.heap.update a (Obj.mapSeq fun _=>#[])).get? b=some u→(((s.heap.update a (Obj.mapSeq fun _=>#[])).push (seqObj "tuple" vs.toArray 0)).push (seqObj "list" #[] 0)).get? b=some u:=fun b u hb hu=>by
  rw [Heap.get?_push_ne _ _ _ (Nat.ne_of_lt (by rw [size_push',z1];exact Nat.lt_succ_of_lt hb)),Heap.get?_push_ne _ _ _ (Nat.ne_of_lt (by rw [z1];exact hb))]
  exact hu
 have g3:=up a _ lt g1
 have oD:∀i v,vs[i]?=some v→cK (((s.heap.update a (Obj.mapSeq fun _=>#[])).push (seqObj "tuple" vs.toArray 0)).push (seqObj "list" #[] 0)) v (x i) (y i)∧0≤y i∧y i<1000:=fun i v hi=>by
  obtain ⟨⟨b,o,t,u,e,rfl,g,cc,d⟩,y0⟩:=hv i v hi
  have nb:b≠a:=fun q=>by
   rw [q,ho] at g
   cases g
   exact absurd (Value.type.inj cc) (by decide)
  refine ⟨⟨b,o,t,u,e,rfl,up b o (Heap.lt_size g) ?_,cc,d⟩,y0⟩
  rw [Heap.get?_update_ne _ _ _ _ nb]
  exact g
 rw [list_sort_plain]
 refine wpAny_bind (listItems_at ho rfl (wpAny_bind (listUpdate_at ho rfl ?_ (by rw [List.size_toArray];omega) (Nat.zero_le _))))
 refine wpAny_bind (seqEpoch_at g1 rfl (wpAny_bind (wpAny_newTuple ?_ (by show vs.length≤_;omega))))
 refine wpAny_bind (wpAny_newList (wpAny_holding ?_) (Nat.zero_le _))
 show wpAny (model prog w) A _ P E {s with heap:=((s.heap.update a (Obj.mapSeq fun _=>#[])).push (seqObj "tuple" vs.toArray 0)).push (seqObj "list" #[] 0)}
 dsimp only
 have fin:∀(st:SortSt) (p:Array Nat),aL vs.length p→a8 (fun i=>x i*1000+y i) p vs.length→(arrOf st).map (·.2)=List.toArray (p.toList.map fun i=>vs.getD i Value.none)→failedOf st=none→
   wpAny (model prog w) A (do
    let touched:=(←seqEpoch a) != e1
    Builtin.List.listUpdate (.ref a) fun _=>(arrOf st).map (·.2)
    if let some e:=failedOf st then rule "list.sort.comparison-raised";throw e
    if touched then rule "list.sort.modified";raiseError "ValueError" "list modified during sort"
    ret .none) P E {s with heap:=((s.heap.update a (Obj.mapSeq fun _=>#[])).push (seqObj "tuple" vs.toArray 0)).push (seqObj "list" #[] 0)}:=fun st p hp hu ha hf=>by
  refine wpAny_bind (seqEpoch_at g3 rfl (wpAny_bind (listUpdate_at g3 rfl ?_ (Nat.zero_le _) ?_)))
  ·rw [hf,ha]
   simp only [bne_self_eq_false,Bool.false_eq_true,if_false]
   exact wpAny_pure (h p hp hu)
  ·rw [ha,List.size_toArray,List.length_map,Array.length_toList,hp.size]
   omega
 by_cases z:vs.toArray.size<2
 ·rw [if_pos z,if_pos z]
  refine wpAny_bind (wpAny_pure ?_)
  rw [StateT.run_pure]
  refine wpAny_bind (wpAny_pure ?_)
  have len:vs.length<2:=by simpa using z
  refine fin _ (List.toArray (List.range vs.length)) (Array.Perm.refl _) (fun a b h1 h2=>by
   obtain rfl:a=b:=by omega
   exact Int.le_refl _) ?_ rfl
  match vs,len with
  | [],_=>
   show Array.map (·.2) ((#[]:Array Value).zip #[])=_
   simp
  | [v],_=>
   show Array.map (·.2) (#[v].zip #[v])=_
   simp
 ·rw [if_neg z,if_neg z]
  have len:2≤vs.length:=by simpa using z
  refine wpAny_bind (u0 (by omega) (fun v hm=>?_) ?_)
  ·obtain ⟨i,hi,rfl⟩:=List.getElem_of_mem hm
   exact ⟨_,_,(oD i _ (by simp [hi])).1⟩
  ·refine wpAny_bind (wpAny_mono (uZ (Q:=fun st s'=>s'={s with heap:=((s.heap.update a (Obj.mapSeq fun _=>#[])).push (seqObj "tuple" vs.toArray 0)).push (seqObj "list" #[] 0)}∧∃p,aL vs.length p∧a8 (fun i=>x i*1000+y i) p vs.length∧(arrOf st).map (·.2)=List.toArray (p.toList.map fun i=>vs.getD i Value.none)∧failedOf st=none) len fD oD fun p st a1 a2 a3 a4=>⟨rfl,p,a1,a2,a3,a4⟩) ?_ fun _ _ e=>e)
   rintro ⟨⟨⟩,st⟩ s' ⟨rfl,p,a1,a2,a3,a4⟩
   exact fin st p a1 a2 a3 a4
end
section
variable {prog:Program} {w:World} {A:Around} {E:Value→Shared→Prop} {s:Shared}
theorem u4{l:Addr}{vs:List Value}{x y:Nat→Int}{Q:Value→Shared→Prop}(hl:s.heap.IsList l vs.toArray)(fD:vs.length<64)(hv:∀i v,vs[i]?=some v→cK s.heap v (x i) (y i)∧0≤y i∧y i<1000)
  (h:∀(p:Array Nat) (h':Heap) (c:Nat),aL vs.length p→a8 (fun i=>x i*1000+y i) p vs.length→(∀b o,s.heap.get? b=some o→h'.get? b=some o)→h'.get? (s.heap.objs.size+1)=some (seqObj "list" (List.toArray (p.toList.map fun i=>vs.getD i Value.none)) c)→Q (.ref (s.heap.objs.size+1)) {s with heap:=h'}) :
  wpAny (model prog w) A (call (.builtin "sorted") [.ref l]) Q E s:=by
 have sl:vs.length≤sizeLine:=by rw [sizeLine_eq];omega
 refine Calls.call_function_entry kind_sorted plain_sorted entry_sorted (args_sorted1 _) ?_
 unfold Builtin.«sorted»
 refine wpAny_bind (m:=checkCount "sorted" 1 1 _) (wpAny_pure (wpAny_bind (collect_list hl (wpAny_bind (wpAny_newList ?_ sl)) sl)))
 have zz:((s.heap.push (seqObj "list" #[] 0)).update s.heap.objs.size (Obj.mapSeq (·++vs.toArray))).objs.size=s.heap.objs.size+1:=by rw [Heap.size_update,size_push']
 have kp:∀b o,s.heap.get? b=some o→(((s.heap.push (seqObj "list" #[] 0)).update s.heap.objs.size (Obj.mapSeq (·++vs.toArray))).push (seqObj "list" vs.toArray 0)).get? b=some o:=fun b o g=>by
  have lt:=Heap.lt_size g
  rw [Heap.get?_push_ne _ _ _ (Nat.ne_of_lt (by rw [zz];exact Nat.lt_succ_of_lt lt)),Heap.get?_update_ne _ _ _ _ (Nat.ne_of_lt lt),Heap.get?_push_ne _ _ _ (Nat.ne_of_lt lt)]
  exact g
 have gL:(((s.heap.push (seqObj "list" #[] 0)).update s.heap.objs.size (Obj.mapSeq (·++vs.toArray))).push (seqObj "list" vs.toArray 0)).get? (s.heap.objs.size+1)=some (seqObj "list" vs.toArray 0):=by
  rw [←zz]
  exact Heap.get?_push_size _ rfl
 show wpAny _ _ _ _ _ {s with heap:=((s.heap.push (seqObj "list" #[] 0)).update s.heap.objs.size (Obj.mapSeq (·++vs.toArray))).push (seqObj "list" vs.toArray 0)}
 rw [zz]
 generalize ((s.heap.push (seqObj "list" #[] 0)).update s.heap.objs.size (Obj.mapSeq (·++vs.toArray))).push (seqObj "list" vs.toArray 0)=h1 at kp gL
 refine wpAny_bind (wpAny_holding (wpAny_call_entry slot_list_sort ⟨_,gL,rfl⟩ entry_list_sort (u3 (s:={s with heap:=h1}) gL fD (fun i v hi=>⟨(hv i v hi).1.mono kp,(hv i v hi).2⟩) fun p hp hu=>⟨_,rfl,?_⟩) (args_list_sort _)))
 have u5:=Heap.lt_size gL
 have z1:(h1.update (s.heap.objs.size+1) (Obj.mapSeq fun _=>#[])).objs.size=h1.objs.size:=Heap.size_update _ _ _
 obtain ⟨e1,g1⟩:∃e,(h1.update (s.heap.objs.size+1) (Obj.mapSeq fun _=>#[])).get? (s.heap.objs.size+1)=some (seqObj "list" #[] e):=⟨_,get?_update_seq gL fun _=>#[]⟩
 have up:∀b u,b<h1.objs.size→(h1.update (s.heap.objs.size+1) (Obj.mapSeq fun _=>#[])).get? b=some u→(((h1.update (s.heap.objs.size+1) (Obj.mapSeq fun _=>#[])).push (seqObj "tuple" vs.toArray 0)).push (seqObj "list" #[] 0)).get? b=some u:=fun b u hb hu=>by
  rw [Heap.get?_push_ne _ _ _ (Nat.ne_of_lt (by rw [size_push',z1];exact Nat.lt_succ_of_lt hb)),Heap.get?_push_ne _ _ _ (Nat.ne_of_lt (by rw [z1];exact hb))]
  exact hu
 have g3:=up _ _ u5 g1
 refine wpAny_pure ⟨_,rfl,h p _ _ hp hu (fun b o g=>?_) (get?_update_seq g3 fun _=>List.toArray (p.toList.map fun i=>vs.getD i Value.none))⟩
 have g':=kp b o g
 have ne:b≠s.heap.objs.size+1:=Nat.ne_of_lt (Nat.lt_succ_of_lt (Heap.lt_size g))
 show (Heap.update _ _ _).get? b=some o
 rw [Heap.get?_update_ne _ _ _ _ ne]
 refine up b o (Heap.lt_size g') ?_
 rw [Heap.get?_update_ne _ _ _ _ ne]
 exact g'
end
end My
namespace L2
open PySem PySem.W PyProof.Rows My
def u6:List V→Hp→VK→Prop:=fun xs H Q=>∃(a:Addr) (vs:List V) (x y:Nat→Int),xs=[.ref a]∧H a=some (.lst vs)∧vs.length<64∧(∀(i:Nat) (v:V),vs[i]?=some v→(∃b,v=.ref b∧H b=some (.tup [.int (x i),.int (y i)]))∧0≤y i∧y i<1000) ∧
 ∀(p:Array Nat) (l:Addr),aL vs.length p→a8 (fun i=>x i*1000+y i) p vs.length→H l=none→Q (.ref l) (upd H l (.lst (p.toList.map fun i=>vs.getD i .av)))
theorem oE{xs:List V}{us:List Value}(r:Vals xs us):∀(ns:List Nat),(∀i∈ns,i<xs.length)→Vals (ns.map fun i=>xs.getD i .av) (ns.map fun i=>us.getD i Value.none)
 | [],_=>.nil
 | i::ns,h=>by
  have hi:=h i List.mem_cons_self
  obtain ⟨u,e,ru⟩:=r.get (i:=i) (x:=xs[i]) (by simp [hi])
  refine .cons ?_ (oE r ns fun j hj=>h j (List.mem_cons_of_mem _ hj))
  dsimp only
  rw [show xs.getD i .av=xs[i] by simp [hi],show us.getD i Value.none=u by rw [List.getD_eq_getElem?_getD,e];rfl]
  exact ru
theorem u7{X:Cx}:cH X (.builtin "sorted") u6:=by
 intro pins s σ H xs us Q I r h
 obtain ⟨a,vs,x,y,rfl,ha,fD,hv,k⟩:=h
 obtain ⟨u,rfl,ru⟩:=vals1 r
 cases ru
 obtain ⟨aa,rv,pl,hz⟩:=I.list (.of ha)
 have hl:=rv.length
 refine u4 (x:=x) (y:=y) pl.isList (by omega) (fun i v hi=>?_) fun p h' c hp hu kp g=>?_
 ·have cL:i<vs.length:=by
   have:=(List.getElem?_eq_some_iff.mp hi).1
   omega
  have gi:vs[i]?=some vs[i]:=by simp [cL]
  obtain ⟨⟨b,eb,hb⟩,u9⟩:=hv i _ gi
  obtain ⟨u,eu,ru⟩:=rv.get gi
  rw [hi] at eu
  cases eu
  rw [eb] at ru
  cases ru
  obtain ⟨_,d2,r2,o,g,cl,e,d⟩:=(show aI X.prog X.w H s.heap b (.tup [.int (x i),.int (y i)]) from I.aj b _ hb)
  obtain ⟨u1,u2,rfl,q1,q2⟩:=vals2 r2
  obtain ⟨t1,rfl⟩:=q1
  obtain ⟨t2,rfl⟩:=q2
  exact ⟨⟨b,o,t1,t2,e,rfl,g,cl,d⟩,u9⟩
 ·rw [←hl] at hp hu
  have sz:=hp.size
  refine ⟨.ref (s.heap.objs.size+1),_,I.laid (t':=s.toks) (o:=.lst (p.toList.map fun i=>vs.getD i .av)) kp (Nat.le_succ _) ⟨?_,p.toList.map fun i=>aa.getD i Value.none,c,?_,g⟩,rfl,k p _ hp hu (I.aj.fresh (Nat.le_succ _))⟩
  ·rw [List.length_map,Array.length_toList,sz]
   exact hz
  ·refine oE rv _ fun i hi=>?_
   have m:i∈List.toArray (List.range vs.length):=(Array.Perm.mem_iff hp).mp (Array.mem_toList_iff.mp hi)
   simpa using m
end L2
namespace My
open PySem L2
def u_(K:PySem.W.Frag):R2:=fun x y H Q=>∃a b xs,x=.ref a∧y=.ref b∧aH K H a xs∧H b=some (.lst [])∧Q (.bl (!xs.isEmpty)) H
theorem oF{X:Cx}(hu:X.A.units+64<cLine):aZ X (compareOp .NotEq) (u_ X.K):=by
 intro pins s σ H x y v u Q I rx ry h
 obtain ⟨a,b,xs,rfl,rfl,h1,h2,q⟩:=h
 cases rx
 cases ry
 obtain ⟨us,r1,t1,_⟩:=I.list h1
 obtain ⟨vs,r2,t2,_⟩:=I.list (aH.of h2)
 have l1:=r1.length
 have l2:=r2.length
 cases xs with
 | nil=>
  refine SeqAt.RcNeAt.lists (e:=fun _=>true) t1.isList t2.isList (by simp at l1 l2 ⊢;omega) (by omega) (fun j z1 z2=>?_) _ _ _ _ ?_
  ·simp at l1
   have:us=[]:=List.length_eq_zero_iff.mp l1.symm
   subst this
   simp at z1
  ·rw [all_range]
   exact ⟨.bl false,H,I,rfl,q⟩
 | cons w ws=>
  refine SeqAt.RcNeAt.lists_lengths t1.isList t2.isList ?_ (by omega) _ _ _ _ ⟨.bl true,H,I,rfl,q⟩
  simp at l1 l2 ⊢
  omega
theorem i3{c:TT}{t u:TS}{D:Ends}{σ:St}{H:Hp}(M:St→Hp→Prop)(hM:∀σ H,M σ H→D.nx σ H)(k:∀R:St→Hp→Prop,(∀σ H,M σ H→R σ H)→jS c t u {D with nx:=R} σ H):jS c t u D σ H:=k D.nx hM
def va(K:PySem.W.Frag):Sp:=fun vs H Q _=>∃(P a l:Addr) (ns:List Int) (xs:List V),vs=[.ref P,.ref l]∧az H P a∧aH K (er P H) a (ns.map V.int)∧l≠P∧H l=some (.lst xs)∧xs.length≤100 ∧
 ∀(r:Addr) (ys:List V) (H':Hp),ai P H H'→az H' P a→er P H r=none→r≠P→H' r=some (.lst ys)→ys.Perm xs→Q (.ref r) H'
def vb(K:PySem.W.Frag):Sp:=fun vs H Q _=>∃(P a:Addr) (ns:List Int) (way size wide i j:Int),vs=[.ref P,.int way,.int size,.int wide,.int i,.int j]∧az H P a∧aH K (er P H) a (ns.map V.int) ∧
 ∀(b:Bool) (H':Hp),ai P H H'→az H' P a→Q (.bl b) H'
theorem oG{α:Type}:∀(zs:List α) (k:Nat) (h:k<zs.length),(zs[k]::zs.eraseIdx k).Perm zs
 | _::_,0,_=>.refl _
 | z::zs,k+1,h=>(List.Perm.swap _ _ _).trans ((oG zs k (by simpa using h)).cons z)
def aG(H:Hp)(vs:List V)(L:List (Int×Int)):Prop:=vs.length=L.length∧∀(k:Nat) (v:V) (p:Int×Int),vs[k]?=some v→L[k]?=some p→∃b,v=.ref b∧H b=some (.tup [.int p.1,.int p.2])
theorem aG.nil(H:Hp):aG H [] []:=⟨rfl,fun k v p h=>by simp at h⟩
theorem aG.mono{H H':Hp}{vs:List V}{L:List (Int×Int)}(h:aG H vs L)(s:ag H H'):aG H' vs L:=⟨h.1,fun k v p h1 h2=>by
 obtain ⟨b,e,g⟩:=h.2 k v p h1 h2
 exact ⟨b,e,s _ _ g⟩⟩
theorem aG.bI{H H':Hp}{vs:List V}{L:List (Int×Int)}{r:Addr}{xs:List V}(h:aG H vs L)(e:H r=some (.lst xs))(k:∀b o,b≠r→H b=some o→H' b=some o):aG H' vs L:=⟨h.1,fun i v p h1 h2=>by
 obtain ⟨b,eb,g⟩:=h.2 i v p h1 h2
 refine ⟨b,eb,k b _ (fun z=>?_) g⟩
 rw [z,e] at g
 cases g⟩
theorem aG.push{H:Hp}{vs:List V}{L:List (Int×Int)}{b:Addr}{p:Int×Int}(h:aG H vs L)(e:H b=some (.tup [.int p.1,.int p.2])):aG H (vs++[.ref b]) (L++[p]):=⟨by simp [h.1],fun k v q h1 h2=>by
 have hl:=h.1
 by_cases z:k<vs.length
 ·rw [List.getElem?_append_left z] at h1
  rw [List.getElem?_append_left (by omega)] at h2
  exact h.2 k v q h1 h2
 ·have hk:=(List.getElem?_eq_some_iff.mp h1).1
  rw [List.length_append,List.length_singleton] at hk
  obtain rfl:k=vs.length:=by omega
  rw [List.getElem?_append_right (Nat.le_refl _),Nat.sub_self] at h1
  rw [List.getElem?_append_right (by omega),show vs.length-L.length=0 by omega] at h2
  cases h1
  cases h2
  exact ⟨b,rfl,e⟩⟩
structure cz (n:Nat) (L:List (Int×Int)):Prop where
 nd:L.Nodup
 lt:∀p∈L,0≤p.1∧p.1<p.2∧p.2<n
 bb:L.length≤n*n / 2
def lexLt(p q:Int×Int):Prop:=p.1<q.1∨p.1=q.1∧p.2<q.2
theorem vc{M:List (Int×Int)}{p:Array Nat}(P:aL M.length p)(U:a8 (fun i=>(M.getD i (0,0)).1*1000+(M.getD i (0,0)).2) p M.length)(nd:M.Nodup)(b:∀q∈M,0≤q.2∧q.2<1000) :
  (p.toList.map fun i=>M.getD i (0,0)).Perm M∧(p.toList.map fun i=>M.getD i (0,0)).Pairwise lexLt:=by
 have pm:p.toList.Perm (List.range M.length):=Array.perm_iff_toList_perm.mp P
 have pn:p.toList.Nodup:=pm.nodup_iff.mpr List.nodup_range
 have lt:∀i∈p.toList,i<M.length:=fun i hi=>List.mem_range.mp (pm.mem_iff.mp hi)
 refine ⟨?_,?_⟩
 ·have e:((List.range M.length).map fun i=>M.getD i (0,0))=M:=by
   refine List.ext_getElem (by simp) fun i h1 h2=>?_
   rw [List.getElem_map,List.getElem_range,getD_at h2]
  have:=pm.map fun i=>M.getD i (0,0)
  rw [e] at this
  exact this
 ·rw [List.pairwise_iff_getElem]
  intro i j hi hj zQ
  rw [List.length_map] at hi hj
  rw [List.getElem_map,List.getElem_map]
  have sz:=P.size
  have li:p.toList[i]<M.length:=lt _ (List.getElem_mem _)
  have lj:p.toList[j]<M.length:=lt _ (List.getElem_mem _)
  have u:=U i j (by omega) (by rw [←sz,←Array.length_toList];exact hj)
  unfold vN at u
  have gi:p.getD i 0=p.toList[i]:=by
   have:i<p.size:=by rw [←Array.length_toList];exact hi
   simp [Array.getD,this]
  have gj:p.getD j 0=p.toList[j]:=by
   have:j<p.size:=by rw [←Array.length_toList];exact hj
   simp [Array.getD,this]
  rw [gi,gj] at u
  dsimp only at u
  rw [getD_at li,getD_at lj] at u
  rw [getD_at li,getD_at lj]
  have ne:M[p.toList[i]]≠M[p.toList[j]]:=fun e=>by
   have e1:=(List.getElem_inj nd).mp e
   have e2:=(List.getElem_inj pn).mp e1
   omega
  have b1:=b _ (List.getElem_mem li)
  have b2:=b _ (List.getElem_mem lj)
  generalize M[p.toList[i]]=x at u ne b1
  generalize M[p.toList[j]]=y at u ne b2
  obtain ⟨x1,x2⟩:=x
  obtain ⟨y1,y2⟩:=y
  unfold lexLt
  dsimp only at u b1 b2 ⊢
  by_cases z:x1<y1
  ·exact .inl z
  ·right
   have e1:x1=y1:=by omega
   subst e1
   refine ⟨rfl,?_⟩
   by_cases y:x2=y2
   ·subst y
    exact absurd rfl ne
   ·omega
theorem i4{α β:Type}{f:α→β}:∀{L:List α},L.Nodup→(∀p q,p∈L→q∈L→f p=f q→p=q)→(L.map f).Nodup
 | [],_,_=>List.nodup_nil
 | x::L,h,k=>by
  obtain ⟨h1,h2⟩:=List.nodup_cons.mp h
  refine List.nodup_cons.mpr ⟨fun m=>?_,i4 h2 fun p q hp hq=>k p q (List.mem_cons_of_mem _ hp) (List.mem_cons_of_mem _ hq)⟩
  obtain ⟨y,hy,e⟩:=List.mem_map.mp m
  have:=k y x (List.mem_cons_of_mem _ hy) List.mem_cons_self e
  rw [this] at hy
  exact h1 hy
def bT(nm:Nat→Int)(p:Int×Int):Int×Int:=(min (nm p.1.toNat) (nm p.2.toNat),max (nm p.1.toNat) (nm p.2.toNat))
structure kP (n:Nat) (nm:Nat→Int):Prop where
 lt:∀i,i<n→0≤nm i∧nm i<n
 inj:∀i j,i<n→j<n→nm i=nm j→i=j
theorem vd{n:Nat}{nm:Nat→Int}{L:List (Int×Int)}(h:cz n L)(N:kP n nm):cz n (L.map (bT nm)) where
 nd:=by
  refine i4 h.nd fun p q hp hq e=>?_
  have a:=h.lt p hp
  have b:=h.lt q hq
  obtain ⟨p1,p2⟩:=p
  obtain ⟨q1,q2⟩:=q
  obtain ⟨i,rfl⟩:=Int.eq_ofNat_of_zero_le (show 0≤p1 by dsimp only at a;omega)
  obtain ⟨j,rfl⟩:=Int.eq_ofNat_of_zero_le (show 0≤p2 by dsimp only at a;omega)
  obtain ⟨k,rfl⟩:=Int.eq_ofNat_of_zero_le (show 0≤q1 by dsimp only at b;omega)
  obtain ⟨l,rfl⟩:=Int.eq_ofNat_of_zero_le (show 0≤q2 by dsimp only at b;omega)
  dsimp only at a b
  have e1:=congrArg Prod.fst e
  have e2:=congrArg Prod.snd e
  unfold bT at e1 e2
  simp only [Int.toNat_natCast] at e1 e2
  have ij:nm i≠nm j:=fun z=>by have:=N.inj i j (by omega) (by omega) z;omega
  have kl:nm k≠nm l:=fun z=>by have:=N.inj k l (by omega) (by omega) z;omega
  by_cases z:nm i=nm k
  ·have e3:nm j=nm l:=by omega
   have i1:=N.inj i k (by omega) (by omega) z
   have i2:=N.inj j l (by omega) (by omega) e3
   rw [i1,i2]
  ·have e3:nm i=nm l:=by omega
   have e4:nm j=nm k:=by omega
   have i1:=N.inj i l (by omega) (by omega) e3
   have i2:=N.inj j k (by omega) (by omega) e4
   omega
 lt:=fun p hp=>by
  obtain ⟨q,hq,rfl⟩:=List.mem_map.mp hp
  have a:=h.lt q hq
  have n1:=N.lt q.1.toNat (by omega)
  have n2:=N.lt q.2.toNat (by omega)
  have ne:nm q.1.toNat≠nm q.2.toNat:=fun z=>by have:=N.inj _ _ (by omega) (by omega) z;omega
  unfold bT
  dsimp only
  omega
 bb:=by rw [List.length_map];exact h.bb
theorem cz.perm{n:Nat}{L L':List (Int×Int)}(h:cz n L)(p:L'.Perm L):cz n L':=⟨p.nodup_iff.mpr h.nd,fun q hq=>h.lt q (p.mem_iff.mp hq),by rw [p.length_eq];exact h.bb⟩
def b3(H:Hp)(t:Addr)(n:Nat)(L:List (Int×Int)):Prop:=∃(lt:Addr) (us:List V),H t=some (.tup [.int (n:Int),.ref lt])∧H lt=some (.tup us)∧aG H us L
def ve:Sp:=fun vs H Q _=>∃(l r:Addr) (n:Nat) (us ws:List V) (L:List (Int×Int)) (nm:Nat→Int),vs=[.int (n:Int),.ref l,.ref r]∧H l=some (.lst us)∧aG H us L∧cz n L∧n≤10∧H r=some (.lst ws)∧ws.length=n∧(∀i,i<n→ws[i]?=some (.int (nm i)))∧kP n nm ∧
 ∀(t:Addr) (L':List (Int×Int)) (H':Hp),ag H H'→H t=none→b3 H' t n L'→cz n L'→L'.Pairwise lexLt→L'.Perm (L.map (bT nm))→Q (.ref t) H'
theorem aG.pick{H:Hp}{us:List V}{M:List (Int×Int)}(h:aG H us M)(ns:List Nat)(hn:∀i∈ns,i<M.length):aG H (ns.map fun i=>us.getD i .av) (ns.map fun i=>M.getD i (0,0)):=⟨by simp,fun k v p h1 h2=>by
 have hl:=h.1
 have hk:k<ns.length:=by
  have:=(List.getElem?_eq_some_iff.mp h1).1
  simpa using this
 have hi:=hn ns[k] (List.getElem_mem hk)
 rw [List.getElem?_map,List.getElem?_eq_getElem hk] at h1 h2
 cases h1
 cases h2
 dsimp only
 have cL:ns[k]<us.length:=by omega
 rw [getD_at hi]
 have e:us.getD ns[k] .av=us[ns[k]]:=by simp [cL]
 rw [e]
 exact h.2 ns[k] _ _ (by simp [cL]) (by simp [hi])⟩
theorem vf{K:PySem.W.Frag}{wi:TI}{ρ:St→St}{tt:TT}{te:TE}{σ:St}{H:Hp}{Q:VK}{P a l:Addr}{xs:List V}(hn:xs.length<sizeLine)(nl:l≠P)(el:H l=some (.lst xs))(pc:az H P a)
  (dC:∀R:It→Hp→Prop,R (ej K l) H→wi σ H R)
  (test:∀(i:Nat) (x:V),xs[i]?=some x→∀(Hc:Hp) (R:Bool→Hp→Prop),ai P H Hc→az Hc P a→(∀b H3,ai P Hc H3→az H3 P a→R b H3)→tt (some x::ρ σ) Hc R)
  (elem:∀(x:V) (Hc:Hp) (R:VK),R x Hc→te (some x::ρ σ) Hc R)
  (fin:∀(D:Addr) (ys:List V) (Hc:Hp),D≠P→er P H D=none→ai P H Hc→az Hc P a→ys.Sublist xs→Hc D=some (.lst ys)→Q (.ref D) Hc):cJ wi ρ tt te σ H Q:=by
 refine dC _ fun D nD=>?_
 have nP:=pc.ne nD
 have lD:l≠D:=fun e=>by rw [e,nD] at el;cases el
 refine ⟨fun i m ys Hc=>m=xs.length-i∧i≤xs.length∧Hc D=some (.lst ys)∧ai P H Hc∧az Hc P a∧ys.Sublist (xs.take i),⟨_,rfl,Nat.zero_le _,ao,(ai.refl H).but nD,pc.upd nP,by simp⟩,?_⟩
 rintro i m ys Hc ⟨rfl,hi,eD,sH,g7,sub⟩
 refine ⟨eD,?_⟩
 have g8:=sH.at nl el
 by_cases aE:i<xs.length
 ·refine .inr ⟨⟨xs,xs[i],.of g8,by simp [aE]⟩,fun x H' hy=>?_⟩
  obtain ⟨rfl,hx⟩:=hy
  have ex:=hx xs (.of g8)
  refine test i x ex _ _ sH g7 fun b H3 s3 p3=>?_
  have tk:xs.take (i+1)=xs.take i++[x]:=by rw [List.take_succ,ex];rfl
  have e3:=s3.at nP eD
  cases b with
  | true=>
   rw [if_pos rfl]
   refine elem x H3 _ ⟨e3,?_,xs.length-(i+1),by omega,rfl,aE,ao,(sH.trans s3).but nD,p3.upd nP,?_⟩
   ·have:=sub.length_le
    rw [List.length_take] at this
    omega
   ·rw [tk]
    exact sub.append (List.Sublist.refl _)
  | false=>
   rw [if_neg (by simp)]
   refine ⟨xs.length-(i+1),by omega,rfl,aE,e3,sH.trans s3,p3,?_⟩
   rw [tk]
   exact sub.trans (List.sublist_append_left _ _)
 ·have e:i=xs.length:=by omega
  subst e
  rw [List.take_length] at sub
  exact .inl ⟨⟨xs,.of g8,by omega⟩,fin D ys Hc nP (by rw [bo nP];exact nD) sH g7 sub eD⟩
def bx(k:Nat)(d:List Nat):Prop:=d.Pairwise (fun a b=>b<a)∧∀x∈d,x<k
theorem bx.len:∀{d:List Nat} {k:Nat},bx k d→d.length≤k
 | [],_,_=>Nat.zero_le _
 | x::d,k,h=>by
  obtain ⟨h1,h2⟩:=List.pairwise_cons.mp h.1
  have:=bx.len (k:=x) ⟨h2,fun y hy=>h1 y hy⟩
  have:=h.2 x List.mem_cons_self
  rw [List.length_cons]
  omega
theorem bx.nil(k:Nat):bx k []:=⟨List.Pairwise.nil,fun x hx=>by cases hx⟩
theorem bx.sub{k:Nat}{d e:List Nat}(h:bx k d)(s:e.Sublist d):bx k e:=⟨h.1.sublist s,fun x hx=>h.2 x (s.subset hx)⟩
theorem bx.put{j k:Nat}{d:List Nat}(h:bx k d)(hk:k<j):bx j (k::d):=⟨List.pairwise_cons.mpr ⟨h.2,h.1⟩,fun x hx=>by
 rcases List.mem_cons.mp hx with rfl | hx
 ·exact hk
 ·have:=h.2 x hx
  omega⟩
theorem bx.nd{k:Nat}{d:List Nat}(h:bx k d):d.Nodup:=h.1.imp fun h=>by omega
def bp(d:List Nat):List V:=d.map fun(x:Nat)=>V.int (x:Int)
theorem kR:∀{d:List Nat} {ys:List V},ys.Sublist (bp d)→∃e:List Nat,e.Sublist d∧ys=bp e
 | [],ys,h=>⟨[],List.Sublist.refl _,by
  have h:ys.Sublist []:=h
  rw [List.sublist_nil.mp h]
  rfl⟩
 | x::d,ys,h=>by
  have h:ys.Sublist (V.int (x:Int)::bp d):=h
  cases h with
  | cons _ h=>
   obtain ⟨e,h1,h2⟩:=kR h
   exact ⟨e,h1.cons _,h2⟩
  | cons_cons _ h=>
   obtain ⟨e,h1,h2⟩:=kR h
   exact ⟨x::e,.cons_cons _ h1,by rw [h2];rfl⟩
structure dD (j:Nat) (L:List (Int×Int)):Prop where
 nd:L.Nodup
 lt:∀p∈L,0≤p.1∧p.1<p.2∧p.2<j
 bb:2*L.length≤j*(j-1)
theorem dD.nil:dD 1 []:=⟨List.nodup_nil,(fun p hp=>by cases hp),by simp⟩
theorem dD.ok{n:Nat}{L:List (Int×Int)}(h:dD n L):cz n L:=⟨h.nd,h.lt,by
 have:=h.bb
 have:n*(n-1)≤n*n:=Nat.mul_le_mul_left _ (by omega)
 omega⟩
theorem dD.more{j:Nat}{L:List (Int×Int)}{d:List Nat}(h:dD j L)(hd:bx j d):dD (j+1) (L++d.map fun(x:Nat)=>((x:Int),(j:Int))) where
 nd:=by
  refine List.nodup_append.mpr ⟨h.nd,i4 hd.nd fun p q _ _ e=>by
   have:=congrArg Prod.fst e
   dsimp only at this
   omega,fun p hp q hq e=>?_⟩
  obtain ⟨x,_,rfl⟩:=List.mem_map.mp hq
  have:=h.lt p hp
  rw [e] at this
  dsimp only at this
  omega
 lt:=fun p hp=>by
  rcases List.mem_append.mp hp with hp | hp
  ·have:=h.lt p hp
   omega
  ·obtain ⟨x,hx,rfl⟩:=List.mem_map.mp hp
   have:=hd.2 x hx
   dsimp only
   omega
 bb:=by
  have a:=h.bb
  have b:=hd.len
  rw [List.length_append,List.length_map,Nat.add_sub_cancel]
  cases j with
  | zero=>
   rw [Nat.zero_mul] at a
   rw [Nat.mul_zero]
   omega
  | succ j=>
   rw [Nat.add_sub_cancel] at a
   have e:(j+1+1)*(j+1)=(j+1)*j+2*(j+1):=by grind
   rw [e]
   omega
def vg(K:PySem.W.Frag):Sp:=fun vs H Q _=>∃(P a:Addr) (ns:List Int) (n:Nat),vs=[.ref P,.int (n:Int)]∧az H P a∧aH K (er P H) a (ns.map V.int)∧1≤n∧n≤10 ∧
 ∀(r:Addr) (us:List V) (L:List (Int×Int)) (H':Hp),ai P H H'→az H' P a→er P H r=none→r≠P→H' r=some (.lst us)→aG (er P H') us L→cz n L→Q (.ref r) H'
def vh(H:Hp)(vs:List V)(j:Nat)(D:Nat→List Nat):Prop:=vs.length=j∧∀k,k<j→bx k (D k)∧∃b,vs[k]?=some (.ref b)∧H b=some (.lst (bp (D k)))
theorem kS{P r:Addr}{H:Hp}{o:HO}:∀b o',b≠r→er P H b=some o'→er P (upd H r o) b=some o':=fun b o' nb e=>by
 by_cases z:b=P
 ·subst z
  unfold er at e
  rw [if_pos rfl] at e
  cases e
 ·rw [bo z] at e ⊢
  rw [ax nb]
  exact e
theorem aG.cat{H:Hp}{us zs:List V}{L M:List (Int×Int)}(h:aG H us L)(g:aG H zs M):aG H (us++zs) (L++M):=⟨by simp [h.1,g.1],fun k v p h1 h2=>by
 have hl:=h.1
 by_cases z:k<us.length
 ·rw [List.getElem?_append_left z] at h1
  rw [List.getElem?_append_left (by omega)] at h2
  exact h.2 k v p h1 h2
 ·rw [List.getElem?_append_right (by omega)] at h1
  rw [List.getElem?_append_right (by omega),show k-L.length=k-us.length by omega] at h2
  exact g.2 _ v p h1 h2⟩
theorem vi{d:List Nat}{i:Nat}{x:V}(h:(bp d)[i]?=some x):∃y,d[i]?=some y∧x=.int (y:Int):=by
 unfold bp at h
 rw [List.getElem?_map] at h
 cases e:d[i]? with
 | none=>rw [e] at h;cases h
 | some y=>rw [e] at h;cases h;exact ⟨y,rfl,rfl⟩
theorem g9{P a b:Addr}{H:Hp}{xs:List V}(p:az H P a)(e:H b=some (.tup xs)):er P H b=some (.tup xs):=by
 refine kK (fun z=>?_) e
 obtain ⟨x,y,eP,_⟩:=p
 rw [z,eP] at e
 cases e
structure bJ (j i:Nat) (L:List (Int×Int)):Prop where
 nd:L.Nodup
 lt:∀p∈L,0≤p.1∧p.1<p.2∧(p.2<j∨p.2=j∧p.1<i)
 bb:2*L.length≤j*(j-1)+2*i
theorem bJ.start:bJ 0 0 []:=⟨List.nodup_nil,(fun p hp=>by cases hp),by simp⟩
theorem bJ.skip{j i:Nat}{L:List (Int×Int)}(h:bJ j i L):bJ j (i+1) L:=⟨h.nd,fun p hp=>by
 have:=h.lt p hp
 omega,by
 have:=h.bb
 omega⟩
theorem bJ.push{j i:Nat}{L:List (Int×Int)}(h:bJ j i L)(hi:i<j):bJ j (i+1) (L++[((i:Int),(j:Int))]) where
 nd:=by
  refine List.nodup_append.mpr ⟨h.nd,by simp,fun p hp q hq e=>?_⟩
  rw [List.mem_singleton.mp hq] at e
  have:=h.lt p hp
  rw [e] at this
  dsimp only at this
  omega
 lt:=fun p hp=>by
  rcases List.mem_append.mp hp with hp | hp
  ·have:=h.lt p hp
   omega
  ·rw [List.mem_singleton.mp hp]
   dsimp only
   omega
 bb:=by
  have:=h.bb
  rw [List.length_append,List.length_singleton]
  omega
theorem bJ.next{j:Nat}{L:List (Int×Int)}(h:bJ j j L):bJ (j+1) 0 L:=⟨h.nd,fun p hp=>by
 have:=h.lt p hp
 omega,by
 have a:=h.bb
 rw [Nat.add_sub_cancel]
 cases j with
 | zero=>omega
 | succ j=>
  rw [Nat.add_sub_cancel] at a
  have e:(j+1+1)*(j+1)=(j+1)*j+2*(j+1):=by grind
  rw [e]
  omega⟩
theorem bJ.ok{n:Nat}{L:List (Int×Int)}(h:bJ n 0 L):cz n L:=⟨h.nd,fun p hp=>by
 have:=h.lt p hp
 omega,by
 have:=h.bb
 have:n*(n-1)≤n*n:=Nat.mul_le_mul_left _ (by omega)
 omega⟩
theorem vj(n:Nat):(bH n).Nodup:=i4 List.nodup_range fun p q _ _ e=>by
 have:=V.int.inj e
 omega
theorem vk{n:Nat}{ys:List V}(h:ys.Perm (bH n)):∃nm:Nat→Int,ys.length=n∧(∀i,i<n→ys[i]?=some (.int (nm i)))∧kP n nm:=by
 have ln:ys.length=n:=by rw [h.length_eq];unfold bH;simp
 have nd:ys.Nodup:=h.nodup_iff.mpr (vj n)
 have each:∀i,∃x:Int,i<n→ys[i]?=some (.int x)∧0≤x∧x<n:=fun i=>by
  by_cases hi:i<n
  ·have cL:i<ys.length:=by omega
   have m:ys[i]∈bH n:=h.mem_iff.mp (List.getElem_mem cL)
   obtain ⟨k,hk,e⟩:=List.mem_map.mp m
   have:=List.mem_range.mp hk
   exact ⟨(k:Int),fun _=>⟨by rw [e];simp [cL],by omega,by omega⟩⟩
  ·exact ⟨0,fun z=>absurd z hi⟩
 obtain ⟨nm,hn⟩:=Classical.axiomOfChoice each
 refine ⟨nm,ln,fun i hi=>(hn i hi).1,fun i hi=>(hn i hi).2,fun i j hi hj e=>?_⟩
 have a:=(hn i hi).1
 have b:=(hn j hj).1
 rw [e] at a
 have cL:i<ys.length:=by omega
 have vm:j<ys.length:=by omega
 rw [List.getElem?_eq_getElem cL] at a
 rw [List.getElem?_eq_getElem vm] at b
 exact (List.getElem_inj nd).mp ((Option.some.inj a).trans (Option.some.inj b).symm)
def vn(K:PySem.W.Frag):Sp:=fun vs H Q _=>∃(P a:Addr) (ns:List Int) (most:Nat),vs=[.ref P,.int (most:Int)]∧az H P a∧aH K (er P H) a (ns.map V.int)∧1≤most∧most≤10 ∧
 ∀(t:Addr) (n:Nat) (L:List (Int×Int)) (H':Hp),ai P H H'→az H' P a→er P H t=none→t≠P→b3 (er P H') t n L→cz n L→L.Pairwise lexLt→1≤n→n≤most→Q (.ref t) H'
theorem aG.er{P a:Addr}{H:Hp}{us:List V}{L:List (Int×Int)}(h:aG H us L)(p:az H P a):aG (er P H) us L:=⟨h.1,fun k v q h1 h2=>by
 obtain ⟨b,e,g⟩:=h.2 k v q h1 h2
 exact ⟨b,e,g9 p g⟩⟩
theorem b3.er{P a t:Addr}{H:Hp}{n:Nat}{L:List (Int×Int)}(h:b3 H t n L)(p:az H P a):b3 (er P H) t n L:=by
 obtain ⟨lt,us,h1,h2,h3⟩:=h
 exact ⟨lt,us,g9 p h1,g9 p h2,h3.er p⟩
theorem b3.mono{t:Addr}{H H':Hp}{n:Nat}{L:List (Int×Int)}(h:b3 H t n L)(s:ag H H'):b3 H' t n L:=by
 obtain ⟨lt,us,h1,h2,h3⟩:=h
 exact ⟨lt,us,s _ _ h1,s _ _ h2,h3.mono s⟩
theorem vo{wi:TI}{ρ:St→St}{tt:TT}{te:TE}{σ:St}{H:Hp}{Q:VK}{xs:List V}(pr:Nat→Bool)(dC:∀R:It→Hp→Prop,(∀J,eJ J xs H→R J H)→wi σ H R)(hn:xs.length<sizeLine)
  (P:Addr→Nat→V→Hp→Prop) (mono:∀D i y H H' ys,P D i y H→H D=some (.lst ys)→(∀b o,b≠D→H b=some o→H' b=some o)→P D i y H')
  (test:∀(i:Nat) (x:V),xs[i]?=some x→∀(Hc:Hp) (R:Bool→Hp→Prop),ag H Hc→R (pr i) Hc→tt (some x::ρ σ) Hc R)
  (step:∀D (i:Nat) (x:V),xs[i]?=some x→∀(Hc:Hp) (R:VK),ag H Hc→(∃ys,Hc D=some (.lst ys))→(∀y H3,ag Hc H3→P D i y H3→R y H3)→te (some x::ρ σ) Hc R)
  (fin:∀D ys Hc,H D=none→ag H Hc→ys.length=((List.range xs.length).filter pr).length→(∀(k i:Nat) (y:V),ys[k]?=some y→((List.range xs.length).filter pr)[k]?=some i→P D i y Hc)→Hc D=some (.lst ys)→Q (.ref D) Hc):cJ wi ρ tt te σ H Q:=by
 refine dC _ fun J js=>?_
 intro D nD
 refine ⟨fun i m ys Hc=>m=xs.length-i∧i≤xs.length∧Hc D=some (.lst ys)∧ag H Hc∧ys.length=((List.range i).filter pr).length∧∀(k i':Nat) (y:V),ys[k]?=some y→((List.range i).filter pr)[k]?=some i'→P D i' y Hc,⟨_,rfl,Nat.zero_le _,ao,dB (ag.refl H) nD,rfl,fun k i y h=>by simp at h⟩,?_⟩
 rintro i m ys Hc ⟨rfl,hi,eD,sH,ly,hP⟩
 refine ⟨eD,?_⟩
 by_cases aE:i<xs.length
 ·refine .inr ⟨js.go i Hc sH aE,fun x H' hy=>?_⟩
  obtain ⟨rfl,hx⟩:=js.bF i Hc x H' sH hy
  refine test i x (hx aE) _ _ sH ?_
  have fs:(List.range (i+1)).filter pr=(List.range i).filter pr++(if pr i=true then [i] else []):=by
   rw [List.range_succ,List.filter_append]
   congr 1
   cases e:pr i <;> simp [e]
  have fl:((List.range i).filter pr).length≤i:=Nat.le_trans (List.length_filter_le _ _) (by simp)
  cases e:pr i with
  | true=>
   rw [if_pos rfl]
   refine step D i x (hx aE) _ _ sH ⟨_,eD⟩ fun y H3 s3 hp=>?_
   have e3:=s3 _ _ eD
   have bI:∀b o,b≠D→H3 b=some o→upd H3 D (.lst (ys++[y])) b=some o:=fun b o nb e=>by rw [ax nb];exact e
   refine ⟨e3,by omega,xs.length-(i+1),by omega,rfl,aE,ao,dB (sH.trans s3) nD,?_,fun k i' y' h1 h2=>?_⟩
   ·rw [fs,e,if_pos rfl,List.length_append,List.length_append,ly]
    rfl
   ·rw [fs,e,if_pos rfl] at h2
    by_cases z:k<ys.length
    ·rw [List.getElem?_append_left z] at h1
     rw [List.getElem?_append_left (by omega)] at h2
     refine mono D i' y' H' _ ys (hP k i' y' h1 h2) eD fun b o nb e=>bI b o nb (s3 _ _ e)
    ·have hk:=(List.getElem?_eq_some_iff.mp h1).1
     rw [List.length_append,List.length_singleton] at hk
     obtain rfl:k=ys.length:=by omega
     rw [List.getElem?_append_right (Nat.le_refl _),Nat.sub_self] at h1
     rw [List.getElem?_append_right (by omega),show ys.length-((List.range i).filter pr).length=0 by omega] at h2
     cases h1
     cases h2
     exact mono D _ _ H3 _ ys hp e3 bI
  | false=>
   rw [if_neg (by simp)]
   refine ⟨xs.length-(i+1),by omega,rfl,aE,eD,sH,?_,fun k i' y' h1 h2=>?_⟩
   ·rw [fs,e,if_neg (by simp),List.append_nil]
    exact ly
   ·rw [fs,e,if_neg (by simp),List.append_nil] at h2
    exact hP k i' y' h1 h2
 ·have e:i=xs.length:=by omega
  subst e
  exact .inl ⟨js.stop _ Hc sH (Nat.le_refl _),fin D ys Hc nD sH ly hP eD⟩
end My
namespace L2
open PySem PySem.Spec PyProof.Rows
end L2
namespace My
open PySem L2
end My
namespace L2
open PySem PySem.Spec PyProof.Rows
section
variable (P:Program) (w:World)
end
section
variable {P:Program} {w:World} {H H':Hp} {h h':Heap} {a:Addr} {o:HO}
end
section
variable {P:Program} {w:World} {H:Hp} {h h':Heap} {x e:Addr} {o':HO}
end
section
variable {fs jL ex qQ:List Addr} {H H1 H2:Hp} {h h1 h2 h':Heap} {a x e:Addr} {o:HO}
end
section
variable {X:Cx} {pins:List (Addr×Obj)} {σ:List (Option V)} {H H':Hp} {s:Shared} {h':Heap}
end
section
variable {X:Cx}
variable {a b:Expr} {ta tb:TE} {pos:Pos}
variable {tA gy:TT} {rest:List Expr}
end
section
variable {X:Cx} {pins:List (Addr×Obj)} {σ:St} {H:Hp} {s:Shared} {a:Addr} {xs ys:List V}
end
section
variable {X:Cx} {pins:List (Addr×Obj)} {σ:St} {H:Hp} {s:Shared} {E:Value→Shared→Prop}
end
section
variable {X:Cx} {st:Stmt} {rest:List Stmt} {t u:TS} {e:Expr} {te:TE} {pos:Pos}
end
section
variable {X:Cx} {pos:Pos}
end
section
variable {X:Cx} {pos:Pos}
end
section
variable {X:Cx} {tg:Expr}
end
section
variable {X:Cx} {a b c:Expr} {ta tb tc:TE} {pos:Pos}
end
section
variable {X:Cx} {a b c:Expr} {ta tb tc:TE} {pos:Pos}
end
section
variable {prog:Program} {w:World} {A:Around} {E:Value→Shared→Prop} {s:Shared} {K:PySem.W.Frag} {x dx C f:Addr} {mA:Str→Option Value} {name:Str} {v:Value}
end
section
variable {P:Program} {w:World} {H H':Hp} {h h':Heap} {a C dx:Addr} {fs jL:List (Str×V)}
end
section
variable {X:Cx} {pins:List (Addr×Obj)} {σ:St} {H:Hp} {s:Shared} {a C dx:Addr} {fs:List (Str×V)} {f:Str} {v:V} {A:Around} {E:Value→Shared→Prop}
end
section
variable {X:Cx} {o e value:Expr} {f:Str} {pos pos' m_:Pos} {ta tv:TE}
end
section
variable {X:Cx} {pins:List (Addr×Obj)} {σ:St} {H:Hp} {s:Shared} {A:Around} {E:Value→Shared→Prop} {Q:Value→Shared→Prop} {c:Value} {b:Bool}
end
section
variable {X:Cx} {e:Expr} {es:List Expr} {te:TE} {t:TA} {pos:Pos}
end
section
variable {X:Cx} {pins:List (Addr×Obj)} {σ:St} {H:Hp} {s s':Shared}
end
section
variable {X:Cx} {CX:bO} {k:Nat} {f C:Addr} {fd:FuncData} {ps:List Str} {sp:Sp} {cX:List V} {ds:List Value} {E:XK} {x m:Str} {p pos apos:Pos} {e o:Expr} {es:List Expr} {ta:TE} {t:TA}
end
section
variable {X:Cx} {CX:bO} {k:Nat} {f C:Addr} {fd:FuncData} {ps ks:List Str} {sp:Sp} {E:XK} {x m:Str} {p pos apos ni:Pos} {e o:Expr} {es:List Expr} {sI:List Keyword} {te ta:TE} {t tk:TA} {nm:Option Str}
variable {g:List Value→List Value→List Value} {gV:List V→List V→List V}
end
section
variable {X:Cx} {x:Str} {p pos:Pos} {e:Expr} {es:List Expr} {t:TA} {id T:String} {r:List V→Hp→VK→Prop}
end
section
variable {κ:Type} [DecidableEq κ]
def cf(kvs:List (κ×V))(k:κ):Option V:=(kvs.find? fun kv=>decide (kv.1=k)).map (·.2)
def putK(kvs:List (κ×V))(k:κ)(v:V):List (κ×V):=
 if (kvs.any fun kv=>decide (kv.1=k))=true then kvs.map (fun kv=>if kv.1=k then (kv.1,v) else kv) else kvs++[(k,v)]
theorem i5{p:κ×V}{r:List (κ×V)}{k:κ}(e:p.1=k):cf (p::r) k=some p.2:=by simp [cf,List.find?_cons,e]
theorem i6{p:κ×V}{r:List (κ×V)}{k:κ}(e:¬p.1=k):cf (p::r) k=cf r k:=by simp [cf,List.find?_cons,e]
theorem oH(k:κ):∀kvs:List (κ×V),(kvs.any fun kv=>decide (kv.1=k))=(cf kvs k).isSome
 | []=>rfl
 | p::r=>by
  rw [List.any_cons]
  by_cases e:p.1=k
  ·simp only [i5 e,decide_eq_true e,Bool.true_or,Option.isSome_some]
  ·rw [i6 e,decide_eq_false e,Bool.false_or];exact oH k r
theorem kT(kvs:List (κ×V))(k:κ)(v:V):(putK kvs k v).length≤kvs.length+1:=by
 unfold putK
 split
 ·rw [List.length_map];omega
 ·rw [List.length_append,List.length_cons,List.length_nil];omega
theorem d8.kU{o:Option V}{u:Option Value}(r:d8 o u):o.isSome=u.isSome:=by
 cases o with
 | none=>cases u with
  | none=>rfl
  | some _=>exact (show False from r).elim
 | some _=>cases u with
  | none=>exact (show False from r).elim
  | some _=>rfl
theorem KV.val{kvs:List (κ×V)}{vs:List (κ×Value)}(r:KV kvs vs)(k:κ):d8 (cf kvs k) (valueAt vs k):=by
 unfold KV at r
 induction r with
 | nil=>exact True.intro
 | @cons p q ps qs h t ih=>
  obtain ⟨h1,h2⟩:=h
  by_cases e:p.1=k
  ·have e':q.1=k:=h1.symm.trans e
   have b:valueAt (q::qs) k=some q.2:=by simp [valueAt,List.find?_cons,e']
   rw [i5 e,b];exact h2
  ·have e':¬q.1=k:=fun z=>e (h1.trans z)
   have b:valueAt (q::qs) k=valueAt qs k:=by simp [valueAt,List.find?_cons,e']
   rw [i6 e,b];exact ih
theorem KV.any{kvs:List (κ×V)}{vs:List (κ×Value)}(r:KV kvs vs)(k:κ):(kvs.any fun kv=>decide (kv.1=k))=vs.any fun kv=>decide (kv.1=k):=by
 unfold KV at r
 induction r with
 | nil=>rfl
 | cons h t ih=>rw [List.any_cons,List.any_cons,ih,h.1]
theorem KV.kW{kvs:List (κ×V)}{vs:List (κ×Value)}(r:KV kvs vs)(k:κ){y:V}{u:Value}(ry:RelV y u) :
  KV (kvs.map fun kv=>if kv.1=k then (kv.1,y) else kv) (vs.map fun kv=>if kv.1=k then (kv.1,u) else kv):=by
 unfold KV at r ⊢
 induction r with
 | nil=>exact .nil
 | @cons p q ps qs h t ih=>
  rw [List.map_cons,List.map_cons]
  refine .cons ?_ ih
  obtain ⟨h1,h2⟩:=h
  by_cases e:p.1=k
  ·rw [if_pos e,if_pos (h1.symm.trans e)];exact ⟨h1,ry⟩
  ·rw [if_neg e,if_neg (fun z=>e (h1.trans z))];exact ⟨h1,h2⟩
theorem KV.put{kvs:List (κ×V)}{vs:List (κ×Value)}(r:KV kvs vs)(k:κ){y:V}{u:Value}(ry:RelV y u):KV (putK kvs k y) (stored vs k u):=by
 unfold putK stored
 rw [r.any k]
 by_cases e:(vs.any fun kv=>decide (kv.1=k))=true
 ·rw [if_pos e,if_pos e];exact r.kW k ry
 ·rw [if_neg e,if_neg e];exact Paired.snoc r ⟨rfl,ry⟩
theorem KV.length{kvs:List (κ×V)}{vs:List (κ×Value)}(r:KV kvs vs):kvs.length=vs.length:=Paired.length r
end
theorem i7{P:Program}{w:World}{k:Key}{u:Value}(r:RelV (kV k) u):(bD P w).is k u=true:=by
 cases k with
 | inl i=>obtain ⟨t,e⟩:=(show ∃t,u=Value.int i t from r);subst e;exact qM P w i t
 | inr x=>obtain ⟨t,e⟩:=(show ∃t,u=Value.str x t from r);subst e;exact qN P w x t
theorem oI{P:Program}{w:World}:∀{ks:List Key} {us:List Value},Vals (ks.map kV) us→ItemsAre (bD P w) ks us
 | [],_,r=>by rw [List.map_nil] at r;cases r;exact .nil
 | k::ks,_,r=>by
  rw [List.map_cons] at r
  cases r with
  | cons h t=>exact .cons (i7 h) (oI t)
abbrev KT (H:Hp):List (List Key×V)→List (List Key×Addr×Value)→Prop:=Paired fun p q=>p.1=q.1∧H q.2.1=some (.tup (p.1.map kV))∧RelV p.2 q.2.2
theorem KT.val{H:Hp}{kvs:List (List Key×V)}{xs:List (List Key×Addr×Value)}(r:KT H kvs xs)(k:List Key):d8 (cf kvs k) ((atKey xs k).map (·.2)):=by
 induction r with
 | nil=>exact True.intro
 | @cons p q ps qs h t ih=>
  obtain ⟨h1,_,h2⟩:=h
  by_cases e:p.1=k
  ·have e':q.1=k:=h1.symm.trans e
   have b:atKey (q::qs) k=some q.2:=by simp [atKey,List.find?_cons,e']
   rw [i5 e,b];exact h2
  ·have e':¬q.1=k:=fun z=>e (h1.trans z)
   have b:atKey (q::qs) k=atKey qs k:=by simp [atKey,List.find?_cons,e']
   rw [i6 e,b];exact ih
theorem KT.kW{H:Hp}{kvs:List (List Key×V)}{xs:List (List Key×Addr×Value)}(r:KT H kvs xs)(k:List Key){y:V}{u:Value}(ry:RelV y u) :
  KT H (kvs.map fun kv=>if kv.1=k then (kv.1,y) else kv) (xs.map (putAt k u)):=by
 induction r with
 | nil=>exact .nil
 | @cons p q ps qs h t ih=>
  rw [List.map_cons,List.map_cons]
  refine .cons ?_ ih
  obtain ⟨h1,h2,h3⟩:=h
  unfold putAt
  by_cases e:p.1=k
  ·rw [if_pos e,if_pos (h1.symm.trans e)];exact ⟨h1,h2,ry⟩
  ·rw [if_neg e,if_neg (fun z=>e (h1.trans z))];exact ⟨h1,h2,h3⟩
theorem KT.put{H:Hp}{kvs:List (List Key×V)}{xs:List (List Key×Addr×Value)}(r:KT H kvs xs)(k:List Key){b:Addr}{y:V}{u:Value}(hb:H b=some (.tup (k.map kV)))(ry:RelV y u) :
  KT H (putK kvs k y) (storedH xs k b u):=by
 have e:(kvs.any fun kv=>decide (kv.1=k))=(atKey xs k).isSome:=by
  rw [oH,(r.val k).kU,Option.isSome_map]
 unfold putK storedH
 rw [e]
 by_cases q:(atKey xs k).isSome=true
 ·rw [if_pos q,if_pos q];exact r.kW k ry
 ·rw [if_neg q,if_neg q];exact Paired.snoc r ⟨rfl,hb,ry⟩
theorem KT.keeps{H H':Hp}{kvs:List (List Key×V)}{xs:List (List Key×Addr×Value)}(r:KT H kvs xs)(ht:∀b ys,H b=some (.tup ys)→H' b=some (.tup ys)):KT H' kvs xs:=
 Paired.jK r fun _ _ z=>⟨z.1,ht _ _ z.2.1,z.2.2⟩
section
variable {P:Program} {w:World} {H:Hp} {h:Heap} {a:Addr}
theorem oJ{u:HO}(ok:aK P w H h)(e:Rd H a u):aI P w H h a u:=e.ok ok
theorem oK{kvs:List (Key×V)}(ok:aK P w H h)(e:Rd H a (.dK kvs)):kvs.length≤sizeLine∧(a == sysModules)=false∧∃vs,KV kvs vs∧h.DictOf (bD P w) a vs:=
 show aI P w H h a (.dK kvs) from oJ ok e
theorem oM{kvs:List (Key×V)}(ok:aK P w H h)(e:H a=some (.dK kvs)):kvs.length≤sizeLine∧(a == sysModules)=false∧∃vs,KV kvs vs∧h.DictOf (bD P w) a vs:=oK ok (.inl e)
theorem kX{ks:List Key}(ok:aK P w H h)(e:H a=some (.tup (ks.map kV))):(tupleKind (bD P w)).is h ks a:=by
 obtain ⟨_,aa,r,o,h1,h2,n,h3⟩:=(show aI P w H h a (.tup (ks.map kV)) from ok a _ e)
 exact ⟨o,aa.toArray,n,h1,h2,h3,by simpa using oI r⟩
theorem oN{kvs:List (List Key×V)}(ok:aK P w H h)(e:Rd H a (.dT kvs)):kvs.length≤sizeLine∧(a == sysModules)=false ∧
  ∃xs,KT H kvs xs∧h.DictOfH (tupleKind (bD P w)) a xs:=by
 obtain ⟨z,y,xs,r,o,es,ep,h1,h2,h3,h4,h5⟩:=(show aI P w H h a (.dT kvs) from oJ ok e)
 refine ⟨z,y,xs,r,o,es,ep,h1,h2,h3,h4,fun x hx=>?_,h5⟩
 have all:∀{l:List (List Key×V)} {m:List (List Key×Addr×Value)},KT H l m→∀x∈m,(tupleKind (bD P w)).is h x.1 x.2.1:=by
  intro l m q
  induction q with
  | nil=>intro x hx;exact nomatch hx
  | @cons p q ps qs hq t ih=>
   intro x hx
   rcases List.mem_cons.mp hx with e | hx
   ·subst e
    exact kX ok (by rw [←hq.1];exact hq.2.1)
   ·exact ih x hx
 exact all r x hx
theorem vp{kvs:List (List Key×V)}(ok:aK P w H h)(e:H a=some (.dT kvs)):kvs.length≤sizeLine∧(a == sysModules)=false ∧
  ∃xs,KT H kvs xs∧h.DictOfH (tupleKind (bD P w)) a xs:=oN ok (.inl e)
end
def oO(H:Hp)(a:Addr)(y:V)(r:Option V):Prop:=
 (∃kvs k,Rd H a (.dK kvs)∧y=kV k∧r=cf kvs k)∨∃kvs k b,Rd H a (.dT kvs)∧y=.ref b∧H b=some (.tup (k.map kV))∧r=cf kvs k
def kY(H:Hp)(a:Addr)(y v:V)(H':Hp):Prop:=
 (∃kvs k,H a=some (.dK kvs)∧y=kV k∧kvs.length<sizeLine∧H'=upd H a (.dK (putK kvs k v))) ∨
 ∃kvs k b,H a=some (.dT kvs)∧y=.ref b∧H b=some (.tup (k.map kV))∧kvs.length<sizeLine∧H'=upd H a (.dT (putK kvs k v))
section
variable {X:Cx} {pins:List (Addr×Obj)} {σ:St} {H:Hp} {s:Shared} {a:Addr} {y v:V} {u r:Value} {o:Option V} {A:Around} {E:Value→Shared→Prop}
theorem Inv.big(I:Inv X pins σ H s):sysModules<s.heap.objs.size:=by
 have h:mainGlobals<s.heap.objs.size:=(I.mod.glob.keeps I.bk).lt
 exact Nat.lt_trans (by decide) h
theorem vq{Q:Value→Shared→Prop}(hu:A.units+1<cLine)(I:Inv X pins σ H s)(g:oO H a y o)(ry:RelV y u)(h:∀s',Inv X pins σ H s'→Q (.bool (!o.isSome)) s') :
  wpAny (model X.prog X.w) A (compareOp .NotIn u (.ref a)) Q E s:=by
 rcases g with ⟨kvs,k,e,ey,l⟩ | ⟨kvs,k,b,e,ey,eb,l⟩
 ·subst ey
  obtain ⟨z,hd,vs,rel,dd⟩:=oK I.aj e
  refine wpAny_notIn_of (i7 ry) hd dd.mapOf ?_
  rw [←(rel.val k).kU,←l]
  exact h _ (I.tok _)
 ·subst ey
  cases (show u=Value.ref b from ry)
  obtain ⟨z,hd,xs,rel,dd⟩:=oN I.aj e
  refine wpAny_notIn_heap (tupleKind_room_in1 hu) (kX I.aj eb) hd dd ?_
  have q:=(rel.val k).kU
  rw [Option.isSome_map] at q
  rw [←q,←l]
  exact h _ (I.tok _)
theorem kZ{h':Heap}{t':Nat}{ob:HO}(I:Inv X pins σ H s)(mu:gu (H a))(hs:Heap.SameBut a s.heap h')(he:∃q,h'.get? a=some q)(new:aI X.prog X.w (upd H a ob) h' a ob) :
  Inv X pins σ (upd H a ob) {s with heap:=h',toks:=t'}:=
 I.write (x:=a) (e:=a) mu (.inl rfl) (fun b q hb z=>(hs.2 b hb).trans z) he new
theorem oP{P:Program}{w:World}{H':Hp}{h':Heap}{kvs:List (Key×V)}{vs:List (Key×Value)}(z:kvs.length≤sizeLine)(hd:(a == sysModules)=false)(rel:KV kvs vs)(dd:h'.DictOf (bD P w) a vs) :
  aI P w H' h' a (.dK kvs):=⟨z,hd,vs,rel,dd⟩
theorem vt{H':Hp}{Q:Unit→Shared→Prop}(hu:A.units+1<cLine)(I:Inv X pins σ H s)(g:kY H a y v H')(ry:RelV y u)(rv:RelV v r)(h:∀s',Inv X pins σ H' s'→Q () s') :
  wpAny (model X.prog X.w) A (setItem (.ref a) u r) Q E s:=by
 rcases g with ⟨kvs,k,e,ey,l,eH⟩ | ⟨kvs,k,b,e,ey,eb,l,eH⟩
 ·subst ey eH
  obtain ⟨z,hd,vs,rel,dd⟩:=oM I.aj e
  have hz:vs.length≤sizeLine:=by rw [←rel.length];exact z
  have hl:(putK kvs k v).length≤sizeLine:=by have:=kT kvs k v;omega
  refine wpAny_setItem_pairs (hsz:=hz) (i7 ry) dd fun h' d3 hs=>h _ ?_
  have he:∃q,h'.get? a=some q:=let ⟨q,_,_,hq,_⟩:=d3;⟨q,hq⟩
  exact kZ I (by rw [e];exact True.intro) hs he (oP hl hd (rel.put k rv) d3)
 ·subst ey eH
  cases (show u=Value.ref b from ry)
  obtain ⟨z,hd,xs,rel,dd⟩:=vp I.aj e
  have hz:xs.length≤sizeLine:=by rw [←Paired.length rel];exact z
  have hl:(putK kvs k v).length≤sizeLine:=by have:=kT kvs k v;omega
  refine wpAny_setItem_heap (hsz:=hz) (tupleKind_room_in1 hu) (kX I.aj eb) dd fun h' d3 hs=>h _ ?_
  obtain ⟨q,es,ep,hq,h2,h3,h4,_,h5⟩:=d3
  refine kZ I (by rw [e];exact True.intro) hs ⟨q,hq⟩ ⟨hl,hd,_,(rel.put k eb rv).keeps fun c ys ec=>?_,q,es,ep,hq,h2,h3,h4,h5⟩
  rw [ax (qO ec e (fun z=>nomatch z))]
  exact ec
end
section
variable {X:Cx} {pins:List (Addr×Obj)} {σ:St} {H:Hp} {s:Shared} {a:Addr} {kvs:List (Key×V)} {k:Key} {u:Value} {A:Around} {E:Value→Shared→Prop}
end
def vv(ty td:TE):TE:=fun σ H Q=>ty σ H fun y H1=>td σ H1 fun x H2=>∃a o,x=.ref a∧oO H2 a y o∧Q (.bl (!o.isSome)) H2
def vw(td ty tv:TE):TS:=fun D σ H=>tv σ H fun v H1=>td σ H1 fun x H2=>ty σ H2 fun y H3=>∃a H4,x=.ref a∧kY H3 a y v H4∧D.nx σ H4
section
variable {X:Cx} {o i e value:Expr} {pos pos' m_:Pos} {td ty tv:TE}
theorem oQ(hu:X.A.units+1<cLine)(hi:PE X i ty)(ho:PE X o td):PC X .NotIn i o (vv ty td):=by
 intro pins s σ H Q I h
 refine ar (hi pins s σ H _ I h) fun iv s1 ⟨y,H1,I1,ry,q1⟩=>ar (ho pins s1 σ H1 _ I1 q1) fun u s2 ⟨x,H2,I2,rx,a,ov,ex,g,q2⟩=>?_
 subst ex
 obtain rfl:u=Value.ref a:=rx
 exact vq hu I2 g ry fun s3 I3=>⟨.bl (!ov.isSome),H2,I3,rfl,q2⟩
theorem i8(hu:X.A.units+1<cLine)(ho:PE X o td)(hi:PE X i ty)(hv:PE X value tv)(hs:swapsWith value (some (.Subscript o i pos')) pos.line X.env=pure false) :
  PS X (.Assign [.Subscript o i pos'] value pos) (vw td ty tv):=by
 intro pins s σ H D I h
 refine wpAny_Assign_Subscript (ar (hv pins s σ H _ I h) fun r s1 ⟨v,H1,I1,rv,q1⟩=>ar (ho pins s1 σ H1 _ I1 q1) fun u s2 ⟨x,H2,I2,rx,q2⟩=>ar (hi pins s2 σ H2 _ I2 q2) fun iv s3 ⟨y,H3,I3,ry,a,H4,ex,g,q3⟩=>?_) hs
 subst ex
 obtain rfl:u=Value.ref a:=rx
 exact vt hu I3 g ry rv fun s4 I4=>⟨σ,H4,I4,q3⟩
end
theorem oR{P:Program}{w:World}{H:Hp}(h:Heap)(hb:sysModules<h.objs.size):aI P w H (h.push {cls:=.type "dict",data:=.dict #[]}) h.objs.size (.dK []):=
 ⟨Nat.zero_le _,beq_eq_false_iff_ne.mpr (Ne.symm (Nat.ne_of_lt hb)),[],.nil,Heap.DictOf.new h⟩
def vx:TE:=fun _ H Q=>∀p,H p=none→Q (.ref p) (upd H p (.dK []))
section
variable {X:Cx} {pos:Pos}
theorem vy:PE X (.Dict [] [] pos) vx:=fun pins s σ H Q I h=>
 wpAny_Dict_empty ⟨.ref s.heap.objs.size,_,I.laid (a:=s.heap.objs.size) (o:=.dK []) (t':=s.toks) (fun _ _ q=>Heap.get?_push_of_some _ q) (Nat.le_refl _) (oR s.heap I.big),rfl,h _ (I.aj.fresh (Nat.le_refl _))⟩
end
def k4:List (TE×TE)→St→Hp→(List (V×V)→Hp→Prop)→Prop
 | [],_,H,Q=>Q [] H
 | (tk,tv)::r,σ,H,Q=>tk σ H fun x H1=>tv σ H1 fun y H2=>k4 r σ H2 fun ps H3=>Q ((x,y)::ps) H3
abbrev VV:List (V×V)→List (Value×Value)→Prop:=Paired fun p q=>RelV p.1 q.1∧RelV p.2 q.2
def i9(X:Cx)(pos:Pos)(keys:List (Option Expr))(values:List Expr)(dE:List (TE×TE)):Prop:=
 ∀(pins:List (Addr×Obj)) (s:Shared) (σ:St) (H:Hp) (Q:List (V×V)→Hp→Prop),Inv X pins σ H s→k4 dE σ H Q→
  wpAny (model X.prog X.w) X.A (evalPairs (pairTrees keys values X.env pos)) (fun vs s'=>∃ps H',Inv X pins σ H' s'∧VV ps vs∧Q ps H') X.xe s
theorem oS{X:Cx}{pos:Pos}:i9 X pos [] [] []:=fun pins s σ H Q I h=>pairTrees_nil_walk ⟨[],H,I,.nil,h⟩
theorem oT{X:Cx}{pos:Pos}{k v:Expr}{ks:List (Option Expr)}{vs:List Expr}{tk tv:TE}{dE:List (TE×TE)}(hk:PE X k tk)(hv:PE X v tv)(hr:i9 X pos ks vs dE) :
  i9 X pos (some k::ks) (v::vs) ((tk,tv)::dE):=fun pins s σ H Q I h=>
 pairTrees_cons_walk (ar (hk pins s σ H _ I h) fun u s1 ⟨x,H1,I1,rx,q1⟩=>ar (hv pins s1 σ H1 _ I1 q1) fun w2 s2 ⟨y,H2,I2,ry,q2⟩=>
  ar (hr pins s2 σ H2 _ I2 q2) fun ws s3 ⟨ps,H3,I3,rel,q3⟩=>⟨(x,y)::ps,H3,I3,.cons ⟨rx,ry⟩ rel,q3⟩)
def cM(kvs more:List (Key×V)):List (Key×V):=more.foldl (fun acc kv=>putK acc kv.1 kv.2) kvs
theorem KV.merge:∀{more:List (Key×V)} {rs:List (Key×Value)} {kvs:List (Key×V)} {vs:List (Key×Value)},KV more rs→KV kvs vs→KV (cM kvs more) (merged vs rs):=by
 intro more rs kvs vs r
 unfold KV at r
 induction r generalizing kvs vs with
 | nil=>intro q;exact q
 | @cons p q ps qs h t ih=>
  intro r0
  have e:KV (putK kvs p.1 p.2) (stored vs q.1 q.2):=by
   have:=r0.put p.1 h.2
   rw [←h.1];exact this
  exact ih e
theorem oU:∀(more kvs:List (Key×V)),(cM kvs more).length≤kvs.length+more.length
 | [],kvs=>by show kvs.length≤kvs.length+0;omega
 | p::r,kvs=>by
  have h1:=oU r (putK kvs p.1 p.2)
  have h2:=kT kvs p.1 p.2
  show (cM (putK kvs p.1 p.2) r).length≤_
  rw [List.length_cons];omega
theorem oV{P:Program}{w:World}:∀{kvs:List (Key×V)} {ws:List (Value×Value)},VV (kvs.map fun kv=>(kV kv.1,kv.2)) ws→∃rs,Carries (bD P w) ws rs∧KV kvs rs
 | [],_,r=>by rw [List.map_nil] at r;cases r;exact ⟨[],True.intro,.nil⟩
 | p::kvs,_,r=>by
  rw [List.map_cons] at r
  cases r with
  | @cons a b as bs h t=>
   obtain ⟨rs,c,q⟩:=oV (P:=P) (w:=w) t
   obtain ⟨b1,b2⟩:=b
   exact ⟨(p.1,b2)::rs,⟨i7 h.1,rfl,c⟩,.cons ⟨rfl,h.2⟩ q⟩
def vz(dE:List (TE×TE)):TE:=fun σ H Q=>∀p,H p=none→k4 dE σ (upd H p (.dK [])) fun ps H2=>H2 p=some (.dK [])∧∃kvs:List (Key×V),ps=kvs.map (fun kv=>(kV kv.1,kv.2))∧kvs.length≤15∧Q (.ref p) (upd H2 p (.dK (cM [] kvs)))
theorem oW{X:Cx}{pos:Pos}{keys:List (Option Expr)}{values:List Expr}{dE:List (TE×TE)}(h:i9 X pos keys values dE)(ko:keys.all (·.isSome)=true)(hl:keys.length=values.length)(h0:keys≠[])
  (vA:keys.length≤15):PE X (.Dict keys values pos) (vz dE):=by
 intro pins s σ H Q I q
 have hn:=I.aj.fresh (Nat.le_refl s.heap.objs.size)
 have I1:=I.laid (a:=s.heap.objs.size) (o:=.dK []) (h':=s.heap.push {cls:=.type "dict",data:=.dict #[]}) (t':=s.toks) (fun _ _ q=>Heap.get?_push_of_some _ q) (Nat.le_refl _) (oR s.heap I.big)
 refine wpAny_Dict_walk (knd:=bD X.prog X.w) ko hl h0 vA (ar (h pins _ σ _ _ I1 (q _ hn)) fun ws s2 ⟨ps,H2,I2,rel,e,kvs,ep,lk,q2⟩=>?_)
 subst ep
 obtain ⟨rs,c,rk⟩:=oV (P:=X.prog) (w:=X.w) rel
 obtain ⟨z,hd,zR,r0,dd⟩:=oM I2.aj e
 cases r0
 refine ⟨rs,c,dd,fun h' d3 hs=>⟨.ref s.heap.objs.size,_,?_,rfl,q2⟩⟩
 have hz:(cM [] kvs).length≤sizeLine:=by
  have h1:=oU kvs []
  rw [List.length_nil] at h1
  rw [sizeLine_eq];omega
 have he:∃q,h'.get? s.heap.objs.size=some q:=let ⟨q,_,_,hq,_⟩:=d3;⟨q,hq⟩
 exact kZ I2 (by rw [e];exact True.intro) hs he (oP hz hd (rk.merge .nil) d3)
section
variable {X:Cx} {pins:List (Addr×Obj)} {σ:St} {H:Hp} {s:Shared} {a:Addr} {y d:V} {u r:Value} {o:Option V} {A:Around} {E:Value→Shared→Prop}
end
section
variable {X:Cx} {o e f:Expr} {apos bR:Pos} {td ty tx:TE}
end
section
variable {X:Cx} {pins:List (Addr×Obj)} {σ:St} {H:Hp} {s:Shared} {a:Addr} {kvs:List (Key×V)} {A:Around} {E:Value→Shared→Prop}
end
section
variable {X:Cx} {pins:List (Addr×Obj)} {σ:St} {H:Hp} {s:Shared} {a:Addr} {y:V} {u:Value} {A:Around} {E:Value→Shared→Prop}
end
end L2
namespace iM
open PySem PySem.W PySem.Calls PyProof.Rows
section
variable {prog:Program} {w:World} {A:Around} {E:Value→Shared→Prop} {s:Shared} {K:Frag}
end
end iM
namespace L2
open PySem PySem.Spec PyProof.Rows
section
variable {P:Program} {w:World} {K:PySem.W.Frag} {mg:Str→Option Value} {base:Heap}
end
section
variable {X:Cx}
end
section
variable {κ:Type} [DecidableEq κ]
end
def k6(o:Obj):Nat:=match o.data with
 | .dict _ ep=>ep
 | _=>0
def cg(a:Addr)(o:Obj)(kvs:List (Key×V)):It:=
 ⟨fun i H=>H a=some (.aB o (.dK kvs))∧i<kvs.length,fun i H x H'=>H'=H∧∃kv,kvs[i]?=some kv∧x=kV kv.1,fun i H=>H a=some (.aB o (.dK kvs))∧kvs.length≤i⟩
theorem vB{k:Key}{v:Value}(h:d7 k v=true):RelV (kV k) v:=by
 rcases cQ h with ⟨i,t,rfl,rfl⟩ | ⟨x,t,rfl,rfl⟩
 ·exact ⟨t,rfl⟩
 ·exact ⟨t,rfl⟩
theorem oX{kvs:List (Key×V)}{vs:List (Key×Value)}:∀{i:Nat} {kv:Key×V},KV kvs vs→kvs[i]?=some kv→∃v,vs[i]?=some (kv.1,v)
 | _,_,.nil,h=>by simp at h
 | 0,kv,.cons (b:=b) r _,h=>by
  simp at h
  subst h
  obtain ⟨k,v⟩:=b
  have e:_=k:=r.1
  exact ⟨v,by rw [e];rfl⟩
 | i+1,kv,.cons _ t,h=>by
  simp at h
  obtain ⟨v,e⟩:=oX t h
  exact ⟨v,by simpa using e⟩
section
variable {X:Cx} {pins:List (Addr×Obj)} {σ:St} {H:Hp} {s:Shared}
theorem Inv.k8{a:Addr}{o:Obj}{kvs:List (Key×V)}(I:Inv X pins σ H s)(h:H a=some (.aB o (.dK kvs))):∃vs,KV kvs vs∧s.heap.DictAt (bD X.prog X.w) a vs (k6 o):=by
 obtain ⟨g,_,_,vs,r,o',es,ep,g',c,d,rest⟩:=(show aI X.prog X.w H s.heap a (.aB o (.dK kvs)) from I.aj a _ h)
 rw [g] at g'
 cases g'
 refine ⟨vs,r,o,es,g,c,?_,rest⟩
 rw [d]
 unfold k6
 rw [d]
end
theorem vC{P:Program}{w:World}{K:PySem.W.Frag}{tg:Expr}(a it:Addr)(o:Obj)(kvs:List (Key×V)):Turn P w K tg (cg a o kvs) [it] it (fun i h=>h.IsKeyIter it a i kvs.length (k6 o)) where
 mem:=by simp
 obj:=fun i h st b hb=>by
  have e:b=it:=by simpa using hb
  subst e
  obtain ⟨o,e,c,d⟩:=st
  exact ⟨o,e,fun v z=>by rw [d] at z;cases z⟩
 keep:=fun i h h' st k=>by
  obtain ⟨o,e,c,d⟩:=st
  exact ⟨o,k it (by simp) o e,c,d⟩
 item:=by
  intro X hP hw hK hc i pins s σ H E I hf st hg
  subst hP hw hK
  obtain ⟨eH,hi⟩:=hg
  obtain ⟨vs,r,hm⟩:=I.k8 eH
  have lr:kvs.length=vs.length:=Paired.length r
  have ek:kvs[i]?=some kvs[i]:=by simp [hi]
  obtain ⟨v,ev⟩:=oX r ek
  obtain ⟨f0,f1,f2,f3,f4,f5⟩:=hf it (by simp)
  rw [lr] at st
  refine wpAny_pyNext_dict_item st hm ev fun key h' hk cw sb=>?_
  have I1:Inv X pins σ H {s with heap:=h'}:=I.turned (t':=s.toks) (fun b o hb e=>(sb.2 b hb).trans e) f0 f1 f3 f4 f5
  obtain ⟨o',e,c,d⟩:=id cw
  rw [←lr] at cw
  exact ⟨key,rfl,iz (s:={s with heap:=h'}) e c d (by decide) ⟨kV kvs[i].1,H,I1,vB hk,⟨rfl,_,ek,rfl⟩,cw,fun b hb=>(hf b hb).1⟩⟩
 done:=by
  intro X hP hw hK hc i pins s σ H E I hf st hg
  subst hP hw hK
  obtain ⟨eH,hi⟩:=hg
  obtain ⟨vs,r,hm⟩:=I.k8 eH
  have lr:kvs.length=vs.length:=Paired.length r
  obtain ⟨f0,f1,f2,f3,f4,f5⟩:=hf it (by simp)
  rw [lr] at st
  exact wpAny_pyNext_dict_end (I.ok.hd hc) st hm (by simp;omega) fun h' eb=>⟨rfl,I.turned (t':=s.toks) (fun b o hb e=>eb b o hb e) f0 f1 f3 f4 f5⟩
 self:=fun _ _ _ _ _ st h=>wpAny_pyIter_keyiter st h
section
variable {X:Cx} {tg:Expr}
def oY(tl:TE):TI:=fun σ H R=>tl σ H fun x H1=>∃a kvs,x=.ref a∧((H1 a=some (.dK kvs)∧∀o,R (cg a o kvs) (upd H1 a (.aB o (.dK kvs))))∨∃o,H1 a=some (.aB o (.dK kvs))∧R (cg a o kvs) H1)
theorem k_{l:Expr}{tl:TE}(hl:PE X l tl):PI X tg l (oY tl):=by
 intro pins s σ H R I h
 refine ar (hl pins s σ H _ I h) fun v s1 ⟨x,H1,I1,r1,q1⟩=>?_
 obtain ⟨a,kvs,e,q⟩:=q1
 subst e
 cases r1
 have main:∀{H2:Hp} {o:Obj},Inv X pins σ H2 s1→H2 a=some (.aB o (.dK kvs))→R (cg a o kvs) H2→wpAny (model X.prog X.w) X.A (pyIter (.ref a)) (jZ X pins σ tg R) X.xe s1:=fun{H2 o} I2 eH q=>by
  obtain ⟨vs,r,hm⟩:=I2.k8 eH
  obtain ⟨_,_,sys,_⟩:=(show aI X.prog X.w H2 s1.heap a (.aB o (.dK kvs)) from I2.aj a _ eH)
  have lr:kvs.length=vs.length:=Paired.length r
  refine wpAny_pyIter_dict sys hm ?_
  refine ⟨s1.heap.objs.size,[s1.heap.objs.size],_,_,H2,rfl,I2.kept (t':=s1.toks) fun b o e=>Heap.get?_push_of_some _ e,vC a _ o kvs,⟨_,Heap.get?_push_size _ rfl,rfl,by rw [lr];rfl⟩,fun b hb=>?_,q⟩
  have e:b=s1.heap.objs.size:=by simpa using hb
  subst e
  exact I2.iw (Nat.le_refl _) (I2.aj.fresh (Nat.le_refl _))
 rcases q with ⟨eH,q⟩ | ⟨o,eH,q⟩
 ·obtain ⟨hz,sys,vs,r,o,es,ep,g,c,d,rest⟩:=(show aI X.prog X.w H1 s1.heap a (.dK kvs) from I1.aj a _ eH)
  refine main (H2:=upd H1 a (.aB o (.dK kvs))) ?_ ao (q o)
  exact I1.write (t':=s1.toks) (x:=a) (e:=a) (by rw [eH];exact trivial) (.inl rfl) (fun b u _ e=>e) ⟨o,g⟩ ⟨g,hz,sys,vs,r,o,es,ep,g,c,d,rest⟩
 ·exact main I1 eH q
end
end L2
namespace My
open PySem L2
def dk(ks:List Nat):List (Key×V):=ks.map fun k:Nat=>((Sum.inl (k:Int):Key),V.bl true)
def aD(ks:List Nat)(k:Nat):List Nat:=if k∈ks then ks else ks++[k]
theorem oZ{a b:Nat}:((Sum.inl (a:Int):Key)=Sum.inl (b:Int))↔a=b:=by
 constructor
 ·intro h
  have:=Sum.inl.inj h
  omega
 ·rintro rfl;rfl
theorem g_(ks:List Nat):(dk ks).length=ks.length:=List.length_map _
theorem vD(ks:List Nat)(k:Nat):((dk ks).any fun kv=>decide (kv.1=(Sum.inl (k:Int):Key)))=decide (k∈ks):=by
 rw [Bool.eq_iff_iff,List.any_eq_true,decide_eq_true_iff]
 constructor
 ·rintro ⟨kv,h1,h2⟩
  obtain ⟨j,hj,rfl⟩:=List.mem_map.mp h1
  have:=oZ.mp (of_decide_eq_true h2)
  subst this
  exact hj
 ·intro h
  exact ⟨_,List.mem_map.mpr ⟨k,h,rfl⟩,decide_eq_true rfl⟩
theorem lb(ks:List Nat)(k:Nat):putK (dk ks) (Sum.inl (k:Int):Key) (V.bl true)=dk (aD ks k):=by
 unfold putK aD
 rw [vD]
 by_cases h:k∈ks
 ·rw [if_pos (decide_eq_true h),if_pos h]
  unfold dk
  rw [List.map_map]
  refine List.map_congr_left fun j _=>?_
  show (if _ then _ else _)=_
  split <;> rfl
 ·rw [if_neg (by rw [decide_eq_true_iff];exact h),if_neg h]
  unfold dk
  rw [List.map_append]
  rfl
theorem o6(ks:List Nat)(k:Nat):cf (dk ks) (Sum.inl (k:Int):Key)=if k∈ks then some (V.bl true) else none:=by
 induction ks with
 | nil=>simp [dk,cf]
 | cons j r ih=>
  by_cases h:j=k
  ·subst h
   rw [if_pos (List.mem_cons_self ..)]
   exact i5 rfl
  ·show cf ((Sum.inl (j:Int),V.bl true)::dk r) _=_
   rw [i6 (fun e=>h (oZ.mp e)),ih]
   by_cases m:k∈r
   ·rw [if_pos m,if_pos (List.mem_cons_of_mem _ m)]
   ·rw [if_neg m,if_neg (fun x=>by rcases List.mem_cons.mp x with e | e;exact h e.symm;exact m e)]
theorem bU{ks:List Nat}{k j:Nat}:j∈aD ks k↔j∈ks∨j=k:=by
 unfold aD
 by_cases h:k∈ks
 ·rw [if_pos h]
  constructor
  ·exact .inl
  ·rintro (e | rfl)
   ·exact e
   ·exact h
 ·rw [if_neg h,List.mem_append,List.mem_singleton]
theorem vE{ks:List Nat}{k:Nat}(h:ks.Nodup):(aD ks k).Nodup:=by
 unfold aD
 by_cases m:k∈ks
 ·rw [if_pos m];exact h
 ·rw [if_neg m]
  refine List.nodup_append.mpr ⟨h,(by simp),fun a ha b hb=>?_⟩
  rw [List.mem_singleton] at hb
  subst hb
  rintro rfl
  exact m ha
def cA(n:Nat)(ks:List Nat):Prop:=ks.Nodup∧∀k∈ks,k<n
theorem cA.nil(n:Nat):cA n []:=⟨List.nodup_nil,fun _ h=>by cases h⟩
theorem cA.add{n k:Nat}{ks:List Nat}(h:cA n ks)(hk:k<n):cA n (aD ks k):=⟨vE h.1,fun j hj=>by
 rcases bU.mp hj with e | rfl
 ·exact h.2 j e
 ·exact hk⟩
theorem o7:∀{n:Nat} {ks:List Nat},ks.Nodup→(∀k∈ks,k<n)→ks.length≤n
 | 0,ks,_,h=>by
  cases ks with
  | nil=>exact Nat.le_refl _
  | cons a r=>exact absurd (h a (List.mem_cons_self ..)) (Nat.not_lt_zero _)
 | n+1,ks,nd,h=>by
  have e:=o7 (n:=n) (ks:=ks.erase n) (nd.erase n) (fun k hk=>by
   have m:=(List.Nodup.mem_erase_iff nd).mp hk
   have:=h k m.2
   have:=m.1
   omega)
  by_cases hm:n∈ks
  ·have:=List.length_erase_of_mem hm
   omega
  ·rw [List.erase_of_not_mem hm] at e
   omega
theorem cA.len{n:Nat}{ks:List Nat}(h:cA n ks):ks.length≤n:=o7 h.1 h.2
structure b4 (H:Hp) (D:Addr) (n:Nat) (ds:Nat→Addr) (un:Nat→Prop) (f:Nat→List Nat):Prop where
 lst:H D=some (.lst ((List.range n).map fun i=>V.ref (ds i)))
 inj:∀i j,i<n→j<n→ds i=ds j→i=j
 ne:∀i,i<n→ds i≠D
 at':∀i,i<n→un i→H (ds i)=some (.dK (dk (f i)))
 pl:∀i,i<n→cA n (f i)
def bz(f:Nat→List Nat)(i:Nat)(ks:List Nat):Nat→List Nat:=fun j=>if j=i then ks else f j
theorem b4.put{H:Hp}{D:Addr}{n:Nat}{ds:Nat→Addr}{un:Nat→Prop}{f:Nat→List Nat}(h:b4 H D n ds un f){i j:Nat}(hi:i<n)(hj:j<n)(ui:un i)(hn:n≤1000) :
  kY H (ds i) (.int (j:Int)) (.bl true) (upd H (ds i) (.dK (dk (aD (f i) j))))∧b4 (upd H (ds i) (.dK (dk (aD (f i) j)))) D n ds un (bz f i (aD (f i) j)):=by
 refine ⟨.inl ⟨dk (f i),Sum.inl (j:Int),h.at' i hi ui,rfl,?_,by rw [lb]⟩,?_,h.inj,h.ne,fun k hk uk=>?_,fun k hk=>?_⟩
 ·rw [g_]
  have:=(h.pl i hi).len
  exact Nat.lt_of_le_of_lt this (Nat.lt_of_le_of_lt hn (by rw [sizeLine_eq];decide))
 ·rw [ax (Ne.symm (h.ne i hi))]
  exact h.lst
 ·unfold bz
  by_cases e:k=i
  ·subst e
   rw [if_pos rfl,ao]
  ·rw [if_neg e,ax (fun z=>e (h.inj k i hk hi z))]
   exact h.at' k hk uk
 ·unfold bz
  by_cases e:k=i
  ·rw [if_pos e];exact (h.pl i hi).add hj
  ·rw [if_neg e];exact h.pl k hk
theorem b4.ix{H:Hp}{D:Addr}{n:Nat}{ds:Nat→Addr}{un:Nat→Prop}{f:Nat→List Nat}(h:b4 H D n ds un f){i:Nat}(hi:i<n):cI ((List.range n).map fun i=>V.ref (ds i)) (i:Int)=some (V.ref (ds i)):=
 fw (by rw [List.getElem?_map,List.getElem?_range hi];rfl)
def i_(n:Nat)(L:List (Int×Int)):Prop:=∀p∈L,0≤p.1∧p.1<(n:Int)∧0≤p.2∧p.2<(n:Int)
def bA(n:Nat)(L:List (Int×Int))(f:Nat→List Nat):Prop:=∀i j:Nat,i<n→(j∈f i↔((i:Int),(j:Int))∈L∨((j:Int),(i:Int))∈L)
theorem bA.nil(n:Nat):bA n [] (fun _=>[]):=fun i j _=>by simp
theorem bA.more{n:Nat}{L:List (Int×Int)}{f:Nat→List Nat}(h:bA n L f){i j:Nat}(hi:i<n)(hj:j<n):bA n (L++[((i:Int),(j:Int))]) (bz (bz f i (aD (f i) j)) j (aD (bz f i (aD (f i) j) j) i)):=fun a b ha=>by
 have e1:∀x y:Nat,y∈bz f i (aD (f i) j) x↔y∈f x∨(x=i∧y=j):=fun x y=>by
  unfold bz
  by_cases e:x=i
  ·subst e
   rw [if_pos rfl,bU]
   simp
  ·rw [if_neg e]
   simp [e]
 have e2:b∈bz (bz f i (aD (f i) j)) j (aD (bz f i (aD (f i) j) j) i) a↔b∈bz f i (aD (f i) j) a∨(a=j∧b=i):=by
  unfold bz
  by_cases e:a=j
  ·subst e
   rw [if_pos rfl,bU]
   simp
  ·rw [if_neg e]
   simp [e]
 rw [e2,e1,h a b ha]
 simp only [List.mem_append,List.mem_singleton,Prod.mk.injEq]
 constructor
 ·rintro ((e | e) | ⟨rfl,rfl⟩)
  ·rcases e with e | e
   ·exact .inl (.inl e)
   ·exact .inr (.inl e)
  ·exact .inl (.inr ⟨by omega,by omega⟩)
  ·exact .inr (.inr ⟨rfl,rfl⟩)
 ·rintro ((e | ⟨e1,e2⟩) | (e | ⟨e1,e2⟩))
  ·exact .inl (.inl (.inl e))
  ·exact .inl (.inr ⟨by omega,by omega⟩)
  ·exact .inl (.inl (.inr e))
  ·exact .inr ⟨by omega,by omega⟩
def vF:Sp:=fun vs H Q _=>∃(t:Addr) (n:Nat) (L:List (Int×Int)),vs=[.ref t]∧b3 H t n L∧i_ n L∧n≤1000 ∧
 ∀(H':Hp) (D:Addr) (ds:Nat→Addr) (f:Nat→List Nat),ag H H'→H D=none→(∀i,i<n→H (ds i)=none)→b4 H' D n ds (fun _=>True) f→bA n L f→Q (.ref D) H'
end My
namespace L2
open PySem PySem.Spec PyProof.Rows
end L2
namespace My
open PySem L2
theorem take_snoc{α:Type}{xs:List α}{i:Nat}{x:α}(h:xs[i]?=some x):xs.take (i+1)=xs.take i++[x]:=by rw [List.take_succ,h];rfl
theorem b4.mono{H H':Hp}{D:Addr}{n:Nat}{ds:Nat→Addr}{un:Nat→Prop}{f:Nat→List Nat}(h:b4 H D n ds un f)(s:ag H H'):b4 H' D n ds un f:=⟨s _ _ h.lst,h.inj,h.ne,fun i hi ui=>s _ _ (h.at' i hi ui),h.pl⟩
theorem vG{a:Addr}{o:Obj}{kvs:List (Key×V)}{H1:Hp}(h:H1 a=some (.aB o (.dK kvs))):eJ (cg a o kvs) (kvs.map fun kv=>kV kv.1) H1 where
 go:=fun i Hc s hi=>⟨s _ _ h,by simpa using hi⟩
 bF:=fun i Hc x H' s y=>⟨y.1,fun _=>by
  obtain ⟨kv,e,rfl⟩:=y.2
  rw [List.getElem?_map,e]
  rfl⟩
 stop:=fun i Hc s hi=>⟨s _ _ h,by simpa using hi⟩
theorem vH(ks:List Nat):(dk ks).map (fun kv=>kV kv.1)=ks.map fun k:Nat=>V.int (k:Int):=by
 unfold dk
 rw [List.map_map]
 rfl
theorem vI(ks:List Nat):(List.range ks.length).map (fun i=>ks.getD i 0)=ks:=by
 refine List.ext_getElem (by simp) fun i h1 h2=>?_
 simp [List.getD_eq_getElem?_getD,h2]
theorem vJ(ks:List Nat)(pr:Nat→Bool):((List.range ks.length).filter fun i=>pr (ks.getD i 0)).map (fun i=>ks.getD i 0)=ks.filter pr:=by
 have e:=List.filter_map (f:=fun i=>ks.getD i 0) (l:=List.range ks.length) (p:=pr)
 rw [vI] at e
 exact e.symm
theorem o8{ρ:St→St}{tt:TT}{te:TE}{σ:St}{H:Hp}{Q:VK}{ks:List Nat}{a:Addr}{ob:Obj}(h:H a=some (.aB ob (.dK (dk ks))))(pr:Nat→Bool)(hl:ks.length<sizeLine)
  (test:∀k∈ks,∀(Hc:Hp) (R:Bool→Hp→Prop),ag H Hc→R (pr k) Hc→tt (some (.int (k:Int))::ρ σ) Hc R)
  (step:∀k∈ks,∀(Hc:Hp) (R:VK),R (.int (k:Int)) Hc→te (some (.int (k:Int))::ρ σ) Hc R)
  (fin:∀D Hc,H D=none→ag H Hc→Hc D=some (.lst ((ks.filter pr).map fun k:Nat=>V.int (k:Int)))→Q (.ref D) Hc):cJ (fun _ H R=>R (cg a ob (dk ks)) H) ρ tt te σ H Q:=by
 have at':∀{i:Nat} {x:V},(ks.map fun k:Nat=>V.int (k:Int))[i]?=some x→i<ks.length∧x=.int ((ks.getD i 0:Nat):Int)∧ks.getD i 0∈ks:=fun{i x} hx=>by
  have hi:i<ks.length:=by
   have:=(List.getElem?_eq_some_iff.mp hx).1
   simpa using this
  rw [List.getElem?_map] at hx
  simp [hi] at hx
  rw [getD_at hi]
  exact ⟨hi,hx.symm,List.getElem_mem hi⟩
 refine vo (xs:=ks.map fun k:Nat=>V.int (k:Int)) (fun i=>pr (ks.getD i 0)) (fun R k=>k _ (by rw [←vH];exact vG h)) (by rw [List.length_map];exact hl) (fun _ i y _=>y=.int ((ks.getD i 0:Nat):Int)) (fun _ _ _ _ _ _ h _ _=>h) ?_ ?_ ?_
 ·intro i x hx Hc R sc hR
  obtain ⟨_,rfl,m⟩:=at' hx
  exact test _ m Hc R sc hR
 ·intro D i x hx Hc R sc _ kc
  obtain ⟨_,rfl,m⟩:=at' hx
  exact step _ m Hc R (kc _ Hc (ag.refl _) rfl)
 ·intro D ys Hc nD sc ly hP eD
  refine fin D Hc nD sc ?_
  rw [eD,←vJ ks pr,List.map_map]
  rw [List.length_map] at ly hP
  congr 2
  refine List.ext_getElem (by simpa using ly) fun k h1 h2=>?_
  have h3:k<((List.range ks.length).filter fun i=>pr (ks.getD i 0)).length:=by simpa using h2
  rw [List.getElem_map]
  exact hP k _ _ (List.getElem?_eq_getElem h1) (List.getElem?_eq_getElem h3)
theorem ja{n:Nat}{g:Nat→V}{p:Nat}(h:p<n):cI ((List.range n).map g) (p:Int)=some (g p):=fw (by rw [List.getElem?_map,List.getElem?_range h];rfl)
theorem o9{wi:TI}{ρ:St→St}{tt:TT}{te:TE}{σ:St}{H:Hp}{Q:VK}(h:wi σ H fun J H1=>cJ (fun _ H R=>R J H) ρ tt te σ H1 Q):cJ wi ρ tt te σ H Q:=h
end My
namespace L2
open PySem PySem.Spec PyProof.Rows
section
variable {X:Cx} {pins:List (Addr×Obj)} {σ:St} {H:Hp} {s:Shared}
end
end L2
namespace My
open PySem L2
end My
namespace L2
open PySem PySem.Spec PyProof.Rows
end L2
namespace My
open PySem L2
def vK:Sp:=fun vs H Q _=>∃m:Nat,vs=[.int (m:Int)]∧m≤1000∧Q (.int ((m:Int)*m+3*m+1)) H
def vL:Sp:=fun vs H Q _=>∃(t:Addr) (n:Nat) (L:List (Int×Int)),vs=[.ref t]∧b3 H t n L∧n≤9∧Q .av H
end My
namespace L2
open PySem PySem.Spec PyProof.Rows
end L2
namespace My
open PySem L2
end My
namespace L2
open PySem PySem.Spec PyProof.Rows
end L2
namespace My
open PySem L2
end My
namespace L2
open PySem PySem.Spec PyProof.Rows
end L2
namespace My
open PySem L2
inductive eM (bc:Nat→Nat→Prop) (a9:Nat→Prop) (s:Nat):Nat→Prop where
 | start:eM bc a9 s s
 | step {a b:Nat}:eM bc a9 s a→(a=s∨a9 a)→bc a b→eM bc a9 s b
structure aW (n:Nat) (bc:Nat→Nat→Prop) (a9:Nat→Prop) (s:Nat) (here:Option Nat) (dn:Nat→Prop) (ks ws:List Nat):Prop where
 pl:cA n ks
 st:s∈ks
 rc:∀k∈ks,eM bc a9 s k
 wt:∀w∈ws,w∈ks∧(w=s∨a9 w)
 cl:∀k∈ks,(k=s∨a9 k)→k∈ws∨∀b,bc k b→b∈ks∨(here=some k∧¬dn b)
variable {n:Nat} {bc:Nat→Nat→Prop} {a9:Nat→Prop} {s:Nat}
theorem aW.start(hs:s<n){dn:Nat→Prop}:aW n bc a9 s none dn [s] [s]:=
 ⟨⟨by simp,fun k hk=>by rw [List.mem_singleton.mp hk];exact hs⟩,List.mem_singleton.mpr rfl,fun k hk=>by rw [List.mem_singleton.mp hk];exact .start,fun w hw=>⟨hw,.inl (List.mem_singleton.mp hw)⟩,fun k hk _=>.inl hk⟩
theorem aW.pop{dn:Nat→Prop}{ks ws:List Nat}{h:Nat}(k:aW n bc a9 s none dn ks (ws++[h])):aW n bc a9 s (some h) (fun _=>False) ks ws:=
 ⟨k.pl,k.st,k.rc,fun w hw=>k.wt w (List.mem_append_left _ hw),fun x hx ox=>by
  rcases k.cl x hx ox with e | e
  ·rcases List.mem_append.mp e with e | e
   ·exact .inl e
   ·exact .inr fun b _=>.inr ⟨by rw [List.mem_singleton.mp e],fun z=>z⟩
  ·exact .inr fun b hb=>.inl ((e b hb).resolve_right fun z=>by cases z.1)⟩
theorem aW.old{h b:Nat}{dn:Nat→Prop}{ks ws:List Nat}(k:aW n bc a9 s (some h) dn ks ws)(hb:b∈ks):aW n bc a9 s (some h) (fun x=>dn x∨x=b) ks ws:=
 ⟨k.pl,k.st,k.rc,k.wt,fun x hx ox=>by
  rcases k.cl x hx ox with e | e
  ·exact .inl e
  ·refine .inr fun c hc=>?_
   rcases e c hc with e | e
   ·exact .inl e
   ·by_cases z:c=b
    ·rw [z];exact .inl hb
    ·exact .inr ⟨e.1,fun q=>q.elim e.2 z⟩⟩
theorem aW.new{h b:Nat}{dn:Nat→Prop}{ks ws vs:List Nat}(k:aW n bc a9 s (some h) dn ks ws)(hb:b∉ks)(bn:b<n)(hh:h∈ks)(oh:h=s∨a9 h)(ab:bc h b)(hv:(a9 b∧vs=ws++[b])∨(¬a9 b∧vs=ws)):aW n bc a9 s (some h) (fun x=>dn x∨x=b) (aD ks b) vs:=by
 have bs:b≠s:=fun z=>hb (z▸k.st)
 have sub:∀w∈ws,w∈vs:=fun w hw=>by
  rcases hv with ⟨_,rfl⟩ | ⟨_,rfl⟩
  ·exact List.mem_append_left _ hw
  ·exact hw
 refine ⟨k.pl.add bn,bU.mpr (.inl k.st),fun x hx=>?_,fun w hw=>?_,fun x hx ox=>?_⟩
 ·rcases bU.mp hx with e | rfl
  ·exact k.rc x e
  ·exact .step (k.rc h hh) oh ab
 ·rcases hv with ⟨tb,rfl⟩ | ⟨_,rfl⟩
  ·rcases List.mem_append.mp hw with e | e
   ·exact ⟨bU.mpr (.inl (k.wt w e).1),(k.wt w e).2⟩
   ·rw [List.mem_singleton.mp e]
    exact ⟨bU.mpr (.inr rfl),.inr tb⟩
  ·exact ⟨bU.mpr (.inl (k.wt w hw).1),(k.wt w hw).2⟩
 ·rcases bU.mp hx with e | rfl
  ·rcases k.cl x e ox with e | e
   ·exact .inl (sub x e)
   ·refine .inr fun c hc=>?_
    rcases e c hc with e | e
    ·exact .inl (bU.mpr (.inl e))
    ·by_cases z:c=b
     ·exact .inl (bU.mpr (.inr z))
     ·exact .inr ⟨e.1,fun q=>q.elim e.2 z⟩
  ·rcases hv with ⟨tb,rfl⟩ | ⟨tb,rfl⟩
   ·exact .inl (List.mem_append_right _ (List.mem_singleton.mpr rfl))
   ·exact absurd ox (fun z=>z.elim bs tb)
theorem aW.next{h:Nat}{dn vM:Nat→Prop}{ks ws:List Nat}(k:aW n bc a9 s (some h) dn ks ws)(all:∀b,bc h b→dn b):aW n bc a9 s none vM ks ws:=
 ⟨k.pl,k.st,k.rc,k.wt,fun x hx ox=>by
  rcases k.cl x hx ox with e | e
  ·exact .inl e
  ·refine .inr fun c hc=>.inl ?_
   rcases e c hc with e | ⟨e,e2⟩
   ·exact e
   ·cases e
    exact absurd (all c hc) e2⟩
theorem aW.done{dn:Nat→Prop}{ks:List Nat}(k:aW n bc a9 s none dn ks [])(x:Nat):x∈ks↔eM bc a9 s x:=by
 refine ⟨k.rc x,fun h=>?_⟩
 induction h with
 | start=>exact k.st
 | step _ o ab ih=>
  rcases k.cl _ ih o with e | e
  ·cases e
  ·exact (e _ ab).resolve_right fun z=>by cases z.1
theorem vO{ks ms:List Nat}(h1:ks.Nodup)(h2:ms.Nodup)(e:∀x,x∈ks↔x∈ms)(p:Nat→Bool):(ks.filter p).length=(ms.filter p).length:=by
 have pm:ks.Perm ms:=(List.perm_ext_iff_of_nodup h1 h2).mpr e
 exact (pm.filter p).length_eq
theorem o_{ks:List Nat}{b:Nat}(h:b∉ks):(aD ks b).length=ks.length+1:=by
 unfold aD
 rw [if_neg h,List.length_append]
 rfl
end My
namespace L2
open PySem PySem.Spec PyProof.Rows
theorem pb{X:Cx}{K:PySem.W.Frag}(hk:X.K=K:=by rfl):aZ X (compareOp .NotIn) (kd K true):=by
 subst hk
 exact s_
end L2
namespace My
open PySem L2
def cj(n:Nat)(f:Nat→List Nat)(a b:Nat):Prop:=a<n∧b∈f a
def dF(n:Nat)(f:Nat→List Nat)(done:List Nat)(p:Nat)(c:Nat):Prop:=∃ks:List Nat,cA n ks∧(∀x,x∈ks↔eM (cj n f) (·∈done) p x)∧c=(ks.filter fun q=>!decide (q=p) && !decide (q∈done)).length
def vP:Sp:=fun vs H Q _=>∃(D d:Addr) (n:Nat) (ds:Nat→Addr) (f:Nat→List Nat) (done:List Nat) (p:Nat),vs=[.ref D,.ref d,.int (p:Int)]∧b4 H D n ds (fun _=>True) f∧H d=some (.tup (done.map fun k:Nat=>V.int (k:Int)))∧done.length≤1000∧p<n∧n≤60 ∧
 ∀(H':Hp) (r:Addr) (xs:List V),(∀b o,H b=some o→(∀i,i<n→b≠ds i)→H' b=some o)→H' r=some (.lst xs)→dF n f done p xs.length→Q (.ref r) H'
theorem vQ{a:Addr}{ob:Obj}{ks:List Nat}{g:TG}{tb:TS}{D:Ends}{σ:St}{H:Hp}(Pv:Nat→St→Hp→Prop)(h0:Pv 0 σ H)(hl:∀i σ H,i≤ks.length→Pv i σ H→H a=some (.aB ob (.dK (dk ks))))
  (hs:∀(i k:Nat) σ H,ks[i]?=some k→Pv i σ H→g (.int (k:Int)) σ H fun σ2 H2=>tb {D with nx:=Pv (i+1),ct:=Pv (i+1),bk:=D.nx} σ2 H2) (hd:∀σ H,Pv ks.length σ H→D.nx σ H) :
  ∃W:Nat→Nat→St→Hp→Prop,(∃m,W 0 m σ H)∧∀i m σ H,W i m σ H→
   ((cg a ob (dk ks)).stop i H∧D.nx σ H)∨((cg a ob (dk ks)).go i H∧∃N:St→Hp→Prop,(∀σ' H',N σ' H'→∃m',m'<m∧W (i+1) m' σ' H')∧∀x H',(cg a ob (dk ks)).bF i H x H'→g x σ H' fun σ2 H2=>tb {D with nx:=N,ct:=N,bk:=D.nx} σ2 H2):=by
 refine ⟨fun i m σ H=>m=ks.length-i∧i≤ks.length∧Pv i σ H,⟨ks.length,by simp,Nat.zero_le _,h0⟩,?_⟩
 rintro i m σ H ⟨rfl,hi,p⟩
 have q:=hl i σ H hi p
 by_cases aE:i<ks.length
 ·refine .inr ⟨⟨q,by rw [g_];exact aE⟩,Pv (i+1),fun σ' H' p'=>⟨ks.length-(i+1),by omega,rfl,aE,p'⟩,fun x H' y=>?_⟩
  obtain ⟨e,kv,ek,rfl⟩:=y
  subst e
  unfold dk at ek
  rw [List.getElem?_map,List.getElem?_eq_getElem aE] at ek
  cases ek
  exact hs i _ σ _ (List.getElem?_eq_getElem aE) p
 ·have e:i=ks.length:=by omega
  subst e
  exact .inl ⟨⟨q,by rw [g_];exact Nat.le_refl _⟩,hd σ H p⟩
structure dG (H:Hp) (D:Addr) (n:Nat) (ds:Nat→Addr) (f:Nat→List Nat):Prop where
 lst:H D=some (.lst ((List.range n).map fun i=>V.ref (ds i)))
 at':∀i,i<n→H (ds i)=some (.dK (dk (f i)))∨∃ob,H (ds i)=some (.aB ob (.dK (dk (f i))))
theorem b4.fr{H:Hp}{D:Addr}{n:Nat}{ds:Nat→Addr}{f:Nat→List Nat}(h:b4 H D n ds (fun _=>True) f):dG H D n ds f:=⟨h.lst,fun i hi=>.inl (h.at' i hi trivial)⟩
theorem fE(done:List Nat)(k:Nat):cy (.int (k:Int)) (done.map fun k:Nat=>V.int (k:Int))=decide (k∈done):=by
 unfold cy
 rw [Bool.eq_iff_iff,List.any_eq_true,decide_eq_true_iff]
 constructor
 ·rintro ⟨y,hy,e⟩
  obtain ⟨j,hj,rfl⟩:=List.mem_map.mp hy
  have e:((j:Int) == (k:Int))=true:=e
  rw [beq_iff_eq] at e
  have:j=k:=by omega
  subst this
  exact hj
 ·intro h
  exact ⟨_,List.mem_map.mpr ⟨k,h,rfl⟩,uP rfl⟩
theorem jb(done:List Nat):(done.map fun k:Nat=>V.int (k:Int)).all da=true:=by
 rw [List.all_eq_true]
 intro x hx
 obtain ⟨j,_,rfl⟩:=List.mem_map.mp hx
 rfl
theorem vR{H:Hp}{a:Addr}{kvs:List (Key×V)}{R:It→Hp→Prop}(h:H a=some (.dK kvs)∨∃ob,H a=some (.aB ob (.dK kvs)))(k:∀(ob:Obj) (Hf:Hp),Hf a=some (.aB ob (.dK kvs))→(∀b u,b≠a→H b=some u→Hf b=some u)→R (cg a ob kvs) Hf) :
  (H a=some (.dK kvs)∧∀o,R (cg a o kvs) (upd H a (.aB o (.dK kvs))))∨∃o,H a=some (.aB o (.dK kvs))∧R (cg a o kvs) H:=by
 rcases h with e | ⟨ob,e⟩
 ·exact .inl ⟨e,fun o=>k o _ ao fun b u ne hb=>by rw [ax ne];exact hb⟩
 ·exact .inr ⟨ob,e,k ob H e fun _ _ _ h=>h⟩
theorem dG.keep{H H':Hp}{D:Addr}{n:Nat}{ds:Nat→Addr}{f:Nat→List Nat}(h:dG H D n ds f){a:Addr}(k:∀b u,b≠a→H b=some u→H' b=some u)(nD:a≠D)(nd:∀i,i<n→ds i≠a):dG H' D n ds f:=⟨k _ _ (Ne.symm nD) h.lst,fun i hi=>by
 rcases h.at' i hi with e | ⟨ob,e⟩
 ·exact .inl (k _ _ (nd i hi) e)
 ·exact .inr ⟨ob,k _ _ (nd i hi) e⟩⟩
theorem dG.aB{H H':Hp}{D:Addr}{n:Nat}{ds:Nat→Addr}{f:Nat→List Nat}(h:dG H D n ds f){j:Nat}{ob:Obj}(k:∀b u,b≠ds j→H b=some u→H' b=some u)(hj:j<n)(e:H' (ds j)=some (.aB ob (.dK (dk (f j)))))(inj:∀i j,i<n→j<n→ds i=ds j→i=j)(nD:ds j≠D):dG H' D n ds f:=⟨k _ _ (Ne.symm nD) h.lst,fun i hi=>by
 by_cases z:i=j
 ·subst z;exact .inr ⟨ob,e⟩
 ·rcases h.at' i hi with e | ⟨ob,e⟩
  ·exact .inl (k _ _ (fun q=>z (inj i j hi hj q)) e)
  ·exact .inr ⟨ob,k _ _ (fun q=>z (inj i j hi hj q)) e⟩⟩
def eN(n:Nat)(ds:Nat→Addr)(H H':Hp):Prop:=∀b o,H b=some o→(∀i,i<n→b≠ds i)→H' b=some o
theorem lg{tl:TE}{σ:St}{H:Hp}{R:It→Hp→Prop}{a:Addr}{kvs:List (Key×V)}(hp:∀Q:VK,Q (.ref a) H→tl σ H Q)(h:H a=some (.dK kvs)∨∃ob,H a=some (.aB ob (.dK kvs)))(k:∀(ob:Obj) (Hf:Hp),Hf a=some (.aB ob (.dK kvs))→(∀b u,b≠a→H b=some u→Hf b=some u)→R (cg a ob kvs) Hf):oY tl σ H R:=hp _ ⟨a,kvs,rfl,vR h k⟩
def vS:Sp:=fun vs H Q _=>∃(t d:Addr) (n:Nat) (L:List (Int×Int)) (done:List Nat) (p:Nat),vs=[.ref t,.ref d,.int (p:Int)]∧b3 H t n L∧i_ n L∧n≤9∧H d=some (.tup (done.map fun k:Nat=>V.int (k:Int)))∧done.length≤1000∧p<n ∧
 ∀(H':Hp) (f:Nat→List Nat) (c:Nat),ag H H'→bA n L f→dF n f done p c→Q (.int ((c:Int)*c+3*c+1)) H'
theorem dF.le{n:Nat}{f:Nat→List Nat}{done:List Nat}{p c:Nat}(h:dF n f done p c):c≤n:=by
 obtain ⟨ks,pl,_,rfl⟩:=h
 exact Nat.le_trans (List.length_filter_le _ _) pl.len
theorem dF.same{n:Nat}{L:List (Int×Int)}{f g:Nat→List Nat}{done:List Nat}{p c e:Nat}(hf:bA n L f)(hg:bA n L g)(h:dF n f done p c)(k:dF n g done p e):c=e:=by
 obtain ⟨ks,pk,ik,rfl⟩:=h
 obtain ⟨ms,pm,im,rfl⟩:=k
 have ad:cj n f=cj n g:=by
  funext a b
  unfold cj
  refine propext ⟨fun⟨x,y⟩=>⟨x,(hg a b x).mpr ((hf a b x).mp y)⟩,fun⟨x,y⟩=>⟨x,(hf a b x).mpr ((hg a b x).mp y)⟩⟩
 refine vO pk.1 pm.1 (fun x=>?_) _
 rw [ik,im,ad]
def dH(g:Nat→List Nat)(i j:Nat):Nat→List Nat:=bz g i (g i++[j])
theorem pd{g:Nat→List Nat}{i j a b:Nat}:b∈dH g i j a↔b∈g a∨(a=i∧b=j):=by
 unfold dH bz
 by_cases e:a=i
 ·subst e
  rw [if_pos rfl,List.mem_append,List.mem_singleton]
  simp
 ·rw [if_neg e]
  simp [e]
theorem lh{g:Nat→List Nat}{i j a:Nat}:(dH g i j a).length≤(g a).length+1:=by
 unfold dH bz
 by_cases e:a=i
 ·subst e
  rw [if_pos rfl,List.length_append]
  exact Nat.le_refl _
 ·rw [if_neg e];omega
theorem bA.snoc{n:Nat}{L:List (Int×Int)}{g:Nat→List Nat}(h:bA n L g){i j:Nat}:bA n (L++[((i:Int),(j:Int))]) (dH (dH g i j) j i):=fun a b ha=>by
 rw [pd,pd,h a b ha]
 simp only [List.mem_append,List.mem_singleton,Prod.mk.injEq]
 constructor
 ·rintro (((e | e) | ⟨rfl,rfl⟩) | ⟨rfl,rfl⟩)
  ·exact .inl (.inl e)
  ·exact .inr (.inl e)
  ·exact .inl (.inr ⟨rfl,rfl⟩)
  ·exact .inr (.inr ⟨rfl,rfl⟩)
 ·rintro ((e | ⟨e1,e2⟩) | (e | ⟨e1,e2⟩))
  ·exact .inl (.inl (.inl e))
  ·exact .inl (.inr ⟨by omega,by omega⟩)
  ·exact .inl (.inl (.inr e))
  ·exact .inr ⟨by omega,by omega⟩
structure dI (H:Hp) (D:Addr) (n:Nat) (rs:Nat→Addr) (g:Nat→List Nat):Prop where
 lst:H D=some (.lst ((List.range n).map fun i=>V.ref (rs i)))
 inj:∀i j,i<n→j<n→rs i=rs j→i=j
 ne:∀i,i<n→rs i≠D
 at':∀i,i<n→H (rs i)=some (.lst ((g i).map fun k:Nat=>V.int (k:Int)))
theorem dI.snoc{H:Hp}{D:Addr}{n:Nat}{rs:Nat→Addr}{g:Nat→List Nat}(h:dI H D n rs g){i:Nat}(j:Nat)(hi:i<n):dI (upd H (rs i) (.lst (((g i).map fun k:Nat=>V.int (k:Int))++[V.int (j:Int)]))) D n rs (dH g i j):=by
 refine ⟨by rw [ax (Ne.symm (h.ne i hi))];exact h.lst,h.inj,h.ne,fun a ha=>?_⟩
 unfold dH bz
 by_cases e:a=i
 ·subst e
  rw [if_pos rfl,ao,List.map_append]
  rfl
 ·rw [if_neg e,ax (fun z=>e (h.inj a i ha hi z))]
  exact h.at' a ha
def vT:Sp:=fun vs H Q _=>∃(t:Addr) (n:Nat) (L:List (Int×Int)),vs=[.ref t]∧b3 H t n L∧i_ n L∧n≤60∧L.length≤200 ∧
 ∀(H':Hp) (D:Addr) (rs:Nat→Addr) (g:Nat→List Nat),ag H H'→H D=none→(∀i,i<n→H (rs i)=none)→dI H' D n rs g→bA n L g→Q (.ref D) H'
def vU:Sp:=fun vs H Q _=>∃(D d:Addr) (n:Nat) (rs:Nat→Addr) (g:Nat→List Nat) (done:List Nat) (p:Nat),vs=[.ref D,.ref d,.int (p:Int)]∧dI H D n rs g∧(∀i,i<n→∀j∈g i,j<n)∧H d=some (.lst (done.map fun k:Nat=>V.int (k:Int)))∧done.length≤1000∧p<n∧n≤60 ∧
 ∀(H':Hp) (mt:Addr) (ks:List Nat),ag H H'→H mt=none→H' mt=some (.dK (dk ks))→cA n ks→(∀x,x∈ks↔eM (cj n g) (·∈done) p x)→Q (.ref mt) H'
def vV:Sp:=fun vs H Q _=>∃(D d:Addr) (n:Nat) (rs:Nat→Addr) (g:Nat→List Nat) (done:List Nat) (p:Nat),vs=[.ref D,.ref d,.int (p:Int)]∧dI H D n rs g∧(∀i,i<n→∀j∈g i,j<n)∧H d=some (.lst (done.map fun k:Nat=>V.int (k:Int)))∧done.length≤1000∧p<n∧n≤60 ∧
 ∀(H':Hp) (c:Nat),ag H H'→dF n g done p c→Q (.int ((c:Int)*c+3*c+1)) H'
theorem ph{wi:TI}{ρ:St→St}{tt:TT}{te:TE}{σ:St}{H:Hp}{Q:VK}{P a:Addr}{n:Nat}(hn:n<sizeLine)(pc:az H P a)
  (dC:∀R:It→Hp→Prop,R (dr 0 n) H→wi σ H R)
  (test:∀(i:Nat),i<n→∀(Hc:Hp) (R:Bool→Hp→Prop),ai P H Hc→az Hc P a→(∀b H3,ai P Hc H3→az H3 P a→R b H3)→tt (some (.int (0+(i:Int)))::ρ σ) Hc R)
  (elem:∀(x:V) (Hc:Hp) (R:VK),R x Hc→te (some x::ρ σ) Hc R)
  (fin:∀(D:Addr) (ms:List Nat) (Hc:Hp),D≠P→er P H D=none→ai P H Hc→az Hc P a→ms.length≤n→(∀k∈ms,k<n)→Hc D=some (.lst (ms.map fun k:Nat=>V.int (k:Int)))→Q (.ref D) Hc):cJ wi ρ tt te σ H Q:=by
 refine dC _ fun D nD=>?_
 have nP:=pc.ne nD
 refine ⟨fun i m ys Hc=>m=n-i∧i≤n∧Hc D=some (.lst ys)∧ai P H Hc∧az Hc P a∧∃ms:List Nat,ys=ms.map (fun k:Nat=>V.int (k:Int))∧ms.length≤i∧∀k∈ms,k<n,⟨_,rfl,Nat.zero_le _,ao,(ai.refl H).but nD,pc.upd nP,[],rfl,Nat.le_refl _,fun k h=>by cases h⟩,?_⟩
 rintro i m ys Hc ⟨rfl,hi,eD,sH,g7,ms,rfl,fF,mn⟩
 refine ⟨eD,?_⟩
 by_cases aE:i<n
 ·refine .inr ⟨aE,fun x H' hy=>?_⟩
  obtain ⟨rfl,rfl⟩:=hy
  refine test i aE _ _ sH g7 fun b H3 s3 p3=>?_
  have e3:=s3.at nP eD
  cases b with
  | true=>
   rw [if_pos rfl]
   refine elem _ H3 _ ⟨e3,?_,n-(i+1),by omega,rfl,aE,ao,(sH.trans s3).but nD,p3.upd nP,ms++[i],by rw [List.map_append,Int.zero_add];rfl,by rw [List.length_append,List.length_singleton];omega,fun k hk=>?_⟩
   ·rw [List.length_map];omega
   ·rcases List.mem_append.mp hk with h | h
    ·exact mn k h
    ·rw [List.mem_singleton.mp h];exact aE
  | false=>
   rw [if_neg (by simp)]
   exact ⟨n-(i+1),by omega,rfl,aE,e3,sH.trans s3,p3,ms,rfl,by omega,mn⟩
 ·have e:i=n:=by omega
  subst e
  exact .inl ⟨Nat.le_refl _,fin D ms Hc nP (by rw [bo nP];exact nD) sH g7 fF mn eD⟩
end My
set_option maxRecDepth 100000
set_option maxHeartbeats 4000000
namespace My
open PySem L2
def top(i:Nat):Stmt:=PySem.Challenge.pw_bandwright_k25_costs_behind.main.body.getD i (.Pass ⟨0,0,0,0⟩)
abbrev jc:Stmt:=top 4
abbrev jd:Stmt:=top 6
abbrev je:Stmt:=top 9
abbrev jf:Stmt:=top 10
abbrev jg:Stmt:=top 11
abbrev jh:Stmt:=top 13
abbrev ji:Stmt:=top 14
abbrev jj:Stmt:=top 15
abbrev jk:Stmt:=top 16
abbrev jl:Stmt:=top 17
abbrev jm:Stmt:=top 19
abbrev jo:Stmt:=top 18
abbrev jq:Stmt:=top 20
abbrev jr:Stmt:=top 21
abbrev jt:Stmt:=top 22
abbrev ju:Stmt:=top 23
structure lp where
 eO:Addr
 fG:FuncData
 eQ:Addr
 fH:FuncData
 eR:Addr
 fI:FuncData
 eS:Addr
 fJ:FuncData
 eT:Addr
 fK:FuncData
 eU:Addr
 fL:FuncData
 eV:Addr
 fM:FuncData
 eW:Addr
 fN:FuncData
 eX:Addr
 fO:FuncData
 eY:Addr
 fP:FuncData
 eZ:Addr
 fQ:FuncData
 e8:Addr
 fR:FuncData
 e9:Addr
 fS:FuncData
 e_:Addr
 fT:FuncData
 fb:Addr
 fU:FuncData
 d5:Addr
 fg:FuncData
 fV:Addr
structure Txt (K:PySem.W.Frag) (mg:Str→Option Value) (t:lp):Prop where
 fW:aC K "neighbours" "neighbours" jc t.eO t.fG
 pq:Binds K t.fG ["shape"] []
 pz:mg "neighbours" = some (.ref t.eO)
 fX:aC K "place_deeds" "place_deeds" jd t.eQ t.fH
 pA:Binds K t.fH ["many"] []
 pB:mg "place_deeds" = some (.ref t.eQ)
 fY:aC K "check_size" "check_size" je t.eR t.fI
 pC:Binds K t.fI ["shape"] []
 pD:mg "check_size" = some (.ref t.eR)
 fZ:aC K "still_near" "still_near" jf t.eS t.fJ
 pE:Binds K t.fJ ["linked","done","place"] []
 pF:mg "still_near" = some (.ref t.eS)
 f9:aC K "cost" "cost" jg t.eT t.fK
 pG:Binds K t.fK ["shape","done","place"] []
 pH:mg "cost" = some (.ref t.eT)
 f_:aC K "_law_fill" "_law_fill" jh t.eU t.fL
 pI:Binds K t.fL ["_law_cell","_law_at"] []
 pJ:mg "_law_fill" = some (.ref t.eU)
 bB:aC K "_law_next" "_law_next" ji t.eV t.fM
 ck:Binds K t.fM ["_law_pen","_law_many"] []
 cm:mg "_law_next" = some (.ref t.eV)
 gb:aC K "_law_turned" "_law_turned" jj t.eW t.fN
 pK:Binds K t.fN ["_law_pen","_law_some"] []
 pL:mg "_law_turned" = some (.ref t.eW)
 gc:aC K "_law_tied_by" "_law_tied_by" jk t.eX t.fO
 pM:Binds K t.fO ["_law_pen","_law_way","_law_size","_law_wide","_law_i","_law_j"] []
 pN:mg "_law_tied_by" = some (.ref t.eX)
 gd:aC K "_law_grown_links" "_law_grown_links" jl t.eY t.fP
 pO:Binds K t.fP ["_law_pen","_law_size"] []
 pP:mg "_law_grown_links" = some (.ref t.eY)
 gf:aC K "_law_named" "_law_named" jm t.eZ t.fQ
 pQ:Binds K t.fQ ["_law_size","_law_links","_law_names"] []
 pR:mg "_law_named" = some (.ref t.eZ)
 gg:aC K "_law_drawn" "_law_drawn" jo t.e8 t.fR
 pS:Binds K t.fR ["_law_pen","_law_most"] []
 pT:mg "_law_drawn" = some (.ref t.e8)
 gh:aC K "_law_beside" "_law_beside" jq t.e9 t.fS
 pU:Binds K t.fS ["_law_shape"] []
 pV:mg "_law_beside" = some (.ref t.e9)
 gk:aC K "_law_walks" "_law_walks" jr t.e_ t.fT
 pW:Binds K t.fT ["_law_beside_here","_law_through","_law_start"] []
 pX:mg "_law_walks" = some (.ref t.e_)
 gm:aC K "_law_cost" "_law_cost" jt t.fb t.fU
 pY:Binds K t.fU ["_law_beside_here","_law_done","_law_place"] []
 pZ:mg "_law_cost" = some (.ref t.fb)
 gp:aC K "law" "law" ju t.d5 t.fg
 vW:Binds K t.fg ["script"] []
 p9:mg "law" = some (.ref t.d5)
 p_:mg "NoSize" = some (.ref t.fV)
 d6:mg "len" = none
 lq:mg "isinstance" = none
 qa:mg "int" = none
 qb:mg "bool" = none
 lx:mg "tuple" = none
 lA:mg "list" = none
 cN:mg "range" = none
 qc:mg "min" = none
 qd:mg "max" = none
 qe:mg "sorted" = none
 vX:mg "ValueError" = none
 qf:∃u,mg "MOST" = some u∧RelV (.int 9) u
 qg:PySem.W.excIn K t.fV [.type "ValueError",.type "Exception",.type "BaseException",.type "object"] "ValueError.__new__" = true
section
variable {P:Program} {w:World} {K:PySem.W.Frag} {mg:Str→Option Value} {base:Heap} {t:lp}
theorem vY:bh ["shape","linked","i","j"] ["shape"] (aT jc):=⟨rfl,rfl,rfl,by decide +kernel,rfl,by decide +kernel,by decide +kernel⟩
theorem vZ(T:Txt K mg t):aX P w K mg base bj 1 t.eO t.fG ["shape"] vF:=by
 have S:=vY
 refine T.fW.ok S (fun vs H Q E h=>?_) (fun ay A outer s H vs Q E hr h=>?_)
 ·obtain ⟨tp,n,L,rfl,_⟩:=h
  rfl
 ·obtain ⟨tp,n,L,rfl,⟨lt,us,cB,elt,hL⟩,ok,n9,kk⟩:=h
  have hu:=Nat.lt_of_le_of_lt (Nat.add_le_add_left (show 1≤64 by decide) _) hr.units
  have lB:((List.range n).map fun i:Nat=>V.int (0+(i:Int))).length=n:=by rw [List.length_map,List.length_range]
  refine ⟨_,(@au _ _ _ _ _ (iX (i0:=1) (N:=["place"]) (ρ:=(fun σ=>[])) ⟨rfl,rfl,by decide +kernel,by decide +kernel,(List.forall_mem_nil _),d4 (by rfl),rfl,by decide +kernel,rfl,(fun σ j v h=>match j,h with | j,h=>by cases h),(fun _ _=>rfl)⟩ rfl S.nd rfl (Or.inl rfl) (dW rfl T.cN (@ae _ _ _ _ _ (by rfl) (@aN _ _ _ _ _ _ _ d0 (pv 0) aq (fun _ _=>rfl)) ak)) (fun s₃ H₃ fp=>.nil) (fun s₃ H₃ fp=>vy))
   (@au _ _ _ _ _ (cW PassesOwn.never rfl (mT (@aN _ _ _ _ _ _ _ d0 (pv 0) aq (fun _ _=>rfl))) (jV rfl (fq (bM (i:=2) S.nd rfl (Or.inl rfl)) (fq (bM (i:=3) S.nd rfl (Or.inl rfl)) jU)))
    (@au _ _ _ _ _ (i8 hu (@aN _ _ _ _ _ _ _ ba (pv 1) (pv 2) (fun _ _=>rfl)) (pv 3) dq rfl)
   (@aw _ _ _ (i8 hu (@aN _ _ _ _ _ _ _ ba (pv 1) (pv 3) (fun _ _=>rfl)) (pv 2) dq rfl))))
   (@aw _ _ _ (@a_ _ _ _ _ (pv 1))))),?_⟩
  refine bw (eK (ou (xs:=(List.range n).map fun i:Nat=>V.int (0+(i:Int))) (n:=n) lB (fun R h=>⟨_,rfl,tp,_,_,_,rfl,rfl,.of cB,rfl,(n:Int),rfl,by omega,by omega,h _ _ (ag.refl _) (by rw [Int.toNat_natCast];exact oo)⟩) (bt (by omega)) (fun _ i y Hx=>Hx y=some (.dK (dk []))∧H y=none) ?_ ?_ ?_))
  ·intro D i y Ha Hb ys ⟨h1,h2⟩ hy e f
   exact ⟨f y _ hy h1,h2⟩
  ·intro D i x hx Hc R sc _ kc
   refine fun p np=>kc p _ (dB (ag.refl _) np) np ⟨_,ao⟩ ⟨ao,?_⟩
   cases e:H p with
   | none=>rfl
   | some o=>rw [sc _ _ e] at np;cases np
  ·intro D ds H1 nD s1 inj hA eD
   have K0:b4 H1 D n ds (fun _=>True) (fun _=>[]):=⟨eD,inj,fun i hi=>(hA i hi).2,fun i hi _=>(hA i hi).1.1,fun i _=>cA.nil n⟩
   have fr:∀i,i<n→H (ds i)=none:=fun i hi=>(hA i hi).1.2
   dsimp only [aF]
   refine bw ⟨_,rfl,tp,_,_,_,rfl,rfl,.of (s1 _ _ cB),rfl,lt,rfl,⟨_,.of (s1 _ _ elt)⟩,?_⟩
   refine mY (K:=K) (a:=lt) (xs:=us) (fun k σ Hc=>∃(f:Nat→List Nat) (v2 v3:Option V),σ=[some (.ref tp),some (.ref D),v2,v3]∧ag H Hc∧b4 Hc D n ds (fun _=>True) f∧bA n (L.take k) f) ⟨_,_,_,rfl,s1,K0,bA.nil n⟩ (fun k σ Hc _ ⟨_,_,_,_,sc,_⟩=>.of (sc _ _ elt)) ?_ ?_
   ·rintro k x σ Hc hx ⟨f,v2,v3,rfl,sc,KL,nb⟩
    have hk:k<L.length:=by
     rw [←hL.1]
     exact (List.getElem?_eq_some_iff.mp hx).1
    obtain ⟨b,rfl,eb⟩:=hL.2 k x L[k] hx (by simp [hk])
    have pk:=ok L[k] (List.getElem_mem hk)
    have tk:L.take (k+1)=L.take k++[L[k]]:=by rw [List.take_succ,List.getElem?_eq_getElem hk];rfl
    generalize L[k]=p at eb pk tk
    obtain ⟨p1,p2⟩:=p
    dsimp only at pk eb
    obtain ⟨i,rfl⟩:=Int.eq_ofNat_of_zero_le pk.1
    obtain ⟨j,rfl⟩:=Int.eq_ofNat_of_zero_le pk.2.2.1
    have hi:i<n:=by omega
    have hj:j<n:=by omega
    refine ⟨b,_,rfl,.of (sc _ _ eb),rfl,_,_,rfl,_,_,rfl,rfl,?_⟩
    obtain ⟨q1,K1⟩:=KL.put hi hj trivial n9
    obtain ⟨q2,K2⟩:=K1.put hj hi trivial n9
    refine ⟨_,rfl,_,rfl,D,_,_,_,rfl,rfl,.of KL.lst,KL.ix hi,_,rfl,_,_,rfl,q1,?_⟩
    refine ⟨_,rfl,_,rfl,D,_,_,_,rfl,rfl,.of K1.lst,K1.ix hj,_,rfl,_,_,rfl,q2,?_⟩
    have off:∀(Hx:Hp) (i:Nat) (o:HO),i<n→ag H Hx→ag H (upd Hx (ds i) o):=fun Hx i o hi sx a u e=>by
     rw [ax (fun z=>by rw [z,fr i hi] at e;cases e)]
     exact sx _ _ e
    exact ⟨_,_,_,rfl,off _ _ _ hj (off _ _ _ hi sc),K2,by rw [tk];exact nb.more hi hj⟩
   ·rintro σ Hc ⟨f,v2,v3,rfl,sc,KL,nb⟩
    rw [hL.1,List.take_length] at nb
    exact ⟨_,rfl,kk _ _ _ _ sc nD fr KL nb⟩
theorem v9:bh ["many"] ["many"] (aT jd):=⟨rfl,rfl,rfl,by decide +kernel,rfl,by decide +kernel,by decide +kernel⟩
theorem v_(T:Txt K mg t):aX P w K mg base bj 1 t.eQ t.fH ["many"] vK:=by
 have S:=v9
 refine T.fX.ok S (fun vs H Q E h=>?_) (fun ay A outer s H vs Q E hr h=>?_)
 ·obtain ⟨m,rfl,_⟩:=h
  rfl
 ·obtain ⟨m,rfl,m1,k⟩:=h
  refine ⟨_,(@aw _ _ _ (@a_ _ _ _ _ (@aA _ _ _ _ _ _ _ _ b7 (@aA _ _ _ _ _ _ _ _ b7 (@aA _ _ _ _ _ _ _ _ b8 (pv 0) (pv 0)) (@aA _ _ _ _ _ _ _ _ b8 aq (pv 0))) aq))),?_⟩
  exact ⟨_,rfl,_,rfl,_,_,rfl,rfl,.inl ⟨by omega,by omega⟩,_,rfl,_,_,rfl,rfl,.inl ⟨by omega,by omega⟩,_,_,rfl,rfl,_,_,rfl,rfl,k⟩
theorem wa:bh ["shape"] ["shape"] (aT je):=⟨rfl,rfl,rfl,by decide +kernel,rfl,by decide +kernel,by decide +kernel⟩
theorem wb(T:Txt K mg t):aX P w K mg base (dv P w) 1 t.eR t.fI ["shape"] vL:=by
 have S:=wa
 obtain ⟨uM,hM,rM⟩:=T.qf
 refine T.fY.nW S (fun vs H Q E h=>?_) (fun ay A outer s H vs Q E hr h L=>?_)
 ·obtain ⟨tp,n,Lk,rfl,_⟩:=h
  rfl
 ·obtain ⟨tp,n,Lk,rfl,⟨lt,us,cB,elt,ki⟩,n9,k⟩:=h
  refine ⟨_,(@aw _ _ _ (@bf _ _ _ _ _ _ _ _ (@aS _ _ _ _ _ _ _ _ gG (@aN _ _ _ _ _ _ _ d0 (pv 0) aq (fun _ _=>rfl)) (rb (v:=.int 9) rfl hM rM) (aR _)) (@aw _ _ _ (ug L rfl PySem.F.excBase_ValueError T.qg rfl T.p_ (@ae _ _ _ _ _ (by rfl) ra ak))) br)),?_⟩
  refine ⟨_,rfl,tp,_,_,_,rfl,rfl,.of cB,rfl,_,_,rfl,rfl,_,rfl,a7 (fun hc=>?_) (fun hc=>?_)⟩
  ·have hc:(9:Int)<(n:Int):=of_decide_eq_true hc
   omega
  ·exact k
theorem wc:bh ["linked","done","place","met","waiting","here","other"] ["linked","done","place"] (aT jf):=⟨rfl,rfl,rfl,by decide +kernel,rfl,by decide +kernel,by decide +kernel⟩
theorem wd(T:Txt K mg t):aX P w K mg base bj 1 t.eS t.fJ ["linked","done","place"] vP:=by
 have S:=wc
 refine T.fZ.ok S (fun vs H Q E h=>?_) (fun ay A outer s H vs Q E hr h=>?_)
 ·obtain ⟨D,d,n,ds,f,done,p,rfl,_⟩:=h
  rfl
 ·obtain ⟨D,d,n,ds,f,done,p,rfl,KL,ed,ld,pn,lC,kk⟩:=h
  have hu:=Nat.lt_of_le_of_lt (Nat.add_le_add_left (show 1≤64 by decide) _) hr.units
  refine ⟨_,(@au _ _ _ _ _ (@aJ _ _ 3 _ _ _ _ (by rfl) (by first | exact .inl rfl | exact .inr rfl | assumption) S.nd rfl (Or.inl rfl) (oW (oT (pv 2) dq oS) rfl rfl (fun h=>by cases h) (by decide)))
   (@au _ _ _ _ _ (@aJ _ _ 4 _ _ _ _ (by rfl) (by first | exact .inl rfl | exact .inr rfl | assumption) S.nd rfl (Or.inl rfl) (@bN _ _ _ _ (@ae _ _ _ _ _ (by rfl) (pv 2) ak)))
   (@au _ _ _ _ _ (@jY _ _ _ _ _ _ PassesOwn.never (@aS _ _ _ _ _ _ _ _ gG (cx eA rfl T.d6 boot_len (@ae _ _ _ _ _ (by rfl) (pv 4) ak)) aq (aR _)) (@au _ _ _ _ _ (@aJ _ _ 5 _ _ _ _ (by rfl) (by first | exact .inl rfl | exact .inr rfl | assumption) S.nd rfl (Or.inl rfl) (nM PySem.F.plainAttrs_list PySem.F.slot_list_pop PySem.F.type_list_pop nO (pv 4)))
   (@aw _ _ _ (cW PassesOwn.never rfl (k_ (@aN _ _ _ _ _ _ _ ba (pv 0) (pv 5) (fun _ _=>rfl))) (bM (i:=6) S.nd rfl (Or.inl rfl))
    (@aw _ _ _ (@bf _ _ _ _ _ _ _ _ (mP (oQ hu (pv 6) (pv 3)) rfl) (@au _ _ _ _ _ (i8 hu (pv 3) (pv 6) dq rfl)
   (@aw _ _ _ (@bf _ _ _ _ _ _ _ _ (@aS _ _ _ _ _ _ _ _ nI (pv 6) (pv 1) rfl) (@aw _ _ _ (cV (dc PySem.F.plainAttrs_list PySem.F.slot_list_append PySem.F.type_list_append de (pv 4) (@ae _ _ _ _ _ (by rfl) (pv 6) ak)))) br))) br))))))
   (@aw _ _ _ (@a_ _ _ _ _ (iU (N:=["other","place","done"]) (ρ:=(fun σ=>[σ[2]?.join,σ[1]?.join])) ⟨rfl,rfl,by decide +kernel,by decide +kernel,(List.forall_mem_cons.mpr ⟨rfl,(List.forall_mem_cons.mpr ⟨rfl,(List.forall_mem_nil _)⟩)⟩),d4 (by rfl),rfl,by decide +kernel,rfl,(fun σ j v h=>match j,h with | 0,h=>⟨2,_,rfl,rfl,join_some h,Or.inr (Or.inl rfl),.inl rfl,.inl rfl⟩ | 1,h=>⟨1,_,rfl,rfl,join_some h,Or.inr (Or.inl rfl),.inl rfl,.inl rfl⟩ | j+2,h=>by cases h),(fun _ _=>rfl)⟩ rfl (k_ (pv 3)) (fun s₃ H₃ fp=>(.one (PW.pt (pw_and (@aS _ _ _ _ _ _ _ _ gF (pv 0) (pv 1) (aR _)) (pw_and1 (@aS _ _ _ _ _ _ _ _ (pb (K:=K)) (pv 0) (pv 2) rfl)))))) (fun s₃ H₃ fp=>(pv 0)))))))),?_⟩
  refine bw (eK fun mt cn=>⟨_,rfl,ao,[((Sum.inl (p:Int):Key),V.bl true)],rfl,by show 1≤15;decide,?_⟩)
  have zS:=cn
  have s0:∀b o,b≠mt→H b=some o→upd (upd H mt (.dK [])) mt (.dK (cM [] [((Sum.inl (p:Int):Key),V.bl true)])) b=some o:=fun b o ne e=>by rw [ax ne,ax ne];exact e
  have em:upd (upd H mt (.dK [])) mt (.dK (cM [] [((Sum.inl (p:Int):Key),V.bl true)])) mt=some (.dK (dk [p])):=by rw [ao];rfl
  generalize upd (upd H mt (.dK [])) mt (.dK (cM [] [((Sum.inl (p:Int):Key),V.bl true)]))=H1 at s0 em ⊢
  have sm:ag H H1:=fun b o e=>s0 b o (fun z=>by rw [z,cn] at e;cases e) e
  dsimp only [aF]
  refine ⟨_,rfl,by show 1≤sizeLine;decide,fun l nl=>?_⟩
  have sl:ag H1 (upd H1 l (.lst [V.int (p:Int)])):=aV nl
  have el:upd H1 l (.lst [V.int (p:Int)]) l=some (.lst (([p]:List Nat).map fun k:Nat=>V.int (k:Int))):=ao
  generalize upd H1 l (.lst [V.int (p:Int)])=H2 at sl el ⊢
  have dh:H l=none:=none_of sm nl
  have lm:l≠mt:=fun z=>by rw [z,em] at nl;cases nl
  have s2:=sm.trans sl
  have mD:mt≠D:=fun z=>absurd KL.lst (by rw [←z,cn];exact fun h=>by cases h)
  have lD:l≠D:=fun z=>absurd KL.lst (by rw [←z,dh];exact fun h=>by cases h)
  have lE:∀i,i<n→ds i≠mt:=fun i hi z=>absurd (KL.at' i hi trivial) (by rw [z,cn];exact fun h=>by cases h)
  have jv:∀i,i<n→ds i≠l:=fun i hi z=>absurd (KL.at' i hi trivial) (by rw [z,dh];exact fun h=>by cases h)
  have qh:∀i,i<n→d≠ds i:=fun i hi z=>absurd (KL.at' i hi trivial) (by rw [←z,ed];exact fun h=>by cases h)
  dsimp only [aF]
  refine bw ⟨fun m σ Hc=>∃(ks ws:List Nat) (v5 v6:Option V),σ=[some (.ref D),some (.ref d),some (.int (p:Int)),some (.ref mt),some (.ref l),v5,v6]∧m=2*(n-ks.length)+ws.length∧eN n ds H Hc∧dG Hc D n ds f∧Hc mt=some (.dK (dk ks))∧Hc l=some (.lst (ws.map fun k:Nat=>V.int (k:Int)))∧aW n (cj n f) (·∈done) p none (fun _=>True) ks ws∧ws.length≤ks.length,⟨_,[p],[p],_,_,rfl,rfl,fun b o e _=>s2 _ _ e,(KL.mono s2).fr,sl _ _ em,el,aW.start pn,Nat.le_refl _⟩,?_⟩
  rintro m' σ Hc ⟨ks,ws,v5,v6,rfl,we,oc,Kc,hE,dJ,wk,wl⟩
  have lF:=wk.pl.len
  refine ⟨_,rfl,l,_,rfl,.inl (.of dJ),_,_,rfl,rfl,_,rfl,a7 (fun hb=>?_) (fun hb=>?_)⟩
  ·have hb:(0:Int)<((ws.map fun k:Nat=>V.int (k:Int)).length:Int):=of_decide_eq_true hb
   rw [List.length_map] at hb
   have hG:ws≠[]:=fun z=>by rw [z] at hb;simp at hb
   obtain ⟨us,h,rfl⟩:∃us h,ws=us++[h]:=⟨ws.dropLast,ws.getLast hG,(List.dropLast_concat_getLast hG).symm⟩
   have wg:(us++[h]).length=us.length+1:=by simp
   have hh:=wk.wt h (List.mem_append_right _ (List.mem_singleton.mpr rfl))
   have hn:h<n:=wk.pl.2 h hh.1
   have cO:=wk.pop
   refine ⟨_,fun _ _ h=>h,?_⟩
   refine ⟨_,rfl,.inl ⟨rfl,_,.of dJ⟩,l,_,.int (h:Int),rfl,rfl,dJ,by simp,?_⟩
   rw [List.map_append,List.map_cons,List.map_nil,List.dropLast_concat]
   have o1:∀b u,b≠l→Hc b=some u→upd Hc l (.lst (us.map fun k:Nat=>V.int (k:Int))) b=some u:=fun b u ne e=>by rw [ax ne];exact e
   have hI:upd Hc l (.lst (us.map fun k:Nat=>V.int (k:Int))) l=some (.lst (us.map fun k:Nat=>V.int (k:Int))):=ao
   have hJ:∀{Hx Hy:Hp},eN n ds H Hx→(∀b u,b≠l→Hx b=some u→Hy b=some u)→eN n ds H Hy:=fun h k b u e ne=>k b u (fun z=>by rw [z,dh] at e;cases e) (h b u e ne)
   have lG:∀{Hx Hy:Hp},eN n ds H Hx→(∀b u,b≠mt→Hx b=some u→Hy b=some u)→eN n ds H Hy:=fun h k b u e ne=>k b u (fun z=>by rw [z,cn] at e;cases e) (h b u e ne)
   have K1:=Kc.keep o1 lD jv
   have fh:=hJ oc o1
   have hT:=o1 _ _ (Ne.symm lm) hE
   generalize upd Hc l (.lst (us.map fun k:Nat=>V.int (k:Int)))=H3 at o1 hI K1 fh hT ⊢
   dsimp only [aF]
   refine lg (a:=ds h) (kvs:=dk (f h)) (fun Q q=>⟨_,rfl,_,rfl,D,_,_,_,rfl,rfl,.of K1.lst,ja hn,q⟩) (K1.at' h hn) fun ob Hf gq off=>?_
   have Kf:=K1.aB off hn gq KL.inj (KL.ne h hn)
   have wj:eN n ds H Hf:=fun b u e ne=>off b u (ne h hn) (fh b u e ne)
   have wm:=off _ _ (Ne.symm (lE h hn)) hT
   have wo:=off _ _ (Ne.symm (jv h hn)) hI
   refine vQ (fun i σ He=>∃(ks us:List Nat) (v6:Option V),σ=[some (.ref D),some (.ref d),some (.int (p:Int)),some (.ref mt),some (.ref l),some (.int (h:Int)),v6]∧eN n ds H He∧dG He D n ds f∧He (ds h)=some (.aB ob (.dK (dk (f h))))∧He mt=some (.dK (dk ks))∧He l=some (.lst (us.map fun k:Nat=>V.int (k:Int)))∧aW n (cj n f) (·∈done) p (some h) (·∈(f h).take i) ks us∧us.length≤ks.length∧h∈ks∧2*(n-ks.length)+us.length<m') ⟨ks,us,_,rfl,wj,Kf,gq,wm,wo,⟨cO.pl,cO.st,cO.rc,cO.wt,fun x hx ox=>(cO.cl x hx ox).imp id fun e b hb=>(e b hb).imp id fun z=>⟨z.1,by simp⟩⟩,by omega,hh.1,by omega⟩ (fun i σ He _ ⟨_,_,_,_,_,_,e,_⟩=>e) ?_ ?_
   ·rintro i k σ He hk ⟨ks,us,v6,rfl,oe,Ke,lH,cP,dM,bC,ul,cp,lt⟩
    have km:k∈f h:=List.mem_of_getElem? hk
    have kn:k<n:=(KL.pl h hn).2 k km
    have tk:=take_snoc hk
    have wq:=bC.pl.len
    dsimp only [aF]
    refine ⟨_,rfl,_,rfl,mt,_,rfl,.inl ⟨dk ks,Sum.inl (k:Int),.inl cP,rfl,rfl⟩,_,rfl,?_⟩
    rw [o6]
    by_cases cq:k∈ks
    ·rw [if_pos cq]
     refine gR ⟨ks,us,_,rfl,oe,Ke,lH,cP,dM,?_,ul,cp,lt⟩
     have w2:=bC.old cq
     refine ⟨w2.pl,w2.st,w2.rc,w2.wt,fun x hx ox=>(w2.cl x hx ox).imp id fun e b hb=>(e b hb).imp id fun z=>⟨z.1,fun q=>z.2 ?_⟩⟩
     rw [tk] at q
     exact (List.mem_append.mp q).imp id List.mem_singleton.mp
    ·rw [if_neg cq]
     refine kx ?_
     have al:=o_ cq
     have o4:∀b u,b≠mt→He b=some u→upd He mt (.dK (dk (aD ks k))) b=some u:=fun b u ne e=>by rw [ax ne];exact e
     refine bw ⟨_,rfl,_,rfl,mt,upd He mt (.dK (dk (aD ks k))),rfl,.inl ⟨dk ks,Sum.inl (k:Int),cP,rfl,by rw [g_];exact bt (by omega),by rw [lb]⟩,?_⟩
     have fi:upd He mt (.dK (dk (aD ks k))) mt=some (.dK (dk (aD ks k))):=ao
     have K4:=Ke.keep o4 mD lE
     have dN:=lG oe o4
     have dO:=o4 _ _ lm dM
     have lI:=o4 _ _ (lE h hn) lH
     generalize upd He mt (.dK (dk (aD ks k)))=H4 at o4 fi K4 dN dO lI ⊢
     have conv:∀{vs:List Nat},aW n (cj n f) (·∈done) p (some h) (fun x=>x∈(f h).take i∨x=k) (aD ks k) vs→aW n (cj n f) (·∈done) p (some h) (·∈(f h).take (i+1)) (aD ks k) vs:=fun w2=>⟨w2.pl,w2.st,w2.rc,w2.wt,fun x hx ox=>(w2.cl x hx ox).imp id fun e b hb=>(e b hb).imp id fun z=>⟨z.1,fun q=>z.2 (by
      rw [tk] at q
      exact (List.mem_append.mp q).imp id List.mem_singleton.mp)⟩⟩
     have wu:=(bC.pl.add kn).len
     dsimp only
     refine ⟨_,rfl,_,rfl,d,_,rfl,.inr (.of (dN d _ ed qh)),rfl,jb done,_,rfl,a7 (fun hb=>?_) (fun hb=>?_)⟩
     ·have hb:cy (.int (k:Int)) (done.map fun k:Nat=>V.int (k:Int))=true:=hb
      rw [fE,decide_eq_true_iff] at hb
      refine ⟨_,rfl,.inl ⟨rfl,_,.of dO⟩,_,rfl,l,_,_,rfl,rfl,dO,bt (by rw [List.length_map];omega),?_⟩
      have o5:∀b u,b≠l→H4 b=some u→upd H4 l (.lst ((us.map fun k:Nat=>V.int (k:Int))++[V.int (k:Int)])) b=some u:=fun b u ne e=>by rw [ax ne];exact e
      exact ⟨aD ks k,us++[k],_,rfl,hJ dN o5,K4.keep o5 lD jv,o5 _ _ (jv h hn) lI,o5 _ _ (Ne.symm lm) fi,by rw [ao,List.map_append];rfl,conv (bC.new cq kn cp hh.2 ⟨hn,km⟩ (.inl ⟨hb,rfl⟩)),by rw [al,List.length_append,List.length_singleton];omega,bU.mpr (.inl cp),by rw [al,List.length_append,List.length_singleton];omega⟩
     ·have hb:¬cy (.int (k:Int)) (done.map fun k:Nat=>V.int (k:Int))=true:=hb
      rw [fE,decide_eq_true_iff] at hb
      exact ⟨aD ks k,us,_,rfl,dN,K4,lI,fi,dO,conv (bC.new cq kn cp hh.2 ⟨hn,km⟩ (.inr ⟨hb,rfl⟩)),by rw [al];omega,bU.mpr (.inl cp),by rw [al];omega⟩
   ·rintro σ He ⟨ks,us,v6,rfl,oe,Ke,lH,cP,dM,bC,ul,cp,lt⟩
    rw [List.take_length] at bC
    exact ⟨_,lt,ks,us,_,_,rfl,rfl,oe,Ke,cP,dM,bC.next fun b hb=>hb.2,ul⟩
  ·have w0:ws=[]:=by
    cases ws with
    | nil=>rfl
    | cons x r=>
     refine absurd (decide_eq_true ?_) hb
     show (0:Int)<_
     simp
   subst w0
   dsimp only
   refine uS (o9 (lg (a:=mt) (kvs:=dk ks) (fun Q q=>⟨_,rfl,q⟩) (.inl hE) fun ob Hf gq off=>?_))
   have lJ:Hf d=some (.tup (done.map fun k:Nat=>V.int (k:Int))):=off _ _ (fun z=>by rw [z,cn] at ed;cases ed) (oc d _ ed qh)
   refine o8 gq (fun q=>!decide (q=p) && !decide (q∈done)) (bt (by omega)) ?_ ?_ ?_
   ·intro q hq Hx R sx hR
    refine ⟨_,rfl,_,rfl,rfl,_,rfl,a7 (fun hb=>?_) (fun hb=>?_)⟩
    ·have ne:¬q=p:=fun z=>by
      subst z
      rw [gY,decide_eq_true rfl] at hb
      cases hb
     refine ⟨_,rfl,_,rfl,d,_,rfl,.inr (.of (sx _ _ lJ)),rfl,jb done,_,rfl,?_⟩
     rw [decide_eq_false ne,Bool.not_false,Bool.true_and] at hR
     have e:(if true=true then !cy (.int (q:Int)) (done.map fun k:Nat=>V.int (k:Int)) else cy (.int (q:Int)) (done.map fun k:Nat=>V.int (k:Int))) = !decide (q∈done):=by rw [if_pos rfl,fE]
     rw [e]
     exact hR
    ·have eq:q=p:=by
      by_cases z:(q:Int)=(p:Int)
      ·omega
      ·exact absurd (by rw [gY,decide_eq_false z];rfl) hb
     rw [decide_eq_true eq,Bool.not_true,Bool.false_and] at hR
     exact hR
   ·intro q hq Hx R hR
    exact ⟨_,rfl,hR⟩
   ·intro r Hg nr sg eg
    refine kk Hg r _ (fun b u e ne=>sg _ _ (off _ _ (fun z=>by rw [z,cn] at e;cases e) (oc b u e ne))) eg ⟨ks,wk.pl,wk.done,by rw [List.length_map]⟩
theorem wx:bh ["shape","done","place"] ["shape","done","place"] (aT jg):=⟨rfl,rfl,rfl,by decide +kernel,rfl,by decide +kernel,by decide +kernel⟩
theorem wy(T:Txt K mg t):aX P w K mg base (dv P w) 2 t.eT t.fK ["shape","done","place"] vS:=by
 have S:=wx
 have wz:=wb (P:=P) (w:=w) (base:=base) T
 have wA:=vZ (P:=P) (w:=w) (base:=base) T
 have wB:=wd (P:=P) (w:=w) (base:=base) T
 have wC:=v_ (P:=P) (w:=w) (base:=base) T
 refine T.f9.nW S (fun vs H Q E h=>?_) (fun ay A outer s H vs Q E hr h L=>?_)
 ·obtain ⟨tp,d,n,Lk,done,p,rfl,_⟩:=h
  rfl
 ·obtain ⟨tp,d,n,Lk,done,p,rfl,hS,hL,n9,ed,ld,pn,kk⟩:=h
  refine ⟨_,(@au _ _ _ _ _ (cV (aU wz (hr.mono (by decide)) rfl T.pD T.fY.kp T.pC .nil (t_ L) (@ae _ _ _ _ _ (by rfl) (pv 0) ak)))
   (@aw _ _ _ (@a_ _ _ _ _ (aU wC (hr.mono (by decide)) rfl T.pB T.fX.kp T.pA .nil aY (@ae _ _ _ _ _ (by rfl) (cx eA rfl T.d6 boot_len (@ae _ _ _ _ _ (by rfl) (aU wB (hr.mono (by decide)) rfl T.pF T.fZ.kp T.pE .nil aY (@ae _ _ _ _ _ (by rfl) (aU wA (hr.mono (by decide)) rfl T.pz T.fW.kp T.pq .nil aY (@ae _ _ _ _ _ (by rfl) (pv 0) ak)) (@ae _ _ _ _ _ (by rfl) (pv 1) (@ae _ _ _ _ _ (by rfl) (pv 2) ak)))) ak)) ak))))),?_⟩
  refine ⟨_,rfl,tp,n,Lk,rfl,hS,n9,?_⟩
  refine ⟨_,rfl,tp,n,Lk,rfl,hS,hL,by omega,fun H1 D ds f s1 nD wD KL nb=>?_⟩
  refine ⟨_,rfl,_,rfl,D,d,n,ds,f,done,p,rfl,KL,s1 _ _ ed,ld,pn,by omega,fun H2 r xs off er near=>?_⟩
  have s2:ag H H2:=fun b u e=>off b u (s1 _ _ e) fun i hi z=>by rw [z,wD i hi] at e;cases e
  have c9:=near.le
  exact ⟨r,xs,rfl,.inl (.of er),xs.length,rfl,by omega,kk H2 f xs.length s2 nb near⟩
theorem wF:bh ["_law_shape","_law_found","_law_i","_law_j"] ["_law_shape"] (aT jq):=⟨rfl,rfl,rfl,by decide +kernel,rfl,by decide +kernel,by decide +kernel⟩
theorem wG(T:Txt K mg t):aX P w K mg base bj 1 t.e9 t.fS ["_law_shape"] vT:=by
 have S:=wF
 refine T.gh.ok S (fun vs H Q E h=>?_) (fun ay A outer s H vs Q E hr h=>?_)
 ·obtain ⟨tp,n,L,rfl,_⟩:=h
  rfl
 ·obtain ⟨tp,n,L,rfl,⟨lt,us,cB,elt,hL⟩,ok,n9,l2,kk⟩:=h
  have lB:((List.range n).map fun i:Nat=>V.int (0+(i:Int))).length=n:=by rw [List.length_map,List.length_range]
  refine ⟨_,(@au _ _ _ _ _ (iX (i0:=1) (N:=["_law_k"]) (ρ:=(fun σ=>[])) ⟨rfl,rfl,by decide +kernel,by decide +kernel,(List.forall_mem_nil _),d4 (by rfl),rfl,by decide +kernel,rfl,(fun σ j v h=>match j,h with | j,h=>by cases h),(fun _ _=>rfl)⟩ rfl S.nd rfl (Or.inl rfl) (dW rfl T.cN (@ae _ _ _ _ _ (by rfl) (@aN _ _ _ _ _ _ _ d0 (pv 0) aq (fun _ _=>rfl)) ak)) (fun s₃ H₃ fp=>.nil) (fun s₃ H₃ fp=>(@bN _ _ _ _ ak)))
   (@au _ _ _ _ _ (cW PassesOwn.never rfl (mT (@aN _ _ _ _ _ _ _ d0 (pv 0) aq (fun _ _=>rfl))) (jV rfl (fq (bM (i:=2) S.nd rfl (Or.inl rfl)) (fq (bM (i:=3) S.nd rfl (Or.inl rfl)) jU)))
    (@au _ _ _ _ _ (cV (dc PySem.F.plainAttrs_list PySem.F.slot_list_append PySem.F.type_list_append de (@aN _ _ _ _ _ _ _ ba (pv 1) (pv 2) (fun _ _=>rfl)) (@ae _ _ _ _ _ (by rfl) (pv 3) ak)))
   (@aw _ _ _ (cV (dc PySem.F.plainAttrs_list PySem.F.slot_list_append PySem.F.type_list_append de (@aN _ _ _ _ _ _ _ ba (pv 1) (pv 3) (fun _ _=>rfl)) (@ae _ _ _ _ _ (by rfl) (pv 2) ak))))))
   (@aw _ _ _ (@a_ _ _ _ _ (pv 1))))),?_⟩
  refine bw (eK (ou (xs:=(List.range n).map fun i:Nat=>V.int (0+(i:Int))) (n:=n) lB (fun R h=>⟨_,rfl,tp,_,_,_,rfl,rfl,.of cB,rfl,(n:Int),rfl,by omega,by omega,h _ _ (ag.refl _) (by rw [Int.toNat_natCast];exact oo)⟩) (bt (by omega)) (fun _ i y Hx=>Hx y=some (.lst [])∧H y=none) ?_ ?_ ?_))
  ·intro D i y Ha Hb ys ⟨h1,h2⟩ hy e f
   exact ⟨f y _ hy h1,h2⟩
  ·intro D i x hx Hc R sc _ kc
   exact ⟨Nat.zero_le _,fun p np=>kc p _ (dB (ag.refl _) np) np ⟨_,ao⟩ ⟨ao,none_of sc np⟩⟩
  ·intro D rs H1 nD s1 inj hA eD
   have K0:dI H1 D n rs (fun _=>[]):=⟨eD,inj,fun i hi=>(hA i hi).2,fun i hi=>(hA i hi).1.1⟩
   have fr:∀i,i<n→H (rs i)=none:=fun i hi=>(hA i hi).1.2
   dsimp only [aF]
   refine bw ⟨_,rfl,tp,_,_,_,rfl,rfl,.of (s1 _ _ cB),rfl,lt,rfl,⟨_,.of (s1 _ _ elt)⟩,?_⟩
   refine mY (K:=K) (a:=lt) (xs:=us) (fun k σ Hc=>∃(g:Nat→List Nat) (v2 v3:Option V),σ=[some (.ref tp),some (.ref D),v2,v3]∧ag H Hc∧dI Hc D n rs g∧bA n (L.take k) g∧∀a,(g a).length≤2*k) ⟨_,_,_,rfl,s1,K0,bA.nil n,fun _=>Nat.le_refl _⟩ (fun k σ Hc _ ⟨_,_,_,_,sc,_⟩=>.of (sc _ _ elt)) ?_ ?_
   ·rintro k x σ Hc hx ⟨g,v2,v3,rfl,sc,KL,nb,gl⟩
    have hk:k<L.length:=by
     rw [←hL.1]
     exact (List.getElem?_eq_some_iff.mp hx).1
    obtain ⟨b,rfl,eb⟩:=hL.2 k x L[k] hx (by simp [hk])
    have pk:=ok L[k] (List.getElem_mem hk)
    have tk:L.take (k+1)=L.take k++[L[k]]:=by rw [List.take_succ,List.getElem?_eq_getElem hk];rfl
    generalize L[k]=p at eb pk tk
    obtain ⟨p1,p2⟩:=p
    dsimp only at pk eb
    obtain ⟨i,rfl⟩:=Int.eq_ofNat_of_zero_le pk.1
    obtain ⟨j,rfl⟩:=Int.eq_ofNat_of_zero_le pk.2.2.1
    have hi:i<n:=by omega
    have hj:j<n:=by omega
    refine ⟨b,_,rfl,.of (sc _ _ eb),rfl,_,_,rfl,_,_,rfl,rfl,?_⟩
    have off:∀(Hx:Hp) (i:Nat) (o:HO),i<n→ag H Hx→ag H (upd Hx (rs i) o):=fun Hx i o hi sx a u e=>by
     rw [ax (fun z=>by rw [z,fr i hi] at e;cases e)]
     exact sx _ _ e
    have K1:=KL.snoc j hi
    have K2:=K1.snoc i hj
    have g1:=gl i
    have g2:(dH g i j j).length≤2*k+1:=Nat.le_trans lh (by have:=gl j;omega)
    refine ⟨_,rfl,_,rfl,D,_,_,_,rfl,rfl,.of KL.lst,ja hi,.inl ⟨rfl,_,.of (KL.at' i hi)⟩,_,rfl,rs i,_,_,rfl,rfl,KL.at' i hi,bt (by rw [List.length_map];omega),?_⟩
    refine ⟨_,rfl,_,rfl,D,_,_,_,rfl,rfl,.of K1.lst,ja hj,.inl ⟨rfl,_,.of (K1.at' j hj)⟩,_,rfl,rs j,_,_,rfl,rfl,K1.at' j hj,bt (by rw [List.length_map];omega),?_⟩
    exact ⟨_,_,_,rfl,off _ _ _ hj (off _ _ _ hi sc),K2,by rw [tk];exact nb.snoc,fun a=>Nat.le_trans lh (by have:=lh (g:=g) (i:=i) (j:=j) (a:=a);have:=gl a;omega)⟩
   ·rintro σ Hc ⟨g,v2,v3,rfl,sc,KL,nb,_⟩
    rw [hL.1,List.take_length] at nb
    exact ⟨_,rfl,kk _ _ _ _ sc nD fr KL nb⟩
theorem wH:bh ["_law_beside_here","_law_through","_law_start","_law_met","_law_row","_law_other"] ["_law_beside_here","_law_through","_law_start"] (aT jr):=⟨rfl,rfl,rfl,by decide +kernel,rfl,by decide +kernel,by decide +kernel⟩
theorem wI(T:Txt K mg t):aX P w K mg base bj 1 t.e_ t.fT ["_law_beside_here","_law_through","_law_start"] vU:=by
 have S:=wH
 refine T.gk.ok S (fun vs H Q E h=>?_) (fun ay A outer s H vs Q E hr h=>?_)
 ·obtain ⟨D,d,n,rs,g,done,p,rfl,_⟩:=h
  rfl
 ·obtain ⟨D,d,n,rs,g,done,p,rfl,KL,gn,ed,ld,pn,lC,kk⟩:=h
  have hu:=Nat.lt_of_le_of_lt (Nat.add_le_add_left (show 1≤64 by decide) _) hr.units
  have hU:=hr.units
  refine ⟨_,(@au _ _ _ _ _ (@aJ _ _ 3 _ _ _ _ (by rfl) (by first | exact .inl rfl | exact .inr rfl | assumption) S.nd rfl (Or.inl rfl) (oW (oT (pv 2) dq oS) rfl rfl (fun h=>by cases h) (by decide)))
   (@au _ _ _ _ _ (@aJ _ _ 4 _ _ _ _ (by rfl) (by first | exact .inl rfl | exact .inr rfl | assumption) S.nd rfl (Or.inl rfl) (@bN _ _ _ _ (@ae _ _ _ _ _ (by rfl) (pv 2) ak)))
   (@au _ _ _ _ _ (@jY _ _ _ _ _ _ PassesOwn.never (@aS _ _ _ _ _ _ _ _ (oF hU) (pv 4) (@bN _ _ _ _ ak) (aR _)) (@aw _ _ _ (cW PassesOwn.never rfl (iA (@aN _ _ _ _ _ _ _ ba (pv 0) (nM PySem.F.plainAttrs_list PySem.F.slot_list_pop PySem.F.type_list_pop nO (pv 4)) (fun _ _=>rfl))) (bM (i:=5) S.nd rfl (Or.inl rfl))
    (@aw _ _ _ (@bf _ _ _ _ _ _ _ _ (mP (oQ hu (pv 5) (pv 3)) rfl) (@au _ _ _ _ _ (i8 hu (pv 3) (pv 5) dq rfl)
   (@aw _ _ _ (@bf _ _ _ _ _ _ _ _ (@aS _ _ _ _ _ _ _ _ nI (pv 5) (pv 1) rfl) (@aw _ _ _ (cV (dc PySem.F.plainAttrs_list PySem.F.slot_list_append PySem.F.type_list_append de (pv 4) (@ae _ _ _ _ _ (by rfl) (pv 5) ak)))) br))) br)))))
   (@aw _ _ _ (@a_ _ _ _ _ (pv 3)))))),?_⟩
  refine bw (eK fun mt cn=>⟨_,rfl,ao,[((Sum.inl (p:Int):Key),V.bl true)],rfl,by show 1≤15;decide,?_⟩)
  have s0:∀b o,b≠mt→H b=some o→upd (upd H mt (.dK [])) mt (.dK (cM [] [((Sum.inl (p:Int):Key),V.bl true)])) b=some o:=fun b o ne e=>by rw [ax ne,ax ne];exact e
  have em:upd (upd H mt (.dK [])) mt (.dK (cM [] [((Sum.inl (p:Int):Key),V.bl true)])) mt=some (.dK (dk [p])):=by rw [ao];rfl
  generalize upd (upd H mt (.dK [])) mt (.dK (cM [] [((Sum.inl (p:Int):Key),V.bl true)]))=H1 at s0 em ⊢
  have sm:ag H H1:=fun b o e=>s0 b o (fun z=>by rw [z,cn] at e;cases e) e
  dsimp only [aF]
  refine ⟨_,rfl,by show 1≤sizeLine;decide,fun l nl=>?_⟩
  have sl:ag H1 (upd H1 l (.lst [V.int (p:Int)])):=aV nl
  have el:upd H1 l (.lst [V.int (p:Int)]) l=some (.lst (([p]:List Nat).map fun k:Nat=>V.int (k:Int))):=ao
  generalize upd H1 l (.lst [V.int (p:Int)])=H2 at sl el ⊢
  have dh:H l=none:=none_of sm nl
  have lm:l≠mt:=fun z=>by rw [z,em] at nl;cases nl
  have s2:=sm.trans sl
  dsimp only [aF]
  refine bw ⟨fun m σ Hc=>∃(ks ws:List Nat) (v5:Option V),σ=[some (.ref D),some (.ref d),some (.int (p:Int)),some (.ref mt),some (.ref l),v5]∧m=2*(n-ks.length)+ws.length∧ag H Hc∧Hc mt=some (.dK (dk ks))∧Hc l=some (.lst (ws.map fun k:Nat=>V.int (k:Int)))∧aW n (cj n g) (·∈done) p none (fun _=>True) ks ws∧ws.length≤ks.length,⟨_,[p],[p],_,rfl,rfl,s2,sl _ _ em,el,aW.start pn,Nat.le_refl _⟩,?_⟩
  rintro m' σ Hc ⟨ks,ws,v5,rfl,we,oc,hE,dJ,wk,wl⟩
  have lF:=wk.pl.len
  refine ⟨_,rfl,by show 0≤sizeLine;decide,fun le lK=>?_⟩
  have s3:ag Hc (upd Hc le (.lst [])):=aV lK
  have e3:upd Hc le (.lst []) le=some (.lst []):=ao
  generalize upd Hc le (.lst [])=Hn at s3 e3 ⊢
  refine ⟨l,le,_,rfl,rfl,.of (s3 _ _ dJ),e3,_,rfl,a7 (fun hz=>?_) (fun hz=>?_)⟩
  ·have hG:ws≠[]:=fun z=>by rw [z] at hz;cases hz
   obtain ⟨us,h,rfl⟩:∃us h,ws=us++[h]:=⟨ws.dropLast,ws.getLast hG,(List.dropLast_concat_getLast hG).symm⟩
   have wg:(us++[h]).length=us.length+1:=by simp
   have hh:=wk.wt h (List.mem_append_right _ (List.mem_singleton.mpr rfl))
   have hn:h<n:=wk.pl.2 h hh.1
   have cO:=wk.pop
   refine ⟨_,fun _ _ h=>h,?_⟩
   refine ⟨_,rfl,_,rfl,.inl ⟨rfl,_,.of (s3 _ _ dJ)⟩,l,_,.int (h:Int),rfl,rfl,s3 _ _ dJ,by simp,?_⟩
   rw [List.map_append,List.map_cons,List.map_nil,List.dropLast_concat]
   have sn:=oc.trans s3
   have o1:∀b u,b≠l→Hn b=some u→upd Hn l (.lst (us.map fun k:Nat=>V.int (k:Int))) b=some u:=fun b u ne e=>by rw [ax ne];exact e
   have hI:upd Hn l (.lst (us.map fun k:Nat=>V.int (k:Int))) l=some (.lst (us.map fun k:Nat=>V.int (k:Int))):=ao
   have hJ:∀{Hx Hy:Hp},ag H Hx→(∀b u,b≠l→Hx b=some u→Hy b=some u)→ag H Hy:=fun h k b u e=>k b u (fun z=>by rw [z,dh] at e;cases e) (h b u e)
   have lG:∀{Hx Hy:Hp},ag H Hx→(∀b u,b≠mt→Hx b=some u→Hy b=some u)→ag H Hy:=fun h k b u e=>k b u (fun z=>by rw [z,cn] at e;cases e) (h b u e)
   have fh:=hJ sn o1
   have hT:=o1 _ _ (Ne.symm lm) (s3 _ _ hE)
   generalize upd Hn l (.lst (us.map fun k:Nat=>V.int (k:Int)))=H3 at o1 hI fh hT ⊢
   refine ⟨D,_,_,_,rfl,rfl,.of (fh _ _ KL.lst),ja hn,rs h,rfl,⟨_,.of (fh _ _ (KL.at' h hn))⟩,?_⟩
   refine mX (K:=K) (a:=rs h) (xs:=(g h).map fun k:Nat=>V.int (k:Int)) (fun i σ He=>∃(ks us:List Nat) (v5:Option V),σ=[some (.ref D),some (.ref d),some (.int (p:Int)),some (.ref mt),some (.ref l),v5]∧ag H He∧He mt=some (.dK (dk ks))∧He l=some (.lst (us.map fun k:Nat=>V.int (k:Int)))∧aW n (cj n g) (·∈done) p (some h) (·∈(g h).take i) ks us∧us.length≤ks.length∧h∈ks∧2*(n-ks.length)+us.length<m') ⟨ks,us,_,rfl,fh,hT,hI,⟨cO.pl,cO.st,cO.rc,cO.wt,fun x hx ox=>(cO.cl x hx ox).imp id fun e b hb=>(e b hb).imp id fun z=>⟨z.1,by simp⟩⟩,by omega,hh.1,by omega⟩ (fun i σ He _ ⟨_,_,_,_,e,_⟩=>.of (e _ _ (KL.at' h hn))) ?_ ?_
   ·rintro i x σ He hx ⟨ks,us,v5,rfl,oe,cP,dM,bC,ul,cp,lt⟩
    obtain ⟨k,hk,rfl⟩:∃k:Nat,(g h)[i]?=some k∧x=.int (k:Int):=by
     rw [List.getElem?_map] at hx
     cases e:(g h)[i]? with
     | none=>rw [e] at hx;cases hx
     | some q=>rw [e] at hx;exact ⟨q,rfl,(Option.some.inj hx).symm⟩
    have km:k∈g h:=List.mem_of_getElem? hk
    have kn:k<n:=gn h hn k km
    have tk:=take_snoc hk
    have wq:=bC.pl.len
    dsimp only [aF]
    refine ⟨_,rfl,_,rfl,mt,_,rfl,.inl ⟨dk ks,Sum.inl (k:Int),.inl cP,rfl,rfl⟩,_,rfl,?_⟩
    rw [o6]
    by_cases cq:k∈ks
    ·rw [if_pos cq]
     refine gR ⟨ks,us,_,rfl,oe,cP,dM,?_,ul,cp,lt⟩
     have w2:=bC.old cq
     refine ⟨w2.pl,w2.st,w2.rc,w2.wt,fun x hx ox=>(w2.cl x hx ox).imp id fun e b hb=>(e b hb).imp id fun z=>⟨z.1,fun q=>z.2 ?_⟩⟩
     rw [tk] at q
     exact (List.mem_append.mp q).imp id List.mem_singleton.mp
    ·rw [if_neg cq]
     refine kx ?_
     have al:=o_ cq
     have o4:∀b u,b≠mt→He b=some u→upd He mt (.dK (dk (aD ks k))) b=some u:=fun b u ne e=>by rw [ax ne];exact e
     refine bw ⟨_,rfl,_,rfl,mt,upd He mt (.dK (dk (aD ks k))),rfl,.inl ⟨dk ks,Sum.inl (k:Int),cP,rfl,by rw [g_];exact bt (by omega),by rw [lb]⟩,?_⟩
     have fi:upd He mt (.dK (dk (aD ks k))) mt=some (.dK (dk (aD ks k))):=ao
     have dN:=lG oe o4
     have dO:=o4 _ _ lm dM
     generalize upd He mt (.dK (dk (aD ks k)))=H4 at o4 fi dN dO ⊢
     have conv:∀{vs:List Nat},aW n (cj n g) (·∈done) p (some h) (fun x=>x∈(g h).take i∨x=k) (aD ks k) vs→aW n (cj n g) (·∈done) p (some h) (·∈(g h).take (i+1)) (aD ks k) vs:=fun w2=>⟨w2.pl,w2.st,w2.rc,w2.wt,fun x hx ox=>(w2.cl x hx ox).imp id fun e b hb=>(e b hb).imp id fun z=>⟨z.1,fun q=>z.2 (by
      rw [tk] at q
      exact (List.mem_append.mp q).imp id List.mem_singleton.mp)⟩⟩
     have wu:=(bC.pl.add kn).len
     dsimp only
     refine ⟨_,rfl,_,rfl,d,_,rfl,.inl (.of (dN _ _ ed)),rfl,jb done,_,rfl,a7 (fun hb=>?_) (fun hb=>?_)⟩
     ·have hb:cy (.int (k:Int)) (done.map fun k:Nat=>V.int (k:Int))=true:=hb
      rw [fE,decide_eq_true_iff] at hb
      refine ⟨_,rfl,.inl ⟨rfl,_,.of dO⟩,_,rfl,l,_,_,rfl,rfl,dO,bt (by rw [List.length_map];omega),?_⟩
      have o5:∀b u,b≠l→H4 b=some u→upd H4 l (.lst ((us.map fun k:Nat=>V.int (k:Int))++[V.int (k:Int)])) b=some u:=fun b u ne e=>by rw [ax ne];exact e
      exact ⟨aD ks k,us++[k],_,rfl,hJ dN o5,o5 _ _ (Ne.symm lm) fi,by rw [ao,List.map_append];rfl,conv (bC.new cq kn cp hh.2 ⟨hn,km⟩ (.inl ⟨hb,rfl⟩)),by rw [al,List.length_append,List.length_singleton];omega,bU.mpr (.inl cp),by rw [al,List.length_append,List.length_singleton];omega⟩
     ·have hb:¬cy (.int (k:Int)) (done.map fun k:Nat=>V.int (k:Int))=true:=hb
      rw [fE,decide_eq_true_iff] at hb
      exact ⟨aD ks k,us,_,rfl,dN,fi,dO,conv (bC.new cq kn cp hh.2 ⟨hn,km⟩ (.inr ⟨hb,rfl⟩)),by rw [al];omega,bU.mpr (.inl cp),by rw [al];omega⟩
   ·rintro σ He ⟨ks,us,v5,rfl,oe,cP,dM,bC,ul,cp,lt⟩
    rw [List.length_map,List.take_length] at bC
    exact ⟨_,lt,ks,us,_,rfl,rfl,oe,cP,dM,bC.next fun b hb=>hb.2,ul⟩
  ·have w0:ws=[]:=by
    cases ws with
    | nil=>rfl
    | cons x r=>exact absurd rfl hz
   subst w0
   exact ⟨_,rfl,kk _ mt ks (oc.trans s3) cn (s3 _ _ hE) wk.pl wk.done⟩
theorem wJ:bh ["_law_beside_here","_law_done","_law_place","_law_met","_law_many"] ["_law_beside_here","_law_done","_law_place"] (aT jt):=⟨rfl,rfl,rfl,by decide +kernel,rfl,by decide +kernel,by decide +kernel⟩
theorem wK(T:Txt K mg t):aX P w K mg base bj 2 t.fb t.fU ["_law_beside_here","_law_done","_law_place"] vV:=by
 have S:=wJ
 have wL:=wI (P:=P) (w:=w) (base:=base) T
 refine T.gm.ok S (fun vs H Q E h=>?_) (fun ay A outer s H vs Q E hr h=>?_)
 ·obtain ⟨D,d,n,rs,g,done,p,rfl,_⟩:=h
  rfl
 ·obtain ⟨D,d,n,rs,g,done,p,rfl,KL,gn,ed,ld,pn,lC,kk⟩:=h
  refine ⟨_,(@au _ _ _ _ _ (@aJ _ _ 3 _ _ _ _ (by rfl) (by first | exact .inl rfl | exact .inr rfl | assumption) S.nd rfl (Or.inl rfl) (aU wL (hr.mono (by decide)) rfl T.pX T.gk.kp T.pW .nil aY (@ae _ _ _ _ _ (by rfl) (pv 0) (@ae _ _ _ _ _ (by rfl) (pv 1) (@ae _ _ _ _ _ (by rfl) (pv 2) ak)))))
   (@au _ _ _ _ _ (@aJ _ _ 4 _ _ _ _ (by rfl) (by first | exact .inl rfl | exact .inr rfl | assumption) S.nd rfl (Or.inl rfl) (cx eA rfl T.d6 boot_len (@ae _ _ _ _ _ (by rfl) (iU (N:=["_law_other","_law_place","_law_done"]) (ρ:=(fun σ=>[σ[2]?.join,σ[1]?.join])) ⟨rfl,rfl,by decide +kernel,by decide +kernel,(List.forall_mem_cons.mpr ⟨rfl,(List.forall_mem_cons.mpr ⟨rfl,(List.forall_mem_nil _)⟩)⟩),d4 (by rfl),rfl,by decide +kernel,rfl,(fun σ j v h=>match j,h with | 0,h=>⟨2,_,rfl,rfl,join_some h,Or.inr (Or.inl rfl),.inl rfl,.inl rfl⟩ | 1,h=>⟨1,_,rfl,rfl,join_some h,Or.inr (Or.inl rfl),.inl rfl,.inl rfl⟩ | j+2,h=>by cases h),(fun _ _=>rfl)⟩ rfl (k_ (pv 3)) (fun s₃ H₃ fp=>(.one (PW.pt (pw_and (@aS _ _ _ _ _ _ _ _ gF (pv 0) (pv 1) (aR _)) (pw_and1 (@aS _ _ _ _ _ _ _ _ (pb (K:=K)) (pv 0) (pv 2) rfl)))))) (fun s₃ H₃ fp=>(pv 0))) ak)))
   (@aw _ _ _ (@a_ _ _ _ _ (@aA _ _ _ _ _ _ _ _ b7 (@aA _ _ _ _ _ _ _ _ b7 (@aA _ _ _ _ _ _ _ _ b8 (pv 4) (pv 4)) (@aA _ _ _ _ _ _ _ _ b8 aq (pv 4))) aq))))),?_⟩
  refine ⟨_,rfl,_,rfl,_,rfl,D,d,n,rs,g,done,p,rfl,KL,gn,ed,ld,pn,lC,fun H1 mt ks s1 cn wM pl ik=>?_⟩
  dsimp only [aF]
  have lF:=pl.len
  refine bw (eK (uR (o9 (lg (a:=mt) (kvs:=dk ks) (fun Q q=>⟨_,rfl,q⟩) (.inl wM) fun ob Hf gq off=>?_))))
  have sf:ag H Hf:=fun b u e=>off _ _ (fun z=>by rw [z,cn] at e;cases e) (s1 _ _ e)
  have lJ:=sf _ _ ed
  refine o8 gq (fun q=>!decide (q=p) && !decide (q∈done)) (bt (by omega)) ?_ ?_ ?_
  ·intro q hq Hx R sx hR
   refine ⟨_,rfl,_,rfl,rfl,_,rfl,a7 (fun hb=>?_) (fun hb=>?_)⟩
   ·have ne:¬q=p:=fun z=>by
     subst z
     rw [gY,decide_eq_true rfl] at hb
     cases hb
    refine ⟨_,rfl,_,rfl,d,_,rfl,.inl (.of (sx _ _ lJ)),rfl,jb done,_,rfl,?_⟩
    rw [decide_eq_false ne,Bool.not_false,Bool.true_and] at hR
    have e:(if true=true then !cy (.int (q:Int)) (done.map fun k:Nat=>V.int (k:Int)) else cy (.int (q:Int)) (done.map fun k:Nat=>V.int (k:Int))) = !decide (q∈done):=by rw [if_pos rfl,fE]
    rw [e]
    exact hR
   ·have eq:q=p:=by
     by_cases z:(q:Int)=(p:Int)
     ·omega
     ·exact absurd (by rw [gY,decide_eq_false z];rfl) hb
    rw [decide_eq_true eq,Bool.not_true,Bool.false_and] at hR
    exact hR
  ·intro q hq Hx R hR
   exact ⟨_,rfl,hR⟩
  ·intro r Hg nr sg eg
   have c9:(ks.filter fun q=>!decide (q=p) && !decide (q∈done)).length≤n:=Nat.le_trans (List.length_filter_le _ _) lF
   have lmap:((ks.filter fun q=>!decide (q=p) && !decide (q∈done)).map fun k:Nat=>V.int (k:Int)).length=(ks.filter fun q=>!decide (q=p) && !decide (q∈done)).length:=List.length_map _
   refine ⟨r,_,rfl,.inl (.of eg),?_⟩
   dsimp only [aF]
   rw [lmap]
   exact ⟨_,rfl,_,rfl,_,_,rfl,rfl,.inl ⟨by omega,by omega⟩,_,rfl,_,_,rfl,rfl,.inl ⟨by omega,by omega⟩,_,_,rfl,rfl,_,_,rfl,rfl,kk Hg _ (sf.trans sg) ⟨ks,pl,ik,rfl⟩⟩
theorem wN:bh ["_law_cell","_law_at","_law_x"] ["_law_cell","_law_at"] (aT jh):=⟨rfl,rfl,rfl,by decide +kernel,rfl,by decide +kernel,by decide +kernel⟩
theorem wO(T:Txt K mg t):aX P w K mg base bj 1 t.eU t.fL ["_law_cell","_law_at"] uT:=by
 have S:=wN
 refine T.f_.ok S (fun vs H Q E h=>?_) (fun ay A outer s H vs Q E hr h=>?_)
 ·obtain ⟨c,a,rfl,_⟩:=h
  rfl
 ·obtain ⟨c,a,rfl,ha,k⟩:=h
  refine ⟨_,(@au _ _ _ _ _ (@bf _ _ _ _ _ _ _ _ (@aS _ _ _ _ _ _ _ _ rZ (pv 0) (@aA _ _ _ _ _ _ _ _ rV aq aq) (aR _)) (@aw _ _ _ (@a_ _ _ _ _ (pv 0))) br)
   (@au _ _ _ _ _ (@aJ _ _ 2 _ _ _ _ (by rfl) (by first | exact .inl rfl | exact .inr rfl | assumption) S.nd rfl (Or.inl rfl) (@aA _ _ _ _ _ _ _ _ en (@aA _ _ _ _ _ _ _ _ b7 (@aA _ _ _ _ _ _ _ _ b7 (@aA _ _ _ _ _ _ _ _ b8 (@aA _ _ _ _ _ _ _ _ en (pv 0) aq) aq) (@aA _ _ _ _ _ _ _ _ b8 (pv 1) aq)) aq) aq))
   (@au _ _ _ _ _ (@aJ _ _ 2 _ _ _ _ (by rfl) (by first | exact .inl rfl | exact .inr rfl | assumption) S.nd rfl (Or.inl rfl) (@aA _ _ _ _ _ _ _ _ en (@aA _ _ _ _ _ _ _ _ b7 (@aA _ _ _ _ _ _ _ _ b7 (@aA _ _ _ _ _ _ _ _ b8 (pv 2) (pv 2)) (@aA _ _ _ _ _ _ _ _ b8 aq (pv 2))) (pv 1)) aq))
   (@aw _ _ _ (@a_ _ _ _ _ (@aA _ _ _ _ _ _ _ _ b7 (@aA _ _ _ _ _ _ _ _ b8 (pv 2) aq) (@aA _ _ _ _ _ _ _ _ en (@aA _ _ _ _ _ _ _ _ b7 (@aA _ _ _ _ _ _ _ _ b8 (pv 2) (pv 2)) (@aA _ _ _ _ _ _ _ _ b8 aq (pv 1))) aq))))))),?_⟩
  refine ⟨_,rfl,_,_,rfl,rfl,⟨by decide,by decide,by decide⟩,_,_,rfl,rfl,_,rfl,a7 (fun h=>?_) (fun h=>?_)⟩
  ·have h:=of_decide_eq_true h
   exact ⟨_,rfl,k _ (Int.le_trans (by decide) h)⟩
  ·refine ⟨_,rfl,_,_,rfl,rfl,(by show (0:Int)<2147483647;decide),_,_,rfl,rfl,.inr ⟨by decide,by decide⟩,_,rfl,_,_,rfl,rfl,.inr ⟨by decide,by decide⟩,_,_,rfl,rfl,_,_,rfl,rfl,_,_,rfl,rfl,(by show (0:Int)<2147483629;decide),?_⟩
   have b0:=Int.emod_nonneg (c % 2147483647*48271+a*69621+11) (show (2147483629:Int)≠0 by decide)
   have b1:=Int.emod_lt_of_pos (c % 2147483647*48271+a*69621+11) (show (0:Int)<2147483629 by decide)
   generalize (c % 2147483647*48271+a*69621+11) % 2147483629=x at b0 b1 ⊢
   refine ⟨_,rfl,_,rfl,_,_,rfl,rfl,.inl ⟨by omega,by omega⟩,_,rfl,_,_,rfl,rfl,.inl ⟨by decide,by decide⟩,_,_,rfl,rfl,_,rfl,_,_,rfl,rfl,_,_,rfl,rfl,(by show (0:Int)<2147483587;decide),?_⟩
   have c0:=Int.emod_nonneg (x*x+48271*x+a) (show (2147483587:Int)≠0 by decide)
   have c1:=Int.emod_lt_of_pos (x*x+48271*x+a) (show (0:Int)<2147483587 by decide)
   generalize (x*x+48271*x+a) % 2147483587=y at c0 c1 ⊢
   refine ⟨_,rfl,_,_,rfl,rfl,.inr ⟨by decide,by decide⟩,_,rfl,_,rfl,_,_,rfl,rfl,.inl ⟨by omega,by omega⟩,_,rfl,_,_,rfl,rfl,.inl ⟨by decide,by decide⟩,_,_,rfl,rfl,_,_,rfl,rfl,(by show (0:Int)<2147483579;decide),_,_,rfl,rfl,k _ (Int.add_nonneg (Int.mul_nonneg (Int.emod_nonneg _ (by decide)) (by decide)) (Int.emod_nonneg _ (by decide)))⟩
theorem wQ:bh ["_law_pen","_law_many","_law_at","_law_cell","_law_found"] ["_law_pen","_law_many"] (aT ji):=⟨rfl,rfl,rfl,by decide +kernel,rfl,by decide +kernel,by decide +kernel⟩
theorem hV(T:Txt K mg t):aX P w K mg base bj 2 t.eV t.fM ["_law_pen","_law_many"] (uU K):=by
 have S:=wQ
 have wR:=wO (P:=P) (w:=w) (base:=base) T
 refine T.bB.ok S (fun vs H Q E h=>?_) (fun ay A outer s H vs Q E hr h=>?_)
 ·obtain ⟨P0,a,ns,many,rfl,_⟩:=h
  rfl
 ·obtain ⟨P0,a,ns,many,rfl,⟨x,y,eP,hx,hy⟩,hS,m1,mm,k⟩:=h
  have hU:=hr.units
  refine ⟨_,(@au _ _ _ _ _ (@bf _ _ _ _ _ _ _ _ (@aS _ _ _ _ _ _ _ _ m9 (@aN _ _ _ _ _ _ _ ba (pv 0) aq (fun _ _=>rfl)) (pv 1) (aR _)) (@au _ _ _ _ _ (@aJ _ _ 2 _ _ _ _ (by rfl) (by first | exact .inl rfl | exact .inr rfl | assumption) S.nd rfl (Or.inl rfl) (@aN _ _ _ _ _ _ _ ba (pv 0) aq (fun _ _=>rfl)))
   (@au _ _ _ _ _ (@aJ _ _ 3 _ _ _ _ (by rfl) (by first | exact .inl rfl | exact .inr rfl | assumption) S.nd rfl (Or.inl rfl) aq)
   (@au _ _ _ _ _ (@bf _ _ _ _ _ _ _ _ (@aS _ _ _ _ _ _ _ _ m9 (pv 2) (cx eA rfl T.d6 boot_len (@ae _ _ _ _ _ (by rfl) (@aN _ _ _ _ _ _ _ ba (pv 0) aq (fun _ _=>rfl)) ak)) (aR _)) (@aw _ _ _ (@aJ _ _ 3 _ _ _ _ (by rfl) (by first | exact .inl rfl | exact .inr rfl | assumption) S.nd rfl (Or.inl rfl) (@aN _ _ _ _ _ _ _ ba (@aN _ _ _ _ _ _ _ ba (pv 0) aq (fun _ _=>rfl)) (pv 2) (fun _ _=>rfl)))) (@aw _ _ _ (@bf _ _ _ _ _ _ _ _ (@aS _ _ _ _ _ _ _ _ gG (cx eA rfl T.d6 boot_len (@ae _ _ _ _ _ (by rfl) (@aN _ _ _ _ _ _ _ ba (pv 0) aq (fun _ _=>rfl)) ak)) aq (aR _)) (@aw _ _ _ (@aJ _ _ 3 _ _ _ _ (by rfl) (by first | exact .inl rfl | exact .inr rfl | assumption) S.nd rfl (Or.inl rfl) (@aA _ _ _ _ _ _ _ _ b7 (@aA _ _ _ _ _ _ _ _ en (@aN _ _ _ _ _ _ _ ba (@aN _ _ _ _ _ _ _ ba (pv 0) aq (fun _ _=>rfl)) (@aA _ _ _ _ _ _ _ _ en (@aA _ _ _ _ _ _ _ _ b8 (pv 2) aq) (cx eA rfl T.d6 boot_len (@ae _ _ _ _ _ (by rfl) (@aN _ _ _ _ _ _ _ ba (pv 0) aq (fun _ _=>rfl)) ak))) (fun _ _=>rfl)) aq) (@aA _ _ _ _ _ _ _ _ b8 (pv 2) aq)))) br)))
   (@au _ _ _ _ _ (@jX _ _ _ _ _ _ (@aA _ _ _ _ _ _ _ _ b7 (pv 2) aq) (jW (pv 0) aq set_list) (by rfl) (by rfl) (by rfl))
   (@aw _ _ _ (@jX _ _ _ _ _ _ (aU wR (hr.mono (by decide)) rfl T.pJ T.f_.kp T.pI .nil aY (@ae _ _ _ _ _ (by rfl) (pv 3) (@ae _ _ _ _ _ (by rfl) (pv 2) ak))) (jW (pv 0) aq set_list) (by rfl) (by rfl) (by rfl))))))) br)
   (@au _ _ _ _ _ (@aJ _ _ 4 _ _ _ _ (by rfl) (by first | exact .inl rfl | exact .inr rfl | assumption) S.nd rfl (Or.inl rfl) (@aA _ _ _ _ _ _ _ _ en (@aN _ _ _ _ _ _ _ ba (pv 0) aq (fun _ _=>rfl)) (pv 1)))
   (@au _ _ _ _ _ (@jX _ _ _ _ _ _ (@aA _ _ _ _ _ _ _ _ uA (@aN _ _ _ _ _ _ _ ba (pv 0) aq (fun _ _=>rfl)) (pv 1)) (jW (pv 0) aq set_list) (by rfl) (by rfl) (by rfl))
   (@aw _ _ _ (@a_ _ _ _ _ (pv 4)))))),?_⟩
  have jw:=eL.seq hS
  refine ⟨_,rfl,P0,_,_,_,rfl,rfl,.of eP,rfl,_,rfl,_,_,rfl,rfl,_,rfl,a7 (fun aE=>?_) (fun aE=>?_)⟩
  ·refine ⟨_,rfl,P0,_,_,_,rfl,rfl,.of eP,rfl,?_⟩
   refine ⟨_,rfl,_,rfl,P0,_,_,_,rfl,rfl,.of eP,rfl,a,ns.map V.int,rfl,.inl jw,_,_,rfl,rfl,_,rfl,a7 (fun h1=>?_) (fun h1=>?_)⟩
   ·have h1:x<((ns.map V.int).length:Int):=of_decide_eq_true h1
    obtain ⟨v,hv,mv⟩:=oj (xs:=ns.map V.int) hx h1
    obtain ⟨c,_,rfl⟩:=List.mem_map.mp mv
    refine ⟨_,rfl,P0,_,_,_,rfl,rfl,.of eP,rfl,_,rfl,a,ns.map V.int,_,_,rfl,rfl,jw,hv,?_⟩
    refine ⟨_,rfl,_,_,rfl,rfl,_,rfl,P0,_,1,1,rfl,rfl,eP,rfl,?_⟩
    refine ⟨_,rfl,_,rfl,c,x,rfl,hx,fun r hW=>⟨_,rfl,P0,_,2,2,rfl,rfl,ao,rfl,?_⟩⟩
    have q0:=Int.emod_nonneg (r) (show many≠0 by omega)
    have q1:=Int.emod_lt_of_pos (r) (show 0<many by omega)
    have q2:=Int.ediv_nonneg (hW) (show 0≤many by omega)
    refine ⟨_,rfl,P0,_,_,_,rfl,rfl,.of ao,rfl,_,rfl,_,_,rfl,rfl,(show 0<many by omega),?_⟩
    refine ⟨_,rfl,P0,_,_,_,rfl,rfl,.of ao,rfl,_,rfl,_,_,rfl,rfl,⟨show 0<many by omega,mm⟩,_,rfl,P0,_,2,2,rfl,rfl,ao,rfl,?_⟩
    exact ⟨_,rfl,k _ _ q0 q1 (((ai.refl H).trans ai.df).trans (ai.df.trans ai.df)) ⟨x+1,r / many,ao,by omega,q2⟩⟩
   ·refine ⟨_,rfl,P0,_,_,_,rfl,rfl,.of eP,rfl,a,ns.map V.int,rfl,.inl jw,_,_,rfl,rfl,_,rfl,?_⟩
    have jx:=eP
    have jy:=jw
    have sl:=ag.refl H
    refine a7 (fun h2=>?_) (fun h2=>?_)
    ·have hl:0<(ns.map V.int).length:=by
      have:=of_decide_eq_true h2
      omega
     have wU:=Int.emod_nonneg (x*7) (show ((ns.map V.int).length:Int)≠0 by omega)
     have wV:=Int.emod_lt_of_pos (x*7) (show (0:Int)<((ns.map V.int).length:Int) by omega)
     obtain ⟨v,hv,mv⟩:=oj (xs:=ns.map V.int) wU wV
     obtain ⟨c,_,rfl⟩:=List.mem_map.mp mv
     refine ⟨_,rfl,P0,_,_,_,rfl,rfl,.of jx,rfl,_,rfl,_,_,rfl,rfl,.inr ⟨by decide,by decide⟩,_,rfl,P0,_,_,_,rfl,rfl,.of jx,rfl,a,ns.map V.int,rfl,.inl jy,_,_,rfl,rfl,(show (0:Int)<((ns.map V.int).length:Int) by omega),a,ns.map V.int,_,_,rfl,rfl,jy,hv,_,_,rfl,rfl,(show (0:Int)<1000003 by decide),_,rfl,_,_,rfl,rfl,.inr ⟨by decide,by decide⟩,_,_,rfl,rfl,?_⟩
     refine ⟨_,rfl,_,_,rfl,rfl,_,rfl,P0,_,1,1,rfl,rfl,jx,rfl,?_⟩
     refine ⟨_,rfl,_,rfl,_,x,rfl,hx,fun r hW=>⟨_,rfl,P0,_,2,2,rfl,rfl,ao,rfl,?_⟩⟩
     have q0:=Int.emod_nonneg (r) (show many≠0 by omega)
     have q1:=Int.emod_lt_of_pos (r) (show 0<many by omega)
     have q2:=Int.ediv_nonneg (hW) (show 0≤many by omega)
     refine ⟨_,rfl,P0,_,_,_,rfl,rfl,.of ao,rfl,_,rfl,_,_,rfl,rfl,(show 0<many by omega),?_⟩
     refine ⟨_,rfl,P0,_,_,_,rfl,rfl,.of ao,rfl,_,rfl,_,_,rfl,rfl,⟨show 0<many by omega,mm⟩,_,rfl,P0,_,2,2,rfl,rfl,ao,rfl,?_⟩
     exact ⟨_,rfl,k _ _ q0 q1 (((ai.of sl).trans ai.df).trans (ai.df.trans ai.df)) ⟨x+1,r / many,ao,by omega,q2⟩⟩
    ·
     refine ⟨_,rfl,_,_,rfl,rfl,_,rfl,P0,_,1,1,rfl,rfl,jx,rfl,?_⟩
     refine ⟨_,rfl,_,rfl,0,x,rfl,hx,fun r hW=>⟨_,rfl,P0,_,2,2,rfl,rfl,ao,rfl,?_⟩⟩
     have q0:=Int.emod_nonneg (r) (show many≠0 by omega)
     have q1:=Int.emod_lt_of_pos (r) (show 0<many by omega)
     have q2:=Int.ediv_nonneg (hW) (show 0≤many by omega)
     refine ⟨_,rfl,P0,_,_,_,rfl,rfl,.of ao,rfl,_,rfl,_,_,rfl,rfl,(show 0<many by omega),?_⟩
     refine ⟨_,rfl,P0,_,_,_,rfl,rfl,.of ao,rfl,_,rfl,_,_,rfl,rfl,⟨show 0<many by omega,mm⟩,_,rfl,P0,_,2,2,rfl,rfl,ao,rfl,?_⟩
     exact ⟨_,rfl,k _ _ q0 q1 (((ai.of sl).trans ai.df).trans (ai.df.trans ai.df)) ⟨x+1,r / many,ao,by omega,q2⟩⟩
  ·dsimp only [eh]
   have q0:=Int.emod_nonneg (y) (show many≠0 by omega)
   have q1:=Int.emod_lt_of_pos (y) (show 0<many by omega)
   have q2:=Int.ediv_nonneg (hy) (show 0≤many by omega)
   refine ⟨_,rfl,P0,_,_,_,rfl,rfl,.of eP,rfl,_,rfl,_,_,rfl,rfl,(show 0<many by omega),?_⟩
   refine ⟨_,rfl,P0,_,_,_,rfl,rfl,.of eP,rfl,_,rfl,_,_,rfl,rfl,⟨show 0<many by omega,mm⟩,_,rfl,P0,_,2,2,rfl,rfl,eP,rfl,?_⟩
   exact ⟨_,rfl,k _ _ q0 q1 (ai.df) ⟨x,y / many,ao,hx,q2⟩⟩
theorem wW:bh ["_law_pen","_law_some","_law_left","_law_found"] ["_law_pen","_law_some"] (aT jj):=⟨rfl,rfl,rfl,by decide +kernel,rfl,by decide +kernel,by decide +kernel⟩
theorem wX(T:Txt K mg t):aX P w K mg base bj 3 t.eW t.fN ["_law_pen","_law_some"] (va K):=by
 have S:=wW
 have bK:=hV (P:=P) (w:=w) (base:=base) T
 refine T.gb.ok S (fun vs H Q E h=>?_) (fun ay A outer s H vs Q E hr h=>?_)
 ·obtain ⟨P0,a,l,ns,xs,rfl,_⟩:=h
  rfl
 ·obtain ⟨P0,a,l,ns,xs,rfl,pc,hS,nl,el,zT,kk⟩:=h
  have hU:=hr.units
  refine ⟨_,(@au _ _ _ _ _ (@aJ _ _ 2 _ _ _ _ (by rfl) (by first | exact .inl rfl | exact .inr rfl | assumption) S.nd rfl (Or.inl rfl) (gK tf rfl T.lA boot_list (@ae _ _ _ _ _ (by rfl) (pv 1) ak)))
   (@au _ _ _ _ _ (@aJ _ _ 3 _ _ _ _ (by rfl) (by first | exact .inl rfl | exact .inr rfl | assumption) S.nd rfl (Or.inl rfl) (@bN _ _ _ _ ak))
   (@au _ _ _ _ _ (@jY _ _ _ _ _ _ PassesOwn.never (@aS _ _ _ _ _ _ _ _ (oF hU) (pv 2) (@bN _ _ _ _ ak) (aR _)) (@aw _ _ _ (cV (dc PySem.F.plainAttrs_list PySem.F.slot_list_append PySem.F.type_list_append de (pv 3) (@ae _ _ _ _ _ (by rfl) (dc PySem.F.plainAttrs_list PySem.F.slot_list_pop PySem.F.type_list_pop tN (pv 2) (@ae _ _ _ _ _ (by rfl) (aU bK (hr.mono (by decide)) rfl T.cm T.bB.kp T.ck .nil aY (@ae _ _ _ _ _ (by rfl) (pv 0) (@ae _ _ _ _ _ (by rfl) (cx eA rfl T.d6 boot_len (@ae _ _ _ _ _ (by rfl) (pv 2) ak)) ak))) ak)) ak)))))
   (@aw _ _ _ (@a_ _ _ _ _ (pv 3)))))),?_⟩
  refine ⟨_,rfl,l,xs,rfl,.inl (.of el),fun l1 n1=>?_⟩
  have s1:ag H (upd H l1 (.lst xs)):=aV n1
  have e1:upd H l1 (.lst xs) l1=some (.lst xs):=ao
  dsimp only [aF]
  generalize upd H l1 (.lst xs)=H1 at s1 e1 ⊢
  refine ⟨by show 0≤sizeLine;decide,fun l2 n2=>?_⟩
  have s2:ag H1 (upd H1 l2 (.lst [])):=aV n2
  have e2:upd H1 l2 (.lst []) l2=some (.lst []):=ao
  dsimp only [aF]
  generalize upd H1 l2 (.lst [])=H2 at s2 e2 ⊢
  have qi:l1≠P0:=pc.ne n1
  have jz:l2≠P0:=(pc.mono s1).ne n2
  have qj:H l2=none:=none_of s1 n2
  have qk:l1≠l2:=fun e=>by rw [e,n2] at e1;cases e1
  refine bw ⟨fun m σ Hc=>∃zs ys:List V,σ=[some (.ref P0),some (.ref l),some (.ref l1),some (.ref l2)]∧m=zs.length∧Hc l1=some (.lst zs)∧Hc l2=some (.lst ys)∧(zs++ys).Perm xs∧ai P0 H Hc∧az Hc P0 a,⟨_,xs,[],rfl,rfl,s2 _ _ e1,e2,by rw [List.append_nil],ai.of (s1.trans s2),(pc.mono s1).mono s2⟩,?_⟩
  rintro m σ Hc ⟨zs,ys,rfl,rfl,ez,ey,pm,sc,p1⟩
  have lz:zs.length≤100:=by
   have:=pm.length_eq
   rw [List.length_append] at this
   omega
  have ly:ys.length≤100:=by
   have:=pm.length_eq
   rw [List.length_append] at this
   omega
  refine ⟨_,rfl,by show 0≤sizeLine;decide,fun le lK=>?_⟩
  have s3:ag Hc (upd Hc le (.lst [])):=aV lK
  have e3:upd Hc le (.lst []) le=some (.lst []):=ao
  generalize upd Hc le (.lst [])=H3 at s3 e3 ⊢
  refine ⟨l1,le,zs,rfl,rfl,.of (s3 _ _ ez),e3,_,rfl,a7 (fun hz=>?_) (fun hz=>?_)⟩
  ·have z0:1≤zs.length:=by
    cases zs with
    | nil=>cases hz
    | cons=>simp
   have ql:=sc.trans (ai.of s3)
   refine ⟨_,fun _ _ h=>h,?_⟩
   refine ⟨_,rfl,.inl ⟨rfl,_,.of (s3 _ _ ey)⟩,_,rfl,.inl ⟨rfl,_,.of (s3 _ _ ez)⟩,_,rfl,_,rfl,l1,zs,rfl,.inl (.of (s3 _ _ ez)),P0,a,ns,(zs.length:Int),rfl,p1.mono s3,ag.seq ql hS,by omega,bu.of_lt (by omega) (by omega),fun c H4 c0 c1 s4 p4=>?_⟩
   obtain ⟨k,rfl⟩:=Int.eq_ofNat_of_zero_le c0
   have hk:k<zs.length:=by omega
   have wY:=s4.at qi (s3 _ _ ez)
   have wZ:=s4.at jz (s3 _ _ ey)
   have sx:seqIndex? (k:Int) zs.length=some k:=by
    unfold seqIndex?
    simp
    omega
   refine ⟨l1,zs,(k:Int),k,zs[k],rfl,rfl,wY,by omega,by omega,sx,by simp [hk],?_⟩
   have nn:l2≠l1:=fun e=>qk e.symm
   refine ⟨l2,ys,zs[k],rfl,rfl,by rw [ax nn];exact wZ,bt (by omega),?_⟩
   refine ⟨_,?_,zs.eraseIdx k,ys++[zs[k]],rfl,rfl,by rw [ax qk,ao],ao,?_,?_,?_⟩
   ·rw [List.length_eraseIdx_of_lt hk]
    omega
   ·refine List.Perm.trans ?_ pm
    rw [←List.append_assoc]
    refine (List.perm_append_comm).trans ?_
    show (zs[k]::(zs.eraseIdx k++ys)).Perm (zs++ys)
    exact (oG zs k hk).append_right ys
   ·exact ((ql.trans s4).but n1).but qj
   ·exact ((p4.upd qi).upd jz)
  ·have z0:zs=[]:=by
    cases zs with
    | nil=>rfl
    | cons=>exact absurd rfl hz
   subst z0
   refine ⟨_,rfl,kk l2 ys H3 (sc.trans (ai.of s3)) (p1.mono s3) ?_ jz (s3 _ _ ey) pm⟩
   rw [bo jz]
   exact qj
theorem w5:bh ["_law_pen","_law_way","_law_size","_law_wide","_law_i","_law_j"] ["_law_pen","_law_way","_law_size","_law_wide","_law_i","_law_j"] (aT jk):=⟨rfl,rfl,rfl,by decide +kernel,rfl,by decide +kernel,by decide +kernel⟩
theorem w6(T:Txt K mg t):aX P w K mg base bj 3 t.eX t.fO ["_law_pen","_law_way","_law_size","_law_wide","_law_i","_law_j"] (vb K):=by
 have S:=w5
 have bK:=hV (P:=P) (w:=w) (base:=base) T
 refine T.gc.ok S (fun vs H Q E h=>?_) (fun ay A outer s H vs Q E hr h=>?_)
 ·obtain ⟨P0,a,ns,way,size,wide,i,j,rfl,_⟩:=h
  rfl
 ·obtain ⟨P0,a,ns,way,size,wide,i,j,rfl,pc,hS,kk⟩:=h
  refine ⟨_,(@au _ _ _ _ _ (@bf _ _ _ _ _ _ _ _ (@aS _ _ _ _ _ _ _ _ b9 (pv 1) aq (aR _)) (@aw _ _ _ (@a_ _ _ _ _ (@fu _ _ _ _ _ _ _ _ b9 (aU bK (hr.mono (by decide)) rfl T.cm T.bB.kp T.ck .nil aY (@ae _ _ _ _ _ (by rfl) (pv 0) (@ae _ _ _ _ _ (by rfl) aq ak))) aq (aR _)))) br)
   (@au _ _ _ _ _ (@bf _ _ _ _ _ _ _ _ (@aS _ _ _ _ _ _ _ _ b9 (pv 1) aq (aR _)) (@aw _ _ _ (@a_ _ _ _ _ (@fu _ _ _ _ _ _ _ _ b9 (aU bK (hr.mono (by decide)) rfl T.cm T.bB.kp T.ck .nil aY (@ae _ _ _ _ _ (by rfl) (pv 0) (@ae _ _ _ _ _ (by rfl) aq ak))) aq (aR _)))) br)
   (@au _ _ _ _ _ (@bf _ _ _ _ _ _ _ _ (@aS _ _ _ _ _ _ _ _ b9 (pv 1) aq (aR _)) (@aw _ _ _ (@a_ _ _ _ _ (@fu _ _ _ _ _ _ _ _ gG (aU bK (hr.mono (by decide)) rfl T.cm T.bB.kp T.ck .nil aY (@ae _ _ _ _ _ (by rfl) (pv 0) (@ae _ _ _ _ _ (by rfl) aq ak))) aq (aR _)))) br)
   (@au _ _ _ _ _ (@bf _ _ _ _ _ _ _ _ (@aS _ _ _ _ _ _ _ _ b9 (pv 1) aq (aR _)) (@aw _ _ _ (@a_ _ _ _ _ (rm (@fu _ _ _ _ _ _ _ _ b9 (@aA _ _ _ _ _ _ _ _ iF (pv 5) (pv 4)) aq (aR _)) (@rl _ _ _ _ _ (@fu _ _ _ _ _ _ _ _ b9 (@aA _ _ _ _ _ _ _ _ iF (pv 5) (pv 4)) (@aA _ _ _ _ _ _ _ _ iF (pv 2) aq) (aR _)))))) br)
   (@aw _ _ _ (@a_ _ _ _ _ (@fu _ _ _ _ _ _ _ _ rY (@aA _ _ _ _ _ _ _ _ iF (pv 5) (pv 4)) (pv 3) (aR _)))))))),?_⟩
  refine ⟨_,rfl,rfl,_,rfl,a7 (fun _=>?_) (fun _=>?_)⟩
  ·exact ⟨_,rfl,P0,a,ns,2,rfl,pc,hS,by decide,bu.of_lt (by decide) (by decide),fun c H1 _ _ s1 p1=>⟨rfl,kk _ H1 s1 p1⟩⟩
  dsimp only [eh]
  refine ⟨_,rfl,rfl,_,rfl,a7 (fun _=>?_) (fun _=>?_)⟩
  ·exact ⟨_,rfl,P0,a,ns,4,rfl,pc,hS,by decide,bu.of_lt (by decide) (by decide),fun c H1 _ _ s1 p1=>⟨rfl,kk _ H1 s1 p1⟩⟩
  dsimp only [eh]
  refine ⟨_,rfl,rfl,_,rfl,a7 (fun _=>?_) (fun _=>?_)⟩
  ·exact ⟨_,rfl,P0,a,ns,4,rfl,pc,hS,by decide,bu.of_lt (by decide) (by decide),fun c H1 _ _ s1 p1=>⟨_,_,rfl,rfl,kk _ H1 s1 p1⟩⟩
  dsimp only [eh]
  refine ⟨_,rfl,rfl,_,rfl,a7 (fun _=>?_) (fun _=>?_)⟩
  ·refine ⟨_,rfl,_,rfl,_,_,rfl,rfl,rfl,_,rfl,a7 (fun _=>?_) (fun _=>?_)⟩
   ·exact kk _ H (ai.refl _) pc
   ·exact ⟨_,rfl,_,rfl,_,_,rfl,rfl,_,rfl,_,_,rfl,rfl,rfl,kk _ H (ai.refl _) pc⟩
  dsimp only [eh]
  exact ⟨_,rfl,_,rfl,_,_,rfl,rfl,_,rfl,_,_,rfl,rfl,kk _ H (ai.refl _) pc⟩
theorem w9:bh ["_law_size","_law_links","_law_names","_law_found","_law_i","_law_j","_law_one"] ["_law_size","_law_links","_law_names"] (aT jm):=⟨rfl,rfl,rfl,by decide +kernel,rfl,by decide +kernel,by decide +kernel⟩
theorem w_(T:Txt K mg t):aX P w K mg base bj 3 t.eZ t.fQ ["_law_size","_law_links","_law_names"] ve:=by
 have S:=w9
 refine T.gf.ok S (fun vs H Q E h=>?_) (fun ay A outer s H vs Q E hr h=>?_)
 ·obtain ⟨l,r,n,us,ws,L,nm,rfl,_⟩:=h
  rfl
 ·obtain ⟨l,r,n,us,ws,L,nm,rfl,el,hL,ok,hZ,h6,lw,hw,N,kk⟩:=h
  refine ⟨_,(@au _ _ _ _ _ (@aJ _ _ 3 _ _ _ _ (by rfl) (by first | exact .inl rfl | exact .inr rfl | assumption) S.nd rfl (Or.inl rfl) (@bN _ _ _ _ ak))
   (@au _ _ _ _ _ (cW PassesOwn.never rfl (iA (pv 1)) (jV rfl (fq (bM (i:=4) S.nd rfl (Or.inl rfl)) (fq (bM (i:=5) S.nd rfl (Or.inl rfl)) jU)))
    (@au _ _ _ _ _ (@aJ _ _ 6 _ _ _ _ (by rfl) (by first | exact .inl rfl | exact .inr rfl | assumption) S.nd rfl (Or.inl rfl) (cx (si rfl) rfl T.qc boot_min (@ae _ _ _ _ _ (by rfl) (@aN _ _ _ _ _ _ _ ba (pv 2) (pv 4) (fun _ _=>rfl)) (@ae _ _ _ _ _ (by rfl) (@aN _ _ _ _ _ _ _ ba (pv 2) (pv 5) (fun _ _=>rfl)) ak))))
   (@aw _ _ _ (cV (dc PySem.F.plainAttrs_list PySem.F.slot_list_append PySem.F.type_list_append de (pv 3) (@ae _ _ _ _ _ (by rfl) (@iH _ _ _ _ _ (@ae _ _ _ _ _ (by rfl) (pv 6) (@ae _ _ _ _ _ (by rfl) (cx (r_ rfl) rfl T.qd boot_max (@ae _ _ _ _ _ (by rfl) (@aN _ _ _ _ _ _ _ ba (pv 2) (pv 4) (fun _ _=>rfl)) (@ae _ _ _ _ _ (by rfl) (@aN _ _ _ _ _ _ _ ba (pv 2) (pv 5) (fun _ _=>rfl)) ak))) ak))) ak))))))
   (@aw _ _ _ (@a_ _ _ _ _ (@iH _ _ _ _ _ (@ae _ _ _ _ _ (by rfl) (pv 0) (@ae _ _ _ _ _ (by rfl) (gK nJ rfl T.lx boot_tuple (@ae _ _ _ _ _ (by rfl) (cx u7 rfl T.qe PyProof.Rows.boot_sorted (@ae _ _ _ _ _ (by rfl) (pv 3) ak)) ak)) ak))))))),?_⟩
  refine ⟨by show 0≤sizeLine;decide,fun fd b5=>?_⟩
  have s0:ag H (upd H fd (.lst [])):=aV b5
  have qm:upd H fd (.lst []) fd=some (.lst []):=ao
  dsimp only [aF]
  generalize upd H fd (.lst [])=H1 at s0 qm ⊢
  refine ⟨_,rfl,l,rfl,⟨_,.of (s0 _ _ el)⟩,?_⟩
  refine mX (K:=K) (a:=l) (xs:=us) (fun k σ Hc=>∃(xs:List V) (v4 v5 v6:Option V),σ=[some (.int (n:Int)),some (.ref l),some (.ref r),some (.ref fd),v4,v5,v6]∧ag H Hc∧Hc fd=some (.lst xs)∧aG Hc xs ((L.take k).map (bT nm))) ⟨[],_,_,_,rfl,s0,qm,aG.nil _⟩ (fun k σ Hc _ ⟨_,_,_,_,_,sc,_⟩=>.of (sc _ _ el)) ?_ ?_
  ·rintro k x σ Hc hx ⟨xs,v4,v5,v6,rfl,sc,ef,hX⟩
   have hk:k<L.length:=by
    rw [←hL.1]
    exact (List.getElem?_eq_some_iff.mp hx).1
   obtain ⟨b,rfl,eb⟩:=(hL.mono sc).2 k x L[k] hx (by simp [hk])
   have pk:=ok.lt L[k] (List.getElem_mem hk)
   have tk:(L.take (k+1)).map (bT nm)=(L.take k).map (bT nm)++[bT nm L[k]]:=by
    rw [List.take_succ,List.getElem?_eq_getElem hk,List.map_append]
    rfl
   have lX:=hX.1
   rw [List.length_map,List.length_take] at lX
   have bb:L.length≤50:=Nat.le_trans ok.bb (by
    have:n*n≤10*10:=Nat.mul_le_mul hZ hZ
    omega)
   generalize L[k]=p at eb pk tk
   obtain ⟨p1,p2⟩:=p
   dsimp only at pk
   obtain ⟨i,rfl⟩:=Int.eq_ofNat_of_zero_le pk.1
   obtain ⟨j,rfl⟩:=Int.eq_ofNat_of_zero_le (show 0≤p2 by omega)
   have qo:cI ws (i:Int)=some (.int (nm i)):=fw (hw i (by omega))
   have at2:cI ws (j:Int)=some (.int (nm j)):=fw (hw j (by omega))
   have jA:=sc _ _ h6
   refine ⟨b,_,rfl,.of eb,rfl,_,_,rfl,_,_,rfl,rfl,?_⟩
   refine ⟨_,rfl,_,rfl,r,ws,_,.int (nm i),rfl,rfl,.of jA,qo,_,rfl,_,rfl,r,ws,_,.int (nm j),rfl,rfl,.of jA,at2,nm i,nm j,rfl,?_⟩
   dsimp only [aF]
   refine ⟨_,rfl,.inl ⟨rfl,_,.of ef⟩,_,rfl,_,rfl,_,rfl,r,ws,_,.int (nm i),rfl,rfl,.of jA,qo,_,rfl,_,rfl,r,ws,_,.int (nm j),rfl,rfl,.of jA,at2,nm i,nm j,rfl,by show 2≤sizeLine;decide,fun tp dP=>?_⟩
   have eq:bT nm ((i:Int),(j:Int))=(if nm j<nm i then nm j else nm i,if nm j>nm i then nm j else nm i):=by
    unfold bT
    simp only [Int.toNat_natCast]
    refine Prod.ext ?_ ?_
    ·show min (nm i) (nm j)=_
     split <;> omega
    ·show max (nm i) (nm j)=_
     split <;> omega
   have st:ag Hc (upd Hc tp (.tup [.int (if nm j<nm i then nm j else nm i),.int (if nm j>nm i then nm j else nm i)])):=aV dP
   have cB:upd Hc tp (.tup [.int (if nm j<nm i then nm j else nm i),.int (if nm j>nm i then nm j else nm i)]) tp=some (.tup [.int (bT nm ((i:Int),(j:Int))).1,.int (bT nm ((i:Int),(j:Int))).2]):=by rw [ao,eq]
   generalize upd Hc tp (.tup [.int (if nm j<nm i then nm j else nm i),.int (if nm j>nm i then nm j else nm i)])=Hd at st cB ⊢
   have bV:=st _ _ ef
   refine ⟨fd,xs,_,rfl,rfl,bV,bt (by omega),xs++[.ref tp],_,_,_,rfl,dB (sc.trans st) b5,ao,?_⟩
   rw [tk]
   exact ((hX.mono st).push cB).bI bV fun b o nb e=>by rw [ax nb];exact e
  ·rintro σ Hc ⟨xs,v4,v5,v6,rfl,sc,ef,hX⟩
   rw [hL.1,List.take_length] at hX
   have jB:=vd ok N
   have lX:=hX.1
   have bb:L.length≤50:=Nat.le_trans ok.bb (by
    have:n*n≤10*10:=Nat.mul_le_mul hZ hZ
    omega)
   have lM:(L.map (bT nm)).length=L.length:=List.length_map ..
   have small:∀q∈L.map (bT nm),0≤q.2∧q.2<1000:=fun q hq=>by
    have:=jB.lt q hq
    omega
   generalize hM:L.map (bT nm)=M at hX jB lX lM small kk
   dsimp only
   refine ⟨_,rfl,_,rfl,fd,xs,fun i=>(M.getD i (0,0)).1,fun i=>(M.getD i (0,0)).2,rfl,ef,by omega,fun i v hv=>?_,fun p l' hp hu h7=>?_⟩
   ·have hi:i<M.length:=by
     rw [←lX]
     exact (List.getElem?_eq_some_iff.mp hv).1
    obtain ⟨b,rfl,eb⟩:=hX.2 i v M[i] hv (by simp [hi])
    dsimp only
    rw [getD_at hi]
    exact ⟨⟨b,rfl,eb⟩,small _ (List.getElem_mem hi)⟩
   rw [lX] at hp hu
   obtain ⟨pm,pw⟩:=vc hp hu jB.nd small
   have sl:ag Hc (upd Hc l' (.lst (p.toList.map fun i=>xs.getD i .av))):=aV h7
   have hP:aG Hc (p.toList.map fun i=>xs.getD i .av) (p.toList.map fun i=>M.getD i (0,0)):=hX.pick _ fun i hi=>by
    have:p.toList.Perm (List.range M.length):=Array.perm_iff_toList_perm.mp hp
    exact List.mem_range.mp (this.mem_iff.mp hi)
   generalize (p.toList.map fun i=>xs.getD i .av)=zs at sl hP ⊢
   refine ⟨l',zs,rfl,.inl ⟨.of ao,fun lt xa=>?_⟩⟩
   have jC:=sl.trans (aV (o:=.tup zs) xa)
   have elt:upd (upd Hc l' (.lst zs)) lt (.tup zs) lt=some (.tup zs):=ao
   generalize upd (upd Hc l' (.lst zs)) lt (.tup zs)=Hd at jC elt ⊢
   refine ⟨by show 2≤sizeLine;decide,fun tp dP=>?_⟩
   have st:ag Hd (upd Hd tp (.tup [.int (n:Int),.ref lt])):=aV dP
   have sT:=sc.trans (jC.trans st)
   exact kk tp _ _ sT (none_of (sc.trans jC) dP) ⟨lt,zs,ao,st _ _ elt,(hP.mono jC).mono st⟩ (jB.perm pm) pw pm
theorem xb:bh ["_law_pen","_law_size","_law_ahead","_law_found","_law_j","_law_at","_law_some"] ["_law_pen","_law_size"] (aT jl):=⟨rfl,rfl,rfl,by decide +kernel,rfl,by decide +kernel,by decide +kernel⟩
theorem xc(T:Txt K mg t):aX P w K mg base bj 3 t.eY t.fP ["_law_pen","_law_size"] (vg K):=by
 have S:=xb
 have bK:=hV (P:=P) (w:=w) (base:=base) T
 refine T.gd.ok S (fun vs H Q E h=>?_) (fun ay A outer s H vs Q E hr h=>?_)
 ·obtain ⟨P0,a,ns,n,rfl,_⟩:=h
  rfl
 ·obtain ⟨P0,a,ns,n,rfl,pc,hS,n1,hZ,kk⟩:=h
  refine ⟨_,(@au _ _ _ _ _ (@aJ _ _ 2 _ _ _ _ (by rfl) (by first | exact .inl rfl | exact .inr rfl | assumption) S.nd rfl (Or.inl rfl) (@bN _ _ _ _ (@ae _ _ _ _ _ (by rfl) (@bN _ _ _ _ ak) ak)))
   (@au _ _ _ _ _ (@aJ _ _ 3 _ _ _ _ (by rfl) (by first | exact .inl rfl | exact .inr rfl | assumption) S.nd rfl (Or.inl rfl) (@bN _ _ _ _ ak))
   (@au _ _ _ _ _ (cW PassesOwn.never rfl (rR rfl T.cN (@ae _ _ _ _ _ (by rfl) aq (@ae _ _ _ _ _ (by rfl) (pv 1) ak))) (bM (i:=4) S.nd rfl (Or.inr rfl))
    (@au _ _ _ _ _ (@aJ _ _ 5 _ _ _ _ (by rfl) (by first | exact .inl rfl | exact .inr rfl | assumption) S.nd rfl (Or.inl rfl) (aU bK (hr.mono (by decide)) rfl T.cm T.bB.kp T.ck .nil aY (@ae _ _ _ _ _ (by rfl) (pv 0) (@ae _ _ _ _ _ (by rfl) (pv 4) ak))))
   (@au _ _ _ _ _ (@aJ _ _ 6 _ _ _ _ (by rfl) (by first | exact .inl rfl | exact .inr rfl | assumption) S.nd rfl (Or.inl rfl) (@aA _ _ _ _ _ _ _ _ tP (@bN _ _ _ _ (@ae _ _ _ _ _ (by rfl) (pv 5) ak)) (iU (N:=["_law_i","_law_pen"]) (ρ:=(fun σ=>[σ[0]?.join])) ⟨rfl,rfl,by decide +kernel,by decide +kernel,(List.forall_mem_cons.mpr ⟨rfl,(List.forall_mem_nil _)⟩),d4 (by rfl),rfl,by decide +kernel,rfl,(fun σ j v h=>match j,h with | 0,h=>⟨0,_,rfl,rfl,join_some h,Or.inr (Or.inl rfl),.inl rfl,.inl rfl⟩ | j+1,h=>by cases h),(fun _ _=>rfl)⟩ rfl (iA (@aN _ _ _ _ _ _ _ ba (pv 2) (pv 5) (fun _ _=>rfl))) (fun s₃ H₃ fp=>(.one (@aS _ _ _ _ _ _ _ _ gG (aU bK (hr.mono (by decide)) rfl T.cm T.bB.kp T.ck .nil aY (@ae _ _ _ _ _ (by rfl) (pv 1) (@ae _ _ _ _ _ (by rfl) aq ak))) aq (aR _)))) (fun s₃ H₃ fp=>(pv 0)))))
   (@au _ _ _ _ _ (@bf _ _ _ _ _ _ _ _ (@aS _ _ _ _ _ _ _ _ b9 (aU bK (hr.mono (by decide)) rfl T.cm T.bB.kp T.ck .nil aY (@ae _ _ _ _ _ (by rfl) (pv 0) (@ae _ _ _ _ _ (by rfl) aq ak))) aq (aR _)) (@aw _ _ _ (@aJ _ _ 6 _ _ _ _ (by rfl) (by first | exact .inl rfl | exact .inr rfl | assumption) S.nd rfl (Or.inl rfl) (@bN _ _ _ _ ak))) br)
   (@au _ _ _ _ _ (cV (dc PySem.F.plainAttrs_list PySem.F.slot_list_append PySem.F.type_list_append de (pv 2) (@ae _ _ _ _ _ (by rfl) (pv 6) ak)))
   (@aw _ _ _ (cV (dc PySem.F.plainAttrs_list PySem.F.slot_list_extend PySem.F.type_list_extend tH (pv 3) (@ae _ _ _ _ _ (by rfl) (iU (N:=["_law_i","_law_j"]) (ρ:=(fun σ=>[σ[4]?.join])) ⟨rfl,rfl,by decide +kernel,by decide +kernel,(List.forall_mem_cons.mpr ⟨rfl,(List.forall_mem_nil _)⟩),d4 (by rfl),rfl,by decide +kernel,rfl,(fun σ j v h=>match j,h with | 0,h=>⟨4,_,rfl,rfl,join_some h,Or.inr (Or.inl rfl),.inl rfl,.inl rfl⟩ | j+1,h=>by cases h),(fun _ _=>rfl)⟩ rfl (iA (pv 6)) (fun s₃ H₃ fp=>.nil) (fun s₃ H₃ fp=>(@iH _ _ _ _ _ (@ae _ _ _ _ _ (by rfl) (pv 0) (@ae _ _ _ _ _ (by rfl) (pv 1) ak))))) ak)))))))))
   (@aw _ _ _ (@a_ _ _ _ _ (pv 3)))))),?_⟩
  refine ⟨by show 0≤sizeLine;decide,fun l0 dh=>⟨by show 1≤sizeLine;decide,fun la h8=>?_⟩⟩
  have s1:ag H (upd H l0 (.lst [])):=aV dh
  have e0:upd H l0 (.lst []) l0=some (.lst []):=ao
  generalize upd H l0 (.lst [])=H1 at s1 e0 h8 ⊢
  have s2:ag H1 (upd H1 la (.lst [.ref l0])):=aV h8
  have ea:upd H1 la (.lst [.ref l0]) la=some (.lst [.ref l0]):=ao
  dsimp only [aF]
  generalize upd H1 la (.lst [.ref l0])=H2 at s2 ea ⊢
  refine ⟨by show 0≤sizeLine;decide,fun fd b5=>?_⟩
  have s3:ag H2 (upd H2 fd (.lst [])):=aV b5
  have ef:upd H2 fd (.lst []) fd=some (.lst []):=ao
  dsimp only [aF]
  generalize upd H2 fd (.lst [])=H3 at s3 ef ⊢
  have h9:=s1.trans (s2.trans s3)
  have h_:la≠P0:=(pc.mono s1).ne h8
  have cu:fd≠P0:=((pc.mono s1).mono s2).ne b5
  have xf:l0≠P0:=pc.ne dh
  have xg:H la=none:=none_of s1 h8
  have jD:H fd=none:=none_of (s1.trans s2) b5
  have af:la≠fd:=fun e=>by rw [e,b5] at ea;cases ea
  refine ⟨_,rfl,_,_,rfl,⟨by decide,by decide,by omega,by omega⟩,?_⟩
  rw [show ((n:Int)-1).toNat=n-1 by omega]
  refine gE (fun k σ Hc=>∃(vs us:List V) (L:List (Int×Int)) (D:Nat→List Nat) (v4 v5 v6:Option V),σ=[some (.ref P0),some (.int (n:Int)),some (.ref la),some (.ref fd),v4,v5,v6]∧ai P0 H Hc∧az Hc P0 a∧Hc la=some (.lst vs)∧vh (er P0 Hc) vs (k+1) D∧(∀(i:Nat) (b:Addr),vs[i]?=some (V.ref b)→b≠la∧b≠fd)∧Hc fd=some (.lst us)∧aG (er P0 Hc) us L∧dD (k+1) L) ?_ ?_ ?_
  ·refine ⟨[.ref l0],[],[],fun _=>[],_,_,_,rfl,ai.of h9,pc.mono h9,s3 _ _ ea,⟨rfl,fun k hk=>⟨bx.nil k,l0,by rw [show k=0 by omega];rfl,?_⟩⟩,fun i b hb=>?_,ef,aG.nil _,dD.nil⟩
   ·rw [bo xf]
    exact s3 _ _ (s2 _ _ e0)
   ·match i,hb with
    | 0,hb=>
     cases hb
     exact ⟨(fun e=>by rw [e,h8] at e0;cases e0),(fun e=>by rw [←e] at b5;rw [s2 _ _ e0] at b5;cases b5)⟩
    | i+1,hb=>simp at hb
  ·rintro k σ Hc hk ⟨vs,us,L,D,v4,v5,v6,rfl,sc,p1,jE,ah,ap,bV,hL,ok⟩
   refine ⟨_,rfl,_,rfl,P0,a,ns,1+(k:Int),rfl,p1,ag.seq sc hS,by omega,bu.of_lt (by omega) (by omega),fun c H4 c0 c1 s4 p4=>?_⟩
   obtain ⟨c,rfl⟩:=Int.eq_ofNat_of_zero_le c0
   have hc:c<k+1:=by omega
   obtain ⟨fc,b,xh,ia⟩:=ah.2 c hc
   have xi:b≠P0:=fun z=>by
    rw [z] at ia
    unfold er at ia
    rw [if_pos rfl] at ia
    cases ia
   have xj:=ah.1
   have xk:=sc.trans s4
   have xl:=s4.at h_ jE
   have qp:H4 b=some (.lst (bp (D c))):=eL _ _ (s4 _ _ ia)
   dsimp only [aF]
   simp only [List.set_cons_zero,List.set_cons_succ]
   refine ⟨_,rfl,by show 1≤sizeLine;decide,fun gr qq=>?_⟩
   have s5:ag H4 (upd H4 gr (.lst [.int (c:Int)])):=aV qq
   have e5:upd H4 gr (.lst [.int (c:Int)]) gr=some (.lst [.int (c:Int)]):=ao
   have xm:gr≠P0:=p4.ne qq
   generalize upd H4 gr (.lst [.int (c:Int)])=H5 at s5 e5 ⊢
   have lD:(D c).length≤10:=Nat.le_trans fc.len (by omega)
   have lV:(bp (D c)).length≤10:=by unfold bp;rw [List.length_map];exact lD
   have qr:=xk.trans (ai.of s5)
   refine vf (K:=K) (l:=b) (xs:=bp (D c)) (bt (by omega)) xi (s5 _ _ qp) (p4.mono s5) (fun R h=>⟨_,rfl,_,rfl,la,vs,_,.ref b,rfl,rfl,.of (s5 _ _ xl),fw xh,b,rfl,⟨_,.of (s5 _ _ qp)⟩,h⟩) (fun i x hx Hx R sx px k=>⟨_,rfl,P0,a,ns,3,rfl,px,ag.seq (qr.trans sx) hS,by decide,bu.of_lt (by decide) (by decide),fun c' H' _ _ s' p'=>⟨_,_,rfl,rfl,_,rfl,k _ H' s' p'⟩⟩) (fun x Hx R h=>⟨_,rfl,h⟩) fun D' ys Hx zU zV sx px sub xn=>?_
   obtain ⟨e,nV,rfl⟩:=kR sub
   have fe:=(fc.sub nV).put hc
   have zW:(bp e).length≤10:=Nat.le_trans sub.length_le lV
   refine ⟨gr,D',_,_,rfl,rfl,sx.at xm e5,xn,Nat.le_trans (show _≤100 by simp;omega) (by decide),fun c2 n2=>?_⟩
   have s6:ag Hx (upd Hx c2 (.lst ([.int (c:Int)]++bp e))):=aV n2
   have e6:upd Hx c2 (.lst ([.int (c:Int)]++bp e)) c2=some (.lst (bp (c::e))):=ao
   have qt:=(qr.trans sx).trans (ai.of s6)
   have p6:=px.mono s6
   have lN:ai P0 H4 (upd Hx c2 (.lst ([.int (c:Int)]++bp e))):=(ai.of s5).trans (sx.trans (ai.of s6))
   have lO:c2≠P0:=px.ne n2
   have f2:er P0 Hc c2=none:=none_of (s4.trans ((ai.of s5).trans sx)) (by rw [bo lO];exact n2)
   dsimp only [aF]
   generalize upd Hx c2 (.lst ([.int (c:Int)]++bp e))=H6 at s6 e6 qt p6 lN ⊢
   simp only [List.set_cons_zero,List.set_cons_succ]
   refine bw (i3 (fun σ Hy=>∃(lc:Addr) (d:List Nat),σ=[some (.ref P0),some (.int (n:Int)),some (.ref la),some (.ref fd),some (.int (1+(k:Int))),some (.int (c:Int)),some (.ref lc)]∧ai P0 Hc Hy∧az Hy P0 a∧Hy lc=some (.lst (bp d))∧bx (k+1) d∧lc≠P0∧er P0 Hc lc=none) ?_ ?_)
   ·rintro σ Hy ⟨lc,d,rfl,sy,py,dJ,lQ,gs,jF⟩
    have ly:lc≠la:=fun z=>by rw [z,bo h_,jE] at jF;cases jF
    have lf:lc≠fd:=fun z=>by rw [z,bo cu,bV] at jF;cases jF
    have lR:=sy.at h_ jE
    have xo:=sy.at cu bV
    have zX:d.length≤10:=Nat.le_trans lQ.len (by omega)
    dsimp only
    refine ⟨_,rfl,.inl ⟨rfl,_,.of lR⟩,_,rfl,la,vs,_,rfl,rfl,lR,bt (by omega),?_⟩
    have e7:upd Hy la (.lst (vs++[.ref lc])) la=some (.lst (vs++[.ref lc])):=ao
    have k7:∀b o,b≠la→Hy b=some o→upd Hy la (.lst (vs++[.ref lc])) b=some o:=fun b o nb e=>by rw [ax nb];exact e
    have p7:=py.upd (o:=.lst (vs++[.ref lc])) h_
    have r7:=kS (P:=P0) (H:=Hy) (r:=la) (o:=.lst (vs++[.ref lc]))
    have qu:ai P0 H (upd Hy la (.lst (vs++[.ref lc]))):=(sc.trans sy).but xg
    generalize upd Hy la (.lst (vs++[.ref lc]))=H7 at e7 k7 p7 r7 qu ⊢
    have lS:=k7 fd _ (fun z=>af z.symm) xo
    have lT:=k7 lc _ ly dJ
    have xp:(bp d).length=d.length:=by unfold bp;rw [List.length_map]
    refine ⟨_,rfl,.inl ⟨rfl,_,.of lS⟩,uQ (xs:=bp d) (fun R h=>⟨_,rfl,lc,rfl,⟨_,.of lT⟩,h _ _ (ag.refl _) (uJ (.of lT))⟩) (bt (by omega)) (fun _ i y Hz=>∃(b:Addr) (x:Nat),y=.ref b∧d[i]?=some x∧Hz b=some (.tup [.int (x:Int),.int (1+(k:Int))])) (fun Dd i y Ha Hb ys ⟨b,x,h1,h2,h3⟩ e f=>⟨b,x,h1,h2,f b _ (fun z=>by rw [z,e] at h3;cases h3) h3⟩) ?_ ?_⟩
    ·intro Dd i x hx Hz R sz _ kz
     obtain ⟨y,hy,rfl⟩:=vi hx
     refine ⟨_,rfl,_,rfl,by show 2≤sizeLine;decide,fun tp dP=>?_⟩
     exact kz _ _ (aV dP) ⟨tp,y,rfl,hy,ao⟩
    ·intro Dd zs H8 zY s8 xq xr xt
     have lL:=hL.1
     have l2:us.length≤50:=by
      have:=ok.bb
      have:(k+1)*(k+1-1)≤10*10:=Nat.mul_le_mul (by omega) (by omega)
      omega
     refine ⟨fd,Dd,us,zs,rfl,rfl,s8 _ _ lS,xt,Nat.le_trans (show _≤100 by omega) (by decide),?_⟩
     have k9:∀b o,b≠fd→H8 b=some o→upd H8 fd (.lst (us++zs)) b=some o:=fun b o nb e=>by rw [ax nb];exact e
     have p8:=p7.mono s8
     have r9:=kS (P:=P0) (H:=H8) (r:=fd) (o:=.lst (us++zs))
     have qv:er P0 H8 fd=some (.lst us):=by rw [bo cu];exact s8 _ _ lS
     have xu:er P0 Hy la=some (.lst vs):=by rw [bo h_];exact lR
     refine ⟨vs++[.ref lc],us++zs,L++d.map fun(x:Nat)=>((x:Int),((k+1:Nat):Int)),fun i=>if i=k+1 then d else D i,_,_,_,rfl,(qu.trans (ai.of s8)).but jD,p8.upd cu,k9 la _ af (s8 _ _ e7),⟨by simp [xj],fun i hi=>?_⟩,fun i b' ib=>?_,ao,?_,ok.more lQ⟩
     ·dsimp only
      by_cases z:i=k+1
      ·subst z
       rw [if_pos rfl]
       refine ⟨lQ,lc,by rw [List.getElem?_append_right (by omega),show k+1-vs.length=0 by omega];rfl,?_⟩
       exact r9 _ _ lf (by rw [bo gs];exact s8 _ _ lT)
      ·rw [if_neg z]
       obtain ⟨f1,b1,v1,h1⟩:=ah.2 i (by omega)
       obtain ⟨a1,a2⟩:=ap i b1 v1
       refine ⟨f1,b1,by rw [List.getElem?_append_left (by omega)];exact v1,?_⟩
       exact r9 _ _ a2 (iY s8 _ _ (r7 _ _ a1 (sy _ _ h1)))
     ·by_cases z:i<vs.length
      ·rw [List.getElem?_append_left z] at ib
       exact ap i b' ib
      ·have cL:=(List.getElem?_eq_some_iff.mp ib).1
       rw [List.length_append,List.length_singleton] at cL
       rw [List.getElem?_append_right (by omega),show i-vs.length=0 by omega] at ib
       cases ib
       exact ⟨ly,lf⟩
     ·refine aG.cat ?_ ?_
      ·exact (((hL.mono sy).bI xu r7).mono (iY s8)).bI qv r9
      ·refine aG.bI (H:=er P0 H8) ⟨by rw [xq,xp,List.length_map],fun i v p h1 h2=>?_⟩ qv r9
       obtain ⟨b',x,rfl,hx,e'⟩:=xr i v h1
       rw [List.getElem?_map,hx] at h2
       cases h2
       refine ⟨b',rfl,?_⟩
       rw [show (((k+1:Nat):Int))=1+(k:Int) by omega]
       exact g9 p8 e'
   ·intro R hR
    refine ⟨_,rfl,P0,a,ns,9,rfl,p6,ag.seq qt hS,by decide,bu.of_lt (by decide) (by decide),fun c' H7 _ _ s7 p7=>⟨rfl,_,rfl,a7 (fun _=>?_) (fun _=>?_)⟩⟩
    ·refine ⟨by show 0≤sizeLine;decide,fun lc gs=>?_⟩
     have nP:=p7.ne gs
     have qw:=s4.trans (lN.trans s7)
     exact hR _ _ ⟨lc,[],rfl,qw.trans (ai.of (aV gs)),p7.mono (aV gs),ao,bx.nil _,nP,none_of qw (by rw [bo nP];exact gs)⟩
    ·exact hR _ _ ⟨c2,c::e,rfl,s4.trans (lN.trans s7),p7,s7.at lO e6,fe,lO,f2⟩
  ·rintro σ Hc ⟨vs,us,L,D,v4,v5,v6,rfl,sc,p1,jE,ah,ap,bV,hL,ok⟩
   rw [show n-1+1=n by omega] at ok
   exact ⟨_,rfl,kk fd us L Hc sc p1 (by rw [bo cu];exact jD) cu bV hL ok.ok⟩
theorem xv:bh ["_law_pen","_law_most","_law_size","_law_way","_law_wide","_law_links","_law_j","_law_i"] ["_law_pen","_law_most"] (aT jo):=⟨rfl,rfl,rfl,by decide +kernel,rfl,by decide +kernel,by decide +kernel⟩
theorem xw(T:Txt K mg t):aX P w K mg base bj 4 t.e8 t.fR ["_law_pen","_law_most"] (vn K):=by
 have S:=xv
 have bK:=hV (P:=P) (w:=w) (base:=base) T
 have xx:=w6 (P:=P) (w:=w) (base:=base) T
 have xy:=xc (P:=P) (w:=w) (base:=base) T
 have xA:=wX (P:=P) (w:=w) (base:=base) T
 have xB:=w_ (P:=P) (w:=w) (base:=base) T
 refine T.gg.ok S (fun vs H Q E h=>?_) (fun ay A outer s H vs Q E hr h=>?_)
 ·obtain ⟨P0,a,ns,most,rfl,_⟩:=h
  rfl
 ·obtain ⟨P0,a,ns,most,rfl,pc,hS,m1,zZ,kk⟩:=h
  refine ⟨_,(@au _ _ _ _ _ (@aJ _ _ 2 _ _ _ _ (by rfl) (by first | exact .inl rfl | exact .inr rfl | assumption) S.nd rfl (Or.inl rfl) (@aA _ _ _ _ _ _ _ _ b7 aq (aU bK (hr.mono (by decide)) rfl T.cm T.bB.kp T.ck .nil aY (@ae _ _ _ _ _ (by rfl) (pv 0) (@ae _ _ _ _ _ (by rfl) (pv 1) ak)))))
   (@au _ _ _ _ _ (@aJ _ _ 3 _ _ _ _ (by rfl) (by first | exact .inl rfl | exact .inr rfl | assumption) S.nd rfl (Or.inl rfl) (aU bK (hr.mono (by decide)) rfl T.cm T.bB.kp T.ck .nil aY (@ae _ _ _ _ _ (by rfl) (pv 0) (@ae _ _ _ _ _ (by rfl) aq ak))))
   (@au _ _ _ _ _ (@aJ _ _ 4 _ _ _ _ (by rfl) (by first | exact .inl rfl | exact .inr rfl | assumption) S.nd rfl (Or.inl rfl) (aU bK (hr.mono (by decide)) rfl T.cm T.bB.kp T.ck .nil aY (@ae _ _ _ _ _ (by rfl) (pv 0) (@ae _ _ _ _ _ (by rfl) (pv 2) ak))))
   (@au _ _ _ _ _ (@aJ _ _ 5 _ _ _ _ (by rfl) (by first | exact .inl rfl | exact .inr rfl | assumption) S.nd rfl (Or.inl rfl) (@bN _ _ _ _ ak))
   (@au _ _ _ _ _ (cW PassesOwn.never rfl (dW rfl T.cN (@ae _ _ _ _ _ (by rfl) (pv 2) ak)) (bM (i:=6) S.nd rfl (Or.inl rfl))
    (@aw _ _ _ (cW PassesOwn.never rfl (dW rfl T.cN (@ae _ _ _ _ _ (by rfl) (pv 6) ak)) (bM (i:=7) S.nd rfl (Or.inl rfl))
    (@aw _ _ _ (@bf _ _ _ _ _ _ _ _ (jR (aU xx (hr.mono (by decide)) rfl T.pN T.gc.kp T.pM .nil aY (@ae _ _ _ _ _ (by rfl) (pv 0) (@ae _ _ _ _ _ (by rfl) (pv 3) (@ae _ _ _ _ _ (by rfl) (pv 2) (@ae _ _ _ _ _ (by rfl) (pv 4) (@ae _ _ _ _ _ (by rfl) (pv 7) (@ae _ _ _ _ _ (by rfl) (pv 6) ak)))))))) (@aw _ _ _ (cV (dc PySem.F.plainAttrs_list PySem.F.slot_list_append PySem.F.type_list_append de (pv 5) (@ae _ _ _ _ _ (by rfl) (@iH _ _ _ _ _ (@ae _ _ _ _ _ (by rfl) (pv 7) (@ae _ _ _ _ _ (by rfl) (pv 6) ak))) ak)))) br)))))
   (@au _ _ _ _ _ (@bf _ _ _ _ _ _ _ _ (@aS _ _ _ _ _ _ _ _ b9 (pv 3) aq (aR _)) (@aw _ _ _ (@aJ _ _ 5 _ _ _ _ (by rfl) (by first | exact .inl rfl | exact .inr rfl | assumption) S.nd rfl (Or.inl rfl) (aU xy (hr.mono (by decide)) rfl T.pP T.gd.kp T.pO .nil aY (@ae _ _ _ _ _ (by rfl) (pv 0) (@ae _ _ _ _ _ (by rfl) (pv 2) ak))))) br)
   (@aw _ _ _ (@a_ _ _ _ _ (aU xB (hr.mono (by decide)) rfl T.pR T.gf.kp T.pQ .nil aY (@ae _ _ _ _ _ (by rfl) (pv 2) (@ae _ _ _ _ _ (by rfl) (pv 5) (@ae _ _ _ _ _ (by rfl) (aU xA (hr.mono (by decide)) rfl T.pL T.gb.kp T.pK .nil aY (@ae _ _ _ _ _ (by rfl) (pv 0) (@ae _ _ _ _ _ (by rfl) (gK (uE rfl) rfl T.lA boot_list (@ae _ _ _ _ _ (by rfl) (gK uC rfl T.cN uG (@ae _ _ _ _ _ (by rfl) (pv 2) ak)) ak)) ak))) ak)))))))))))),?_⟩
  refine ⟨_,rfl,_,rfl,P0,a,ns,(most:Int),rfl,pc,hS,by omega,bu.of_lt (by omega) (by omega),fun c H1 c0 c1 s1 p1=>⟨_,_,rfl,rfl,?_⟩⟩
  obtain ⟨c,rfl⟩:=Int.eq_ofNat_of_zero_le c0
  dsimp only [aF]
  rw [show 1+(c:Int)=((c+1:Nat):Int) by omega]
  have n1:1≤c+1:=by omega
  have nm:c+1≤most:=by omega
  generalize c+1=n at n1 nm ⊢
  have ic:aH K (er P0 H1) a (ns.map V.int):=ag.seq s1 hS
  refine ⟨_,rfl,P0,a,ns,6,rfl,p1,ic,by decide,bu.of_lt (by decide) (by decide),fun way H2 _ _ s2 p2=>?_⟩
  have qx:=s1.trans s2
  dsimp only [aF]
  refine ⟨_,rfl,_,rfl,P0,a,ns,(n:Int),rfl,p2,ag.seq qx hS,by omega,bu.of_lt (by omega) (by omega),fun wide H3 _ _ s3 p3=>?_⟩
  have h9:=qx.trans s3
  dsimp only [aF]
  refine ⟨by show 0≤sizeLine;decide,fun fd b5=>?_⟩
  have s4:ag H3 (upd H3 fd (.lst [])):=aV b5
  have ef:upd H3 fd (.lst []) fd=some (.lst []):=ao
  dsimp only [aF]
  generalize upd H3 fd (.lst [])=H4 at s4 ef ⊢
  have xC:=h9.trans (ai.of s4)
  have p4:=p3.mono s4
  have cu:fd≠P0:=p3.ne b5
  have qy:er P0 H fd=none:=none_of h9 (by rw [bo cu];exact b5)
  have jD:H fd=none:=by rw [bo cu] at qy;exact qy
  refine ⟨_,rfl,(n:Int),rfl,by omega,by omega,?_⟩
  rw [Int.toNat_natCast]
  refine gE (fun j σ Hc=>∃(us:List V) (L:List (Int×Int)) (v6 v7:Option V),σ=[some (.ref P0),some (.int (most:Int)),some (.int (n:Int)),some (.int way),some (.int wide),some (.ref fd),v6,v7]∧ai P0 H Hc∧az Hc P0 a∧Hc fd=some (.lst us)∧aG (er P0 Hc) us L∧bJ j 0 L) ⟨[],[],_,_,rfl,xC,p4,ef,aG.nil _,bJ.start⟩ ?_ ?_
  ·rintro j σ Hc hj ⟨us,L,v6,v7,rfl,sc,p5,bV,hL,ok⟩
   dsimp only [aF]
   simp only [List.set_cons_zero,List.set_cons_succ]
   refine ⟨_,rfl,(j:Int),by rw [Int.zero_add],by omega,by omega,?_⟩
   rw [Int.toNat_natCast]
   refine gE (fun i σ Hd=>∃(us:List V) (L:List (Int×Int)) (v7:Option V),σ=[some (.ref P0),some (.int (most:Int)),some (.int (n:Int)),some (.int way),some (.int wide),some (.ref fd),some (.int (0+(j:Int))),v7]∧ai P0 H Hd∧az Hd P0 a∧Hd fd=some (.lst us)∧aG (er P0 Hd) us L∧bJ j i L) ⟨us,L,_,rfl,sc,p5,bV,hL,ok⟩ ?_ ?_
   ·rintro i σ Hd hi ⟨us,L,v7,rfl,sd,p6,bV,hL,ok⟩
    refine ⟨_,rfl,_,rfl,_,rfl,_,rfl,_,rfl,_,rfl,P0,a,ns,way,(n:Int),wide,0+(i:Int),0+(j:Int),rfl,p6,ag.seq sd hS,fun b He se pe=>?_⟩
    have lU:=se.at cu bV
    have qz:=hL.mono se
    have lL:=hL.1
    have l2:us.length≤100:=by
     have:=ok.bb
     have:j*(j-1)≤10*10:=Nat.mul_le_mul (by omega) (by omega)
     omega
    cases b with
    | true=>
     refine ⟨true,rfl,kx ?_⟩
     refine ⟨_,rfl,.inl ⟨rfl,_,.of lU⟩,_,rfl,_,rfl,by show 2≤sizeLine;decide,fun tp dP=>?_⟩
     have st:ag He (upd He tp (.tup [.int (0+(i:Int)),.int (0+(j:Int))])):=aV dP
     have et:upd He tp (.tup [.int (0+(i:Int)),.int (0+(j:Int))]) tp=some (.tup [.int (i:Int),.int (j:Int)]):=by rw [ao,Int.zero_add,Int.zero_add]
     generalize upd He tp (.tup [.int (0+(i:Int)),.int (0+(j:Int))])=Hf at st et ⊢
     have pf:=pe.mono st
     have qA:=st _ _ lU
     refine ⟨fd,us,_,rfl,rfl,qA,bt (by omega),us++[.ref tp],L++[((i:Int),(j:Int))],_,rfl,((sd.trans se).trans (ai.of st)).but jD,pf.upd cu,ao,?_,ok.push hi⟩
     refine aG.bI (H:=er P0 Hf) ((qz.mono (iY st)).push (g9 pf et)) (by rw [bo cu];exact qA) kS
    | false=>
     exact ⟨false,rfl,gR ⟨us,L,_,rfl,sd.trans se,pe,lU,qz,ok.skip⟩⟩
   ·rintro σ Hd ⟨us,L,v7,rfl,sd,p6,bV,hL,ok⟩
    exact ⟨us,L,_,_,rfl,sd,p6,bV,hL,ok.next⟩
  ·rintro σ Hc ⟨us,L,v6,v7,rfl,sc,p5,bV,hL,ok⟩
   dsimp only
   refine bw (i3 (fun σ Hy=>∃(lk:Addr) (us:List V) (L:List (Int×Int)),σ=[some (.ref P0),some (.int (most:Int)),some (.int (n:Int)),some (.int way),some (.int wide),some (.ref lk),v6,v7]∧ai P0 H Hy∧az Hy P0 a∧lk≠P0∧Hy lk=some (.lst us)∧aG (er P0 Hy) us L∧cz n L) ?_ ?_)
   ·rintro σ Hy ⟨lk,us,L,rfl,sy,py,xD,xE,hL,ok⟩
    dsimp only
    refine ⟨_,rfl,_,rfl,_,rfl,_,rfl,(n:Int),rfl,fun pr xF=>?_⟩
    have s6:ag Hy (upd Hy pr (.cR 0 (n:Int))):=aV xF
    refine ⟨pr,n,rfl,ao,by omega,fun l0 n0=>?_⟩
    have s7:=s6.trans (aV (o:=.lst (bH n)) n0)
    have e0:upd (upd Hy pr (.cR 0 (n:Int))) l0 (.lst (bH n)) l0=some (.lst (bH n)):=ao
    have dh:l0≠P0:=(py.mono s6).ne n0
    generalize upd (upd Hy pr (.cR 0 (n:Int))) l0 (.lst (bH n))=Hz at s7 e0 ⊢
    have lu:(bH n).length=n:=by unfold bH;simp
    refine ⟨P0,a,l0,ns,bH n,rfl,py.mono s7,ag.seq (sy.trans (ai.of s7)) hS,dh,e0,by omega,fun r ys Hw sw pw fr nr h6 pm=>?_⟩
    obtain ⟨xG,ly,hy,NO⟩:=vk pm
    have jG:=(ai.of s7).trans sw
    refine ⟨lk,r,n,us,ys,L,xG,rfl,jG.at xD xE,(hL.mono jG).mono eL,ok,by omega,h6,ly,hy,NO,fun tt L' Hv sv qB sh lW xH z3=>?_⟩
    have nt:tt≠P0:=pw.ne qB
    exact kk tt n L' Hv ((sy.trans jG).trans (ai.of sv)) (pw.mono sv) (none_of (sy.trans jG) (by rw [bo nt];exact qB)) nt (sh.er (pw.mono sv)) lW xH n1 nm
   ·intro R hR
    refine ⟨_,rfl,rfl,_,rfl,a7 (fun _=>?_) (fun _=>?_)⟩
    ·refine ⟨_,rfl,_,rfl,P0,a,ns,n,rfl,p5,ag.seq sc hS,n1,by omega,fun r qC L' Hy sy py fr nr h6 xI lW=>?_⟩
     exact hR _ _ ⟨r,qC,L',rfl,sc.trans sy,py,nr,h6,xI,lW⟩
    ·exact hR _ _ ⟨fd,us,L,rfl,sc,p5,cu,bV,hL,ok.ok⟩
theorem xJ:bh ["script","_law_pen","_law_k","_law_shape","_law_beside_here","_law_turn","_law_place","_law_some","_law_found"] ["script"] (aT ju):=⟨rfl,rfl,rfl,by decide +kernel,rfl,by decide +kernel,by decide +kernel⟩
theorem xK(T:Txt K mg t):aX P w K mg base bj 9 t.d5 t.fg ["script"] (iW K):=by
 have S:=xJ
 have bK:=hV (P:=P) (w:=w) (base:=base) T
 have xM:=xw (P:=P) (w:=w) (base:=base) T
 have xN:=wG (P:=P) (w:=w) (base:=base) T
 have xO:=wy (P:=P) (w:=w) (base:=base) T
 have xP:=wK (P:=P) (w:=w) (base:=base) T
 refine T.gp.ok S (fun vs H Q E h=>?_) (fun ay A outer s H vs Q E hr h=>?_)
 ·obtain ⟨a,ns,rfl,_⟩:=h
  rfl
 ·obtain ⟨a,ns,rfl,hS,hlen,kQ⟩:=h
  have hU:=hr.units
  have hu:=hr.sr
  refine ⟨_,(@au _ _ _ _ _ (@aJ _ _ 1 _ _ _ _ (by rfl) (by first | exact .inl rfl | exact .inr rfl | assumption) S.nd rfl (Or.inr rfl) (@bN _ _ _ _ (@ae _ _ _ _ _ (by rfl) (pv 0) (@ae _ _ _ _ _ (by rfl) aq (@ae _ _ _ _ _ (by rfl) aq ak)))))
   (@au _ _ _ _ _ (cW PassesOwn.never rfl (dW rfl T.cN (@ae _ _ _ _ _ (by rfl) aq ak)) (bM (i:=2) S.nd rfl (Or.inl rfl))
    (@au _ _ _ _ _ (@aJ _ _ 3 _ _ _ _ (by rfl) (by first | exact .inl rfl | exact .inr rfl | assumption) S.nd rfl (Or.inl rfl) (aU xM (hr.mono (by decide)) rfl T.pT T.gg.kp T.pS .nil aY (@ae _ _ _ _ _ (by rfl) (pv 1) (@ae _ _ _ _ _ (by rfl) aq ak))))
   (@au _ _ _ _ _ (@aJ _ _ 4 _ _ _ _ (by rfl) (by first | exact .inl rfl | exact .inr rfl | assumption) S.nd rfl (Or.inl rfl) (aU xN (hr.mono (by decide)) rfl T.pV T.gh.kp T.pU .nil aY (@ae _ _ _ _ _ (by rfl) (pv 3) ak)))
   (@aw _ _ _ (cW PassesOwn.never rfl (dW rfl T.cN (@ae _ _ _ _ _ (by rfl) aq ak)) (bM (i:=5) S.nd rfl (Or.inl rfl))
    (@au _ _ _ _ _ (@aJ _ _ 6 _ _ _ _ (by rfl) (by first | exact .inl rfl | exact .inr rfl | assumption) S.nd rfl (Or.inr rfl) (aU bK (hr.mono (by decide)) rfl T.cm T.bB.kp T.ck .nil aY (@ae _ _ _ _ _ (by rfl) (pv 1) (@ae _ _ _ _ _ (by rfl) (@aN _ _ _ _ _ _ _ d0 (pv 3) aq (fun _ _=>rfl)) ak))))
   (@au _ _ _ _ _ (iX (i0:=7) (N:=["_law_other","_law_place","_law_pen"]) (ρ:=(fun σ=>[σ[6]?.join,σ[1]?.join])) ⟨rfl,rfl,by decide +kernel,by decide +kernel,(List.forall_mem_cons.mpr ⟨rfl,(List.forall_mem_cons.mpr ⟨rfl,(List.forall_mem_nil _)⟩)⟩),d4 (by rfl),rfl,by decide +kernel,rfl,(fun σ j v h=>match j,h with | 0,h=>⟨6,_,rfl,rfl,join_some h,Or.inr (Or.inl rfl),.inl rfl,.inl rfl⟩ | 1,h=>⟨1,_,rfl,rfl,join_some h,Or.inr (Or.inl rfl),.inl rfl,.inl rfl⟩ | j+2,h=>by cases h),(fun _ _=>rfl)⟩ rfl S.nd rfl (Or.inl rfl) (dW rfl T.cN (@ae _ _ _ _ _ (by rfl) (@aN _ _ _ _ _ _ _ d0 (pv 3) aq (fun _ _=>rfl)) ak)) (fun s₃ H₃ fp=>(.one (PW.pt (pw_and (@aS _ _ _ _ _ _ _ _ gF (pv 0) (pv 1) (aR _)) (pw_and1 (@aS _ _ _ _ _ _ _ _ b9 (aU bK (hr.mono (by decide)) rfl T.cm T.bB.kp T.ck .nil aY (@ae _ _ _ _ _ (by rfl) (pv 2) (@ae _ _ _ _ _ (by rfl) aq ak))) aq (aR _))))))) (fun s₃ H₃ fp=>(pv 0)))
   (@au _ _ _ _ _ (@bf _ _ _ _ _ _ _ _ (@aS _ _ _ _ _ _ _ _ b9 (pv 5) aq (aR _)) (@aw _ _ _ (@aJ _ _ 7 _ _ _ _ (by rfl) (by first | exact .inl rfl | exact .inr rfl | assumption) S.nd rfl (Or.inl rfl) (@bN _ _ _ _ ak))) br)
   (@au _ _ _ _ _ (@bf _ _ _ _ _ _ _ _ (@aS _ _ _ _ _ _ _ _ b9 (pv 5) aq (aR _)) (@aw _ _ _ (iX (i0:=7) (N:=["_law_other","_law_place"]) (ρ:=(fun σ=>[σ[6]?.join])) ⟨rfl,rfl,by decide +kernel,by decide +kernel,(List.forall_mem_cons.mpr ⟨rfl,(List.forall_mem_nil _)⟩),d4 (by rfl),rfl,by decide +kernel,rfl,(fun σ j v h=>match j,h with | 0,h=>⟨6,_,rfl,rfl,join_some h,Or.inr (Or.inl rfl),.inl rfl,.inl rfl⟩ | j+1,h=>by cases h),(fun _ _=>rfl)⟩ rfl S.nd rfl (Or.inl rfl) (dW rfl T.cN (@ae _ _ _ _ _ (by rfl) (@aN _ _ _ _ _ _ _ d0 (pv 3) aq (fun _ _=>rfl)) ak)) (fun s₃ H₃ fp=>(.one (@aS _ _ _ _ _ _ _ _ gF (pv 0) (pv 1) (aR _)))) (fun s₃ H₃ fp=>(pv 0)))) br)
   (@au _ _ _ _ _ (@aJ _ _ 8 _ _ _ _ (by rfl) (by first | exact .inl rfl | exact .inr rfl | assumption) S.nd rfl (Or.inl rfl) (aU xO (hr.mono (by decide)) rfl T.pH T.f9.kp T.pG .nil t9 (@ae _ _ _ _ _ (by rfl) (pv 3) (@ae _ _ _ _ _ (by rfl) (gK nJ rfl T.lx boot_tuple (@ae _ _ _ _ _ (by rfl) (pv 7) ak)) (@ae _ _ _ _ _ (by rfl) (pv 6) ak)))))
   (@au _ _ _ _ _ (@bf _ _ _ _ _ _ _ _ (PW.pt (@pw_or _ _ _ _ _ _ _ (@rh _ _ _ _ (jR (cx (n4 (K:=K)) rfl T.lq boot_isinstance (@ae _ _ _ _ _ (by rfl) (pv 8) (@ae _ _ _ _ _ (by rfl) (mO (v:=.ty "int") rfl T.qa boot_int rfl) ak))))) (@pw_or1 _ _ _ _ (jR (cx (n4 (K:=K)) rfl T.lq boot_isinstance (@ae _ _ _ _ _ (by rfl) (pv 8) (@ae _ _ _ _ _ (by rfl) (mO (v:=.ty "bool") rfl T.qb boot_bool rfl) ak))))))) (@aw _ _ _ (@a_ _ _ _ _ dq)) br)
   (@aw _ _ _ (@bf _ _ _ _ _ _ _ _ (@aS _ _ _ _ _ _ _ _ gF (pv 8) (aU xP (hr.mono (by decide)) rfl T.pZ T.gm.kp T.pY .nil aY (@ae _ _ _ _ _ (by rfl) (pv 4) (@ae _ _ _ _ _ (by rfl) (pv 7) (@ae _ _ _ _ _ (by rfl) (pv 6) ak)))) (aR _)) (@aw _ _ _ (@a_ _ _ _ _ dq)) br)))))))))))))
   (@aw _ _ _ (@a_ _ _ _ _ dq)))),?_⟩
  refine ⟨_,rfl,by show 3≤sizeLine;decide,fun P0 nP=>?_⟩
  have p0:az (upd H P0 (.lst [.ref a,.int 0,.int 0])) P0 a:=⟨0,0,ao,by decide,by decide⟩
  have qD:aH K (er P0 (upd H P0 (.lst [.ref a,.int 0,.int 0]))) a (ns.map V.int):=by
   rw [ot]
   exact ag.seq (fun b o e=>kK (dj e nP) e) hS
  generalize upd H P0 (.lst [.ref a,.int 0,.int 0])=H0 at p0 qD ⊢
  refine ⟨3,rfl,by decide,by decide,?_⟩
  refine gE (fun i σ Hc=>∃(v2 v3 v4 v5 v6 v7 v8:Option V),σ=[some (.ref a),some (.ref P0),v2,v3,v4,v5,v6,v7,v8]∧ai P0 H0 Hc∧az Hc P0 a) ⟨_,_,_,_,_,_,_,rfl,ai.refl _,p0⟩ ?_ ?_
  ·rintro i σ Hc hi ⟨v2,v3,v4,v5,v6,v7,v8,rfl,sT,pc⟩
   have ic:aH K (er P0 Hc) a (ns.map V.int):=ag.seq sT qD
   dsimp only [aF]
   refine ⟨_,rfl,P0,a,ns,9,rfl,pc,ic,by decide,by decide,fun tp n L H1 s1 p1 dP xQ jH ok _ n1 n9=>?_⟩
   dsimp only [aF]
   have jI:i_ n L:=fun p hp=>by
    have:=ok.lt p hp
    exact ⟨this.1,by omega,by omega,this.2.2⟩
   have bb:L.length≤200:=Nat.le_trans ok.bb (by
    have:n*n≤10*10:=Nat.mul_le_mul (by omega) (by omega)
    omega)
   have xR:b3 H1 tp n L:=jH.mono eL
   refine ⟨_,rfl,tp,n,L,rfl,xR,jI,by omega,bb,fun H2 D rs g s2 nD xS KL nb=>?_⟩
   have gn:∀i,i<n→∀j∈g i,j<n:=fun i hi j hj=>by
    rcases (nb i j hi).mp hj with e | e
    ·have:=jI _ e
     omega
    ·have:=jI _ e
     omega
   have lY:=s1.trans (ai.of s2)
   have p2:=p1.mono s2
   have DP:D≠P0:=p1.ne nD
   have rP:∀i,i<n→rs i≠P0:=fun i hi=>p1.ne (xS i hi)
   dsimp only [aF]
   refine ⟨12,rfl,by decide,by decide,?_⟩
   refine gE (fun w σ He=>∃(v5 v6 v7 v8:Option V),σ=[some (.ref a),some (.ref P0),some (.int (0+(i:Int))),some (.ref tp),some (.ref D),v5,v6,v7,v8]∧ai P0 H2 He∧az He P0 a) ⟨_,_,_,_,rfl,ai.refl _,p2⟩ ?_ ?_
   ·rintro w σ He hw ⟨v5,v6,v7,v8,rfl,se,pe⟩
    have jy:aH K (er P0 He) a (ns.map V.int):=ag.seq (lY.trans se) ic
    obtain ⟨lt,us,cB,elt,ki⟩:=id (jH.mono (ai.of s2 |>.trans se))
    have qE:=eL _ _ cB
    dsimp only [aF]
    refine ⟨_,rfl,_,rfl,tp,_,_,_,rfl,rfl,.of qE,rfl,P0,a,ns,(n:Int),rfl,pe,jy,by omega,bu.of_lt (by omega) (by omega),fun pl H3 h0 h1 s3 p3=>?_⟩
    obtain ⟨p,rfl⟩:=Int.eq_ofNat_of_zero_le h0
    have pn:p<n:=by omega
    dsimp only [aF]
    have lZ:=se.trans s3
    have xT:=s3.at xQ qE
    refine bw (eK (ph (n:=n) (bt (by omega)) p3 (fun R h=>⟨_,rfl,tp,_,_,_,rfl,rfl,.of xT,rfl,(n:Int),rfl,by omega,by omega,by rw [Int.toNat_natCast];exact h⟩) ?_ (fun x Hx R h=>⟨_,rfl,h⟩) fun l ms H4 lP nl s4 p4 fF mn el=>?_))
    ·intro q hq Hx R sx px k
     exact ⟨_,rfl,_,rfl,rfl,_,rfl,a7 (fun _=>⟨_,rfl,P0,a,ns,2,rfl,px,ag.seq ((lY.trans lZ).trans sx) ic,by decide,bu.of_lt (by decide) (by decide),fun c H' _ _ s' p'=>⟨rfl,_,rfl,k _ H' s' p'⟩⟩) (fun _=>k _ Hx (ai.refl _) px)⟩
    dsimp only [aF]
    refine bw (i3 (fun σ Hy=>∃(l:Addr) (ms:List Nat),σ=[some (.ref a),some (.ref P0),some (.int (0+(i:Int))),some (.ref tp),some (.ref D),some (.int (0+(w:Int))),some (.int (p:Int)),some (.ref l),v8]∧ai P0 H2 Hy∧az Hy P0 a∧Hy l=some (.lst (ms.map fun k:Nat=>V.int (k:Int)))∧ms.length≤n∧∀k∈ms,k<n) ?_ ?_)
    ·rintro σ Hy ⟨l,ms,rfl,sy,py,jJ,fF,mn⟩
     dsimp only
     refine bw (i3 (fun σ Hy=>∃(l:Addr) (ms:List Nat),σ=[some (.ref a),some (.ref P0),some (.int (0+(i:Int))),some (.ref tp),some (.ref D),some (.int (0+(w:Int))),some (.int (p:Int)),some (.ref l),v8]∧ai P0 H2 Hy∧az Hy P0 a∧Hy l=some (.lst (ms.map fun k:Nat=>V.int (k:Int)))∧ms.length≤n∧∀k∈ms,k<n) ?_ ?_)
     ·rintro σ Hy ⟨l,ms,rfl,sy,py,jJ,fF,mn⟩
      dsimp only
      have xU:b3 Hy tp n L:=(jH.mono (ai.of s2 |>.trans sy)).mono eL
      refine ⟨_,rfl,_,rfl,l,_,rfl,.inl ⟨.of jJ,fun d nd=>?_⟩⟩
      have sd:ag Hy (upd Hy d (.tup (ms.map fun k:Nat=>V.int (k:Int)))):=aV nd
      have ed:upd Hy d (.tup (ms.map fun k:Nat=>V.int (k:Int))) d=_:=ao
      generalize upd Hy d (.tup (ms.map fun k:Nat=>V.int (k:Int)))=H5 at sd ed ⊢
      refine ⟨_,rfl,tp,d,n,L,ms,p,rfl,xU.mono sd,jI,n9,ed,by omega,pn,fun H6 f c s6 xV near=>?_⟩
      have l4:=sd.trans s6
      dsimp only [aF]
      obtain ⟨Ty,ty,k1,k2,_⟩:=(Any.int (H:=H6) ((c:Int)*c+3*c+1)).ky (K:=K)
      refine bw ⟨_,rfl,_,_,_,_,rfl,rfl,ty,k1,true,rfl,gR ?_⟩
      refine ⟨_,rfl,_,_,_,_,rfl,rfl,ty,k2,false,rfl,gR ?_⟩
      have l5:=sy.trans (ai.of l4)
      have xW:dI H6 D n rs g:=⟨l5.at DP KL.lst,KL.inj,KL.ne,fun i hi=>l5.at (rP i hi) (KL.at' i hi)⟩
      dsimp only [eh]
      refine ⟨_,rfl,_,rfl,_,rfl,_,rfl,D,l,n,rs,g,ms,p,rfl,xW,gn,l4 _ _ jJ,by omega,pn,by omega,fun H7 c' s7 near'=>⟨rfl,_,rfl,a7 (fun hb=>?_) (fun hb=>?_)⟩⟩
      ·have:=dF.same xV nb near near'
       subst this
       rw [gY,decide_eq_true rfl] at hb
       cases hb
      ·exact ⟨_,_,_,_,rfl,l5.trans (ai.of s7),(py.mono l4).mono s7⟩
     ·intro R hR
      refine ⟨_,rfl,rfl,_,rfl,a7 (fun _=>?_) (fun _=>?_)⟩
      ·obtain ⟨lt',qC,xX,_,_⟩:=(jH.mono (ai.of s2 |>.trans sy)).mono eL
       refine eK (ph (n:=n) (bt (by omega)) py (fun R h=>⟨_,rfl,tp,_,_,_,rfl,rfl,.of xX,rfl,(n:Int),rfl,by omega,by omega,by rw [Int.toNat_natCast];exact h⟩) ?_ (fun x Hx R h=>⟨_,rfl,h⟩) fun l' xY H5 z4 h7 s5 p5 xZ x3 g8=>?_)
       ·intro q hq Hx R sx px k
        exact ⟨_,rfl,_,rfl,rfl,_,rfl,k _ Hx (ai.refl _) px⟩
       ·exact hR _ _ ⟨l',xY,rfl,sy.trans s5,p5,g8,xZ,x3⟩
      ·exact hR _ _ ⟨l,ms,rfl,sy,py,jJ,fF,mn⟩
    ·intro R hR
     refine ⟨_,rfl,rfl,_,rfl,a7 (fun _=>?_) (fun _=>?_)⟩
     ·refine ⟨Nat.zero_le _,fun l' h7=>?_⟩
      exact hR _ _ ⟨l',[],rfl,lZ.trans (s4.trans (ai.of (aV h7))),p4.mono (aV h7),ao,Nat.zero_le _,fun k h=>by cases h⟩
     ·exact hR _ _ ⟨l,ms,rfl,lZ.trans s4,p4,el,fF,mn⟩
   ·rintro σ He ⟨v5,v6,v7,v8,rfl,se,pe⟩
    exact ⟨_,_,_,_,_,_,_,rfl,sT.trans (lY.trans se),pe⟩
  ·rintro σ Hc ⟨v2,v3,v4,v5,v6,v7,v8,rfl,sT,pc⟩
   exact kQ _
theorem x4{l:PySem.W.OpenLaw}(T:Txt K mg t):∃fd:FuncData,(∀(s:Shared) (v:Value),BindsTo s fd ⟨[v],[]⟩ [("script",v)])∧∀base:Heap,K.In base→base.Ns mainGlobals mg→aX l.prog w K mg base bj 9 t.d5 fd ["script"] (iW K):=by
 obtain ⟨oc,od,kV,doc,pm,an,ay,ct,cZ,e,lk,bZ⟩:=T.gp.ex
 refine ⟨t.fg,fun s v=>?_,fun base _ _=>xK T⟩
 rw [e]
 exact .of_eq rfl
end
theorem walk{l:PySem.W.OpenLaw}{q:Program}{loose:List Str}{XP:(Str→Option Value)→Heap→Prop}{YP:World→Heap→Prop}{d:DefRec}{K:Params→PySem.W.Frag}(hn:l.most=some 63)(gP:d.params.defaults=[])
  (hY:∀(w:World) (h:Heap),YP w h→(K w.params).In h)
  (F:∀(w:World) (mg:Str→Option Value) (fa:Addr) (h:Heap),(K w.params).In h→h.Ns mainGlobals mg→mg d.name=some (.ref fa)→
   ∃fd:FuncData,(∀(s:Shared) (u:Value),BindsTo s fd ⟨[u],[]⟩ [("script",u)])∧∀base:Heap,(K w.params).In base→base.Ns mainGlobals mg→aX l.prog w (K w.params) mg base bj 9 fa fd ["script"] (iW (K w.params))) :
  PySem.W.WalkO q loose XP YP l.row.toRowW d [] (fun f vs=>PySem.call f vs):=
 L2.t5 (n:=63) (k:=9) (x:="script") (CX:=fun _=>bj) (sp:=fun w=>iW (K w.params)) hn (by decide) gP ⟨rfl,by decide,by decide⟩ hY F (fun _ _ a ns hl _ hS=>⟨a,ns,rfl,hS,hl,fun _=>rfl⟩) fun _ _ _ _ _ z=>z
theorem x5{K:PySem.W.Frag}{h:Heap}{mg:Str→Option Value}(X:K.In h)(G:h.Ns mainGlobals mg)
  {fV:Addr}
  {x6:Tok}
  {eO eQ eR eS eT eU eV eW eX eY eZ e8 e9 e_ fb d5:Addr} {fG fH fI fJ fK fL fM fN fO fP fQ fR fS fT fU fg:FuncData}
  (l6:PySem.W.nsIn K mainGlobals "NoSize" = some (some (.ref fV)))
  (x8:mg "neighbours" = some (.ref eO))
  (fW:aC K "neighbours" "neighbours" jc eO fG)
  (x9:mg "place_deeds" = some (.ref eQ))
  (fX:aC K "place_deeds" "place_deeds" jd eQ fH)
  (x_:mg "check_size" = some (.ref eR))
  (fY:aC K "check_size" "check_size" je eR fI)
  (ya:mg "still_near" = some (.ref eS))
  (fZ:aC K "still_near" "still_near" jf eS fJ)
  (yb:mg "cost" = some (.ref eT))
  (f9:aC K "cost" "cost" jg eT fK)
  (yc:mg "_law_fill" = some (.ref eU))
  (f_:aC K "_law_fill" "_law_fill" jh eU fL)
  (yd:mg "_law_next" = some (.ref eV))
  (bB:aC K "_law_next" "_law_next" ji eV fM)
  (ye:mg "_law_turned" = some (.ref eW))
  (gb:aC K "_law_turned" "_law_turned" jj eW fN)
  (yf:mg "_law_tied_by" = some (.ref eX))
  (gc:aC K "_law_tied_by" "_law_tied_by" jk eX fO)
  (yg:mg "_law_grown_links" = some (.ref eY))
  (gd:aC K "_law_grown_links" "_law_grown_links" jl eY fP)
  (yh:mg "_law_named" = some (.ref eZ))
  (gf:aC K "_law_named" "_law_named" jm eZ fQ)
  (yi:mg "_law_drawn" = some (.ref e8))
  (gg:aC K "_law_drawn" "_law_drawn" jo e8 fR)
  (yj:mg "_law_beside" = some (.ref e9))
  (gh:aC K "_law_beside" "_law_beside" jq e9 fS)
  (yk:mg "_law_walks" = some (.ref e_))
  (gk:aC K "_law_walks" "_law_walks" jr e_ fT)
  (yl:mg "_law_cost" = some (.ref fb))
  (gm:aC K "_law_cost" "_law_cost" jt fb fU)
  (ym:mg "law" = some (.ref d5))
  (gp:aC K "law" "law" ju d5 fg)
  (l7:PySem.W.nsIn K mainGlobals "len" = some none)
  (l8:PySem.W.nsIn K mainGlobals "isinstance" = some none)
  (l9:PySem.W.nsIn K mainGlobals "int" = some none)
  (l_:PySem.W.nsIn K mainGlobals "bool" = some none)
  (ma:PySem.W.nsIn K mainGlobals "tuple" = some none)
  (md:PySem.W.nsIn K mainGlobals "list" = some none)
  (me:PySem.W.nsIn K mainGlobals "range" = some none)
  (mf:PySem.W.nsIn K mainGlobals "min" = some none)
  (mh:PySem.W.nsIn K mainGlobals "max" = some none)
  (mi:PySem.W.nsIn K mainGlobals "sorted" = some none)
  (mj:PySem.W.nsIn K mainGlobals "ValueError" = some none)
  (ml:PySem.W.nsIn K mainGlobals "MOST" = some (some (.int 9 x6)))
  (mq:PySem.W.excIn K fV [.type "ValueError",.type "Exception",.type "BaseException",.type "object"] "ValueError.__new__" = true)
  : ∃t:lp,Txt K mg t:=by
 refine ⟨⟨eO,fG,eQ,fH,eR,fI,eS,fJ,eT,fK,eU,fL,eV,fM,eW,fN,eX,fO,eY,fP,eZ,fQ,e8,fR,e9,fS,e_,fT,fb,fU,d5,fg,fV⟩,?_⟩
 exact {
  fW:=fW
  pq:=fW.binds (ps:=["shape"]) fun _ _ _ _ _ _ us hl=>match us,hl with | [_],_=>rfl
  pz:=x8
  fX:=fX
  pA:=fX.binds (ps:=["many"]) fun _ _ _ _ _ _ us hl=>match us,hl with | [_],_=>rfl
  pB:=x9
  fY:=fY
  pC:=fY.binds (ps:=["shape"]) fun _ _ _ _ _ _ us hl=>match us,hl with | [_],_=>rfl
  pD:=x_
  fZ:=fZ
  pE:=fZ.binds (ps:=["linked","done","place"]) fun _ _ _ _ _ _ us hl=>match us,hl with | [_,_,_],_=>rfl
  pF:=ya
  f9:=f9
  pG:=f9.binds (ps:=["shape","done","place"]) fun _ _ _ _ _ _ us hl=>match us,hl with | [_,_,_],_=>rfl
  pH:=yb
  f_:=f_
  pI:=f_.binds (ps:=["_law_cell","_law_at"]) fun _ _ _ _ _ _ us hl=>match us,hl with | [_,_],_=>rfl
  pJ:=yc
  bB:=bB
  ck:=bB.binds (ps:=["_law_pen","_law_many"]) fun _ _ _ _ _ _ us hl=>match us,hl with | [_,_],_=>rfl
  cm:=yd
  gb:=gb
  pK:=gb.binds (ps:=["_law_pen","_law_some"]) fun _ _ _ _ _ _ us hl=>match us,hl with | [_,_],_=>rfl
  pL:=ye
  gc:=gc
  pM:=gc.binds (ps:=["_law_pen","_law_way","_law_size","_law_wide","_law_i","_law_j"]) fun _ _ _ _ _ _ us hl=>match us,hl with | [_,_,_,_,_,_],_=>rfl
  pN:=yf
  gd:=gd
  pO:=gd.binds (ps:=["_law_pen","_law_size"]) fun _ _ _ _ _ _ us hl=>match us,hl with | [_,_],_=>rfl
  pP:=yg
  gf:=gf
  pQ:=gf.binds (ps:=["_law_size","_law_links","_law_names"]) fun _ _ _ _ _ _ us hl=>match us,hl with | [_,_,_],_=>rfl
  pR:=yh
  gg:=gg
  pS:=gg.binds (ps:=["_law_pen","_law_most"]) fun _ _ _ _ _ _ us hl=>match us,hl with | [_,_],_=>rfl
  pT:=yi
  gh:=gh
  pU:=gh.binds (ps:=["_law_shape"]) fun _ _ _ _ _ _ us hl=>match us,hl with | [_],_=>rfl
  pV:=yj
  gk:=gk
  pW:=gk.binds (ps:=["_law_beside_here","_law_through","_law_start"]) fun _ _ _ _ _ _ us hl=>match us,hl with | [_,_,_],_=>rfl
  pX:=yk
  gm:=gm
  pY:=gm.binds (ps:=["_law_beside_here","_law_done","_law_place"]) fun _ _ _ _ _ _ us hl=>match us,hl with | [_,_,_],_=>rfl
  pZ:=yl
  gp:=gp
  vW:=gp.binds (ps:=["script"]) fun _ _ _ _ _ _ us hl=>match us,hl with | [_],_=>rfl
  p9:=ym
  p_:=PySem.W.mg_of X G l6
  d6:=PySem.W.mg_none_of X G l7
  lq:=PySem.W.mg_none_of X G l8
  qa:=PySem.W.mg_none_of X G l9
  qb:=PySem.W.mg_none_of X G l_
  lx:=PySem.W.mg_none_of X G ma
  lA:=PySem.W.mg_none_of X G md
  cN:=PySem.W.mg_none_of X G me
  qc:=PySem.W.mg_none_of X G mf
  qd:=PySem.W.mg_none_of X G mh
  qe:=PySem.W.mg_none_of X G mi
  vX:=PySem.W.mg_none_of X G mj
  qf:=⟨_,PySem.W.mg_of X G ml,_,rfl⟩
  qg:=mq
 }
end My
def PySem.W.Fast.tw12578446372838407334:Unit:=()
def PySem.W.Fast.tw5325166266124594672:Unit:=()
def PySem.W.Fast.tw3325349647657043029:Unit:=()
def PySem.W.Fast.tw17749328148152966230:Unit:=()
def PySem.W.Fast.tw3687430237194709972:Unit:=()
def PySem.W.Fast.tw10562913165409040740:Unit:=()
def PySem.W.Fast.tw11983554342849413883:Unit:=()
def PySem.W.Fast.tw900396543337248414:Unit:=()
def PySem.W.Fast.tw12544985404379909399:Unit:=()
def PySem.W.Fast.tw17087677186175813050:Unit:=()
def PySem.W.Fast.tw1322625714370929610:Unit:=()
def PySem.W.Fast.tw11367277946809292007:Unit:=()
def PySem.W.Fast.tw2881225394841280251:Unit:=()
open PySem PySem.W PyProof.Rows
set_option maxRecDepth 100000 in
set_option maxHeartbeats 0 in
theorem PySem.Challenge.cw_bandwright_k25_costs_behind_holds : PySem.Challenge.rw_bandwright_k25_costs_behind.Holds := by
 w_on;o_law;k_head;(case hw=>w_witness2)
 k_fill
 refine My.walk (l:=PySem.Challenge.rw_bandwright_k25_costs_behind) rfl rfl (fun w h Y=>PySem.W.kIn_of Y) ?F
 case F=>
  intro w mg fa h KX G gQ
  have T:∃t,My.Txt (L2.nU KX) mg t:=by
   dsimp only [L2.nU]
   refine' My.x5 KX G ?l6 (PySem.W.mg_of KX G ?yn) (L2.bG (st:=My.jc) ?yo ?yp ?yq) (PySem.W.mg_of KX G ?yr) (L2.bG (st:=My.jd) ?yt ?yu ?yv) (PySem.W.mg_of KX G ?yw) (L2.bG (st:=My.je) ?yx ?yy ?yz) (PySem.W.mg_of KX G ?yA) (L2.bG (st:=My.jf) ?yB ?yC ?yE) (PySem.W.mg_of KX G ?yF) (L2.bG (st:=My.jg) ?yG ?yH ?yI) (PySem.W.mg_of KX G ?yJ) (L2.bG (st:=My.jh) ?yK ?yL ?yM) (PySem.W.mg_of KX G ?yN) (L2.bG (st:=My.ji) ?yO ?yP ?yQ) (PySem.W.mg_of KX G ?yR) (L2.bG (st:=My.jj) ?yS ?yT ?yU) (PySem.W.mg_of KX G ?yV) (L2.bG (st:=My.jk) ?yW ?yX ?yY) (PySem.W.mg_of KX G ?yZ) (L2.bG (st:=My.jl) ?y4 ?y6 ?y7) (PySem.W.mg_of KX G ?y8) (L2.bG (st:=My.jm) ?y9 ?y_ ?za) (PySem.W.mg_of KX G ?zb) (L2.bG (st:=My.jo) ?zc ?zd ?ze) (PySem.W.mg_of KX G ?zf) (L2.bG (st:=My.jq) ?zg ?zh ?zi) (PySem.W.mg_of KX G ?zj) (L2.bG (st:=My.jr) ?zk ?zl ?zm) (PySem.W.mg_of KX G ?zo) (L2.bG (st:=My.jt) ?zp ?zq ?zr) (PySem.W.mg_of KX G ?zt) (L2.bG (st:=My.ju) ?zu ?zv ?zw) ?l7 ?l8 ?l9 ?l_ ?ma ?md ?me ?mf ?mh ?mi ?mj ?ml ?mq
   (case l6=>k_is)
   (case yn=>k_is)
   (case yo=>k_is)
   (case yp=>k_is)
   (case yq=>k_is)
   (case yr=>k_is)
   (case yt=>k_is)
   (case yu=>k_is)
   (case yv=>k_is)
   (case yw=>k_is)
   (case yx=>k_is)
   (case yy=>k_is)
   (case yz=>k_is)
   (case yA=>k_is)
   (case yB=>k_is)
   (case yC=>k_is)
   (case yE=>k_is)
   (case yF=>k_is)
   (case yG=>k_is)
   (case yH=>k_is)
   (case yI=>k_is)
   (case yJ=>k_is)
   (case yK=>k_is)
   (case yL=>k_is)
   (case yM=>k_is)
   (case yN=>k_is)
   (case yO=>k_is)
   (case yP=>k_is)
   (case yQ=>k_is)
   (case yR=>k_is)
   (case yS=>k_is)
   (case yT=>k_is)
   (case yU=>k_is)
   (case yV=>k_is)
   (case yW=>k_is)
   (case yX=>k_is)
   (case yY=>k_is)
   (case yZ=>k_is)
   (case y4=>k_is)
   (case y6=>k_is)
   (case y7=>k_is)
   (case y8=>k_is)
   (case y9=>k_is)
   (case y_=>k_is)
   (case za=>k_is)
   (case zb=>k_is)
   (case zc=>k_is)
   (case zd=>k_is)
   (case ze=>k_is)
   (case zf=>k_is)
   (case zg=>k_is)
   (case zh=>k_is)
   (case zi=>k_is)
   (case zj=>k_is)
   (case zk=>k_is)
   (case zl=>k_is)
   (case zm=>k_is)
   (case zo=>k_is)
   (case zp=>k_is)
   (case zq=>k_is)
   (case zr=>k_is)
   (case zt=>k_is)
   (case zu=>k_is)
   (case zv=>k_is)
   (case zw=>k_is)
   (case l7=>k_is)
   (case l8=>k_is)
   (case l9=>k_is)
   (case l_=>k_is)
   (case ma=>k_is)
   (case md=>k_is)
   (case me=>k_is)
   (case mf=>k_is)
   (case mh=>k_is)
   (case mi=>k_is)
   (case mj=>k_is)
   (case ml=>k_is)
   (case mq=>k_exc)
  obtain ⟨t,T⟩:=T
  have e0:=gQ.symm.trans T.p9
  cases e0
  exact My.x4 T
#print axioms PySem.Challenge.cw_bandwright_k25_costs_behind_holds
