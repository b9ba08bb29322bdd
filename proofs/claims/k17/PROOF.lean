import PyProof.Rows.All
import Wide.All
import OpenK.AllK
import Wide.FinOn
import Lean
import PyProof.EqAt
import PyProof.EqKinds
import PyProof.TupleCall
import PySem.Challenge.RW_bandwright_k17_filled_by_walks
set_option Elab.async false
set_option linter.all false
set_option maxRecDepth 100000
namespace L2
open PySem PySem.Spec PyProof.Rows
abbrev Key:=Sum Int Str
def iJ:Key→Value→Bool
 | .inl k,v=>Value.isInt k v
 | .inr x,v=>Value.isStrOf x v
def A9(w:World):Key→Int
 | .inl k=>hashInt k
 | .inr x=>hashStr w x
theorem fL:∀{k:Key} {v:Value},iJ k v=true→(∃i t,k=Sum.inl i∧v=Value.int i t)∨(∃x t,k=Sum.inr x∧v=Value.str x t)
 | .inl i,v,h=>by
  obtain ⟨t,e⟩:=Value.isInt_shape (k:=i) (v:=v) h
  exact .inl ⟨i,t,rfl,e⟩
 | .inr x,v,h=>by
  obtain ⟨t,e⟩:=Value.isStrOf_shape (x:=x) (v:=v) h
  exact .inr ⟨x,t,rfl,e⟩
theorem A_(i:Int)(t:Tok):iJ (.inl i) (.int i t)=true:=by simp [iJ,Value.isInt]
theorem Ba(x:Str)(t:Tok):iJ (.inr x) (.str x t)=true:=by simp [iJ,Value.isStrOf]
theorem Bb(a b:Int):decide ((Sum.inl a:Key)=Sum.inl b)=(a == b):=by
 by_cases e:a=b
 ·subst e;simp
 ·have h:¬(Sum.inl a:Key)=Sum.inl b:=fun q=>e (Sum.inl.inj q)
  rw [decide_eq_false h]
  exact (beq_eq_false_iff_ne.mpr e).symm
theorem Bc(a b:Str):decide ((Sum.inr a:Key)=Sum.inr b)=decide (a=b):=by
 by_cases e:a=b
 ·subst e;simp
 ·have h:¬(Sum.inr a:Key)=Sum.inr b:=fun q=>e (Sum.inr.inj q)
  rw [decide_eq_false h,decide_eq_false e]
theorem Bd(a:Int)(b:Str):decide ((Sum.inl a:Key)=Sum.inr b)=false:=decide_eq_false (fun q=>nomatch q)
theorem Be(a:Str)(b:Int):decide ((Sum.inr a:Key)=Sum.inl b)=false:=decide_eq_false (fun q=>nomatch q)
def cN(prog:Program)(w:World):PySem.KeyKind prog w Key where
 is:=iJ
 hash:=A9 w
 inj:=fun v a b ha hb=>by
  rcases fL ha with ⟨i,t,rfl,rfl⟩ | ⟨x,t,rfl,rfl⟩
  ·rcases fL hb with ⟨j,u,rfl,e⟩ | ⟨y,u,rfl,e⟩
   ·injection e with e1 _;rw [e1]
   ·exact nomatch e
  ·rcases fL hb with ⟨j,u,rfl,e⟩ | ⟨y,u,rfl,e⟩
   ·exact nomatch e
   ·injection e with e1 _;rw [e1]
 byValue:=fun k v h=>by
  rcases fL h with ⟨i,t,rfl,rfl⟩ | ⟨x,t,rfl,rfl⟩ <;> rfl
 pyHash:=fun hv h=>by
  rcases fL hv with ⟨i,t,rfl,rfl⟩ | ⟨x,t,rfl,rfl⟩
  ·exact wpAny_pyHash_int h
  ·exact wpAny_pyHash_str h
 eqBool:=fun hu hv h=>by
  rcases fL hu with ⟨i,t,rfl,rfl⟩ | ⟨x,t,rfl,rfl⟩
  ·rcases fL hv with ⟨j,u,rfl,rfl⟩ | ⟨y,u,rfl,rfl⟩
   ·rw [Bb] at h;exact wpAny_eqBool_int h
   ·rw [Bd] at h;exact SeqAt.EqAt.int_str i t y u _ _ _ _ h
  ·rcases fL hv with ⟨j,u,rfl,rfl⟩ | ⟨y,u,rfl,rfl⟩
   ·rw [Be] at h;exact SeqAt.EqAt.str_int x t j u _ _ _ _ h
   ·rw [Bc] at h;exact wpAny_eqBool_str h
 «strs»:=fun k x t v h=>by
  rcases fL h with ⟨i,u,rfl,e⟩ | ⟨y,u,rfl,e⟩
  ·exact nomatch e
  ·injection e with e1 _
   subst e1
   cases v <;> rfl
theorem Bf(prog:Program)(w:World)(i:Int)(t:Tok):(cN prog w).is (.inl i) (.int i t)=true:=A_ i t
theorem Bg(prog:Program)(w:World)(x:Str)(t:Tok):(cN prog w).is (.inr x) (.str x t)=true:=Ba x t
inductive V where
 | aG | bl (b:Bool) | int (i:Int) | str (x:Str) | fh (b:Array UInt8) | jZ (b:UInt64) | ref (a:Addr) | ty (n:String)
 deriving DecidableEq
def RelV:V→Value→Prop
 | .aG,u=>u=Value.none
 | .bl b,u=>u=Value.bool b
 | .int i,u=>∃t,u=Value.int i t
 | .str x,u=>∃t,u=Value.str x t
 | .fh b,u=>∃t,u=Value.bytes b t
 | .jZ b,u=>∃t,u=Value.float b t
 | .ref a,u=>u=Value.ref a
 | .ty n,u=>u=Value.type n
abbrev Vals:List V→List Value→Prop:=Paired RelV
theorem Vals.length{xs:List V}{us:List Value}(r:Vals xs us):xs.length=us.length:=Paired.length r
theorem Vals.get:∀{xs:List V} {us:List Value} {i:Nat} {x:V},Vals xs us→xs[i]?=some x→∃u,us[i]?=some u∧RelV x u
 | _,_,_,_,.nil,e=>by simp at e
 | _,_,0,_,.cons r _,e=>by simp at e;subst e;exact ⟨_,rfl,r⟩
 | _,_,i+1,x,.cons _ t,e=>by
  obtain ⟨u,h1,h2⟩:=Vals.get (i:=i) (x:=x) t (by simpa using e)
  exact ⟨u,by simpa using h1,h2⟩
theorem Vals.set{x:V}{u:Value}(r:RelV x u):∀{xs:List V} {us:List Value} (i:Nat),Vals xs us→Vals (xs.set i x) (us.set i u)
 | _,_,_,.nil=>.nil
 | _,_,0,.cons _ t=>.cons r t
 | _,_,i+1,.cons q t=>.cons q (Vals.set r i t)
theorem Vals.append:∀{xs ys:List V} {us ws:List Value},Vals xs us→Vals ys ws→Vals (xs++ys) (us++ws)
 | _,_,_,_,.nil,s=>s
 | _,_,_,_,.cons r t,s=>.cons r (Vals.append t s)
theorem Vals.take:∀{xs:List V} {us:List Value} (n:Nat),Vals xs us→Vals (xs.take n) (us.take n)
 | _,_,0,_=>.nil
 | _,_,_+1,.nil=>.nil
 | _,_,n+1,.cons r t=>.cons r (Vals.take n t)
theorem Vals.drop:∀{xs:List V} {us:List Value} (n:Nat),Vals xs us→Vals (xs.drop n) (us.drop n)
 | _,_,0,r=>r
 | _,_,_+1,.nil=>.nil
 | _,_,n+1,.cons _ t=>Vals.drop n t
theorem Vals.none_of:∀{xs:List V} {us:List Value} {i:Nat},Vals xs us→xs[i]?=none→us[i]?=none:=fun{xs us i} r e=>by
 have h1:=r.length
 have h2:xs.length≤i:=List.getElem?_eq_none_iff.mp e
 exact List.getElem?_eq_none_iff.mpr (by omega)
def iK:Option V→Option Value→Prop
 | some v,some u=>RelV v u
 | none,none=>True
 | _,_=>False
def KV{κ:Type}:List (κ×V)→List (κ×Value)→Prop:=Paired fun(p:κ×V) (q:κ×Value)=>p.1=q.1∧RelV p.2 q.2
def kV:Key→V
 | .inl i=>.int i
 | .inr x=>.str x
inductive HO where
 | lst (xs:List V)
 | tup (xs:List V)
 | dK (ai:List (Key×V)) | dT (ai:List (List Key×V))
 | set (S:Int→Bool) (n:Nat)
 | ins (C dx:Addr) (fs:List (Str×V))
 | own (x:Addr)
 | xd (fs:List (Str×V))
 | met (f x:Addr)
 | d7 (lo hi:Int)
 | bj (o:Obj) (u:HO)
 | gs (ps:Array Value)
 | ext (φ:Heap→Prop)
abbrev Hp:=Addr→Option HO
def upd(H:Hp)(a:Addr)(o:HO):Hp:=fun b=>if b=a then some o else H b
theorem ar{H:Hp}{a:Addr}{o:HO}:upd H a o a=some o:=by unfold upd;rw [if_pos rfl]
theorem aA{H:Hp}{a b:Addr}{o:HO}(h:b≠a):upd H a o b=H b:=by unfold upd;rw [if_neg h]
theorem Bh{H:Hp}{a b:Addr}{o u:HO}(h:H a=some o)(h':H b=some u)(d:o≠u):a≠b:=by
 intro e;subst e;rw [h] at h';exact d (Option.some.inj h')
theorem eL{H:Hp}{a b:Addr}{o:HO}(h:H a=some o)(h':H b=none):a≠b:=by
 intro e;subst e;rw [h] at h';cases h'
section
variable (P:Program) (w:World)
def a7(H:Hp)(h:Heap)(a:Addr):HO→Prop
 | .lst xs=>xs.length≤sizeLine∧∃(aa:List Value) (n:Nat),Vals xs aa∧h.get? a=some {cls:=.type "list",data:=.seq aa.toArray n}
 | .tup xs=>xs.length≤sizeLine∧∃aa:List Value,Vals xs aa∧IsTup h a aa.toArray
 | .dK ai=>ai.length≤sizeLine∧(a == sysModules)=false∧∃vs,KV ai vs∧h.DictOf (cN P w) a vs
 | .dT ai=>ai.length≤sizeLine∧(a == sysModules)=false∧∃xs:List (List Key×Addr×Value),
   Paired (fun(p:List Key×V) (q:List Key×Addr×Value)=>p.1=q.1∧H q.2.1=some (.tup (p.1.map kV))∧RelV p.2 q.2.2) ai xs ∧
   ∃o es ep,h.get? a=some o∧o.ExactDict∧o.data=.dict es ep∧es.toList=xs.map (entryOfKey (tupleKind (cN P w)))∧(xs.map (·.1)).Nodup
 | .set S n=>h.SetOf (intKind P w) a S n
 | .ins C dx fs=>H dx=some (.own a)∧fs.length≤1000∧dx≠a∧h.get? a=some (PySem.W.instObj C dx) ∧
   ∃mA,h.Ns1 dx mA∧(∀f,iK (fs.lookup f) (mA f))∧PySem.Within mA (fs.map (·.1))
 | .own _=>∃o,h.get? a=some o
 | .xd fs=>∃mA,h.Ns1 a mA∧∀f,iK (fs.lookup f) (mA f)
 | .d7 lo hi=>∃t u v,h.get? a=some {cls:=.type "range",data:=.fields #[.int lo t,.int hi u,.int 1 v]}
 | .bj o u=>h.get? a=some o∧a7 H h a u
 | .gs ps=>h.get? a=some {cls:=.none,data:=.fields ps}
 | .met f x=>h.get? a=some (PySem.W.methodObj (.ref f) (.ref x))
 | .ext φ=>φ h∧(∃o,h.get? a=some o)∧∀h1 h2:Heap,φ h1→(∀o,h1.get? a=some o→h2.get? a=some o)→φ h2
def a9(H:Hp)(h:Heap):Prop:=∀a o,H a=some o→a7 P w H h a o
end
section
variable {P:Program} {w:World} {H H':Hp} {h h':Heap} {a:Addr} {o:HO}
theorem a7.lt(x:a7 P w H h a o):a<h.objs.size:=by
 cases o with
 | lst xs=>obtain ⟨_,_,_,_,e⟩:=x;exact Heap.lt_size e
 | tup xs=>obtain ⟨_,_,_,p⟩:=x;exact p.lt
 | dK ai=>obtain ⟨_,_,_,_,o,_,_,e,_⟩:=x;exact Heap.lt_size e
 | dT ai=>obtain ⟨_,_,_,_,o,_,_,e,_⟩:=x;exact Heap.lt_size e
 | set S n=>obtain ⟨o,_,_,_,e,_⟩:=x;exact Heap.lt_size e
 | ins C dx fs=>obtain ⟨_,_,_,e,_⟩:=x;exact Heap.lt_size e
 | own y=>obtain ⟨_,e⟩:=x;exact Heap.lt_size e
 | xd fs=>obtain ⟨_,⟨_,_,_,e,_⟩,_⟩:=x;exact Heap.lt_size e
 | d7 lo hi=>obtain ⟨_,_,_,e⟩:=x;exact Heap.lt_size e
 | bj ob u=>obtain ⟨e,_⟩:=x;exact Heap.lt_size e
 | gs ps=>exact Heap.lt_size (show h.get? a=some _ from x)
 | met f y=>exact Heap.lt_size (show h.get? a=some _ from x)
 | ext φ=>obtain ⟨_,⟨_,e⟩,_⟩:=x;exact Heap.lt_size e
theorem Paired.rB{α β:Type}{F G:α→β→Prop}:∀{l₁:List α} {l₂:List β},Paired F l₁ l₂→(∀a b,F a b→G a b)→Paired G l₁ l₂
 | _,_,.nil,_=>.nil
 | _,_,.cons r t,f=>.cons (f _ _ r) (Paired.rB t f)
theorem a7.d8(x:a7 P w H h a o)(k:∀b u,(b=a∨H b=some (.own a))→h.get? b=some u→h'.get? b=some u)
  (ho:∀b,H b=some (.own a)→H' b=some (.own a)) (ht:∀b xs,H b=some (.tup xs)→H' b=some (.tup xs)):a7 P w H' h' a o:=by
 induction o with
 | lst xs=>obtain ⟨z,aa,n,r,e⟩:=x;exact ⟨z,aa,n,r,k _ _ (.inl rfl) e⟩
 | tup xs=>obtain ⟨z,aa,r,ob,e,c⟩:=x;exact ⟨z,aa,r,ob,k _ _ (.inl rfl) e,c⟩
 | dK ai=>obtain ⟨z,y,vs,r,ob,es,ep,e,c⟩:=x;exact ⟨z,y,vs,r,ob,es,ep,k _ _ (.inl rfl) e,c⟩
 | dT ai=>
  obtain ⟨z,y,xs,r,ob,es,ep,e,c⟩:=x
  exact ⟨z,y,xs,Paired.rB r fun p q z=>⟨z.1,ht _ _ z.2.1,z.2.2⟩,ob,es,ep,k _ _ (.inl rfl) e,c⟩
 | set S n=>obtain ⟨ob,es,ep,t,e,c⟩:=x;exact ⟨ob,es,ep,t,k _ _ (.inl rfl) e,c⟩
 | ins C dx fs=>
  obtain ⟨d,z,ne,e,mA,⟨od,es,ep,e2,c⟩,r⟩:=x
  exact ⟨ho _ d,z,ne,k _ _ (.inl rfl) e,mA,⟨od,es,ep,k _ _ (.inr d) e2,c⟩,r⟩
 | own y=>obtain ⟨ob,e⟩:=x;exact ⟨ob,k _ _ (.inl rfl) e⟩
 | xd fs=>obtain ⟨mA,⟨od,es,ep,e,c⟩,r⟩:=x;exact ⟨mA,⟨od,es,ep,k _ _ (.inl rfl) e,c⟩,r⟩
 | d7 lo hi=>obtain ⟨t,u,v,e⟩:=x;exact ⟨t,u,v,k _ _ (.inl rfl) e⟩
 | bj ob u ih=>obtain ⟨e,q⟩:=x;exact ⟨k _ _ (.inl rfl) e,ih q⟩
 | gs ps=>
  have e:h.get? a=some {cls:=.none,data:=.fields ps}:=x
  show h'.get? a=some {cls:=.none,data:=.fields ps}
  exact k a _ (.inl rfl) e
 | met f y=>
  have e:h.get? a=some (PySem.W.methodObj (.ref f) (.ref y)):=x
  show h'.get? a=some (PySem.W.methodObj (.ref f) (.ref y))
  exact k a _ (.inl rfl) e
 | ext φ=>obtain ⟨p,⟨o,e⟩,st⟩:=x;exact ⟨st _ _ p fun o q=>k _ _ (.inl rfl) q,⟨o,k _ _ (.inl rfl) e⟩,st⟩
theorem a9.lt(x:a9 P w H h)(e:H a=some o):a<h.objs.size:=(x a o e).lt
theorem a9.fresh(x:a9 P w H h)(e:h.objs.size≤a):H a=none:=by
 cases q:H a with
 | none=>rfl
 | some u=>exact absurd (Nat.lt_of_lt_of_le (x.lt q) e) (Nat.lt_irrefl _)
theorem a9.kept(x:a9 P w H h)(k:∀b u,h.get? b=some u→h'.get? b=some u):a9 P w H h':=fun a o e=>
 (x a o e).d8 (fun b u _ q=>k b u q) (fun _ q=>q) fun _ _ q=>q
theorem a9.laid(x:a9 P w H h)(k:∀b u,h.get? b=some u→h'.get? b=some u)(hp:h.objs.size≤a)(new:a7 P w (upd H a o) h' a o):a9 P w (upd H a o) h':=fun b u e=>by
 have hn:=x.fresh hp
 by_cases hb:b=a
 ·subst hb;rw [ar] at e;cases e;exact new
 ·rw [aA hb] at e
  exact (x b u e).d8 (fun c v _ q=>k c v q) (fun c q=>by rw [aA (eL q hn)];exact q) fun c xs q=>by rw [aA (eL q hn)];exact q
end
def Rd(H:Hp)(a:Addr)(u:HO):Prop:=H a=some u∨∃o,H a=some (.bj o u)
theorem Rd.ok{P:Program}{w:World}{H:Hp}{h:Heap}{a:Addr}{u:HO}(r:Rd H a u)(x:a9 P w H h):a7 P w H h a u:=by
 rcases r with r | ⟨o,r⟩
 ·exact x a u r
 ·obtain ⟨_,q⟩:=x a _ r
  exact q
def mx:Option HO→Prop
 | some (.lst _)=>True
 | some (.dK _)=>True
 | some (.dT _)=>True
 | some (.set _ _)=>True
 | some (.ins _ _ _)=>True
 | some (.ext _)=>True
 | _=>False
section
variable {P:Program} {w:World} {H:Hp} {h h':Heap} {x e:Addr} {o':HO}
theorem a9.write(ok:a9 P w H h)(mu:mx (H x))(he:e=x∨H e=some (.own x))(k:∀b u,b≠e→h.get? b=some u→h'.get? b=some u)(j4:∃u,h'.get? e=some u)
  (new:a7 P w (upd H x o') h' x o'):a9 P w (upd H x o') h':=fun b u q=>by
 have vF:∀c y,H c=some (.own y)→c≠x:=fun c y r z=>by subst z;rw [r] at mu;exact mu
 have Bi:∀c xs,H c=some (.tup xs)→c≠x:=fun c xs r z=>by subst z;rw [r] at mu;exact mu
 by_cases hb:b=x
 ·subst hb;rw [ar] at q;cases q;exact new
 ·rw [aA hb] at q
  by_cases iL:b=e
  ·have q':H b=some (.own x):=by
    rcases he with z | z
    ·exact absurd (iL.trans z) hb
    ·rw [iL];exact z
   rw [q] at q';cases q'
   obtain ⟨v,hv⟩:=j4
   exact ⟨v,by rw [iL];exact hv⟩
  ·refine (ok b u q).d8 (fun c v hc r=>k c v ?_ r) (fun c r=>by rw [aA (vF c b r)];exact r) fun c xs r=>by rw [aA (Bi c xs r)];exact r
   rcases hc with rfl | hc
   ·exact iL
   ·rintro rfl
    rcases he with z | z
    ·exact vF c b hc z
    ·rw [hc] at z;cases z;exact hb rfl
end
structure Un (fs ex:List Addr) (H H':Hp) (h h':Heap):Prop where
 keep:∀b o,h.get? b=some o→H b=none→b∉fs→b∉ex→h'.get? b=some o
 slot:∀b o,h.get? b=some o→H b=none→b∈fs→b∉ex→∃sl,h'.get? b=some {o with slots:=sl}
 free:∀b o,h.get? b=some o→H b=none→b∉ex→H' b=none
 there:∀b o,h.get? b=some o→b∉ex→∃o',h'.get? b=some o'
 dm:∀b xs,H b=some (.tup xs)→H' b=some (.tup xs)
 cY:∀b o u,H b=some (.bj o u)→H' b=some (.bj o u)
 dq:∀b ps,H b=some (.gs ps)→∃more,H' b=some (.gs (ps++more))
section
variable {fs gT ex d9:List Addr} {H H1 H2:Hp} {h h1 h2 h':Heap} {a x e:Addr} {o:HO}
theorem Un.any(u:Un fs ex H H1 h h1){b:Addr}{ob:Obj}(q:h.get? b=some ob)(n:H b=none)(hx:b∉ex):∃sl,h1.get? b=some {ob with slots:=sl}:=by
 by_cases hb:b∈fs
 ·exact u.slot b ob q n hb hx
 ·exact ⟨ob.slots,u.keep b ob q n hb hx⟩
theorem Un.kept(k:∀b u,h.get? b=some u→h'.get? b=some u):Un fs ex H H h h':=
 ⟨fun b ob q _ _ _=>k b ob q,fun b ob q _ _ _=>⟨ob.slots,k b ob q⟩,fun _ _ _ n _=>n,fun b ob q _=>⟨ob,k b ob q⟩,fun _ _ q=>q,fun _ _ _ q=>q,fun _ ps q=>⟨#[],by rw [q];simp⟩⟩
theorem Un.refl:Un fs ex H H h h:=Un.kept fun _ _ q=>q
theorem Un.laid(k:∀b u,h.get? b=some u→h'.get? b=some u)(hp:h.objs.size≤a)(hn:H a=none):Un fs ex H (upd H a o) h h' where
 keep:=fun b u q _ _ _=>k b u q
 slot:=fun b u q _ _ _=>⟨u.slots,k b u q⟩
 free:=fun b u q n _=>by rw [aA (Nat.ne_of_lt (Nat.lt_of_lt_of_le (Heap.lt_size q) hp))];exact n
 there:=fun b u q _=>⟨u,k b u q⟩
 dm:=fun b xs q=>by rw [aA (eL q hn)];exact q
 cY:=fun b u xs q=>by rw [aA (eL q hn)];exact q
 dq:=fun b ps q=>⟨#[],by rw [aA (eL q hn),q];simp⟩
theorem Un.write(mu:mx (H x))(he:e=x∨H e=some (.own x))(k:∀b u,b≠e→h.get? b=some u→h'.get? b=some u)(j4:∃u,h'.get? e=some u):Un fs ex H (upd H x o) h h':=by
 have hx:∀b,H b=none→b≠x:=fun b n z=>by subst z;rw [n] at mu;exact mu
 have hb:∀b,H b=none→b≠e:=fun b n z=>by
  subst z
  rcases he with r | r
  ·exact hx b n r
  ·rw [n] at r;cases r
 have hm:∀b u,H b=some u→¬mx (some u)→b≠x:=fun b u q nm z=>by subst z;rw [q] at mu;exact nm mu
 refine ⟨fun b u q n _ _=>k b u (hb b n) q,fun b u q n _ _=>⟨u.slots,k b u (hb b n) q⟩,fun b u q n _=>by rw [aA (hx b n)];exact n,fun b u q _=>?_,
  fun b xs q=>by rw [aA (hm b _ q fun z=>z)];exact q,fun b u xs q=>by rw [aA (hm b _ q fun z=>z)];exact q,fun b ps q=>⟨#[],by rw [aA (hm b _ q fun z=>z),q];simp⟩⟩
 by_cases iL:b=e
 ·subst iL;exact j4
 ·exact ⟨u,k b u iL q⟩
end
def og(h:Heap)(H:Hp):List Addr:=(List.range h.objs.size).filter fun a=>(H a).isSome
def gu(h:Heap)(H:Hp):Heap:=PySem.W.hideAll h (og h H)
theorem Bj(h:Heap)(H:Hp):(gu h H).objs.size=h.objs.size:=PySem.W.hideAll_size _ _
theorem Bk{h:Heap}{H:Hp}{b:Addr}{o:Obj}(e:h.get? b=some o)(n:H b=none):(gu h H).get? b=some o:=
 PySem.W.hideAll_get _ e fun hm=>by
  have q:(H b).isSome=true:=(List.mem_filter.mp hm).2
  rw [n] at q;simp at q
theorem Bl{h:Heap}{H:Hp}{b:Addr}{o:Obj}(e:(gu h H).get? b=some o):h.get? b=some o∧H b=none:=by
 have e':h.get? b=some o:=PySem.W.of_hideAll (og h H) e
 refine ⟨e',?_⟩
 cases q:H b with
 | none=>rfl
 | some x=>
  have hm:b∈og h H:=List.mem_filter.mpr ⟨List.mem_range.mpr (Heap.lt_size e'),by simp [q]⟩
  have z:(gu h H).get? b=none:=PySem.W.hideAll_none (og h H) hm
  rw [z] at e;cases e
structure Mod (K:PySem.W.Frag) (mg:Str→Option Value) (base:Heap):Prop where
 bP:K.In base
 glob:base.Ns mainGlobals mg
 blt:∃mb,base.Ns builtinsNs mb∧∀x:Str,x ≠ "__name__"→mb x=bootBuiltins x
 nolimit:base.NoLimit
structure Cx where
 prog:Program
 w:World
 K:PySem.W.Frag
 mg:Str→Option Value
 base:Heap
 A:Around
 N:List Str
 s₀:Shared
 H₀:Hp
 env:Env
 outer:List Env
 stack:List Env
 ex:List Addr
 fn:Str→Bool
 calm:Bool
 pn:List (Addr×Obj)
 xe:Value→Shared→Prop
def bu(l:List Env):List Addr:=l.filterMap (·.frame)
abbrev Cx.fs (X:Cx):List Addr:=bu X.outer
def my(sc:Scope)(x:Str):Prop:=sc.names.lookup x=some .local∨sc.names.lookup x=some .cell∨sc.names.lookup x=some .free
def Loc(sc:Scope)(x:Str):Prop:=sc.names.lookup x=some .local∨sc.names.lookup x=some .cell
def Look(env:Env)(h:Heap)(m:Str→Option Value)(x:Str)(u:Value):Prop:=
 (env.kindOf x=some .local∧m x=some u)∨((env.kindOf x=some .cell∨env.kindOf x=some .free)∧∃c,env.cells.lookup x=some c∧h.IsCell c (some u))
structure Cx.Ok (X:Cx):Prop where
 mod:Mod X.K X.mg X.base
 kind:X.env.scope.kind=.function
 glob:X.env.globals=mainGlobals
 blt:X.env.builtins=builtinsNs
 above:X.s₀.heap.objs.size≤X.env.locals
 inj:∀x y c,X.env.cells.lookup x=some c→X.env.cells.lookup y=some c→x=y
 has:∀x,(X.env.kindOf x=some .cell∨X.env.kindOf x=some .free)→∃c,X.env.cells.lookup x=some c
 mz:∀x c,X.fn x=true→X.env.cells.lookup x=some c→X.s₀.heap.objs.size≤c
 hd:X.calm=true→X.A.handled=none
 frames:X.A.frames=some X.stack
 d_:X.stack=X.outer∨(X.stack=X.env::X.outer∧X.env.frame=some X.env.locals)
 vG:∀b∈X.ex,b≠X.env.locals∧∀x c,X.env.cells.lookup x=some c→c≠b
 bs:∀b o,X.base.get? b=some o→X.s₀.heap.get? b=some o∧X.H₀ b=none
 eN:X.base.objs.size≤X.s₀.heap.objs.size
 iM:∀b o,X.base.get? b=some o→b∉X.ex
 iO:∀b∈X.ex,b∉X.fs
 fi:X.s₀.heap.FunFrames X.base X.outer
 gU:∀b∈X.fs,X.H₀ b=none
structure Inv (X:Cx) (pins:List (Addr×Obj)) (σ:List (Option V)) (H:Hp) (s:Shared):Prop where
 ok:X.Ok
 os:s.os=X.s₀.os
 bare:AllBare s.gens
 base:Un X.fs X.ex X.H₀ H X.s₀.heap s.heap
 loc:∃m,s.heap.Ns X.env.locals m∧∀(i:Nat) (x:Str) (v:V),X.N[i]?=some x→σ[i]?=some (some v)→my X.env.scope x→∃u,RelV v u∧Look X.env s.heap m x u
 cell:∀x c,X.env.cells.lookup x=some c→∃v,s.heap.IsCell c v
 free:H X.env.locals=none
 eO:∀x c,X.env.cells.lookup x=some c→H c=none
 pin:∀p∈X.pn++pins,s.heap.get? p.1=some p.2∧H p.1=none∧p.1≠X.env.locals∧p.1∉X.fs∧∀v,p.2.data≠.cell v
 aq:a9 X.prog X.w H s.heap
 len:σ.length=X.N.length
section
variable {X:Cx} {pins:List (Addr×Obj)} {σ:List (Option V)} {H H':Hp} {s:Shared} {h':Heap}
theorem Cx.Ok.Bm(ok:X.Ok){b:Addr}{o:Obj}(e:X.base.get? b=some o):b∉X.fs:=fun hb=>by
 have:=(ok.fi.mem hb).1
 rw [e] at this;cases this
theorem Inv.bs(I:Inv X pins σ H s):∀b o,X.base.get? b=some o→s.heap.get? b=some o∧H b=none:=fun b o e=>
 ⟨I.base.keep b o (I.ok.bs b o e).1 (I.ok.bs b o e).2 (I.ok.Bm e) (I.ok.iM b o e),I.base.free b o (I.ok.bs b o e).1 (I.ok.bs b o e).2 (I.ok.iM b o e)⟩
theorem Inv.bk(I:Inv X pins σ H s):∀b o,X.base.get? b=some o→s.heap.get? b=some o:=fun b o e=>(I.bs b o e).1
theorem Inv.mod(I:Inv X pins σ H s):Mod X.K X.mg X.base:=I.ok.mod
theorem Inv.cJ(I:Inv X pins σ H s):X.K.In s.heap:=I.ok.mod.bP.keeps I.bk
theorem Inv.lt(I:Inv X pins σ H s):X.env.locals<s.heap.objs.size:=let ⟨_,hn,_⟩:=I.loc;hn.lt
theorem Inv.sz(I:Inv X pins σ H s):X.s₀.heap.objs.size≤s.heap.objs.size:=Nat.le_trans I.ok.above (Nat.le_of_lt I.lt)
theorem Inv.Bn(I:Inv X pins σ H s){a:Addr}(h:s.heap.objs.size≤a):a∉X.fs:=fun hb=>by
 obtain ⟨_,o,ho,_⟩:=I.ok.fi.mem hb
 exact absurd (Nat.lt_of_lt_of_le (Heap.lt_size ho) (Nat.le_trans I.sz h)) (Nat.lt_irrefl _)
theorem Inv.iP(I:Inv X pins σ H s):∀x c,X.env.cells.lookup x=some c→c≠X.env.locals:=fun x c e z=>by
 obtain ⟨v,o,ho,hd⟩:=I.cell x c e
 obtain ⟨m,⟨o',es,ep,fM,Bo,_⟩,_⟩:=I.loc
 rw [z,fM] at ho;cases ho;rw [Bo] at hd;cases hd
theorem Inv.fi(I:Inv X pins σ H s):s.heap.FunFrames X.base X.outer:=by
 have all:∀(l:List Env),(∀b∈bu l,b∈X.fs)→X.s₀.heap.FunFrames X.base l→s.heap.FunFrames X.base l:=by
  intro l
  induction l with
  | nil=>intro _ _;trivial
  | cons env r ih=>
   intro hs hl
   obtain ⟨hk,⟨L,o,hf,hn,ho,hd⟩,hr⟩:=hl
   have hL:L∈X.fs:=hs L (by unfold bu;rw [List.filterMap_cons,hf];exact List.mem_cons_self)
   obtain ⟨sl,e⟩:=I.base.slot L o ho (I.ok.gU L hL) hL fun z=>I.ok.iO L z hL
   exact ⟨hk,⟨L,_,hf,hn,e,hd⟩,ih (fun b hb=>hs b (by unfold bu;rw [List.filterMap_cons,hf];exact List.mem_cons_of_mem _ hb)) hr⟩
 exact all X.outer (fun _ hb=>hb) I.ok.fi
theorem Inv.stack(I:Inv X pins σ H s):s.heap.FunFrames X.base X.stack:=by
 rcases I.ok.d_ with e | ⟨e,hf⟩
 ·rw [e];exact I.fi
 ·rw [e]
  obtain ⟨m,hn,_⟩:=I.loc
  refine .cons (by rw [I.ok.kind];decide) hf hn ?_ I.fi
  exact Heap.get?_none_of_le (Nat.le_trans I.ok.eN I.ok.above)
theorem Inv.mB(I:Inv X pins σ H s):∀b∈bu X.stack,b∈X.env.locals::X.fs:=fun b hb=>by
 rcases I.ok.d_ with e | ⟨e,hf⟩
 ·rw [e] at hb;exact List.mem_cons_of_mem _ hb
 ·rw [e] at hb
  unfold bu at hb
  rw [List.filterMap_cons,hf] at hb
  exact hb
theorem Inv.mC(I:Inv X pins σ H s):∀b∈bu X.stack,H b=none:=fun b hb=>by
 rcases List.mem_cons.mp (I.mB b hb) with e | hb
 ·rw [e];exact I.free
 ·obtain ⟨_,o,ho,_⟩:=I.ok.fi.mem hb
  exact I.base.free b o ho (I.ok.gU b hb) fun z=>I.ok.iO b z hb
theorem Inv.step{g':Array GenState}{t':Nat}{d':Drawn}{ch:List Addr}(I:Inv X pins σ H s)
  (fN:∀b∈ch,(b∈X.ex∨X.s₀.heap.objs.size≤b)∧b≠X.env.locals∧(∀x c,X.env.cells.lookup x=some c→c≠b)∧∀p∈X.pn++pins,p.1≠b)
  (keep:∀b o,b≠X.env.locals→b∉X.fs→b∉ch→s.heap.get? b=some o→H b=none→h'.get? b=some o)
  (slot:∀b o,b≠X.env.locals→b∈X.fs→b∉ch→s.heap.get? b=some o→H b=none→∃sl,h'.get? b=some {o with slots:=sl}) (free:∀b o,b∉ch→s.heap.get? b=some o→H b=none→H' b=none)
  (there:∀b o,b∉ch→s.heap.get? b=some o→∃o',h'.get? b=some o')
  (dm:∀b xs,H b=some (.tup xs)→H' b=some (.tup xs)) (cY:∀b o u,H b=some (.bj o u)→H' b=some (.bj o u)) (dq:∀b ps,H b=some (.gs ps)→∃more,H' b=some (.gs (ps++more)))
  (ns:∀m,s.heap.Ns X.env.locals m→h'.Ns X.env.locals m) (aq:a9 X.prog X.w H' h') (hg:AllBare g') :
  Inv X pins σ H' {s with heap:=h',gens:=g',drawn:=d',toks:=t'}:=by
 have vH:∀b o,X.s₀.heap.get? b=some o→b≠X.env.locals:=fun b o e=>Nat.ne_of_lt (Nat.lt_of_lt_of_le (Heap.lt_size e) I.ok.above)
 have oi:∀b o,X.s₀.heap.get? b=some o→b∉X.ex→b∉ch:=fun b o e hx hb=>by
  rcases (fN b hb).1 with z | z
  ·exact hx z
  ·exact absurd (Nat.lt_of_lt_of_le (Heap.lt_size e) z) (Nat.lt_irrefl _)
 have cellK:∀x c,X.env.cells.lookup x=some c→∀v,s.heap.IsCell c v→h'.IsCell c v:=fun x c e v ⟨o,ho,hd⟩=>by
  have mD:c∉ch:=fun z=>(fN c z).2.2.1 x c e rfl
  by_cases hc:c∈X.fs
  ·obtain ⟨sl,q⟩:=slot c o (I.iP x c e) hc mD ho (I.eO x c e)
   exact ⟨_,q,hd⟩
  ·exact ⟨o,keep c o (I.iP x c e) hc mD ho (I.eO x c e),hd⟩
 refine ⟨I.ok,I.os,hg,⟨fun b o e n hb hx=>?_,fun b o e n hb hx=>?_,fun b o e n hx=>?_,fun b o e hx=>?_,fun b xs e=>dm b xs (I.base.dm b xs e),fun b o xs e=>cY b o xs (I.base.cY b o xs e),fun b ps e=>?_⟩,?_,fun x c e=>?_,?_,fun x c e=>?_,fun p hp=>?_,aq,I.len⟩
 ·exact keep b o (vH b o e) hb (oi b o e hx) (I.base.keep b o e n hb hx) (I.base.free b o e n hx)
 ·obtain ⟨sl,e1⟩:=I.base.slot b o e n hb hx
  obtain ⟨Bp,e2⟩:=slot b _ (vH b o e) hb (oi b o e hx) e1 (I.base.free b o e n hx)
  exact ⟨Bp,e2⟩
 ·obtain ⟨o',e1⟩:=I.base.there b o e hx
  exact free b o' (oi b o e hx) e1 (I.base.free b o e n hx)
 ·obtain ⟨o',e1⟩:=I.base.there b o e hx
  exact there b o' (oi b o e hx) e1
 ·obtain ⟨m1,e1⟩:=I.base.dq b ps e
  obtain ⟨m2,e2⟩:=dq b _ e1
  exact ⟨m1++m2,by rw [e2,Array.append_assoc]⟩
 ·obtain ⟨m,hn,hl⟩:=I.loc
  refine ⟨m,ns m hn,fun i x v e1 e2 e3=>?_⟩
  obtain ⟨u,r,l⟩:=hl i x v e1 e2 e3
  refine ⟨u,r,?_⟩
  rcases l with l | ⟨k,c,e,z⟩
  ·exact .inl l
  ·exact .inr ⟨k,c,e,cellK x c e _ z⟩
 ·obtain ⟨v,z⟩:=I.cell x c e
  exact ⟨v,cellK x c e v z⟩
 ·obtain ⟨m,⟨o,_,_,ho,_⟩,_⟩:=I.loc
  exact free _ o (fun z=>(fN _ z).2.1 rfl) ho I.free
 ·obtain ⟨v,o,ho,hd⟩:=I.cell x c e
  exact free c o (fun z=>(fN c z).2.2.1 x c e rfl) ho (I.eO x c e)
 ·obtain ⟨e,n,ne,nf,d⟩:=I.pin p hp
  have mD:p.1∉ch:=fun z=>(fN p.1 z).2.2.2 p hp rfl
  exact ⟨keep p.1 p.2 ne nf mD e n,free p.1 p.2 mD e n,ne,nf,d⟩
theorem Inv.un{t':Nat}(I:Inv X pins σ H s)(u:Un X.fs [] H H' s.heap h')(aq:a9 X.prog X.w H' h'):Inv X pins σ H' {s with heap:=h',toks:=t'}:=by
 obtain ⟨m,⟨o,es,ep,ho,r⟩,_⟩:=id I.loc
 obtain ⟨sl,hL⟩:=u.any ho I.free (by simp)
 exact I.step (g':=s.gens) (d':=s.drawn) (ch:=[]) (fun _ z=>nomatch z) (fun b o _ hb _ e n=>u.keep b o e n hb (by simp)) (fun b o _ hb _ e n=>u.slot b o e n hb (by simp)) (fun b o _ e n=>u.free b o e n (by simp)) (fun b o _ e=>u.there b o e (by simp)) u.dm u.cY u.dq (fun m' hm=>by
  obtain ⟨o',rC,iQ,fM,r'⟩:=hm
  rw [ho] at fM;cases fM
  exact ⟨_,rC,iQ,hL,r'⟩) aq I.bare
theorem Inv.call{g':Array GenState}{t':Nat}{d':Drawn}{ch:List Addr}(I:Inv X pins σ H s)(u:Un (bu X.stack) ch H H' s.heap h')(aq:a9 X.prog X.w H' h')(hg:AllBare g')
  (fN:∀b∈ch,(b∈X.ex∨X.s₀.heap.objs.size≤b)∧b≠X.env.locals∧(∀x c,X.env.cells.lookup x=some c→c≠b)∧∀p∈X.pn++pins,p.1≠b) :
  Inv X pins σ H' {s with heap:=h',gens:=g',drawn:=d',toks:=t'}:=by
 obtain ⟨m,⟨o,es,ep,ho,r⟩,_⟩:=id I.loc
 obtain ⟨sl,hL⟩:=u.any ho I.free fun z=>(fN _ z).2.1 rfl
 exact I.step (ch:=ch) fN (fun b o hL hb hc e n=>u.keep b o e n (fun z=>(List.mem_cons.mp (I.mB b z)).elim hL hb) hc) (fun b o _ _ hc e n=>u.any e n hc) (fun b o hc e n=>u.free b o e n hc) (fun b o hc e=>u.there b o e hc) u.dm u.cY u.dq (fun m' hm=>by
  obtain ⟨o',rC,iQ,fM,r'⟩:=hm
  rw [ho] at fM;cases fM
  exact ⟨_,rC,iQ,hL,r'⟩) aq hg
theorem Inv.turned{t':Nat}{it:Addr}(I:Inv X pins σ H s)(k:∀b o,b≠it→s.heap.get? b=some o→h'.get? b=some o)(hn:H it=none)(hL:it≠X.env.locals)
  (h1:it∈X.ex∨X.s₀.heap.objs.size≤it) (h2:∀x c,X.env.cells.lookup x=some c→c≠it) (h3:∀p∈X.pn++pins,p.1≠it):Inv X pins σ H {s with heap:=h',toks:=t'}:=by
 have vI:∀b u,H b=some u→b≠it:=fun b u e z=>by rw [z,hn] at e;cases e
 refine I.step (g':=s.gens) (d':=s.drawn) (ch:=[it]) (fun b hb=>?_) (fun b o _ _ hc e _=>k b o (fun z=>hc (by simp [z])) e) (fun b o _ _ hc e _=>⟨o.slots,k b o (fun z=>hc (by simp [z])) e⟩) (fun _ _ _ _ n=>n)
  (fun b o hc e=>⟨o,k b o (fun z=>hc (by simp [z])) e⟩) (fun _ _ e=>e) (fun _ _ _ e=>e) (fun b ps e=>⟨#[],by rw [e];simp⟩) (fun m hm=>?_) (fun b u e=>?_) I.bare
 ·have e:b=it:=by simpa using hb
  subst e
  exact ⟨h1,hL,h2,h3⟩
 ·obtain ⟨o,es,ep,ho,r⟩:=hm
  exact ⟨o,es,ep,k _ o (Ne.symm hL) ho,r⟩
 ·refine (I.aq b u e).d8 (fun c v hc q=>k c v ?_ q) (fun _ q=>q) fun _ _ q=>q
  rcases hc with z | z
  ·rw [z];exact vI b u e
  ·exact vI c _ z
theorem Inv.tok(I:Inv X pins σ H s)(t:Nat):Inv X pins σ H {s with toks:=t}:=I.un (h':=s.heap) (t':=t) Un.refl I.aq
theorem Inv.kept{t':Nat}(I:Inv X pins σ H s)(k:∀b u,s.heap.get? b=some u→h'.get? b=some u):Inv X pins σ H {s with heap:=h',toks:=t'}:=I.un (Un.kept k) (I.aq.kept k)
theorem Inv.laid{a:Addr}{o:HO}{t':Nat}(I:Inv X pins σ H s)(k:∀b u,s.heap.get? b=some u→h'.get? b=some u)(hp:s.heap.objs.size≤a)(new:a7 X.prog X.w (upd H a o) h' a o) :
  Inv X pins σ (upd H a o) {s with heap:=h',toks:=t'}:=I.un (Un.laid k hp (I.aq.fresh hp)) (I.aq.laid k hp new)
theorem Inv.write{x e:Addr}{o:HO}{t':Nat}(I:Inv X pins σ H s)(mu:mx (H x))(he:e=x∨H e=some (.own x))(k:∀b u,b≠e→s.heap.get? b=some u→h'.get? b=some u)(j4:∃u,h'.get? e=some u)
  (new:a7 X.prog X.w (upd H x o) h' x o):Inv X pins σ (upd H x o) {s with heap:=h',toks:=t'}:=I.un (Un.write mu he k j4) (I.aq.write mu he k j4 new)
theorem Inv.vJ{vK:List (Addr×Obj)}(I:Inv X pins σ H s)(h:∀p∈vK,s.heap.get? p.1=some p.2∧H p.1=none∧p.1≠X.env.locals∧p.1∉X.fs∧∀v,p.2.data≠.cell v):Inv X vK σ H s:=
 ⟨I.ok,I.os,I.bare,I.base,I.loc,I.cell,I.free,I.eO,fun p hp=>(List.mem_append.mp hp).elim (fun z=>I.pin p (List.mem_append_left _ z)) (h p),I.aq,I.len⟩
theorem vL{N:List Str}(hN:N.Nodup){i j:Nat}{x:Str}(a:N[i]?=some x)(b:N[j]?=some x):i=j:=by
 obtain ⟨h1,e1⟩:=List.getElem?_eq_some_iff.mp a
 obtain ⟨h2,e2⟩:=List.getElem?_eq_some_iff.mp b
 exact (List.getElem_inj hN).mp (e1.trans e2.symm)
theorem vM{M:Model}{A:Around}{E:Value→Shared→Prop}{i:Nat}{x:Str}{v:V}{u:Value}{Q:Unit→Shared→Prop}(I:Inv X pins σ H s)(hN:X.N.Nodup)(hi:X.N[i]?=some x)(hx:Loc X.env.scope x)(r:RelV v u)
  (h:∀s',Inv X pins (σ.set i (some v)) H s'→(∃a,Heap.SameBut a s.heap s'.heap∧(a=X.env.locals∨X.env.cells.lookup x=some a))→Q () s') (hf:X.fn x=true∨X.env.scope.names.lookup x=some .local:=by first | exact .inl rfl | exact .inr rfl | assumption):wpAny M A (storeName X.env x u) Q E s:=by
 obtain ⟨m,hn,hl⟩:=id I.loc
 have Bq:(X.env.scope.kind == .class || (X.env.scope.kind == .module && X.env.locals != X.env.globals))=false:=by rw [I.ok.kind];rfl
 have vO:i<σ.length:=by rw [I.len];exact (List.getElem?_eq_some_iff.mp hi).1
 have iP:=I.iP
 have tracked:∀{a:Addr} {h':Heap},(∃o,s.heap.get? a=some o∧H a=none)→Heap.SameBut a s.heap h'→a9 X.prog X.w H h':=fun{a h'} ha hs b ob e=>by
  obtain ⟨_,_,vP⟩:=ha
  refine (I.aq b ob e).d8 (fun c w' hc q=>(hs.2 c ?_).trans q) (fun _ q=>q) fun _ _ q=>q
  rintro rfl
  rcases hc with rfl | hc
  ·rw [vP] at e;cases e
  ·rw [vP] at hc;cases hc
 rcases hx with hk | hk
 ·refine wpAny_storeName_local hk hn (fun h' Br hs=>?_) Bq
  obtain ⟨oL,_,_,Bs,_⟩:=id hn
  refine h _ ⟨I.ok,I.os,I.bare,⟨fun b o e n hb hx=>?_,fun b o e n hb hx=>?_,I.base.free,fun b o e hx=>?_,I.base.dm,I.base.cY,I.base.dq⟩,⟨_,Br,fun j y v' e1 e2 e3=>?_⟩,fun y c e=>?_,I.free,I.eO,fun p hp=>?_,tracked ⟨oL,Bs,I.free⟩ hs,by simpa using I.len⟩ ⟨_,hs,.inl rfl⟩
  ·exact (hs.2 b (Nat.ne_of_lt (Nat.lt_of_lt_of_le (Heap.lt_size e) I.ok.above))).trans (I.base.keep b o e n hb hx)
  ·obtain ⟨sl,e1⟩:=I.base.slot b o e n hb hx
   exact ⟨sl,(hs.2 b (Nat.ne_of_lt (Nat.lt_of_lt_of_le (Heap.lt_size e) I.ok.above))).trans e1⟩
  ·obtain ⟨o',e1⟩:=I.base.there b o e hx
   exact ⟨o',(hs.2 b (Nat.ne_of_lt (Nat.lt_of_lt_of_le (Heap.lt_size e) I.ok.above))).trans e1⟩
  ·by_cases hj:j=i
   ·subst hj
    rw [hi] at e1;cases e1
    rw [List.getElem?_set_self vO] at e2
    cases e2
    exact ⟨u,r,.inl ⟨hk,by simp⟩⟩
   ·rw [List.getElem?_set_ne (Ne.symm hj)] at e2
    obtain ⟨u',r',q⟩:=hl j y v' e1 e2 e3
    refine ⟨u',r',?_⟩
    rcases q with ⟨k,e⟩ | ⟨k,c,e,z⟩
    ·refine .inl ⟨k,?_⟩
     have:y≠x:=fun e=>hj (vL hN e1 (e▸hi))
     simp [this,e]
    ·exact .inr ⟨k,c,e,z.sameBut hs (iP y c e)⟩
  ·obtain ⟨w',z⟩:=I.cell y c e
   exact ⟨w',z.sameBut hs (iP y c e)⟩
  ·obtain ⟨e,n,ne,nf,d⟩:=I.pin p hp
   exact ⟨(hs.2 p.1 ne).trans e,n,ne,nf,d⟩
 ·have rD:X.fn x=true:=by
   rcases hf with z | z
   ·exact z
   ·rw [z] at hk;cases hk
  obtain ⟨c,hc⟩:=I.ok.has x (.inl hk)
  obtain ⟨w',z⟩:=I.cell x c hc
  refine wpAny_storeName_cell I.ok.kind hk hc z (fun h' b_ hs=>?_)
  obtain ⟨oc,vQ,Bt⟩:=id z
  refine h {s with heap:=h'} ⟨I.ok,I.os,I.bare,⟨fun b o e n hb hx=>?_,fun b o e n hb hx=>?_,I.base.free,fun b o e hx=>?_,I.base.dm,I.base.cY,I.base.dq⟩,⟨m,hn.sameBut hs (Ne.symm (iP x c hc)),fun j y v' e1 e2 e3=>?_⟩,fun y c' e=>?_,I.free,I.eO,fun p hp=>?_,tracked ⟨oc,vQ,I.eO x c hc⟩ hs,by simpa using I.len⟩ ⟨c,hs,.inr hc⟩
  ·exact (hs.2 b (Nat.ne_of_lt (Nat.lt_of_lt_of_le (Heap.lt_size e) (I.ok.mz x c rD hc)))).trans (I.base.keep b o e n hb hx)
  ·obtain ⟨sl,e1⟩:=I.base.slot b o e n hb hx
   exact ⟨sl,(hs.2 b (Nat.ne_of_lt (Nat.lt_of_lt_of_le (Heap.lt_size e) (I.ok.mz x c rD hc)))).trans e1⟩
  ·obtain ⟨o',e1⟩:=I.base.there b o e hx
   exact ⟨o',(hs.2 b (Nat.ne_of_lt (Nat.lt_of_lt_of_le (Heap.lt_size e) (I.ok.mz x c rD hc)))).trans e1⟩
  ·by_cases hj:j=i
   ·subst hj
    rw [hi] at e1;cases e1
    rw [List.getElem?_set_self vO] at e2
    cases e2
    exact ⟨u,r,.inr ⟨.inl hk,c,hc,b_⟩⟩
   ·rw [List.getElem?_set_ne (Ne.symm hj)] at e2
    obtain ⟨u',r',q⟩:=hl j y v' e1 e2 e3
    refine ⟨u',r',?_⟩
    rcases q with q | ⟨k,c',e,z'⟩
    ·exact .inl q
    ·refine .inr ⟨k,c',e,z'.sameBut hs ?_⟩
     rintro rfl
     exact hj (vL hN e1 (I.ok.inj _ _ _ e hc▸hi))
  ·by_cases vR:c'=c
   ·subst vR;exact ⟨_,b_⟩
   ·obtain ⟨w2,z2⟩:=I.cell y c' e
    exact ⟨w2,z2.sameBut hs vR⟩
  ·obtain ⟨e,n,ne,nf,d⟩:=I.pin p hp
   refine ⟨(hs.2 p.1 ?_).trans e,n,ne,nf,d⟩
   intro q
   rw [q,vQ] at e
   have q':oc=p.2:=Option.some.inj e
   exact d w' (by rw [←q'];exact Bt)
theorem vS{M:Model}{A:Around}{E:Value→Shared→Prop}{i:Nat}{x:Str}{v:V}{u:Value}{Q:Unit→Shared→Prop}(I:Inv X pins σ H s)(hN:X.N.Nodup)(hi:X.N[i]?=some x)(hx:Loc X.env.scope x)(r:RelV v u)
  (h:∀s',Inv X pins (σ.set i (some v)) H s'→Q () s') (hf:X.fn x=true∨X.env.scope.names.lookup x=some .local:=by first | exact .inl rfl | exact .inr rfl | assumption):wpAny M A (storeName X.env x u) Q E s:=
 vM I hN hi hx r (fun s' I' _=>h s' I') hf
theorem Inv.gW{s':Shared}{ch:List Addr}(I:Inv X pins σ H s)(ho:s'.os=s.os)(u:Un (bu X.stack) ch H H' s.heap s'.heap)(aq:a9 X.prog X.w H' s'.heap)(hg:AllBare s'.gens)
  (fN:∀b∈ch,(b∈X.ex∨X.s₀.heap.objs.size≤b)∧b≠X.env.locals∧(∀x c,X.env.cells.lookup x=some c→c≠b)∧∀p∈X.pn++pins,p.1≠b):Inv X pins σ H' s':=by
 obtain ⟨h',g',d',t',o'⟩:=s'
 have e:o'=s.os:=ho
 subst e
 exact I.call (g':=g') (t':=t') (d':=d') u aq hg fN
end
abbrev XK:=Value→Option Addr→Hp→Prop
abbrev St:=List (Option V)
abbrev VK:=V→Hp→Prop
abbrev TE:=St→Hp→VK→Prop
abbrev TT:=St→Hp→(Bool→Hp→Prop)→Prop
abbrev TA:=St→Hp→(List V→Hp→Prop)→Prop
structure Ends where
 nx:St→Hp→Prop
 rt:VK
 bk:St→Hp→Prop:=fun _ _=>False
 ct:St→Hp→Prop:=fun _ _=>False
abbrev TS:=Ends→St→Hp→Prop
def EP(X:Cx)(pins:List (Addr×Obj))(σ:St)(Q:VK)(u:Value)(s':Shared):Prop:=∃v H',Inv X pins σ H' s'∧RelV v u∧Q v H'
def TP(X:Cx)(pins:List (Addr×Obj))(σ:St)(Q:Bool→Hp→Prop)(b:Bool)(s':Shared):Prop:=∃H',Inv X pins σ H' s'∧Q b H'
def AP(X:Cx)(pins:List (Addr×Obj))(σ:St)(Q:List V→Hp→Prop)(us:List Value)(s':Shared):Prop:=∃vs H',Inv X pins σ H' s'∧Vals vs us∧Q vs H'
def SP(X:Cx)(pins:List (Addr×Obj))(D:Ends)(f:Flow)(s':Shared):Prop:=
 match f with
 | .next=>∃σ' H',Inv X pins σ' H' s'∧D.nx σ' H'
 | .brk=>∃σ' H',Inv X pins σ' H' s'∧D.bk σ' H'
 | .cont=>∃σ' H',Inv X pins σ' H' s'∧D.ct σ' H'
 | .ret u=>∃v σ' H',Inv X pins σ' H' s'∧RelV v u∧D.rt v H'
def PE(X:Cx)(e:Expr)(t:TE):Prop:=
 ∀(pins:List (Addr×Obj)) (s:Shared) (σ:St) (H:Hp) (Q:VK),Inv X pins σ H s→t σ H Q→wpAny (model X.prog X.w) X.A (eval e X.env) (EP X pins σ Q) X.xe s
def PT(X:Cx)(e:Expr)(t:TT):Prop:=
 ∀(pins:List (Addr×Obj)) (s:Shared) (σ:St) (H:Hp) (Q:Bool→Hp→Prop),Inv X pins σ H s→t σ H Q→wpAny (model X.prog X.w) X.A (isTrue e X.env (eval e X.env)) (TP X pins σ Q) X.xe s
def PW(X:Cx)(e:Expr)(t:TT):Prop:=
 ∀(whole:Sem Value) (pins:List (Addr×Obj)) (s:Shared) (σ:St) (H:Hp) (Q:Bool→Hp→Prop),Inv X pins σ H s→t σ H Q→wpAny (model X.prog X.w) X.A (isTrue e X.env whole) (TP X pins σ Q) X.xe s
theorem PW.pt{X:Cx}{e:Expr}{t:TT}(h:PW X e t):PT X e t:=h _
def PA(X:Cx)(es:List Expr)(t:TA):Prop:=
 ∀(pos:Pos) (pins:List (Addr×Obj)) (s:Shared) (σ:St) (H:Hp) (Q:List V→Hp→Prop),Inv X pins σ H s→t σ H Q→wpAny (model X.prog X.w) X.A (spliced (backTo pos (starEach es X.env))) (AP X pins σ Q) X.xe s
def PS(X:Cx)(st:Stmt)(t:TS):Prop:=
 ∀(pins:List (Addr×Obj)) (s:Shared) (σ:St) (H:Hp) (D:Ends),Inv X pins σ H s→t D σ H→wpAny (model X.prog X.w) X.A (exec st X.env) (SP X pins D) X.xe s
def dr(X:Cx)(st:List Stmt)(t:TS):Prop:=
 ∀(pins:List (Addr×Obj)) (s:Shared) (σ:St) (H:Hp) (D:Ends),Inv X pins σ H s→t D σ H→wpAny (model X.prog X.w) X.A (execs st X.env) (SP X pins D) X.xe s
theorem aw{α:Type}{t:Sem α}{Q Q':α→Shared→Prop}{M:Model}{A:Around}{E:Value→Shared→Prop}{s:Shared}(h:wpAny M A t Q E s)(hQ:∀a s,Q a s→Q' a s):wpAny M A t Q' E s:=wpAny_mono h hQ fun _ _ x=>x
section
variable {X:Cx}
theorem bin{a b:Expr}{ta tb:TE}(ha:PE X a ta)(hb:PE X b tb){pins:List (Addr×Obj)}{s:Shared}{σ:St}{H:Hp}{R:V→V→Hp→Prop}(I:Inv X pins σ H s)(h:ta σ H fun x H1=>tb σ H1 fun y H2=>R x y H2)
  {α:Type} {Q:α→Shared→Prop} {f:Value→Value→Sem α}
  (hf:∀v u s2 x y H2,Inv X pins σ H2 s2→RelV x v→RelV y u→R x y H2→wpAny (model X.prog X.w) X.A (f v u) Q X.xe s2) :
  wpAny (model X.prog X.w) X.A (eval a X.env) (fun v s₁=>wpAny (model X.prog X.w) X.A (eval b X.env) (fun u s₂=>wpAny (model X.prog X.w) X.A (f v u) Q X.xe s₂) X.xe s₁) X.xe s:=by
 refine aw (ha pins s σ H _ I h) fun v s1 ⟨x,H1,I1,r1,q1⟩=>?_
 refine aw (hb pins s1 σ H1 _ I1 q1) fun u s2 ⟨y,H2,I2,r2,q2⟩=>?_
 exact hf v u s2 x y H2 I2 r1 r2 q2
def vT(i:Nat):TE:=fun σ H Q=>∃v,σ[i]?=some (some v)∧Q v H
def tC(v:V):TE:=fun _ H Q=>Q v H
theorem Bu{i:Nat}{x:Str}{pos:Pos}(hN:X.N[i]?=some x)(hv:my X.env.scope x)(hd:(x == ("__debug__":Str))=false:=by decide)(dH:(x == ("__classdict__":Str))=false:=by decide):PE X (.Name x pos) (vT i):=by
 intro pins s σ H Q I h
 obtain ⟨v,e,h⟩:=h
 obtain ⟨m,hn,hl⟩:=I.loc
 obtain ⟨u,r,l⟩:=hl i x v hN e hv
 have fin:EP X pins σ Q u s:=⟨v,H,I,r,h⟩
 rcases l with ⟨hk,hm⟩ | ⟨hk,c,hc,vU⟩
 ·exact wpAny_Name (wpAny_loadName_local I.ok.kind hk hn hm fin) hd
 ·rcases hk with hk | hk
  ·exact wpAny_Name (wpAny_loadName_cell I.ok.kind hk hc vU fin) hd
  ·exact wpAny_Name (wpAny_loadName_free I.ok.kind hk hc vU fin dH) hd
theorem av{i j pos}:PE X (.Constant (.int i) j pos) (tC (.int i)):=fun _ _ _ H _ I h=>wpAny_Constant_int ⟨.int i,H,I.tok _,⟨_,rfl⟩,h⟩
theorem eQ{b j pos}:PE X (.Constant (.bool b) j pos) (tC (.bl b)):=fun _ _ _ H _ I h=>Constant_bool ⟨.bl b,H,I,rfl,h⟩
theorem Bv{x j pos}:PE X (.Constant (.str x) j pos) (tC (.str x)):=fun _ _ _ H _ I h=>Calls.Constant_str ⟨.str x,H,I.tok _,⟨_,rfl⟩,h⟩
def Gl(X:Cx)(x:Str):Prop:=X.env.kindOf x=some .globalImplicit
theorem rE{E:Value→Shared→Prop}{pins:List (Addr×Obj)}{s:Shared}{σ:St}{H:Hp}{x:Str}{u:Value}{pos:Pos}{Q:Value→Shared→Prop}(I:Inv X pins σ H s)(hg:Gl X x)(hm:X.mg x=some u)(h:Q u s)
  (hd:(x == ("__debug__":Str))=false:=by decide):wpAny (model X.prog X.w) X.A (eval (.Name x pos) X.env) Q E s:=
 Calls.Name_function_global I.ok.kind hg (Calls.loadGlobal_global (by rw [I.ok.glob];exact I.mod.glob.keeps I.bk) hm h) hd
theorem iR{E:Value→Shared→Prop}{pins:List (Addr×Obj)}{s:Shared}{σ:St}{H:Hp}{x:Str}{u:Value}{pos:Pos}{Q:Value→Shared→Prop}(I:Inv X pins σ H s)(hg:Gl X x)(hm:X.mg x=none)(hv:bootBuiltins x=some u)(h:Q u s)
  (hn:x ≠ "__name__":=by decide) (hd:(x == ("__debug__":Str))=false:=by decide):wpAny (model X.prog X.w) X.A (eval (.Name x pos) X.env) Q E s:=by
 obtain ⟨mb,h1,h2⟩:=I.mod.blt
 exact Calls.Name_function_global I.ok.kind hg (Calls.loadGlobal_builtin (by rw [I.ok.glob];exact I.mod.glob.keeps I.bk) hm (by rw [I.ok.blt];exact h1.keeps I.bk) ((h2 x hn).trans hv) h) hd
theorem Bw{x:Str}{v:V}{u:Value}{pos:Pos}(hg:Gl X x)(hm:X.mg x=some u)(r:RelV v u)(hd:(x == ("__debug__":Str))=false:=by decide):PE X (.Name x pos) (tC v):=
 fun _ _ _ H _ I h=>rE I hg hm ⟨v,H,I,r,h⟩ hd
theorem iS{x:Str}{v:V}{u:Value}{pos:Pos}(hg:Gl X x)(hm:X.mg x=none)(hv:bootBuiltins x=some u)(r:RelV v u)(hn:x ≠ "__name__":=by decide)(hd:(x == ("__debug__":Str))=false:=by decide):PE X (.Name x pos) (tC v):=
 fun _ _ _ H _ I h=>iR I hg hm hv ⟨v,H,I,r,h⟩ hn hd
variable {a b:Expr} {ta tb:TE} {pos:Pos}
def PC(X:Cx)(op:CmpOp)(a b:Expr)(t:TE):Prop:=
 ∀(pins:List (Addr×Obj)) (s:Shared) (σ:St) (H:Hp) (Q:VK),Inv X pins σ H s→t σ H Q→
  wpAny (model X.prog X.w) X.A (eval a X.env) (fun v s₁=>wpAny (model X.prog X.w) X.A (eval b X.env) (fun u s₂=>wpAny (model X.prog X.w) X.A (compareOp op v u) (EP X pins σ Q) X.xe s₂) X.xe s₁) X.xe s
def tB(t:TE):TT:=fun σ H Q=>t σ H fun x H1=>∃c,x=.bl c∧Q c H1
theorem vV{op:CmpOp}{t:TE}(h:PC X op a b t)(h1:behindInMarks op b=false:=by first | exact L9 _ (by decide) (by decide) | rfl):PT X (.Compare a [op] [b] pos) (tB t):=by
 intro pins s σ H Q I hw
 refine wpAny_isTrue_Compare1 (aw (h pins s σ H _ I hw) fun v s1 h1=>aw h1 fun u s2 h2=>aw h2 fun c s3 ⟨x,H1,I1,r1,q1⟩=>?_) h1
 obtain ⟨d,rfl,q⟩:=q1
 cases r1
 exact wpAny_truthy_bool ⟨H1,I1,q⟩
theorem iT{e:Expr}{t:TE}(h:PE X e t)(he:∀whole,isTrue e X.env whole=(do let v ←whole;standAt e.pos;holding [v] (truthy v)):=by intro _;rfl):PT X e (tB t):=by
 intro pins s σ H Q I hw
 refine isTrue_plain (aw (h pins s σ H _ I hw) fun v s1 ⟨x,H1,I1,r1,q1⟩=>?_) (he _)
 obtain ⟨d,rfl,q⟩:=q1
 cases r1
 exact wpAny_truthy_bool ⟨H1,I1,q⟩
variable {tA rF:TT} {rest:List Expr}
def Bx(t u:TT):TT:=fun σ H Q=>t σ H fun c H1=>if c=true then Q true H1 else u σ H1 Q
def vW(t:TT):TT:=fun σ H Q=>t σ H fun c H1=>Q (!c) H1
theorem pw_or1(ha:PT X a tA):PW X (.BoolOp .Or [a] pos) tA:=by
 intro wh pins s σ H Q I h
 refine isTrue_or (aw (ha pins s σ H Q I h) fun c s1 e=>?_)
 cases c with
 | false=>exact isTrue_or_nil e
 | true=>exact e
theorem pw_or(ha:PT X a tA)(hb:PW X (.BoolOp .Or (b::rest) pos) rF):PW X (.BoolOp .Or (a::b::rest) pos) (Bx tA rF):=by
 intro wh pins s σ H Q I h
 refine isTrue_or (aw (ha pins s σ H _ I h) fun c s1 ⟨H1,I1,q1⟩=>?_)
 cases c with
 | true=>exact ⟨H1,I1,q1⟩
 | false=>exact hb wh pins s1 σ H1 Q I1 q1
theorem j6(ha:PT X a tA):PT X (.UnaryOp .Not a pos) (vW tA):=by
 intro pins s σ H Q I h
 exact isTrue_not (ha pins s σ H (fun c H1=>Q (!c) H1) I h)
def By(ta tb:TE):TE:=fun σ H Q=>ta σ H fun x H1=>∃c,x=.bl c∧if c=true then tb σ H1 Q else Q (.bl false) H1
def Bz(ta tb:TE):TE:=fun σ H Q=>ta σ H fun x H1=>∃c,x=.bl c∧if c=true then Q (.bl true) H1 else tb σ H1 Q
def BA(ta:TE):TE:=fun σ H Q=>ta σ H fun x H1=>∃c,x=.bl c∧Q (.bl (!c)) H1
theorem j7{op}{t:TE}(h:PE X a t):PE X (.BoolOp op [a] pos) t:=fun pins s σ H Q I hw=>BoolOp_one (h pins s σ H Q I hw)
theorem gX(ha:PE X a ta)(hb:PE X (.BoolOp .And (b::rest) pos) tb):PE X (.BoolOp .And (a::b::rest) pos) (By ta tb):=by
 intro pins s σ H Q I h
 refine BoolOp_and (aw (ha pins s σ H _ I h) fun v s1 ⟨x,H1,I1,r1,q1⟩=>?_)
 obtain ⟨c,rfl,q1⟩:=q1
 cases r1
 refine wpAny_truthy_bool ?_
 cases c with
 | true=>exact hb pins s1 σ H1 Q I1 q1
 | false=>exact ⟨.bl false,H1,I1,rfl,q1⟩
theorem BB(ha:PE X a ta)(hb:PE X (.BoolOp .Or (b::rest) pos) tb):PE X (.BoolOp .Or (a::b::rest) pos) (Bz ta tb):=by
 intro pins s σ H Q I h
 refine BoolOp_or (aw (ha pins s σ H _ I h) fun v s1 ⟨x,H1,I1,r1,q1⟩=>?_)
 obtain ⟨c,rfl,q1⟩:=q1
 cases r1
 refine wpAny_truthy_bool ?_
 cases c with
 | false=>exact hb pins s1 σ H1 Q I1 q1
 | true=>exact ⟨.bl true,H1,I1,rfl,q1⟩
theorem BC(ha:PE X a ta):PE X (.UnaryOp .Not a pos) (BA ta):=by
 intro pins s σ H Q I h
 refine UnaryOp_ (aw (ha pins s σ H _ I h) fun v s1 ⟨x,H1,I1,r1,q1⟩=>?_)
 obtain ⟨c,rfl,q1⟩:=q1
 cases r1
 exact not_of (wpAny_truthy_bool ⟨.bl (!c),H1,I1,rfl,q1⟩)
end
def aX(K:PySem.W.Frag)(H:Hp)(a:Addr)(xs:List V):Prop:=
 Rd H a (.lst xs) ∨
  ∃(o:Obj) (aa:Array Value) (n:Nat),K.lookup a=some o∧o.cls=.type "list"∧o.dict=none∧o.data=.seq aa n∧aa.size≤sizeLine∧Vals xs aa.toList
def bH(K:PySem.W.Frag)(H:Hp)(a:Addr)(xs:List V):Prop:=
 Rd H a (.tup xs) ∨
  ∃(o:Obj) (aa:Array Value) (n:Nat),K.lookup a=some o∧o.cls=.type "tuple"∧o.data=.seq aa n∧aa.size≤sizeLine∧Vals xs aa.toList
def BD:Value→Option V
 | .none=>some .aG
 | .bool b=>some (.bl b)
 | .int i _=>some (.int i)
 | .str x _=>some (.str x)
 | .bytes b _=>some (.fh b)
 | .float b _=>some (.jZ b)
 | .ref a=>some (.ref a)
 | .type n=>some (.ty n)
 | _=>none
theorem RelV.abs{x:V}{u:Value}(r:RelV x u):BD u=some x:=by
 cases x with
 | aG=>cases r;rfl
 | bl _=>cases r;rfl
 | int _=>obtain ⟨t,rfl⟩:=r;rfl
 | str _=>obtain ⟨t,rfl⟩:=r;rfl
 | fh _=>obtain ⟨t,rfl⟩:=r;rfl
 | jZ _=>obtain ⟨t,rfl⟩:=r;rfl
 | ref _=>cases r;rfl
 | ty _=>cases r;rfl
theorem RelV.inj{x y:V}{u:Value}(r:RelV x u)(q:RelV y u):x=y:=Option.some.inj (r.abs.symm.trans q.abs)
theorem Vals.inj:∀{xs ys:List V} {us:List Value},Vals xs us→Vals ys us→xs=ys
 | _,_,_,.nil,.nil=>rfl
 | _,_,_,.cons r t,.cons r' t'=>by rw [r.inj r',Vals.inj t t']
section
variable {X:Cx} {pins:List (Addr×Obj)} {σ:St} {H:Hp} {s:Shared} {a:Addr} {xs ys:List V}
theorem aX.of{K:PySem.W.Frag}(h:H a=some (.lst xs)):aX K H a xs:=.inl (.inl h)
theorem bH.of{K:PySem.W.Frag}(h:H a=some (.tup xs)):bH K H a xs:=.inl (.inl h)
theorem Inv.list(I:Inv X pins σ H s)(h:aX X.K H a xs):∃aa:List Value,Vals xs aa∧PlainL s.heap a aa.toArray∧xs.length≤sizeLine:=by
 rcases h with h | ⟨o,aa,n,hk,hc,hd,hs,hz,r⟩
 ·obtain ⟨z,aa,n,r,e⟩:=h.ok I.aq
  exact ⟨aa,r,⟨_,n,e,rfl,rfl,rfl⟩,z⟩
 ·refine ⟨aa.toList,r,⟨o,n,I.cJ a o hk,hc,hd,by simpa using hs⟩,?_⟩
  have e:=r.length
  simp only [Array.length_toList] at e
  omega
theorem Inv.tuple(I:Inv X pins σ H s)(h:bH X.K H a xs):∃aa:List Value,Vals xs aa∧IsTup s.heap a aa.toArray∧xs.length≤sizeLine:=by
 rcases h with h | ⟨o,aa,n,hk,hc,hs,hz,r⟩
 ·obtain ⟨z,aa,r,p⟩:=h.ok I.aq
  exact ⟨aa,r,p,z⟩
 ·refine ⟨aa.toList,r,⟨o,I.cJ a o hk,hc,n,by simpa using hs⟩,?_⟩
  have e:=r.length
  simp only [Array.length_toList] at e
  omega
theorem Inv.vX(I:Inv X pins σ H s)(h:aX X.K H a xs)(h':aX X.K H a ys):xs=ys:=by
 obtain ⟨aa,r,⟨o,n,e,_,_,d⟩,_⟩:=I.list h
 obtain ⟨its',r',⟨o',n',e',_,_,d'⟩,_⟩:=I.list h'
 rw [e] at e';cases e'
 rw [d] at d'
 injection d' with d1 _
 have:aa=its':=by simpa using congrArg Array.toList d1
 subst this
 exact r.inj r'
theorem Inv.rG(I:Inv X pins σ H s)(h:bH X.K H a xs)(h':bH X.K H a ys):xs=ys:=by
 obtain ⟨aa,r,⟨o,e,_,n,d⟩,_⟩:=I.tuple h
 obtain ⟨its',r',⟨o',e',_,n',d'⟩,_⟩:=I.tuple h'
 rw [e] at e';cases e'
 rw [d] at d'
 injection d' with d1 _
 have:aa=its':=by simpa using congrArg Array.toList d1
 subst this
 exact r.inj r'
end
abbrev Cx.fO (X:Cx) (E:Value→Shared→Prop):Cx:={X with xe:=E}
abbrev Cx.mE (X:Cx):Cx:=X.fO fun _ _=>False
theorem Cx.Ok.fO{X:Cx}(ok:X.Ok)(E:Value→Shared→Prop):(X.fO E).Ok:=
 ⟨ok.mod,ok.kind,ok.glob,ok.blt,ok.above,ok.inj,ok.has,ok.mz,ok.hd,ok.frames,ok.d_,ok.vG,ok.bs,ok.eN,ok.iM,ok.iO,ok.fi,ok.gU⟩
theorem Cx.Ok.gY{X:Cx}{E:Value→Shared→Prop}(ok:(X.fO E).Ok):X.Ok:=
 ⟨ok.mod,ok.kind,ok.glob,ok.blt,ok.above,ok.inj,ok.has,ok.mz,ok.hd,ok.frames,ok.d_,ok.vG,ok.bs,ok.eN,ok.iM,ok.iO,ok.fi,ok.gU⟩
section
variable {X:Cx} {pins:List (Addr×Obj)} {σ:St} {H:Hp} {s:Shared} {E:Value→Shared→Prop}
theorem Inv.fO(I:Inv X pins σ H s)(E:Value→Shared→Prop):Inv (X.fO E) pins σ H s:=⟨I.ok.fO E,I.os,I.bare,I.base,I.loc,I.cell,I.free,I.eO,I.pin,I.aq,I.len⟩
theorem Inv.gY(I:Inv (X.fO E) pins σ H s):Inv X pins σ H s:=⟨I.ok.gY,I.os,I.bare,I.base,I.loc,I.cell,I.free,I.eO,I.pin,I.aq,I.len⟩
theorem SP.gY{D:Ends}{f:Flow}{s':Shared}(h:SP (X.fO E) pins D f s'):SP X pins D f s':=by
 cases f with
 | next=>obtain ⟨σ',H',I,q⟩:=h;exact ⟨σ',H',I.gY,q⟩
 | brk=>obtain ⟨σ',H',I,q⟩:=h;exact ⟨σ',H',I.gY,q⟩
 | cont=>obtain ⟨σ',H',I,q⟩:=h;exact ⟨σ',H',I.gY,q⟩
 | ret u=>obtain ⟨v,σ',H',I,r,q⟩:=h;exact ⟨v,σ',H',I.gY,r,q⟩
theorem dr.mE{st:List Stmt}{t:TS}(h:dr X.mE st t):dr X st t:=fun pins s σ H D I hw=>
 wpAny_mono (h pins s σ H D (I.fO _) hw) (fun _ _ q=>q.gY) fun _ _ z=>False.elim z
end
section
variable {X:Cx} {st:Stmt} {rest:List Stmt} {t u:TS} {e:Expr} {te:TE} {pos:Pos}
def fj:TS:=fun D σ H=>D.nx σ H
def vY(t u:TS):TS:=fun D σ H=>t {D with nx:=u D} σ H
theorem cw:dr X [] fj:=fun _ _ σ H _ I h=>wpAny_execs_nil ⟨σ,H,I,h⟩
theorem ax(h1:PS X st t)(h2:dr X rest u):dr X (st::rest) (vY t u):=by
 intro pins s σ H D I h
 refine wpAny_execs_cons (aw (h1 pins s σ H {D with nx:=u D} I h) fun f s1 q=>?_)
 cases f with
 | next=>
  obtain ⟨σ',H',I',q⟩:=q
  exact h2 pins s1 σ' H' D I' q
 | ret v=>exact q
 | brk=>exact q
 | cont=>exact q
theorem aB(h1:PS X st t):dr X [st] t:=by
 intro pins s σ H D I h
 refine wpAny_execs_cons (aw (h1 pins s σ H D I h) fun f s1 q=>?_)
 cases f with
 | next=>exact wpAny_execs_nil q
 | ret v=>exact q
 | brk=>exact q
 | cont=>exact q
theorem Inv.quiet{pins:List (Addr×Obj)}{σ:St}{H:Hp}{s:Shared}(I:Inv X pins σ H s):interactive X.env=false:=by simp [interactive,I.ok.kind]
def BE(te:TE):TS:=fun D σ H=>te σ H fun _ H1=>D.nx σ H1
theorem dt(he:PE X e te)(hs:swapsWith e none pos.line X.env=pure false:=by rfl):PS X (.Expr e pos) (BE te):=by
 intro pins s σ H D I h
 exact wpAny_Expr_any (aw (he pins s σ H _ I h) fun v s1 ⟨x,H1,I1,r1,q1⟩=>⟨σ,H1,I1,q1⟩) I.quiet hs
def vZ(te:TE):TS:=fun D σ H=>te σ H D.rt
theorem bD(he:PE X e te):PS X (.Return (some e) pos) (vZ te):=by
 intro pins s σ H D I h
 exact wpAny_Return_some (aw (he pins s σ H _ I h) fun v s1 ⟨x,H1,I1,r1,q1⟩=>⟨x,σ,H1,I1,r1,q1⟩)
def rH(c:TT)(t u:TS):TS:=fun D σ H=>c σ H fun b H1=>if b=true then t D σ H1 else u D σ H1
theorem cf{c:Expr}{a b:List Stmt}{tc:TT}(hc:PT X c tc)(ha:dr X a t)(hb:dr X b u):PS X (.If c a b pos) (rH tc t u):=by
 intro pins s σ H D I h
 refine wpAny_If (aw (hc pins s σ H _ I h) fun d s1 ⟨H1,I1,q1⟩=>?_)
 cases d with
 | true=>exact ha pins s1 σ H1 D I1 q1
 | false=>exact hb pins s1 σ H1 D I1 q1
end
abbrev TG:=V→St→Hp→(St→Hp→Prop)→Prop
abbrev iU:=List V→St→Hp→(St→Hp→Prop)→Prop
def PG(X:Cx)(target:Expr)(t:TG):Prop:=
 ∀(pins:List (Addr×Obj)) (s:Shared) (σ:St) (H:Hp) (v:V) (u:Value) (Q:St→Hp→Prop),Inv X pins σ H s→RelV v u→t v σ H Q→
  wpAny (model X.prog X.w) X.A (assign target X.env u) (fun _ s'=>∃σ' H',Inv X pins σ' H' s'∧Q σ' H') X.xe s
def oj(X:Cx)(ts:List Expr)(t:iU):Prop:=
 ∀(pins:List (Addr×Obj)) (s:Shared) (σ:St) (H:Hp) (vs:List V) (us:List Value) (Q:St→Hp→Prop),Inv X pins σ H s→Vals vs us→t vs σ H Q→
  wpAny (model X.prog X.w) X.A (assignInOrder ((assignEach ts X.env).map (·.2)) us) (fun _ s'=>∃σ' H',Inv X pins σ' H' s'∧Q σ' H') X.xe s
abbrev rJ:=V→V→V→Hp→(Hp→Prop)→Prop
def v_(X:Cx)(t:rJ):Prop:=
 ∀(pins:List (Addr×Obj)) (s:Shared) (σ:St) (H:Hp) (o i v:V) (ov iv u:Value) (Q:Hp→Prop),Inv X pins σ H s→RelV o ov→RelV i iv→RelV v u→t o i v H Q→
  wpAny (model X.prog X.w) X.A (setItem ov iv u) (fun _ s'=>∃H',Inv X pins σ H' s'∧Q H') X.xe s
section
variable {X:Cx} {pos:Pos}
def aT(i:Nat):TG:=fun v σ H Q=>Q (σ.set i (some v)) H
theorem bS{i:Nat}{x:Str}(hN:X.N.Nodup)(hi:X.N[i]?=some x)(hx:Loc X.env.scope x)(hf:X.fn x=true∨X.env.scope.names.lookup x=some .local:=by first | exact .inl rfl | exact .inr rfl | assumption):PG X (.Name x pos) (aT i):=by
 intro pins s σ H v u Q I r h
 exact wpAny_assign_Name (vS I hN hi hx r (fun s' I'=>⟨_,H,I',h⟩) hf)
def wa:iU:=fun vs σ H Q=>vs=[]∧Q σ H
def rK(t:TG)(u:iU):iU:=fun vs σ H Q=>∃v r,vs=v::r∧t v σ H fun σ' H'=>u r σ' H' Q
theorem iV:oj X [] wa:=by
 intro pins s σ H vs us Q I r h
 obtain ⟨e,h⟩:=h
 subst e
 cases r
 exact assignInOrder_nil ⟨σ,H,I,h⟩
theorem dI{e:Expr}{es:List Expr}{t:TG}{u:iU}(h1:PG X e t)(h2:oj X es u)
  (hs:(assignEach (e::es) X.env).map (·.2)=assign e X.env::(assignEach es X.env).map (·.2):=by rfl):oj X (e::es) (rK t u):=by
 intro pins s σ H vs us Q I r h
 obtain ⟨v,vr,e1,h⟩:=h
 subst e1
 cases r with
 | cons r rr=>
  rw [hs]
  refine assignInOrder_cons (aw (h1 pins s σ H _ _ _ I r h) fun _ s1 ⟨σ1,H1,I1,q1⟩=>?_)
  exact h2 pins s1 σ1 H1 _ _ Q I1 rr q1
def wb(K:PySem.W.Frag)(n:Nat)(t:iU):TG:=fun v σ H Q=>∃a xs,v=.ref a∧bH K H a xs∧xs.length=n∧t xs σ H Q
theorem iW{es:List Expr}{k:Nat}{t:iU}{n:Nat}(hc:X.calm=true)(h:oj X es t)
  (hn:(assignEach es X.env).length=n:=by rfl) (BF:(assignEach es X.env).findIdx? (·.1)=none:=by rfl):PG X (.Tuple es k pos) (wb X.K n t):=by
 intro pins s σ H v u Q I r hw
 obtain ⟨a,xs,e1,hq,hl,hw⟩:=hw
 subst e1
 cases r
 obtain ⟨aa,rv,ht,hz⟩:=I.tuple hq
 refine assign_Tuple_tuple (I.ok.hd hc) ht (by simp [hn,←hl,rv.length]) BF fun h' hx=>?_
 have I1:Inv X pins σ H {s with heap:=h'}:=I.kept (t':=s.toks) fun b o e=>hx b o (Nat.ne_of_lt (Heap.lt_size e)) e
 exact h pins _ σ H xs _ Q I1 (by simpa using rv) hw
def BG(to ti:TE)(t:rJ):TG:=fun v σ H Q=>to σ H fun o H1=>ti σ H1 fun i H2=>t o i v H2 fun H3=>Q σ H3
theorem j8{o i:Expr}{to ti:TE}{t:rJ}(ho:PE X o to)(hi:PE X i ti)(hs:v_ X t)
  (ha:∀v,assign (.Subscript o i pos) X.env v=(do
   let ov ←holding [v] (eval o X.env)
   let iv ←holding [v,ov] (eval i X.env)
   standAt pos
   holding [v,ov,iv] (setItem ov iv v)
   release [v,ov,iv] []):=by intro _;rfl):PG X (.Subscript o i pos) (BG to ti t):=by
 intro pins s σ H v u Q I r h
 rw [ha]
 refine wpAny_bind (wpAny_holding (aw (ho pins s σ H _ I h) fun ov s1 ⟨x,H1,I1,r1,q1⟩=>?_))
 refine wpAny_bind (wpAny_holding (aw (hi pins s1 σ H1 _ I1 q1) fun iv s2 ⟨y,H2,I2,r2,q2⟩=>?_))
 refine wpAny_bind (wpAny_standAt (wpAny_bind (wpAny_holding (aw (hs pins s2 σ H2 x y v ov iv u _ I2 r1 r2 r q2) fun _ s3 ⟨H3,I3,q3⟩=>?_))))
 exact wpAny_release ⟨σ,H3,I3,q3⟩
def mF(te:TE)(g:TG):TS:=fun D σ H=>te σ H fun x H1=>g x σ H1 D.nx
theorem j9{tg e:Expr}{te:TE}{g:TG}(he:PE X e te)(hg:PG X tg g)(hs:swapsWithSole [tg] e pos.line X.env=pure false:=by rfl)(hw:swappedStores [tg] e X.env=pure none:=by rfl)
  (h1:(assignEach [tg] X.env).map (·.2)=[assign tg X.env]:=by rfl):PS X (.Assign [tg] e pos) (mF te g):=by
 intro pins s σ H D I h
 refine wpAny_Assign_stores (aw (he pins s σ H _ I h) fun v s1 ⟨x,H1,I1,r1,q1⟩=>?_) hs hw
 rw [h1]
 exact aw (hg pins s1 σ H1 x v _ I1 r1 q1) fun _ s2 q=>q
theorem BH{i:Nat}{x:Str}{e:Expr}{te:TE}{pos':Pos}(hN:X.N.Nodup)(hi:X.N[i]?=some x)(hx:Loc X.env.scope x)(he:PE X e te)(hs:swapsWith e (some (.Name x pos')) pos.line X.env=pure false:=by rfl)(hf:X.fn x=true∨X.env.scope.names.lookup x=some .local:=by first | exact .inl rfl | exact .inr rfl | assumption) :
  PS X (.Assign [.Name x pos'] e pos) (mF te (aT i)):=by
 intro pins s σ H D I h
 refine wpAny_Assign_Name (aw (he pins s σ H _ I h) fun v s1 ⟨y,H1,I1,r1,q1⟩=>?_) hs
 exact vS I1 hN hi hx r1 (fun s2 I2=>⟨_,H1,I2,q1⟩) hf
end
section
variable {X:Cx} {pos:Pos}
def BI(c:TT)(tb:TS):TS:=fun D σ H=>∃W:Nat→St→Hp→Prop,(∃m,W m σ H)∧∀m σ H,W m σ H→
 c σ H fun b H1=>if b=true then ∃N:St→Hp→Prop,(∀σ' H',N σ' H'→∃m',m'<m∧W m' σ' H')∧tb {D with nx:=N,ct:=N,bk:=D.nx} σ H1 else D.nx σ H1
theorem wc{c:Expr}{body:List Stmt}{tc:TT}{tb:TS}(hp:PassesOwn (model X.prog X.w) X.A X.env X.xe)(hc:PT X c tc)(hb:dr X body tb):PS X (.While c body [] pos) (BI tc tb):=by
 intro pins s σ H D I h
 obtain ⟨W,⟨m0,w0⟩,turn⟩:=h
 refine wpAny_While (codeAny_whileLoop (fun n s'=>∃σ' H',Inv X pins σ' H' s'∧W n σ' H') ?_ m0 ⟨σ,H,I,w0⟩)
 rintro n s1 ⟨σ1,H1,I1,w1⟩
 refine wpAny_passesOwn hp (aw (hc pins s1 σ1 H1 _ I1 (turn n σ1 H1 w1)) fun b s2 ⟨H2,I2,q2⟩=>?_)
 cases b with
 | true=>
  obtain ⟨N,hN,q2⟩:=q2
  rw [if_pos rfl]
  refine wpAny_passesOwn hp (aw (hb pins s2 σ1 H2 _ I2 q2) fun f s3 q3=>?_)
  cases f with
  | next=>
   obtain ⟨σ3,H3,I3,n3⟩:=q3
   obtain ⟨m',hm,w3⟩:=hN σ3 H3 n3
   exact ⟨m',hm,σ3,H3,I3,w3⟩
  | cont=>
   obtain ⟨σ3,H3,I3,n3⟩:=q3
   obtain ⟨m',hm,w3⟩:=hN σ3 H3 n3
   exact ⟨m',hm,σ3,H3,I3,w3⟩
  | brk=>exact q3
  | ret v=>exact q3
 | false=>
  rw [if_neg Bool.false_ne_true]
  exact wpAny_execs_nil ⟨σ1,H2,I2,q2⟩
end
structure It where
 go:Nat→Hp→Prop
 cn:Nat→Hp→V→Hp→Prop
 stop:Nat→Hp→Prop
def gv(X:Cx)(pins:List (Addr×Obj))(H:Hp)(b:Addr):Prop:=
 H b=none∧b≠X.env.locals∧b∉X.fs∧(b∈X.ex∨X.s₀.heap.objs.size≤b)∧(∀x c,X.env.cells.lookup x=some c→c≠b)∧∀p∈X.pn++pins,p.1≠b
theorem Inv.j_{X:Cx}{pins:List (Addr×Obj)}{σ:St}{H H':Hp}{s:Shared}{b:Addr}(I:Inv X pins σ H s)(hb:s.heap.objs.size≤b)(hn:H' b=none):gv X pins H' b:=by
 refine ⟨hn,Nat.ne_of_gt (Nat.lt_of_lt_of_le I.lt hb),I.Bn hb,.inr (Nat.le_trans I.sz hb),fun x c e z=>?_,fun p hp z=>?_⟩
 ·obtain ⟨v,q⟩:=I.cell x c e
  exact absurd (Nat.lt_of_lt_of_le q.lt (by rw [z];exact hb)) (Nat.lt_irrefl _)
 ·exact absurd (Nat.lt_of_lt_of_le (Heap.lt_size (I.pin p hp).1) (by rw [z];exact hb)) (Nat.lt_irrefl _)
structure Turn (P:Program) (w:World) (K:PySem.W.Frag) (tg:Expr) (J:It) (fp:List Addr) (it:Addr) (tn:Nat→Heap→Prop):Prop where
 mem:it∈fp
 obj:∀i h,tn i h→∀b∈fp,∃o,h.get? b=some o∧∀v,o.data≠.cell v
 keep:∀i h h',tn i h→(∀b∈fp,∀o,h.get? b=some o→h'.get? b=some o)→tn i h'
 item:∀(X:Cx),X.prog=P→X.w=w→X.K=K→X.calm=true→∀(i:Nat) (pins:List (Addr×Obj)) (s:Shared) (σ:St) (H:Hp) (E:Value→Shared→Prop),Inv X pins σ H s→(∀b∈fp,gv X pins H b)→tn i s.heap→J.go i H→
  wpAny (model P w) X.A (pyNext (.ref it)) (fun r s1=>∃u,r=some u ∧
   wpAny (model P w) X.A (letOwnedTupleGo tg (.ref it) u) (fun _ s2=>∃x H',Inv X pins σ H' s2∧RelV x u∧J.cn i H x H'∧tn (i+1) s2.heap∧∀b∈fp,H' b=none) E s1) E s
 done:∀(X:Cx),X.prog=P→X.w=w→X.K=K→X.calm=true→∀(i:Nat) (pins:List (Addr×Obj)) (s:Shared) (σ:St) (H:Hp) (E:Value→Shared→Prop),Inv X pins σ H s→(∀b∈fp,gv X pins H b)→tn i s.heap→J.stop i H→
  wpAny (model P w) X.A (pyNext (.ref it)) (fun r s1=>r=none∧Inv X pins σ H s1) E s
 self:∀(A:Around) (i:Nat) (s:Shared) (Q:Value→Shared→Prop) (E:Value→Shared→Prop),tn i s.heap→Q (.ref it) s→wpAny (model P w) A (pyIter (.ref it)) Q E s
abbrev TI:=St→Hp→(It→Hp→Prop)→Prop
def rL(X:Cx)(pins:List (Addr×Obj))(σ:St)(tg:Expr)(R:It→Hp→Prop)(mG:Value)(s2:Shared):Prop:=
 ∃(it:Addr) (fp:List Addr) (tn:Nat→Heap→Prop) (J:It) (H':Hp),mG=.ref it∧Inv X pins σ H' s2∧Turn X.prog X.w X.K tg J fp it tn∧tn 0 s2.heap∧(∀b∈fp,gv X pins H' b)∧R J H'
def PI(X:Cx)(tg iter:Expr)(wi:TI):Prop:=
 ∀(pins:List (Addr×Obj)) (s:Shared) (σ:St) (H:Hp) (R:It→Hp→Prop),Inv X pins σ H s→wi σ H R→
  wpAny (model X.prog X.w) X.A (eval iter X.env) (fun v s1=>wpAny (model X.prog X.w) X.A (pyIter v) (rL X pins σ tg R) X.xe s1) X.xe s
theorem om{M:Model}{A:Around}{E:Value→Shared→Prop}{s:Shared}{tg:Expr}{it:Addr}{u:Value}{o:Obj}{n:String}{vs:Array Value}{Q:Unit→Shared→Prop}(ho:s.heap.get? it=some o)(hc:o.cls=.type n)(hd:o.data=.fields vs)
    (hn:["enumerate","zip","dict_itemiterator","dict_reverseitemiterator","odict_iterator","itertools.zip_longest","itertools.pairwise"].contains n=false) (hQ:Q () s):wpAny M A (letOwnedTupleGo tg (.ref it) u) Q E s:=by
  unfold letOwnedTupleGo
  cases tg <;> first
    | exact wpAny_pure hQ
    | (cases u <;> first
        | exact wpAny_pure hQ
        | (refine wpAny_bind (wpAny_load ho ?_)
           rw [hc,hd]
           show wpAny M A (if (["enumerate","zip","dict_itemiterator","dict_reverseitemiterator","odict_iterator","itertools.zip_longest","itertools.pairwise"].contains n && vs[0]? == some (rawInt _))=true then _ else _) Q E s
           rw [if_neg (by intro h;rw [hn,Bool.false_and] at h;cases h)]
           exact wpAny_pure hQ))
def iX(K:PySem.W.Frag)(a:Addr):It:=
 ⟨fun i H=>∃xs x,aX K H a xs∧xs[i]?=some x,fun i H x H'=>H'=H∧∀xs,aX K H a xs→xs[i]?=some x,fun i H=>∃xs,aX K H a xs∧xs.length≤i⟩
def mH(K:PySem.W.Frag)(a:Addr):It:=
 ⟨fun i H=>∃xs x,bH K H a xs∧xs[i]?=some x,fun i H x H'=>H'=H∧∀xs,bH K H a xs→xs[i]?=some x,fun i H=>∃xs,bH K H a xs∧xs.length≤i⟩
def gZ(lo:Int)(n:Nat):It:=⟨fun i _=>i<n,fun i H x H'=>H'=H∧x=.int (lo+i),fun i _=>n≤i⟩
theorem BJ{P:Program}{w:World}{K:PySem.W.Frag}{tg:Expr}(a it:Addr):Turn P w K tg (iX K a) [it] it (fun i h=>h.IsListIter it a i) where
 mem:=by simp
 obj:=fun i h st b hb=>by
  have e:b=it:=by simpa using hb
  subst e
  obtain ⟨o,e,c,d⟩:=st
  exact ⟨o,e,fun v z=>by rw [d] at z;cases z⟩
 keep:=fun i h h' st k=>st.at fun o e=>k it (by simp) o e
 item:=by
  intro X hP hw hK hc i pins s σ H E I hf st hg
  subst hP hw hK
  obtain ⟨xs,x,hq,hx⟩:=hg
  obtain ⟨aa,rv,p,hz⟩:=I.list hq
  obtain ⟨u,hu,ru⟩:=rv.get hx
  obtain ⟨f0,f1,f2,f3,f4,f5⟩:=hf it (by simp)
  refine wpAny_pyNext_list_item st p.isList (x:=u) (by simpa using hu) fun h' ak sb=>?_
  have I1:Inv X pins σ H {s with heap:=h'}:=I.turned (t':=s.toks) (fun b o hb e=>(sb.2 b hb).trans e) f0 f1 f3 f4 f5
  obtain ⟨o,e,c,d⟩:=id ak
  exact ⟨u,rfl,om (s:={s with heap:=h'}) e c d (by decide) ⟨x,H,I1,ru,⟨rfl,fun ys hy=>by rw [I.vX hy hq];exact hx⟩,ak,fun b hb=>(hf b hb).1⟩⟩
 done:=by
  intro X hP hw hK hc i pins s σ H E I hf st hg
  subst hP hw hK
  obtain ⟨xs,hq,hx⟩:=hg
  obtain ⟨aa,rv,p,hz⟩:=I.list hq
  obtain ⟨f0,f1,f2,f3,f4,f5⟩:=hf it (by simp)
  have hl:=rv.length
  exact wpAny_pyNext_list_end (I.ok.hd hc) st p.isList (by simp;omega) fun h' eb=>⟨rfl,I.turned (t':=s.toks) (fun b o hb e=>eb b o hb e) f0 f1 f3 f4 f5⟩
 self:=fun _ _ _ _ _ st h=>wpAny_pyIter_listiter st h
theorem BK{P:Program}{w:World}{K:PySem.W.Frag}{tg:Expr}(a it:Addr):Turn P w K tg (mH K a) [it] it (fun i h=>h.IsTupleIter it a i) where
 mem:=by simp
 obj:=fun i h st b hb=>by
  have e:b=it:=by simpa using hb
  subst e
  obtain ⟨o,e,c,d⟩:=st
  exact ⟨o,e,fun v z=>by rw [d] at z;cases z⟩
 keep:=fun i h h' st k=>st.at fun o e=>k it (by simp) o e
 item:=by
  intro X hP hw hK hc i pins s σ H E I hf st hg
  subst hP hw hK
  obtain ⟨xs,x,hq,hx⟩:=hg
  obtain ⟨aa,rv,p,hz⟩:=I.tuple hq
  obtain ⟨u,hu,ru⟩:=rv.get hx
  obtain ⟨f0,f1,f2,f3,f4,f5⟩:=hf it (by simp)
  refine wpAny_pyNext_tuple_item st (show s.heap.IsTuple a aa.toArray from p) (x:=u) (by simpa using hu) fun h' ak sb=>?_
  have I1:Inv X pins σ H {s with heap:=h'}:=I.turned (t':=s.toks) (fun b o hb e=>(sb.2 b hb).trans e) f0 f1 f3 f4 f5
  obtain ⟨o,e,c,d⟩:=id ak
  exact ⟨u,rfl,om (s:={s with heap:=h'}) e c d (by decide) ⟨x,H,I1,ru,⟨rfl,fun ys hy=>by rw [I.rG hy hq];exact hx⟩,ak,fun b hb=>(hf b hb).1⟩⟩
 done:=by
  intro X hP hw hK hc i pins s σ H E I hf st hg
  subst hP hw hK
  obtain ⟨xs,hq,hx⟩:=hg
  obtain ⟨aa,rv,p,hz⟩:=I.tuple hq
  obtain ⟨f0,f1,f2,f3,f4,f5⟩:=hf it (by simp)
  have hl:=rv.length
  exact wpAny_pyNext_tuple_end (I.ok.hd hc) st (show s.heap.IsTuple a aa.toArray from p) (by simp;omega) fun h' eb=>⟨rfl,I.turned (t':=s.toks) (fun b o hb e=>eb b o hb e) f0 f1 f3 f4 f5⟩
 self:=fun _ _ _ _ _ st h=>wpAny_pyIter_tupleiter st h
theorem BL{P:Program}{w:World}{K:PySem.W.Frag}{tg:Expr}(it:Addr)(lo:Int)(n:Nat):Turn P w K tg (gZ lo n) [it] it (fun i h=>IsRangeIter h it (lo+(i:Nat)*1) ((n:Int)-(i:Nat)) 1) where
 mem:=by simp
 obj:=fun i h st b hb=>by
  have e:b=it:=by simpa using hb
  subst e
  exact ⟨_,st,fun v z=>by
   have z':Data.fields _=Data.cell v:=z
   cases z'⟩
 keep:=fun i h h' st k=>k it (by simp) _ st
 item:=by
  intro X hP hw hK hc i pins s σ H E I hf st hg
  subst hP hw hK
  obtain ⟨f0,f1,f2,f3,f4,f5⟩:=hf it (by simp)
  have W:=Walks.range (prog:=X.prog) (w:=X.w) (I.ok.hd hc) it lo 1 n
  refine W.item i s _ _ hg st fun v h' tk hv ak kk=>?_
  obtain ⟨t,rfl⟩:=hv
  have I1:Inv X pins σ H {s with heap:=h',toks:=tk}:=I.turned (fun b o hb e=>kk b o (by simpa using hb) e) f0 f1 f3 f4 f5
  refine ⟨_,rfl,om (s:={s with heap:=h',toks:=tk}) (n:="range_iterator") ak rfl rfl (by decide) ⟨.int (lo+i),H,I1,⟨t,?_⟩,⟨rfl,rfl⟩,ak,fun b hb=>(hf b hb).1⟩⟩
  rw [Int.mul_one]
 done:=by
  intro X hP hw hK hc i pins s σ H E I hf st hg
  subst hP hw hK
  obtain ⟨f0,f1,f2,f3,f4,f5⟩:=hf it (by simp)
  exact wpAny_pyNext_range_end (I.ok.hd hc) st (by have:n≤i:=hg;omega) fun h' eb=>⟨rfl,I.turned (t':=s.toks) (fun b o hb e=>eb b o hb e) f0 f1 f3 f4 f5⟩
 self:=fun _ _ _ _ _ st h=>wpAny_pyIter_rangeiter st h
section
variable {X:Cx} {tg:Expr}
def BM(K:PySem.W.Frag)(tl:TE):TI:=fun σ H R=>tl σ H fun x H1=>∃a,x=.ref a∧(∃xs,aX K H1 a xs)∧R (iX K a) H1
def BN(K:PySem.W.Frag)(tl:TE):TI:=fun σ H R=>tl σ H fun x H1=>∃a,x=.ref a∧(∃xs,bH K H1 a xs)∧R (mH K a) H1
theorem ee{l:Expr}{tl:TE}(hl:PE X l tl):PI X tg l (BM X.K tl):=by
 intro pins s σ H R I h
 refine aw (hl pins s σ H _ I h) fun v s1 ⟨x,H1,I1,r1,q1⟩=>?_
 obtain ⟨a,e,⟨xs,hq⟩,q⟩:=q1
 subst e
 cases r1
 obtain ⟨aa,rv,p,hz⟩:=I1.list hq
 refine wpAny_pyIter_list p.isList ?_
 refine ⟨s1.heap.objs.size,[s1.heap.objs.size],_,_,H1,rfl,I1.kept (t':=s1.toks) fun b o e=>Heap.get?_push_of_some _ e,BJ a _,⟨_,Heap.get?_push_size _ rfl,rfl,rfl⟩,fun b hb=>?_,q⟩
 have e:b=s1.heap.objs.size:=by simpa using hb
 subst e
 exact I1.j_ (Nat.le_refl _) (I1.aq.fresh (Nat.le_refl _))
theorem oo{l:Expr}{tl:TE}(hl:PE X l tl):PI X tg l (BN X.K tl):=by
 intro pins s σ H R I h
 refine aw (hl pins s σ H _ I h) fun v s1 ⟨x,H1,I1,r1,q1⟩=>?_
 obtain ⟨a,e,⟨xs,hq⟩,q⟩:=q1
 subst e
 cases r1
 obtain ⟨aa,rv,p,hz⟩:=I1.tuple hq
 refine wpAny_pyIter_tuple (show s1.heap.IsTuple a aa.toArray from p) ?_
 refine ⟨s1.heap.objs.size,[s1.heap.objs.size],_,_,H1,rfl,I1.kept (t':=s1.toks) fun b o e=>Heap.get?_push_of_some _ e,BK a _,⟨_,Heap.get?_push_size _ rfl,rfl,rfl⟩,fun b hb=>?_,q⟩
 have e:b=s1.heap.objs.size:=by simpa using hb
 subst e
 exact I1.j_ (Nat.le_refl _) (I1.aq.fresh (Nat.le_refl _))
theorem wd{pins:List (Addr×Obj)}{σ:St}{H:Hp}{s:Shared}{R:It→Hp→Prop}{E:Value→Shared→Prop}{lo hi:Int}{t u v:Tok}{tk:Nat}(I:Inv X pins σ H s)(h1:-(2 ^ 62)≤lo)(h2:lo<2 ^ 62)(h3:-(2 ^ 62)≤hi)(h4:hi<2 ^ 62)
  (q:R (gZ lo (hi-lo).toNat) H):wpAny (model X.prog X.w) X.A (pyIter (.ref s.heap.objs.size)) (rL X pins σ tg R) E {s with heap:=s.heap.push {cls:=.type "range",data:=.fields #[.int lo t,.int hi u,.int 1 v]},toks:=tk}:=by
 refine wpAny_pyIter_range (IsRange.new ..) (small_one h1 h2 h3 h4) ?_
 have I1:Inv X pins σ H {s with heap:=s.heap.push {cls:=.type "range",data:=.fields #[.int lo t,.int hi u,.int 1 v]},toks:=tk}:=I.kept fun b o e=>Heap.get?_push_of_some _ e
 refine ⟨(s.heap.push {cls:=.type "range",data:=.fields #[.int lo t,.int hi u,.int 1 v]}).objs.size,[(s.heap.push {cls:=.type "range",data:=.fields #[.int lo t,.int hi u,.int 1 v]}).objs.size],_,_,H,rfl,
  I1.kept (t':=tk) fun b o e=>Heap.get?_push_of_some _ e,BL _ lo (hi-lo).toNat,?_,fun b hb=>?_,q⟩
 ·have e1:lo+((0:Nat):Int)*1=lo:=by simp
  have e2:(((hi-lo).toNat:Nat):Int)-((0:Nat):Int)=Builtin.Range.rangeSize lo hi 1:=by rw [rangeSize_one];split <;> omega
  show IsRangeIter _ _ (lo+((0:Nat):Int)*1) ((((hi-lo).toNat:Nat):Int)-((0:Nat):Int)) 1
  rw [e1,e2]
  exact Heap.get?_push_size _ rfl
 ·have e:b=(s.heap.push {cls:=.type "range",data:=.fields #[.int lo t,.int hi u,.int 1 v]}).objs.size:=by simpa using hb
  subst e
  exact I1.j_ (Nat.le_refl _) (I1.aq.fresh (Nat.le_refl _))
def BO(ta:TA):TI:=fun σ H R=>ta σ H fun vs H1=>∃j:Int,vs=[.int j]∧-(2 ^ 62)≤j∧j<2 ^ 62∧R (gZ 0 j.toNat) H1
def BP(ta:TA):TI:=fun σ H R=>ta σ H fun vs H1=>∃i j:Int,vs=[.int i,.int j]∧(-(2 ^ 62)≤i∧i<2 ^ 62∧-(2 ^ 62)≤j∧j<2 ^ 62)∧R (gZ i (j-i).toNat) H1
theorem g6{a:Expr}{ta:TA}{p pos:Pos}(hg:Gl X "range")(hm:X.mg "range" = none)(ha:PA X [a] ta)(hs:starEach [a] X.env=[(false,eval a X.env)]:=by rfl):PI X tg (.Call (.Name "range" p) [a] [] pos) (BO ta):=by
 intro pins s σ H R I h
 refine Call_ (iR I hg hm boot_range (PyProof.Rows.callWith_type1 (aw (ha pos pins s σ H _ I h) fun us s1 ⟨vs,H1,I1,r1,q1⟩=>?_) hs rfl))
 obtain ⟨j,e,q1,q2,q⟩:=q1
 subst e
 cases r1 with
 | cons r rr=>
  cases rr
  obtain ⟨t,rfl⟩:=r
  exact call_range_1 (wd I1 (by omega) (by omega) q1 q2 (by simpa using q))
theorem BQ{a b:Expr}{ta:TA}{p pos:Pos}(hg:Gl X "range")(hm:X.mg "range" = none)(ha:PA X [a,b] ta)(hs:starEach [a,b] X.env=[(false,eval a X.env),(false,eval b X.env)]:=by rfl)(iY:starEach [b] X.env=[(false,eval b X.env)]:=by rfl) :
  PI X tg (.Call (.Name "range" p) [a,b] [] pos) (BP ta):=by
 intro pins s σ H R I h
 refine Call_ (iR I hg hm boot_range (PyProof.Rows.callWith_type1 (aw (ha pos pins s σ H _ I h) fun us s1 ⟨vs,H1,I1,r1,q1⟩=>?_) (by rw [hs,iY]) (by rw [iY];rfl)))
 obtain ⟨i,j,e,⟨q1,q2,q3,q4⟩,q⟩:=q1
 subst e
 cases r1 with
 | cons r rr=>
  cases rr with
  | cons r' rr=>
   cases rr
   obtain ⟨t,rfl⟩:=r
   obtain ⟨t',rfl⟩:=r'
   exact call_range_2 (wd I1 q1 q2 q3 q4 q)
def BR(wi:TI)(g:TG)(tb:TS):TS:=fun D σ H=>wi σ H fun J H1=>∃W:Nat→Nat→St→Hp→Prop,(∃m,W 0 m σ H1)∧∀i m σ H,W i m σ H→
 (J.stop i H∧D.nx σ H)∨(J.go i H∧∃N:St→Hp→Prop,(∀σ' H',N σ' H'→∃m',m'<m∧W (i+1) m' σ' H')∧∀x H',J.cn i H x H'→g x σ H' fun σ2 H2=>tb {D with nx:=N,ct:=N,bk:=D.nx} σ2 H2)
def fP(fp:List Addr)(h:Heap):List (Addr×Obj):=fp.filterMap fun b=>(h.get? b).map fun o=>(b,o)
theorem g8{fp:List Addr}{h:Heap}{b:Addr}{o:Obj}(hb:b∈fp)(e:h.get? b=some o):(b,o)∈fP fp h:=List.mem_filterMap.mpr ⟨b,hb,by rw [e];rfl⟩
theorem BS{fp:List Addr}{h:Heap}{p:Addr×Obj}(hp:p∈fP fp h):p.1∈fp∧h.get? p.1=some p.2:=by
 obtain ⟨b,hb,e⟩:=List.mem_filterMap.mp hp
 cases q:h.get? b with
 | none=>rw [q] at e;cases e
 | some o=>
  rw [q] at e
  have e':(b,o)=p:=Option.some.inj e
  subst e'
  exact ⟨hb,q⟩
theorem Inv.pinned{pins:List (Addr×Obj)}{σ:St}{H:Hp}{s:Shared}{fp:List Addr}(I:Inv X pins σ H s)(hf:∀b∈fp,gv X pins H b)(ho:∀b∈fp,∃o,s.heap.get? b=some o∧∀v,o.data≠.cell v):Inv X (pins++fP fp s.heap) σ H s:=
 I.vJ fun p hp=>(List.mem_append.mp hp).elim (fun z=>I.pin p (List.mem_append_right _ z)) fun z=>by
  obtain ⟨hb,e⟩:=BS z
  obtain ⟨f0,f1,f2,_⟩:=hf p.1 hb
  obtain ⟨o,e',d⟩:=ho p.1 hb
  rw [e] at e';cases e'
  exact ⟨e,f0,f1,f2,d⟩
theorem Inv.kd{pins pl:List (Addr×Obj)}{σ:St}{H:Hp}{s:Shared}(I:Inv X (pins++pl) σ H s):Inv X pins σ H s:=I.vJ fun p hp=>I.pin p (List.mem_append_right _ (List.mem_append_left _ hp))
theorem cO{iter:Expr}{body:List Stmt}{wi:TI}{g:TG}{tb:TS}{pos:Pos}(hp:PassesOwn (model X.prog X.w) X.A X.env X.xe)(hc:X.calm=true)(hi:PI X tg iter wi)(hg:PG X tg g)(hb:dr X body tb)
  (hs:∀x,foldedSetIterable iter X.env x=pure x:=by intro _;rfl):PS X (.For tg iter body [] pos) (BR wi g tb):=by
 intro pins s σ H D I h
 refine wpAny_For (aw (hi pins s σ H _ I h) fun v s1 h1=>aw h1 fun mG s2 h2=>?_) hs
 obtain ⟨it,fp,tn,J,H2,e,I2,T,eh,f2,W,⟨m0,w0⟩,turn⟩:=h2
 subst e
 have du:∀{H':Hp},(∀b∈fp,H' b=none)→∀b∈fp,gv X pins H' b:=fun hn b hb=>⟨hn b hb,(f2 b hb).2⟩
 refine codeAny_forLoop_any (fun n s'=>∃i σ' H',Inv X pins σ' H' s'∧tn i s'.heap∧(∀b∈fp,H' b=none)∧W i n σ' H') ?_ m0 ⟨0,σ,H2,I2,eh,fun b hb=>(f2 b hb).1,w0⟩
 rintro n s3 ⟨i,σ3,H3,I3,we,wg,w3⟩
 rcases turn i n σ3 H3 w3 with ⟨stop,qn⟩ | ⟨go,N,hN,step⟩
 ·refine wpAny_passesOwn hp (aw (T.done X rfl rfl rfl hc i pins s3 σ3 H3 X.xe I3 (du wg) we stop) fun r s4 ⟨hr,I4⟩=>?_)
  subst hr
  exact wpAny_execs_nil ⟨σ3,H3,I4,qn⟩
 ·refine wpAny_passesOwn hp (aw (T.item X rfl rfl rfl hc i pins s3 σ3 H3 X.xe I3 (du wg) we go) fun r s4 ⟨u,hr,h4⟩=>?_)
  subst hr
  refine wpAny_passesOwn hp (aw h4 fun _ s5 ⟨x,H5,I5,r5,y5,dv,iZ⟩=>?_)
  have i3:=I5.pinned (du iZ) (T.obj _ _ dv)
  refine wpAny_passesOwn hp (aw (hg _ s5 σ3 H5 x u _ i3 r5 (step x H5 y5)) fun _ s6 ⟨σ6,H6,I6,q6⟩=>?_)
  refine wpAny_passesOwn hp (aw (hb _ s6 σ6 H6 _ I6 q6) fun f s7 q7=>?_)
  have again:∀{σ7:St} {H7:Hp},Inv X (pins++fP fp s5.heap) σ7 H7 s7→N σ7 H7→∃m,m<n∧∃i σ' H',Inv X pins σ' H' s7∧tn i s7.heap∧(∀b∈fp,H' b=none)∧W i m σ' H':=fun{σ7 H7} I7 n7=>by
   obtain ⟨m',hm,w7⟩:=hN σ7 H7 n7
   refine ⟨m',hm,i+1,σ7,H7,I7.kd,T.keep _ _ _ dv fun b hb o e=>(I7.pin (b,o) (List.mem_append_right _ (List.mem_append_right _ (g8 hb e)))).1,fun b hb=>?_,w7⟩
   obtain ⟨o,e,d⟩:=T.obj _ _ dv b hb
   exact (I7.pin (b,o) (List.mem_append_right _ (List.mem_append_right _ (g8 hb e)))).2.1
  cases f with
  | next=>obtain ⟨σ7,H7,I7,n7⟩:=q7;exact again I7 n7
  | cont=>obtain ⟨σ7,H7,I7,n7⟩:=q7;exact again I7 n7
  | brk=>obtain ⟨σ7,H7,I7,q7⟩:=q7;exact ⟨σ7,H7,I7.kd,q7⟩
  | ret v=>obtain ⟨x7,σ7,H7,I7,r7,q7⟩:=q7;exact ⟨x7,σ7,H7,I7.kd,r7,q7⟩
end
theorem ke{K:PySem.W.Frag}{a:Addr}{xs:List V}{g:TG}{tb:TS}{D:Ends}{σ:St}{H:Hp}(Pv:Nat→St→Hp→Prop)(h0:Pv 0 σ H)(hl:∀i σ H,i≤xs.length→Pv i σ H→aX K H a xs)
  (hs:∀i x σ H,xs[i]?=some x→Pv i σ H→g x σ H fun σ2 H2=>tb {D with nx:=Pv (i+1),ct:=Pv (i+1),bk:=D.nx} σ2 H2) (hd:∀σ H,Pv xs.length σ H→D.nx σ H) :
  ∃W:Nat→Nat→St→Hp→Prop,(∃m,W 0 m σ H)∧∀i m σ H,W i m σ H→
   ((iX K a).stop i H∧D.nx σ H)∨((iX K a).go i H∧∃N:St→Hp→Prop,(∀σ' H',N σ' H'→∃m',m'<m∧W (i+1) m' σ' H')∧∀x H',(iX K a).cn i H x H'→g x σ H' fun σ2 H2=>tb {D with nx:=N,ct:=N,bk:=D.nx} σ2 H2):=by
 refine ⟨fun i m σ H=>m=xs.length-i∧i≤xs.length∧Pv i σ H,⟨xs.length,by simp,Nat.zero_le _,h0⟩,?_⟩
 rintro i m σ H ⟨rfl,hi,p⟩
 have q:=hl i σ H hi p
 by_cases a8:i<xs.length
 ·refine .inr ⟨⟨xs,xs[i],q,by simp [a8]⟩,Pv (i+1),fun σ' H' p'=>⟨xs.length-(i+1),by omega,rfl,a8,p'⟩,fun x H' y=>?_⟩
  obtain ⟨e,y⟩:=y
  subst e
  exact hs i x σ _ (y xs q) p
 ·have e:i=xs.length:=by omega
  subst e
  exact .inl ⟨⟨xs,q,Nat.le_refl _⟩,hd σ H p⟩
theorem rN{K:PySem.W.Frag}{a:Addr}{xs:List V}{g:TG}{tb:TS}{D:Ends}{σ:St}{H:Hp}(Pv:Nat→St→Hp→Prop)(h0:Pv 0 σ H)(hl:∀i σ H,i≤xs.length→Pv i σ H→bH K H a xs)
  (hs:∀i x σ H,xs[i]?=some x→Pv i σ H→g x σ H fun σ2 H2=>tb {D with nx:=Pv (i+1),ct:=Pv (i+1),bk:=D.nx} σ2 H2) (hd:∀σ H,Pv xs.length σ H→D.nx σ H) :
  ∃W:Nat→Nat→St→Hp→Prop,(∃m,W 0 m σ H)∧∀i m σ H,W i m σ H→
   ((mH K a).stop i H∧D.nx σ H)∨((mH K a).go i H∧∃N:St→Hp→Prop,(∀σ' H',N σ' H'→∃m',m'<m∧W (i+1) m' σ' H')∧∀x H',(mH K a).cn i H x H'→g x σ H' fun σ2 H2=>tb {D with nx:=N,ct:=N,bk:=D.nx} σ2 H2):=by
 refine ⟨fun i m σ H=>m=xs.length-i∧i≤xs.length∧Pv i σ H,⟨xs.length,by simp,Nat.zero_le _,h0⟩,?_⟩
 rintro i m σ H ⟨rfl,hi,p⟩
 have q:=hl i σ H hi p
 by_cases a8:i<xs.length
 ·refine .inr ⟨⟨xs,xs[i],q,by simp [a8]⟩,Pv (i+1),fun σ' H' p'=>⟨xs.length-(i+1),by omega,rfl,a8,p'⟩,fun x H' y=>?_⟩
  obtain ⟨e,y⟩:=y
  subst e
  exact hs i x σ _ (y xs q) p
 ·have e:i=xs.length:=by omega
  subst e
  exact .inl ⟨⟨xs,q,Nat.le_refl _⟩,hd σ H p⟩
theorem i4{lo:Int}{n:Nat}{g:TG}{tb:TS}{D:Ends}{σ:St}{H:Hp}(Pv:Nat→St→Hp→Prop)(h0:Pv 0 σ H)
  (hs:∀i σ H,i<n→Pv i σ H→g (.int (lo+i)) σ H fun σ2 H2=>tb {D with nx:=Pv (i+1),ct:=Pv (i+1),bk:=D.nx} σ2 H2) (hd:∀σ H,Pv n σ H→D.nx σ H) :
  ∃W:Nat→Nat→St→Hp→Prop,(∃m,W 0 m σ H)∧∀i m σ H,W i m σ H→
   ((gZ lo n).stop i H∧D.nx σ H)∨((gZ lo n).go i H∧∃N:St→Hp→Prop,(∀σ' H',N σ' H'→∃m',m'<m∧W (i+1) m' σ' H')∧∀x H',(gZ lo n).cn i H x H'→g x σ H' fun σ2 H2=>tb {D with nx:=N,ct:=N,bk:=D.nx} σ2 H2):=by
 refine ⟨fun i m σ H=>m=n-i∧i≤n∧Pv i σ H,⟨n,by simp,Nat.zero_le _,h0⟩,?_⟩
 rintro i m σ H ⟨rfl,hi,p⟩
 by_cases a8:i<n
 ·refine .inr ⟨a8,Pv (i+1),fun σ' H' p'=>⟨n-(i+1),by omega,rfl,a8,p'⟩,fun x H' y=>?_⟩
  obtain ⟨e,y⟩:=y
  subst e y
  exact hs i σ _ a8 p
 ·have e:i=n:=by omega
  subst e
  exact .inl ⟨Nat.le_refl _,hd σ H p⟩
abbrev R2:=V→V→Hp→VK→Prop
def bI(X:Cx)(f:Value→Value→Sem Value)(r:R2):Prop:=
 ∀(pins:List (Addr×Obj)) (s:Shared) (σ:St) (H:Hp) (x y:V) (v u:Value) (Q:VK),Inv X pins σ H s→RelV x v→RelV y u→r x y H Q→
  wpAny (model X.prog X.w) X.A (f v u) (EP X pins σ Q) X.xe s
def rO(X:Cx)(f:Value→Sem Value)(r:V→Hp→VK→Prop):Prop:=
 ∀(pins:List (Addr×Obj)) (s:Shared) (σ:St) (H:Hp) (x:V) (v:Value) (Q:VK),Inv X pins σ H s→RelV x v→r x H Q→
  wpAny (model X.prog X.w) X.A (f v) (EP X pins σ Q) X.xe s
def ei(X:Cx)(f:Value)(r:List V→Hp→VK→Prop):Prop:=
 ∀(pins:List (Addr×Obj)) (s:Shared) (σ:St) (H:Hp) (xs:List V) (us:List Value) (Q:VK),Inv X pins σ H s→Vals xs us→r xs H Q→
  wpAny (model X.prog X.w) X.A (call f us) (EP X pins σ Q) X.xe s
def oq(r:R2)(ta tb:TE):TE:=fun σ H Q=>ta σ H fun x H1=>tb σ H1 fun y H2=>r x y H2 Q
def BU(r:V→Hp→VK→Prop)(ta:TE):TE:=fun σ H Q=>ta σ H fun x H1=>r x H1 Q
def rI(C:Int→Int→Prop)(g:Int→Int→V):R2:=fun x y H Q=>∃i j,x=.int i∧y=.int j∧C i j∧Q (g i j) H
def g9(g:Int→Int→V):R2:=fun x y H Q=>∃i j,x=.int i∧y=.int j∧Q (g i j) H
def rU(g:Int→V):V→Hp→VK→Prop:=fun x H Q=>∃i,x=.int i∧Q (g i) H
section
variable {X:Cx} {a b c:Expr} {ta tb tc:TE} {pos:Pos}
theorem rQ(ha:PE X a ta)(hb:PE X b tb){pins:List (Addr×Obj)}{s:Shared}{σ:St}{H:Hp}{R:V→V→Hp→Prop}(I:Inv X pins σ H s)
  (h:ta σ H fun x H1=>tb σ H1 fun y H2=>R x y H2) {Q:Value→Shared→Prop} {f:Value→Value→Sem Value}
  (hf:∀v u s2 x y H2,Inv X pins σ H2 s2→RelV x v→RelV y u→R x y H2→wpAny (model X.prog X.w) X.A (f v u) Q X.xe s2) :
  wpAny (model X.prog X.w) X.A (eval a X.env) (fun v s₁=>wpAny (model X.prog X.w) X.A (eval b X.env) (fun u s₂=>wpAny (model X.prog X.w) X.A (f v u) Q X.xe s₂) X.xe s₁) X.xe s:=by
 refine aw (ha pins s σ H _ I h) fun v s1 ⟨x,H1,I1,r1,q1⟩=>?_
 refine aw (hb pins s1 σ H1 _ I1 q1) fun u s2 ⟨y,H2,I2,r2,q2⟩=>?_
 exact hf v u s2 x y H2 I2 r1 r2 q2
theorem bw{op:Operator}{r:R2}(ho:bI X (binaryOp op) r)(ha:PE X a ta)(hb:PE X b tb):PE X (.BinOp a op b pos) (oq r ta tb):=by
 intro pins s σ H Q I h
 exact wpAny_BinOp (rQ ha hb I h fun v u s2 x y H2 I2 rx ry q=>ho pins s2 σ H2 x y v u Q I2 rx ry q)
theorem wj{op:UnaryOp}{r:V→Hp→VK→Prop}(ho:rO X (unaryOp op) r)(ha:PE X a ta):PE X (.UnaryOp op a pos) (BU r ta):=by
 intro pins s σ H Q I h
 exact UnaryOp_ (aw (ha pins s σ H _ I h) fun v s1 ⟨x,H1,I1,r1,q1⟩=>ho pins s1 σ H1 x v Q I1 r1 q1)
theorem ot{f:Value→Value→Sem Value}{C:Int→Int→Prop}{g:Int→Int→Int}
  (rule:∀(i j:Int) (t u:Tok) (s:Shared) (Q:Value→Shared→Prop) (E:Value→Shared→Prop),C i j→Q (.int (g i j) s.toks) {s with toks:=s.toks+1}→wpAny (model X.prog X.w) X.A (f (.int i t) (.int j u)) Q E s) :
  bI X f (rI C fun i j=>.int (g i j)):=by
 intro pins s σ H x y v u Q I rx ry h
 obtain ⟨i,j,rfl,rfl,hc,q⟩:=h
 obtain ⟨t,rfl⟩:=rx
 obtain ⟨t',rfl⟩:=ry
 exact rule i j t t' s _ _ hc ⟨.int (g i j),H,I.tok _,⟨_,rfl⟩,q⟩
theorem wm{f:Value→Value→Sem Value}{g:Int→Int→Int}
  (rule:∀(i j:Int) (t u:Tok) (s:Shared) (Q:Value→Shared→Prop) (E:Value→Shared→Prop),Q (.int (g i j) s.toks) {s with toks:=s.toks+1}→wpAny (model X.prog X.w) X.A (f (.int i t) (.int j u)) Q E s) :
  bI X f (g9 fun i j=>.int (g i j)):=by
 intro pins s σ H x y v u Q I rx ry h
 obtain ⟨i,j,rfl,rfl,q⟩:=h
 obtain ⟨t,rfl⟩:=rx
 obtain ⟨t',rfl⟩:=ry
 exact rule i j t t' s _ _ ⟨.int (g i j),H,I.tok _,⟨_,rfl⟩,q⟩
theorem ou{f:Value→Value→Sem Value}{g:Int→Int→Bool}
  (rule:∀(i j:Int) (t u:Tok) (s:Shared) (Q:Value→Shared→Prop) (E:Value→Shared→Prop),Q (.bool (g i j)) s→wpAny (model X.prog X.w) X.A (f (.int i t) (.int j u)) Q E s) :
  bI X f (g9 fun i j=>.bl (g i j)):=by
 intro pins s σ H x y v u Q I rx ry h
 obtain ⟨i,j,rfl,rfl,q⟩:=h
 obtain ⟨t,rfl⟩:=rx
 obtain ⟨t',rfl⟩:=ry
 exact rule i j t t' s _ _ ⟨.bl (g i j),H,I,rfl,q⟩
def BV(i j:Int):Prop:=0≤j∧j≤1000000∧i.natAbs<2 ^ 64
def rR(i j:Int):Prop:=(-(2 ^ 64)<i∧i<2 ^ 64)∨(-(2 ^ 64)<j∧j<2 ^ 64)
theorem rR.ok{i j:Int}(h:rR i j):IntMulOk i j:=by
 rcases h with ⟨h1,h2⟩ | ⟨h1,h2⟩
 ·exact .of_left (intBits_le_64 h1 h2)
 ·exact .of_right (intBits_le_64 h1 h2)
theorem fQ:bI X (binaryOp .Add) (g9 fun i j=>.int (i+j)):=wm fun _ _ _ _ _ _ _ q=>add_int q
theorem oz:bI X (binaryOp .Sub) (g9 fun i j=>.int (i-j)):=wm fun _ _ _ _ _ _ _ q=>sub_int q
theorem gw:bI X (binaryOp .Mult) (rI rR fun i j=>.int (i*j)):=ot fun _ _ _ _ _ _ _ hc q=>mul_int q hc.ok
theorem i5:bI X (binaryOp .Mod) (rI (fun _ j=>0<j) fun i j=>.int (i % j)):=ot fun i j _ _ _ _ _ hc q=>by
 have h1:(0:Int)<j:=hc
 exact mod_int' (by omega) (by rw [Int.fmod_eq_emod_of_nonneg i (by omega)];exact q)
theorem BW:bI X (binaryOp .Pow) (rI BV fun i j=>.int (i ^ j.toNat)):=ot fun _ _ _ _ _ _ _ hc q=>pow_int_small hc.1 hc.2.1 hc.2.2 q
theorem BX{f:Value→Sem Value}{g:Int→Int}
  (rule:∀(i:Int) (t:Tok) (s:Shared) (Q:Value→Shared→Prop) (E:Value→Shared→Prop),Q (.int (g i) s.toks) {s with toks:=s.toks+1}→wpAny (model X.prog X.w) X.A (f (.int i t)) Q E s) :
  rO X f (rU fun i=>.int (g i)):=by
 intro pins s σ H x v Q I rx h
 obtain ⟨i,rfl,q⟩:=h
 obtain ⟨t,rfl⟩:=rx
 exact rule i t s _ _ ⟨.int (g i),H,I.tok _,⟨_,rfl⟩,q⟩
theorem wo:rO X (unaryOp .USub) (rU fun i=>.int (-i)):=BX fun _ _ _ _ _ q=>neg_int q
end
def rS:V→V→Bool
 | .aG,.aG=>true | .aG,.int _=>true | .int _,.aG=>true | .aG,.bl _=>true | .bl _,.aG=>true | .aG,.str _=>true | .str _,.aG=>true
 | .int _,.int _=>true | .bl _,.bl _=>true | .str _,.str _=>true | .fh _,.fh _=>true
 | .int _,.str _=>true | .str _,.int _=>true | .bl _,.str _=>true | .str _,.bl _=>true
 | _,_=>false
def BY:R2:=fun x y H Q=>rS x y=true∧Q (.bl (decide (x=y))) H
def BZ:R2:=fun x y H Q=>rS x y=true∧Q (.bl (!decide (x=y))) H
theorem wu{i j:Int}:decide (V.int i=V.int j)=(i == j):=by
 rw [Bool.eq_iff_iff]
 simp
theorem wx{i j:Bool}:decide (V.bl i=V.bl j)=(i == j):=by
 rw [Bool.eq_iff_iff]
 simp
theorem wy{i j:Str}:decide (V.str i=V.str j)=(i == j):=by
 rw [Bool.eq_iff_iff]
 simp
theorem wz{i j:Array UInt8}:decide (V.fh i=V.fh j)=(i.toList == j.toList):=by
 rw [Bool.eq_iff_iff]
 cases i
 cases j
 simp
section
variable {X:Cx} {a b c:Expr} {ta tb tc:TE} {pos:Pos}
theorem bJ{pins:List (Addr×Obj)}{σ:St}{H:Hp}{s:Shared}{Q:VK}{k k':Bool}(I:Inv X pins σ H s)(q:Q (.bl k) H)(e:k=k'):EP X pins σ Q (.bool k') s:=by
 subst e
 exact ⟨.bl k,H,I,rfl,q⟩
theorem fR:bI X (compareOp .Eq) BY:=by
 intro pins s σ H x y v u Q I rx ry h
 obtain ⟨hs,q⟩:=h
 cases x with
 | aG=>
  cases rx
  cases y with
  | aG=>cases ry;exact PySem.EqNone.eq_none_none (bJ I q (by simp))
  | bl j=>cases ry;exact PySem.EqNone.eq_none_bool (bJ I q (by simp))
  | int j=>obtain ⟨t',rfl⟩:=ry;exact PySem.EqNone.eq_none_int (bJ I q (by simp))
  | str j=>obtain ⟨t',rfl⟩:=ry;exact PySem.EqNone.eq_none_str (bJ I q (by simp))
  | _=>exact absurd (show false=true from hs) Bool.false_ne_true
 | bl i=>
  cases rx
  cases y with
  | aG=>cases ry;exact PySem.EqNone.eq_bool_none (bJ I q (by simp))
  | bl j=>cases ry;exact eq_bool (bJ I q wx)
  | str j=>obtain ⟨t',rfl⟩:=ry;exact PySem.EqMixed.eq_bool_str (bJ I q (by simp))
  | _=>exact absurd (show false=true from hs) Bool.false_ne_true
 | int i=>
  obtain ⟨t,rfl⟩:=rx
  cases y with
  | aG=>cases ry;exact PySem.EqNone.eq_int_none (bJ I q (by simp))
  | int j=>obtain ⟨t',rfl⟩:=ry;exact eq_int (bJ I q wu)
  | str j=>obtain ⟨t',rfl⟩:=ry;exact PySem.EqMixed.eq_int_str (bJ I q (by simp))
  | _=>exact absurd (show false=true from hs) Bool.false_ne_true
 | str i=>
  obtain ⟨t,rfl⟩:=rx
  cases y with
  | aG=>cases ry;exact PySem.EqNone.eq_str_none (bJ I q (by simp))
  | bl j=>cases ry;exact PySem.EqMixed.eq_str_bool (bJ I q (by simp))
  | int j=>obtain ⟨t',rfl⟩:=ry;exact PySem.EqMixed.eq_str_int (bJ I q (by simp))
  | str j=>obtain ⟨t',rfl⟩:=ry;exact eq_str (bJ I q wy)
  | _=>exact absurd (show false=true from hs) Bool.false_ne_true
 | fh i=>
  obtain ⟨t,rfl⟩:=rx
  cases y with
  | fh j=>obtain ⟨t',rfl⟩:=ry;exact PySem.W.eq_bytes (bJ I q wz)
  | _=>exact absurd (show false=true from hs) Bool.false_ne_true
 | _=>cases y <;> exact absurd (show false=true from hs) Bool.false_ne_true
theorem oA:bI X (compareOp .NotEq) BZ:=by
 intro pins s σ H x y v u Q I rx ry h
 obtain ⟨hs,q⟩:=h
 cases x with
 | aG=>
  cases rx
  cases y with
  | aG=>cases ry;exact PySem.EqNone.ne_none_none (bJ I q (by simp))
  | bl j=>cases ry;exact PySem.EqNone.ne_none_bool (bJ I q (by simp))
  | int j=>obtain ⟨t',rfl⟩:=ry;exact PySem.EqNone.ne_none_int (bJ I q (by simp))
  | str j=>obtain ⟨t',rfl⟩:=ry;exact PySem.EqNone.ne_none_str (bJ I q (by simp))
  | _=>exact absurd (show false=true from hs) Bool.false_ne_true
 | bl i=>
  cases rx
  cases y with
  | aG=>cases ry;exact PySem.EqNone.ne_bool_none (bJ I q (by simp))
  | bl j=>cases ry;exact ne_bool (bJ I q (congrArg not wx))
  | str j=>obtain ⟨t',rfl⟩:=ry;exact PySem.EqMixed.ne_bool_str (bJ I q (by simp))
  | _=>exact absurd (show false=true from hs) Bool.false_ne_true
 | int i=>
  obtain ⟨t,rfl⟩:=rx
  cases y with
  | aG=>cases ry;exact PySem.EqNone.ne_int_none (bJ I q (by simp))
  | int j=>obtain ⟨t',rfl⟩:=ry;exact ne_int (bJ I q (congrArg not wu))
  | str j=>obtain ⟨t',rfl⟩:=ry;exact PySem.EqMixed.ne_int_str (bJ I q (by simp))
  | _=>exact absurd (show false=true from hs) Bool.false_ne_true
 | str i=>
  obtain ⟨t,rfl⟩:=rx
  cases y with
  | aG=>cases ry;exact PySem.EqNone.ne_str_none (bJ I q (by simp))
  | bl j=>cases ry;exact PySem.EqMixed.ne_str_bool (bJ I q (by simp))
  | int j=>obtain ⟨t',rfl⟩:=ry;exact PySem.EqMixed.ne_str_int (bJ I q (by simp))
  | str j=>obtain ⟨t',rfl⟩:=ry;exact ne_str (bJ I q (congrArg not wy))
  | _=>exact absurd (show false=true from hs) Bool.false_ne_true
 | fh i=>
  obtain ⟨t,rfl⟩:=rx
  cases y with
  | fh j=>obtain ⟨t',rfl⟩:=ry;exact PySem.W.ne_bytes (bJ I q (congrArg not wz))
  | _=>exact absurd (show false=true from hs) Bool.false_ne_true
 | _=>cases y <;> exact absurd (show false=true from hs) Bool.false_ne_true
theorem mI:bI X (compareOp .Lt) (g9 fun i j=>.bl (decide (i<j))):=ou fun _ _ _ _ _ _ _ q=>lt_int q
theorem oB:bI X (compareOp .LtE) (g9 fun i j=>.bl (decide (i≤j))):=ou fun _ _ _ _ _ _ _ q=>le_int q
theorem oC:bI X (compareOp .Gt) (g9 fun i j=>.bl (decide (j<i))):=ou fun _ _ _ _ _ _ _ q=>gt_int q
theorem B0:bI X (compareOp .GtE) (g9 fun i j=>.bl (decide (j≤i))):=ou fun _ _ _ _ _ _ _ q=>ge_int q
theorem bK(b:Expr){op:CmpOp}(h:op≠.In:=by decide)(h2:op≠.NotIn:=by decide):behindInMarks op b=false:=by
 have e1:(op == CmpOp.In)=false:=by cases op <;> first | rfl | exact absurd rfl h
 have e2:(op == CmpOp.NotIn)=false:=by cases op <;> first | rfl | exact absurd rfl h2
 cases b <;> simp [behindInMarks,e1,e2]
theorem gx{op:CmpOp}{r:R2}(ho:bI X (compareOp op) r)(ha:PE X a ta)(hb:PE X b tb)(hm:behindInMarks op b=false):PE X (.Compare a [op] [b] pos) (oq r ta tb):=by
 intro pins s σ H Q I h
 exact wpAny_Compare1 (rQ ha hb I h fun v u s2 x y H2 I2 rx ry q=>ho pins s2 σ H2 x y v u Q I2 rx ry q) hm
def B1(t:TE):TT:=fun σ H Q=>t σ H fun x H'=>∃k,x=.bl k∧Q k H'
theorem b7{op:CmpOp}{r:R2}(ho:bI X (compareOp op) r)(ha:PE X a ta)(hb:PE X b tb)(hm:behindInMarks op b=false):PT X (.Compare a [op] [b] pos) (B1 (oq r ta tb)):=by
 intro pins s σ H Q I h
 refine wpAny_isTrue_Compare1 (aw (ha pins s σ H _ I h) fun v s1 ⟨x,H1,I1,r1,q1⟩=>aw (hb pins s1 σ H1 _ I1 q1) fun u s2 ⟨y,H2,I2,r2,q2⟩=>
  aw (ho pins s2 σ H2 x y v u _ I2 r1 r2 q2) fun c s3 ⟨z,H3,I3,r3,k,e,q3⟩=>?_) hm
 subst e
 cases r3
 exact wpAny_truthy_bool ⟨H3,I3,q3⟩
def B2(r r':R2)(ta tb tc:TE):TE:=fun σ H Q=>ta σ H fun x H1=>tb σ H1 fun y H2=>r x y H2 fun z H3=>∃k,z=.bl k ∧
 (if k=true then tc σ H3 fun w' H4=>r' y w' H4 Q else Q (.bl false) H3)
theorem wA{op rT:CmpOp}{r r':R2}(ho:bI X (compareOp op) r)(fM:bI X (compareOp rT) r')(ha:PE X a ta)(hb:PE X b tb)(hc:PE X c tc)
  (hm:lastMarks [op,rT] [b,c]=false:=by with_unfolding_all rfl):PE X (.Compare a [op,rT] [b,c] pos) (B2 r r' ta tb tc):=by
 intro pins s σ H Q I h
 refine Compare_chain (aw (ha pins s σ H _ I h) fun v s1 ⟨x,H1,I1,r1,q1⟩=>chain_link (aw (hb pins s1 σ H1 _ I1 q1) fun u s2 ⟨y,H2,I2,r2,q2⟩=>
  aw (ho pins s2 σ H2 x y v u _ I2 r1 r2 q2) fun d s3 ⟨z,H3,I3,r3,k,e,q3⟩=>?_)) hm
 subst e
 cases r3
 refine wpAny_truthy_bool ?_
 cases k with
 | false=>exact ite_ff ⟨.bl false,H3,I3,rfl,q3⟩
 | true=>exact ite_tt (chain_last (aw (hc pins s3 σ H3 _ I3 q3) fun w' s4 ⟨z',H4,I4,r4,q4⟩=>fM pins s4 σ H4 y z' u w' Q I4 r2 r4 q4))
theorem oD:(sizeLine:Nat)<2 ^ 63:=by rw [sizeLine_eq];decide
theorem vals1{x:V}{us:List Value}(r:Vals [x] us):∃u,us=[u]∧RelV x u:=by
 cases r with
 | cons r1 r2=>cases r2;exact ⟨_,rfl,r1⟩
theorem vals2{x y:V}{us:List Value}(r:Vals [x,y] us):∃u w',us=[u,w']∧RelV x u∧RelV y w':=by
 cases r with
 | cons r1 r2=>
  cases r2 with
  | cons r3 r4=>cases r4;exact ⟨_,_,rfl,r1,r3⟩
theorem rV(hc:X.calm=true):ei X (.builtin "max") (fun xs H Q=>∃i j,xs=[.int i,.int j]∧Q (.int (if j>i then j else i)) H):=by
 intro pins s σ H xs us Q I r h
 obtain ⟨i,j,rfl,q⟩:=h
 obtain ⟨u,w',rfl,⟨t,rfl⟩,⟨t',rfl⟩⟩:=vals2 r
 refine max_two_ints (I.ok.hd hc) fun h' tk k=>⟨_,H,I.kept k,?_,q⟩
 by_cases hj:j>i
 ·rw [if_pos hj,if_pos hj];exact ⟨_,rfl⟩
 ·rw [if_neg hj,if_neg hj];exact ⟨_,rfl⟩
theorem rW(hc:X.calm=true):ei X (.builtin "min") (fun xs H Q=>∃i j,xs=[.int i,.int j]∧Q (.int (if j<i then j else i)) H):=by
 intro pins s σ H xs us Q I r h
 obtain ⟨i,j,rfl,q⟩:=h
 obtain ⟨u,w',rfl,⟨t,rfl⟩,⟨t',rfl⟩⟩:=vals2 r
 refine min_two_ints (I.ok.hd hc) fun h' tk k=>⟨_,H,I.kept k,?_,q⟩
 by_cases hj:j<i
 ·rw [if_pos hj,if_pos hj];exact ⟨_,rfl⟩
 ·rw [if_neg hj,if_neg hj];exact ⟨_,rfl⟩
end
structure rX (h:Heap) (x dx C:Addr) (mA:Str→Option Value):Prop where
 obj:h.get? x=some (PySem.W.instObj C dx)
 ns:h.Ns1 dx mA
 ne:dx≠x
theorem B3{h:Heap}{dx:Addr}{mA:Str→Option Value}(n:h.Ns1 dx mA):∃od,h.get? dx=some od∧∀name,PySem.W.lookIn name od=some (mA name):=by
 obtain ⟨o,es,ep,ho,hd,hk,_,hm⟩:=n
 refine ⟨o,ho,fun name=>?_⟩
 have e:=hm name
 unfold nsFind findBy at e
 rw [←Array.find?_toList] at e
 unfold PySem.W.lookIn
 rw [hd]
 dsimp only
 split
 ·rename_i y q
  rw [q] at e
  exact congrArg some e
 ·rename_i q
  rw [q] at e
  have a:es.toList.any (·.refKey)=false:=by
   rw [List.any_eq_false]
   intro y hy
   obtain ⟨z,t,B4⟩:=hk y (Array.mem_toList_iff.mp hy)
   simp [DictEntry.refKey,B4]
  have a':¬es.toList.any (·.refKey)=true:=by rw [a];exact Bool.false_ne_true
  rw [if_neg a']
  exact congrArg some e
theorem rX.look{h:Heap}{x dx C:Addr}{mA:Str→Option Value}(I:rX h x dx C mA):∃od,PySem.W.InstAt h x (PySem.W.instObj C dx) C (some od)∧∀name,PySem.W.lookIn name od=some (mA name):=
 let ⟨od,ho,hl⟩:=B3 I.ns
 ⟨od,⟨I.obj,rfl,rfl,ho⟩,hl⟩
section
variable {prog:Program} {w:World} {A:Around} {E:Value→Shared→Prop} {s:Shared} {K:PySem.W.Frag} {x dx C f:Addr} {mA:Str→Option Value} {name:Str} {v:Value}
end
section
variable {P:Program} {w:World} {H H':Hp} {h h':Heap} {a C dx:Addr} {fs gT:List (Str×V)}
theorem B5(aq:a9 P w H h)(e:H a=some (.ins C dx fs)):∃mA,rX h a dx C mA∧(∀f,iK (fs.lookup f) (mA f))∧PySem.Within mA (fs.map (·.1))∧fs.length≤1000∧H dx=some (.own a):=by
 obtain ⟨d,z,ne,ob,mA,n,r,q⟩:=(show a7 P w H h a (.ins C dx fs) from aq a _ e)
 exact ⟨mA,⟨ob,n,ne⟩,r,q,z,d⟩
end
structure rY (K:PySem.W.Frag) (C:Addr):Prop where
 pg:PySem.W.plainGet K C Str.empty=true
 hd:PySem.W.hasDictIn K C=true
 po:PySem.W.plainOver K C=true
 sa:PySem.W.findIn K (.ref C) "__setattr__" = some (some (.builtin "object.__setattr__"))
theorem rY.get{K:PySem.W.Frag}{C:Addr}(c:rY K C)(f:Str):PySem.W.plainGet K C f=true:=c.pg
section
variable {X:Cx} {pins:List (Addr×Obj)} {σ:St} {H:Hp} {s:Shared} {a C dx:Addr} {fs:List (Str×V)} {f:Str} {v:V} {A:Around} {E:Value→Shared→Prop}
end
section
variable {X:Cx} {o e value:Expr} {f:Str} {pos pos' kf:Pos} {ta tv:TE}
end
section
variable {X:Cx} {pins:List (Addr×Obj)} {σ:St} {H:Hp} {s:Shared} {A:Around} {E:Value→Shared→Prop} {Q:Value→Shared→Prop} {c:Value} {b:Bool}
inductive en (K:PySem.W.Frag) (H:Hp):V→Value→Prop where
 | aG:en K H .aG (.type "NoneType")
 | bl (x:Bool):en K H (.bl x) (.type "bool")
 | int (i:Int):en K H (.int i) (.type "int")
 | str (x:Str):en K H (.str x) (.type "str")
 | jZ (x:UInt64):en K H (.jZ x) (.type "float")
 | lst {a:Addr} {xs:List V} (e:H a=some (.lst xs)):en K H (.ref a) (.type "list")
 | bj {a:Addr} {o:Obj} {xs:List V} (e:H a=some (.bj o (.lst xs))):en K H (.ref a) (.type "list")
 | tup {a:Addr} {xs:List V} (e:H a=some (.tup xs)):en K H (.ref a) (.type "tuple")
 | dK {a:Addr} {ai:List (Key×V)} (e:H a=some (.dK ai)):en K H (.ref a) (.type "dict")
 | dT {a:Addr} {ai:List (List Key×V)} (e:H a=some (.dT ai)):en K H (.ref a) (.type "dict")
 | ins {a C dx:Addr} {fs:List (Str×V)} (e:H a=some (.ins C dx fs)) (cl:rY K C) (ha:PySem.W.findIn K (.ref C) "__class__" = some (some (.builtin "object.__class__")))
   (hn:PySem.W.specialIn K (.builtin "object.__class__") "__get__" = some (some (.builtin "getset_descriptor.__get__"))) (wB:PySem.W.takesIn K (.builtin "object.__class__")=some true)
   (hm:PySem.W.mroIn K C (.type "object")=some true):en K H (.ref a) (.ref C)
theorem B6{x:V}{u t:Value}(I:Inv X pins σ H s)(rx:RelV x u)(ty:en X.K H x t)(e:PySem.W.kitOne X.K t c=some b)(h:∀tk,Q (.bool b) {s with toks:=tk}) :
  wpAny (model X.prog X.w) A (call (.builtin "isinstance") [u,c]) Q E s:=by
 cases ty with
 | aG=>cases (show u=Value.none from rx);exact PySem.W.kia_one PySem.W.kitx_none I.cJ True.intro e (fun z=>nomatch z) h
 | bl y=>cases (show u=Value.bool y from rx);exact PySem.W.kia_one PySem.W.kitx_bool I.cJ True.intro e (fun z=>nomatch z) h
 | int i=>obtain ⟨t,q⟩:=(show ∃t,u=Value.int i t from rx);cases q;exact PySem.W.kia_one PySem.W.kitx_int I.cJ True.intro e (fun z=>nomatch z) h
 | str y=>obtain ⟨t,q⟩:=(show ∃t,u=Value.str y t from rx);cases q;exact PySem.W.kia_one PySem.W.kitx_str I.cJ True.intro e (fun z=>nomatch z) h
 | jZ y=>obtain ⟨t,q⟩:=(show ∃t,u=Value.float y t from rx);cases q;exact PySem.W.kia_one PySem.W.kitx_float I.cJ True.intro e (fun z=>nomatch z) h
 | @lst a xs ea=>
  cases (show u=Value.ref a from rx)
  obtain ⟨_,_,n,_,h1⟩:=(show a7 X.prog X.w H s.heap a (.lst xs) from I.aq a _ ea)
  exact PySem.W.kia_one PySem.W.kitx_list I.cJ ⟨_,h1,rfl⟩ e (fun z=>nomatch z) h
 | @bj a ob xs ea=>
  cases (show u=Value.ref a from rx)
  obtain ⟨_,_,_,n,_,h1⟩:=(show a7 X.prog X.w H s.heap a (.bj ob (.lst xs)) from I.aq a _ ea)
  exact PySem.W.kia_one PySem.W.kitx_list I.cJ ⟨_,h1,rfl⟩ e (fun z=>nomatch z) h
 | @tup a xs ea=>
  cases (show u=Value.ref a from rx)
  obtain ⟨_,_,_,p⟩:=(show a7 X.prog X.w H s.heap a (.tup xs) from I.aq a _ ea)
  obtain ⟨o,h1,h2,_⟩:=p
  exact PySem.W.kia_one PySem.W.kitx_tuple I.cJ ⟨o,h1,h2⟩ e (fun z=>nomatch z) h
 | @dK a ai ea=>
  cases (show u=Value.ref a from rx)
  obtain ⟨_,_,vs,_,p⟩:=(show a7 X.prog X.w H s.heap a (.dK ai) from I.aq a _ ea)
  obtain ⟨o,es,ep,h1,h2,_⟩:=p
  exact PySem.W.kia_one PySem.W.kitx_dict I.cJ ⟨o,h1,h2.1⟩ e (fun z=>nomatch z) h
 | @dT a ai ea=>
  cases (show u=Value.ref a from rx)
  obtain ⟨_,_,xs,_,o,es,ep,h1,h2,_⟩:=(show a7 X.prog X.w H s.heap a (.dT ai) from I.aq a _ ea)
  exact PySem.W.kia_one PySem.W.kitx_dict I.cJ ⟨o,h1,h2.1⟩ e (fun z=>nomatch z) h
 | @ins a C dx fs ea cl ha hn wB hm=>
  cases (show u=Value.ref a from rx)
  obtain ⟨mA,O,_⟩:=B5 I.aq ea
  obtain ⟨od,J,_⟩:=O.look
  exact PySem.W.kia_one (PySem.W.kitx_own (cl.get _) cl.hd ha hn wB hm) I.cJ J e (fun z=>nomatch z) h
end
structure cx (k:Nat) (A:Around):Prop where
 hd:A.handled=none
 dp:A.depth+3*k+5<recursionLimit
 un:A.units+16*k+200<cLine
theorem cx.mono{j k:Nat}{A:Around}(r:cx k A)(h:j≤k):cx j A:=⟨r.hd,by have:=r.dp;omega,by have:=r.un;omega⟩
theorem cx.deeper{k:Nat}{A:Around}(r:cx (k+1) A)(env:Env):cx k (A.deeper env):=
 ⟨r.hd,by have:=r.dp;show A.depth+1+3*k+5<_;omega,by have:=r.un;show A.units+3+16*k+200<_;omega⟩
theorem cx.depth{k:Nat}{A:Around}(r:cx k A):A.depth<recursionLimit:=by have:=r.dp;omega
theorem cx.units{k:Nat}{A:Around}(r:cx k A):A.units+64<cLine:=by have:=r.un;omega
theorem cx.wC{k:Nat}{A:Around}(r:cx k A):A.units<cLine:=by have:=r.un;omega
def oE:TA:=fun _ H Q=>Q [] H
def rZ(ta:TE)(tr:TA):TA:=fun σ H Q=>ta σ H fun x H1=>tr σ H1 fun xs H2=>Q (x::xs) H2
section
variable {X:Cx} {e:Expr} {es:List Expr} {te:TE} {t:TA} {pos:Pos}
theorem ao:PA X [] oE:=fun _ _ _ _ H Q I h=>Calls.spliced_nil ⟨[],H,I,.nil,h⟩
theorem B7(ha:PE X e te)(hr:PA X es t)(hs:starEach (e::es) X.env=(false,eval e X.env)::starEach es X.env:=by rfl):PA X (e::es) (rZ te t):=by
 intro pos pins s σ H Q I h
 rw [hs]
 show wpAny _ _ (spliced ((false,eval e X.env)::backTo pos (starEach es X.env))) _ _ s
 refine Calls.spliced_cons (aw (ha pins s σ H _ I h) fun u s1 ⟨x,H1,I1,r1,q1⟩=>?_)
 exact aw (hr pos pins s1 σ H1 _ I1 q1) fun us s2 ⟨xs,H2,I2,r2,q2⟩=>⟨x::xs,H2,I2,.cons r1 r2,q2⟩
def B8(t:TA):TE:=fun σ H Q=>t σ H fun xs H1=>xs.length≤sizeLine∧∀p,H1 p=none→Q (.ref p) (upd H1 p (.tup xs))
def B9(t:TA):TE:=fun σ H Q=>t σ H fun xs H1=>xs.length≤sizeLine∧∀p,H1 p=none→Q (.ref p) (upd H1 p (.lst xs))
theorem g_{x1}(h:PA X es t):PE X (.Tuple es x1 pos) (B8 t):=by
 intro pins s σ H Q I hq
 refine wpAny_Tuple_spliced (aw (h pos pins s σ H _ I hq) fun us s1 ⟨xs,H1,I1,r,z,q⟩=>⟨by rw [←r.length];exact z,?_⟩)
 have hf:H1 s1.heap.objs.size=none:=I1.aq.fresh (Nat.le_refl _)
 refine ⟨.ref s1.heap.objs.size,upd H1 s1.heap.objs.size (.tup xs),I1.laid (t':=s1.toks) (fun b u e=>Heap.get?_push_of_some _ e) (Nat.le_refl _) ?_,rfl,q _ hf⟩
 exact ⟨z,us,r,⟨_,Heap.get?_push_size _ rfl,rfl,_,rfl⟩⟩
theorem cK(h:PA X es t):PE X (.List es pos) (B9 t):=by
 intro pins s σ H Q I hq
 refine wpAny_List_spliced (aw (h pos pins s σ H _ I hq) fun us s1 ⟨xs,H1,I1,r,z,q⟩=>⟨by rw [←r.length];exact z,?_⟩)
 have hf:H1 s1.heap.objs.size=none:=I1.aq.fresh (Nat.le_refl _)
 refine ⟨.ref s1.heap.objs.size,upd H1 s1.heap.objs.size (.lst xs),I1.laid (t':=s1.toks) (fun b u e=>Heap.get?_push_of_some _ e) (Nat.le_refl _) ?_,rfl,q _ hf⟩
 exact ⟨z,us,0,r,Heap.get?_push_size _ rfl⟩
end
abbrev Sp:=List V→Hp→VK→XK→Prop
abbrev dw:=List Env→Hp→Shared→XK→Value→Shared→Prop
structure oF (P:Program) (w:World) (K:PySem.W.Frag) (mg:Str→Option Value) (base:Heap) (A:Around) (outer:List Env) (s:Shared) (H:Hp):Prop where
 frames:A.frames=some outer
 mod:Mod K mg base
 bs:∀b o,base.get? b=some o→s.heap.get? b=some o∧H b=none
 eN:base.objs.size≤s.heap.objs.size
 fi:s.heap.FunFrames base outer
 gU:∀b∈bu outer,H b=none
 aq:a9 P w H s.heap
 bare:AllBare s.gens
def CE(outer:List Env)(P:Program)(w:World)(H:Hp)(s:Shared)(Q:VK)(u:Value)(s':Shared):Prop:=
 ∃v H',s'.os=s.os∧AllBare s'.gens∧Un (bu outer) [] H H' s.heap s'.heap∧a9 P w H' s'.heap∧RelV v u∧Q v H'
def CR(CX:dw)(outer:List Env)(P:Program)(w:World)(H:Hp)(s:Shared)(Q:VK)(E:XK)(r:Result)(s':Shared):Prop:=
 match r with
 | .ok (.ret u)=>CE outer P w H s Q u s'
 | .ok _=>False
 | .error e=>CX outer H s E e s'
structure bx (P:Program) (w:World) (K:PySem.W.Frag) (mg:Str→Option Value) (base:Heap) (CX:dw) (k:Nat) (f:Addr) (fd:FuncData) (ps:List Str) (sp:Sp):Prop where
 len:∀vs H Q E,sp vs H Q E→vs.length=ps.length
 run:∀(A:Around) (outer:List Env) (s:Shared) (H:Hp) (args:Args) (us:List Value) (vs:List V) (Q:VK) (E:XK),cx k A→oF P w K mg base A outer s H→BindsTo s fd args (ps.zip us)→Vals vs us→sp vs H Q E→
  codeAny (model P w) A (.call (.ref f) args) (CR CX outer P w H s Q E) s
section
variable {X:Cx} {pins:List (Addr×Obj)} {σ:St} {H:Hp} {s s':Shared}
theorem Inv.B_(I:Inv X pins σ H s):oF X.prog X.w X.K X.mg X.base X.A X.stack s H:=
 ⟨I.ok.frames,I.ok.mod,I.bs,Nat.le_trans I.ok.eN I.sz,I.stack,I.mC,I.aq,I.bare⟩
theorem Inv.after{Q:VK}{u:Value}(I:Inv X pins σ H s)(h:CE X.stack X.prog X.w H s Q u s'):EP X pins σ Q u s':=by
 obtain ⟨v,H',os,bare,un,aq,r,q⟩:=h
 obtain ⟨hh,g,d,t,Ca⟩:=s'
 obtain rfl:Ca=s.os:=os
 exact ⟨v,H',I.call (h':=hh) (g':=g) (d':=d) (t':=t) (ch:=[]) un aq bare (fun b z=>absurd z (by simp)),r,q⟩
end
def Cb(sp:Sp)(fS:List V)(E:XK)(t:TA):TE:=fun σ H Q=>t σ H fun vs H1=>sp (vs++fS) H1 Q E
def Binds(K:PySem.W.Frag)(fd:FuncData)(ps:List Str)(ds:List Value):Prop:=
 ∀(s:Shared) (us:List Value),K.In s.heap→(us++ds).length=ps.length→BindsTo s fd ⟨us,[]⟩ (ps.zip (us++ds))
theorem Binds.all{K:PySem.W.Frag}{fd:FuncData}{ps:List Str}(h:∀us:List Value,us.length=ps.length→bindArgs fd ⟨us,[]⟩=pure (ps.zip us)):Binds K fd ps []:=fun s us _ hl=>by
 rw [List.append_nil] at hl ⊢
 exact .of_eq (h us hl)
def Passes(CX:dw)(X:Cx)(E:XK):Prop:=∀(pins:List (Addr×Obj)) (σ:St) (H:Hp) (s:Shared) (e:Value) (s':Shared),Inv X pins σ H s→CX X.stack H s E e s'→X.xe e s'
section
variable {X:Cx} {CX:dw} {k:Nat} {f C:Addr} {fd:FuncData} {ps:List Str} {sp:Sp} {fS:List V} {ds:List Value} {E:XK} {x m:Str} {p pos apos:Pos} {e o:Expr} {es:List Expr} {ta:TE} {t:TA}
theorem Cc{pins:List (Addr×Obj)}{σ:St}{H:Hp}{s:Shared}{Q:VK}{us:List Value}{vs:List V}(F:bx X.prog X.w X.K X.mg X.base CX k f fd ps sp)(hr:cx k X.A)(hb:Binds X.K fd ps ds)(hd:Vals fS ds)(hx:Passes CX X E)
  (I:Inv X pins σ H s) (r:Vals vs us) (h:sp (vs++fS) H Q E):wpAny (model X.prog X.w) X.A (call (.ref f) us) (EP X pins σ Q) X.xe s:=by
 have r2:Vals (vs++fS) (us++ds):=r.append hd
 have hl:(us++ds).length=ps.length:=by rw [←r2.length];exact F.len _ _ _ _ h
 refine wpAny_call (codeAny_mono (F.run X.A X.stack s H ⟨us,[]⟩ (us++ds) (vs++fS) Q E hr I.B_ (hb s us I.cJ hl) r2 h) fun r s' hq=>?_)
 cases r with
 | error e=>exact hx pins σ H s e s' I hq
 | ok fl=>
  cases fl with
  | ret u=>exact I.after hq
  | next=>exact False.elim hq
  | brk=>exact False.elim hq
  | cont=>exact False.elim hq
theorem a_(F:bx X.prog X.w X.K X.mg X.base CX k f fd ps sp)(hr:cx k X.A)(hg:Gl X x)(hm:X.mg x=some (.ref f))(hk:PySem.W.keepIn X.K (.ref f)=true)(hb:Binds X.K fd ps ds)(hd:Vals fS ds)(hx:Passes CX X E)
  (ha:PA X (e::es) t) (mJ:(x == ("__debug__":Str))=false:=by decide) (he:starEach (e::es) X.env=(false,eval e X.env)::starEach es X.env:=by rfl) (kg:(backTo pos (starEach es X.env)).any (·.1)=false:=by rfl) :
  PE X (.Call (.Name x p) (e::es) [] pos) (Cb sp fS E t):=by
 intro pins s σ H Q I h
 refine wpAny_Call_Name_kw (rE I hg hm ?_ mJ)
 refine PySem.W.callWith_K (h₀:=X.base) I.ok.mod.bP hk (aw (ha pos pins s σ H _ I h) fun us s1 ⟨vs,H1,I1,r,q⟩=>⟨I1.cJ,?_⟩) he kg
 exact Cc F hr hb hd hx I1 r q
end
section
variable {X:Cx} {CX:dw} {k:Nat} {f C:Addr} {fd:FuncData} {ps ks:List Str} {sp:Sp} {E:XK} {x m:Str} {p pos apos wD:Pos} {e o:Expr} {es:List Expr} {Cd:List Keyword} {te ta:TE} {t tk:TA} {nm:Option Str}
variable {g:List Value→List Value→List Value} {gV:List V→List V→List V}
end
structure bQ (N P:List Str) (sc:Scope):Prop where
 kind:sc.kind=.function
 co:sc.isCoroutine=false
 gen:sc.isGenerator=false
 nd:N.Nodup
 pre:N.take P.length=P
 par:∀x∈P,sc.names.lookup x=some .local∨sc.names.lookup x=some .cell
 Ce:∀y∈sc.names,y.2≠.free
theorem wF{kindOf:Str→Option NameKind}{x:Str}:∀{binds:List (Str×Value)} {m:Str→Option Value},(∀v,(x,v)∉binds)→bindL kindOf binds m x=m x
 | [],_,_=>rfl
 | (n,v)::r,m,h=>by
  unfold bindL
  rw [wF fun w hw=>h w (List.mem_cons_of_mem _ hw)]
  split
  ·have:x≠n:=by rintro rfl;exact h v List.mem_cons_self
   simp [this]
  ·rfl
theorem wG{kindOf:Str→Option NameKind}{x:Str}:∀{binds:List (Str×Value)} {m:Str→Option Value},(∀v,(x,v)∉binds)→bindC kindOf binds m x=m x
 | [],_,_=>rfl
 | (n,v)::r,m,h=>by
  unfold bindC
  rw [wG fun w hw=>h w (List.mem_cons_of_mem _ hw)]
  split
  ·rfl
  ·have:x≠n:=by rintro rfl;exact h v List.mem_cons_self
   simp [this]
theorem wH{kindOf:Str→Option NameKind}{x:Str}{v:Value}:∀{P:List Str} {vs:List Value} {i:Nat} {m:Str→Option Value},P.Nodup→P[i]?=some x→vs[i]?=some v→kindOf x=some .local→
  bindL kindOf (P.zip vs) m x=some v
 | [],_,_,_,_,h,_,_=>by simp at h
 | _::_,[],_,_,_,_,h,_=>by simp at h
 | p::P,w::vs,0,m,nd,h1,h2,hk=>by
  simp at h1 h2;subst h1;subst h2
  show bindL kindOf ((p,w)::P.zip vs) m p=_
  unfold bindL
  rw [wF fun v hv=>(List.nodup_cons.mp nd).1 (List.of_mem_zip hv).1,if_pos hk]
  simp
 | p::P,w::vs,i+1,m,nd,h1,h2,hk=>by
  show bindL kindOf ((p,w)::P.zip vs) m x=_
  unfold bindL
  exact wH (i:=i) (List.nodup_cons.mp nd).2 (by simpa using h1) (by simpa using h2) hk
theorem wI{kindOf:Str→Option NameKind}{x:Str}{v:Value}:∀{P:List Str} {vs:List Value} {i:Nat} {m:Str→Option Value},P.Nodup→P[i]?=some x→vs[i]?=some v→kindOf x≠some .local→
  bindC kindOf (P.zip vs) m x=some v
 | [],_,_,_,_,h,_,_=>by simp at h
 | _::_,[],_,_,_,_,h,_=>by simp at h
 | p::P,w::vs,0,m,nd,h1,h2,hk=>by
  simp at h1 h2;subst h1;subst h2
  show bindC kindOf ((p,w)::P.zip vs) m p=_
  unfold bindC
  rw [wG fun v hv=>(List.nodup_cons.mp nd).1 (List.of_mem_zip hv).1,if_neg hk]
  simp
 | p::P,w::vs,i+1,m,nd,h1,h2,hk=>by
  show bindC kindOf ((p,w)::P.zip vs) m x=_
  unfold bindC
  exact wI (i:=i) (List.nodup_cons.mp nd).2 (by simpa using h1) (by simpa using h2) hk
def start(N:List Str)(vs:List V):St:=vs.map some++List.replicate (N.length-vs.length) none
def hE(CX:dw)(P:Program)(w:World)(K:PySem.W.Frag)(mg:Str→Option Value)(base:Heap)(N:List Str)(qual:Str)(scope:Scope)(f:Addr)(cd:Value)(A:Around)(outer:List Env)(s:Shared)(H:Hp)(E:XK):Cx where
 prog:=P
 w:=w
 K:=K
 mg:=mg
 base:=base
 A:=A.deeper (envOfC qual scope s.heap.objs.size f cd)
 N:=N
 s₀:=s
 H₀:=H
 env:=envOfC qual scope s.heap.objs.size f cd
 outer:=outer
 stack:=envOfC qual scope s.heap.objs.size f cd::outer
 ex:=[]
 calm:=true
 fn:=fun _=>true
 pn:=[]
 xe:=fun e s'=>wpAny (model P w) (A.deeper (envOfC qual scope s.heap.objs.size f cd)) (leaving (envOfC qual scope s.heap.objs.size f cd) e) (fun _ fT=>CX outer H s E e fT) (fun e' fT=>CX outer H s E e' fT) s'
theorem wJ{sc:Scope}{n:Nat}{x:Str}(h:sc.names.lookup x=some .cell):∃c,(cellsFrom n sc.names []).lookup x=some c:=by
 have q:=PySem.W.cellsFrom_some sc.names n [] (.inl h)
 exact Option.isSome_iff_exists.mp q
theorem Cf{CX:dw}{P:Program}{w:World}{K:PySem.W.Frag}{mg:Str→Option Value}{base:Heap}{N ps:List Str}{qual:Str}{scope:Scope}{f:Addr}{cd:Value}{A:Around}{outer:List Env}{s s1:Shared}{H:Hp}{E:XK}{us:List Value}{vs:List V}
  (S:bQ N ps scope) (hd:A.handled=none) (e0:oF P w K mg base A outer s H) (hl:vs.length=ps.length) (r:Vals vs us)
  (x:InCallC s s.heap.objs.size (bindL (envOfC qual scope s.heap.objs.size f cd).kindOf (ps.zip us) fun _=>none) (cellsFrom (s.heap.objs.size+1) scope.names []) (bindC (envOfC qual scope s.heap.objs.size f cd).kindOf (ps.zip us) fun _=>none) s1) :
  Inv (hE CX P w K mg base N qual scope f cd A outer s H E) [] (start N vs) H s1:=by
 have kg:ps.length≤N.length:=by have:=congrArg List.length S.pre;rw [List.length_take] at this;omega
 obtain ⟨h1,tk,rfl,hk⟩:=x.done
 have mK:∀b:Addr,b∉(hE CX P w K mg base N qual scope f cd A outer s H E).ex:=fun b z=>absurd (show b∈([]:List Addr) from z) (by simp)
 refine ⟨⟨e0.mod,S.kind,rfl,rfl,Nat.le_refl _,fun y z c h1 h2=>?_,fun y hy=>?_,fun y c _ h=>?_,fun _=>hd,Around.frames_deeper e0.frames,.inr ⟨rfl,rfl⟩,fun b z=>absurd z (mK b),e0.bs,e0.eN,fun b _ _=>mK b,fun b z=>absurd z (mK b),e0.fi,e0.gU⟩,
  rfl,e0.bare,Un.kept hk,⟨_,x.toInCall.ns,fun i y v h1 h2 h3=>?_⟩,fun y c h=>⟨_,x.cell y c h⟩,e0.aq.fresh (Nat.le_refl _),fun y c h=>?_,fun p hp=>absurd (show p∈([]:List (Addr×Obj)) from hp) (by simp),e0.aq.kept hk,?_⟩
 ·exact name_of_addr x.apart (PySem.mem_of_lookup h1) (PySem.mem_of_lookup h2)
 ·have hy:scope.names.lookup y=some .cell∨scope.names.lookup y=some .free:=hy
  rcases hy with hy | hy
  ·exact wJ hy
  ·exact absurd rfl (S.Ce _ (PySem.mem_of_lookup hy))
 ·exact Nat.le_of_lt (x.above y c (PySem.mem_of_lookup h))
 ·have hi:i<vs.length:=by
   unfold start at h2
   by_cases hi:i<vs.length
   ·exact hi
   ·rw [List.getElem?_append_right (by simpa using hi)] at h2
    rw [List.getElem?_replicate] at h2
    split at h2 <;> cases h2
  have ha:vs[i]?=some v:=by
   unfold start at h2
   rw [List.getElem?_append_left (by simpa using hi),List.getElem?_map] at h2
   cases e:vs[i]? with
   | none=>rw [e] at h2;cases h2
   | some a=>rw [e] at h2;cases h2;rfl
  obtain ⟨u,hu,rv⟩:=r.get ha
  have hp:ps[i]?=some y:=by
   rw [←S.pre,List.getElem?_take_of_lt (by omega)];exact h1
  have wK:ps.Nodup:=by rw [←S.pre];exact S.nd.sublist (List.take_sublist _ _)
  refine ⟨u,rv,?_⟩
  rcases S.par y (List.mem_of_getElem? hp) with k | k
  ·exact .inl ⟨k,wH wK hp hu k⟩
  ·obtain ⟨c,e⟩:=wJ (n:=s.heap.objs.size+1) k
   refine .inr ⟨.inl k,c,e,?_⟩
   have q:=x.cell y c e
   rw [wI wK hp hu (by show scope.names.lookup y≠_;rw [k];decide)] at q
   exact q
 ·exact e0.aq.fresh (Nat.le_of_lt (x.above y c (PySem.mem_of_lookup h)))
 ·unfold start
  show _=N.length
  rw [List.length_append,List.length_map,List.length_replicate]
  omega
theorem wL{CX:dw}{P:Program}{w:World}{K:PySem.W.Frag}{mg:Str→Option Value}{base:Heap}{k:Nat}{f:Addr}{name qual:Str}{params:Arguments}{body:List Stmt}{scope:Scope}{dV kV doc pm aJ ct oc:Value}{an od:Option Addr}
  {fU:Array (Option Value)} {N ps:List Str} {sp:Sp} (lk:K.lookup f=some ⟨oc,od,.func (PySem.W.fnOf name qual params body scope dV kV doc pm an aJ ct),fU⟩) (dH:PySem.W.codeIn K aJ qual=true) (S:bQ N ps scope)
  (len:∀vs H Q E,sp vs H Q E→vs.length=ps.length)
  (mL:∀(A:Around) (outer:List Env) (s:Shared) (H:Hp) (vs:List V) (Q:VK) (E:XK),cx k (A.deeper (envOfC qual scope s.heap.objs.size f aJ))→sp vs H Q E→
   ∃t,dr (hE CX P w K mg base N qual scope f aJ A outer s H E) body t∧t {nx:=fun _ H'=>Q .aG H',rt:=Q} (start N vs) H) :
  bx P w K mg base CX (k+1) f (PySem.W.fnOf name qual params body scope dV kV doc pm an aJ ct) ps sp:=by
 refine ⟨len,fun A outer s H args us vs Q E hr e0 hb r fV=>?_⟩
 have hl:=len _ _ _ _ fV
 have KX:K.In s.heap:=e0.mod.bP.keeps fun b o e=>(e0.bs b o e).1
 have lim:s.heap.NoLimit:=e0.mod.nolimit.keeps fun b o e=>(e0.bs b o e).1
 have Cg:∀y∈ps.zip us,scope.names.lookup y.1=some .local∨(scope.names.lookup y.1=some .cell∧((cellsFrom (s.heap.objs.size+1) scope.names []).lookup y.1).isSome=true):=fun⟨n,v⟩ hy=>by
  rcases S.par n (List.of_mem_zip hy).1 with q | q
  ·exact .inl q
  ·exact .inr ⟨q,PySem.W.cellsFrom_some _ _ _ (.inl q)⟩
 refine codeAny_call_function hr.depth (KX _ _ lk) rfl S.co S.gen rfl (PySem.W.codeRec_of KX dH) (hb _ _ _ _ ?_)
 refine wpAny_newFunctionEnv_cells S.kind Cg fun env he s1 x=>?_
 subst he
 refine ⟨lim.keeps x.toInCall.keep,codeAny_func ?_⟩
 obtain ⟨t,ht,hq⟩:=mL A outer s H vs Q E (hr.deeper _) fV
 have I:Inv (hE CX P w K mg base N qual scope f aJ A outer s H E) [] (start N vs) H s1:=Cf S hr.hd e0 hl r x
 refine wpAny_mono (ht [] s1 (start N vs) H _ I hq) (fun fl s' hs=>?_) fun e s' hs=>hs
 have fin:∀{σ':St} {H':Hp} {v:V} {u:Value},Inv (hE CX P w K mg base N qual scope f aJ A outer s H E) [] σ' H' s'→RelV v u→Q v H'→CE outer P w H s Q u s':=
  fun{σ' H' v u} J rv q=>⟨v,H',J.os,J.bare,J.base,J.aq,rv,q⟩
 cases fl with
 | ret u=>
  obtain ⟨v,σ',H',J,rv,q⟩:=hs
  exact fin J rv q
 | next=>
  obtain ⟨σ',H',J,q⟩:=hs
  exact fin (v:=V.aG) (u:=Value.none) J rfl q
 | brk=>
  obtain ⟨_,_,_,q⟩:=hs
  exact False.elim q
 | cont=>
  obtain ⟨_,_,_,q⟩:=hs
  exact False.elim q
section
variable {X:Cx} {x:Str} {p pos:Pos} {e:Expr} {es:List Expr} {t:TA} {id T:String} {r:List V→Hp→VK→Prop}
def r6(r:List V→Hp→VK→Prop)(t:TA):TE:=fun σ H Q=>t σ H fun vs H1=>r vs H1 Q
theorem bR(hc:ei X (.builtin id) r)(hg:Gl X x)(hm:X.mg x=none)(hv:bootBuiltins x=some (.builtin id))(ha:PA X (e::es) t)(hn:x ≠ "__name__":=by decide)(mJ:(x == ("__debug__":Str))=false:=by decide)
  (he:starEach (e::es) X.env=(false,eval e X.env)::starEach es X.env:=by rfl) (kg:(backTo pos (starEach es X.env)).any (·.1)=false:=by rfl):PE X (.Call (.Name x p) (e::es) [] pos) (r6 r t):=by
 intro pins s σ H Q I h
 refine wpAny_Call_Name_kw (iR I hg hm hv ?_ hn mJ)
 exact PyProof.Rows.callWith_builtin1 (aw (ha pos pins s σ H _ I h) fun us s1 ⟨vs,H1,I1,r1,q1⟩=>hc pins s1 σ H1 vs us Q I1 r1 q1) he kg
theorem fk(hc:ei X (.type T) r)(hg:Gl X x)(hm:X.mg x=none)(hv:bootBuiltins x=some (.type T))(ha:PA X (e::es) t)(hn:x ≠ "__name__":=by decide)(mJ:(x == ("__debug__":Str))=false:=by decide)
  (he:starEach (e::es) X.env=(false,eval e X.env)::starEach es X.env:=by rfl) (kg:(backTo pos (starEach es X.env)).any (·.1)=false:=by rfl):PE X (.Call (.Name x p) (e::es) [] pos) (r6 r t):=by
 intro pins s σ H Q I h
 refine wpAny_Call_Name_kw (iR I hg hm hv ?_ hn mJ)
 exact PyProof.Rows.callWith_type1 (aw (ha pos pins s σ H _ I h) fun us s1 ⟨vs,H1,I1,r1,q1⟩=>hc pins s1 σ H1 vs us Q I1 r1 q1) he kg
end
end L2
namespace HT
open PySem PyProof.Rows
def lexLt:List Int→List Int→Bool
 | [],[]=>false
 | [],_::_=>true
 | _::_,[]=>false
 | x::xs,y::ys=>if x=y then lexLt xs ys else decide (x<y)
theorem r_(x y:Int)(xs ys:List Int):lexLt (x::xs) (y::ys)=if x=y then lexLt xs ys else decide (x<y):=rfl
theorem Ci:lexLt [] []=false:=rfl
theorem Cj(y:Int)(ys:List Int):lexLt [] (y::ys)=true:=rfl
theorem Ck(x:Int)(xs:List Int):lexLt (x::xs) []=false:=rfl
theorem Cm(A:Around)(s:Shared)(a:Int)(t:Tok)(c:Int)(u:Tok):∃e,SeqAt.EqAt A s (.int a t) (.int c u) e∧(e=true↔a=c):=
 ⟨(a == c),SeqAt.EqAt.int_int a t c u,by simp⟩
theorem Cn(A:Around)(s:Shared)(a:Int)(t:Tok)(c:Int)(u:Tok)(prog:Program)(w:World)(E:Value→Shared→Prop)(Q:Value→Shared→Prop)(h:Q (.bool (decide (a<c))) s) :
  wpAny (model prog w) A (richCompare .Lt (.int a t) (.int c u)) Q E s:=
 (PyProof.Rows.lt_int h:wpAny (model prog w) A (compareOp .Lt (.int a t) (.int c u)) Q E s)
section
open PySem.SeqAt
open PySem.AutoSeq1 (wpAny_loadPart')
open PySem.MeetsSeq PySem.MeetsSeq2 PySem.MeetsSeq3
theorem Co(l b:Addr)(items fW:Array Value)(n n2:Nat)(dd si:Option Addr)(sl cU:Array (Option Value))(ns ms:List Int)(hi:IntsAre items.toList ns)(hj:IntsAre fW.toList ms) :
  Meets (Builtin.«tuple.__lt__» ⟨[.ref l,.ref b],[]⟩)
   (fun _ R s=>s.heap.get? l=some {cls:=.type "tuple",dict:=dd,data:=.seq items n,slots:=sl}∧s.heap.get? b=some {cls:=.type "tuple",dict:=si,data:=.seq fW n2,slots:=cU} ∧
    R (.ok (.ret (.bool (lexLt ns ms)))) s):=
 .of_wp fun prog w A R s h=>by
  obtain ⟨hp,g,d,tk,os⟩:=s;obtain ⟨hl,hb,h⟩:=h
  have f2:=AutoSeq1.sub_tuple_tuple
  have z1:items.size=ns.length:=by rw [←hi.length];simp
  have z2:fW.size=ms.length:=by rw [←hj.length];simp
  wp_walk using wpAny_loadPart' hl,wpAny_loadPart' hb,wpAny_forIn_list _ (fun rest b s'=>b.1=none∧s'=⟨hp,g,d,tk,os⟩∧∃(vs ws:List Value) (gy kh:List Int),rest=vs.zip ws ∧
   IntsAre vs gy∧IntsAre ws kh∧gy.length+fW.size=kh.length+items.size∧R (.ok (.ret (.bool (lexLt gy kh)))) ⟨hp,g,d,tk,os⟩) _
  case turn=>
   rintro ⟨y,x⟩ rest b s' ⟨gz,rfl,vs,ws,gy,kh,hz,sj,cZ,hlen,hR⟩
   cases sj with
   | nil=>rw [List.zip_nil_left] at hz;cases hz
   | cons a t Cp=>
    cases cZ with
    | nil=>rw [List.zip_nil_right] at hz;cases hz
    | cons c u Cq=>
     rw [List.zip_cons_cons] at hz
     injection hz with Cr Cs
     injection Cr with hy hx
     subst hy hx
     rw [r_] at hR
     simp only [List.length_cons] at hlen
     obtain ⟨e,he,wM⟩:=Cm A.in1 ⟨hp,g,d,tk,os⟩ a t c u
     refine wpAny_bind (he prog w _ _ ?_)
     cases e with
     | true=>
      rw [if_pos (wM.mp rfl)] at hR
      wp_walk
      exact ⟨rfl,rfl,_,_,_,_,Cs,Cp,Cq,by omega,hR⟩
     | false=>
      rw [if_neg (fun q=>absurd (wM.mpr q) Bool.false_ne_true)] at hR
      have Ct:=Cn A.in1 ⟨hp,g,d,tk,os⟩ a t c u prog w
      wp_walk using Ct
      exact ⟨_,rfl,by simpa using hR⟩
  case fin=>
   rintro ⟨b1,b2⟩ s' ⟨gz,rfl,vs,ws,gy,kh,hz,sj,cZ,hlen,hR⟩
   simp only at gz
   subst gz
   have hv:lexLt gy kh=decide (items.size<fW.size):=by
    cases sj with
    | nil=>
     cases cZ with
     | nil=>
      simp only [List.length_nil] at hlen
      rw [Ci]
      exact (decide_eq_false (by omega)).symm
     | cons c u hw=>
      simp only [List.length_nil,List.length_cons] at hlen
      rw [Cj]
      exact (decide_eq_true (by omega)).symm
    | cons a t hv=>
     cases cZ with
     | nil=>
      simp only [List.length_nil,List.length_cons] at hlen
      rw [Ck]
      exact (decide_eq_false (by omega)).symm
     | cons c u hw=>
      rw [List.zip_cons_cons] at hz
      cases hz
   rw [hv] at hR
   wp_walk
   exact ⟨_,rfl,by simpa [Builtin.Tuple.tupleCompareSizes] using hR⟩
  case h=>
   exact ⟨rfl,rfl,items.toList,fW.toList,ns,ms,rfl,hi,hj,by omega,h⟩
end
section
variable {prog:Program} {w:World} {A:Around} {E:Value→Shared→Prop} {s:Shared}
theorem Cu{l b:Addr}{items fW:Array Value}{ns ms:List Int}{Q:Value→Shared→Prop}(hl:IsTup s.heap l items)(hb:IsTup s.heap b fW)(hi:IntsAre items.toList ns)(hj:IntsAre fW.toList ms)
  (hu:A.units<cLine) (h:Q (.bool (lexLt ns ms)) s):wpAny (model prog w) A (compareOp .Lt (.ref l) (.ref b)) Q E s:=by
 obtain ⟨⟨cls,dd,data,sl⟩,ho,hc,n,hd⟩:=id hl
 obtain ⟨⟨L_,si,data2,cU⟩,sk,wN,n2,hd2⟩:=id hb
 simp only at hc hd wN hd2
 subst hc hd wN hd2
 exact richCompare_meets_room (op:=.Lt) ⟨_,ho,rfl⟩ ⟨_,sk,rfl⟩ PySem.F.slot_tuple_lt PySem.F.entry_tuple_lt (PySem.F.args_tuple_lt_2 _ _) (Co l b items fW n n2 dd si sl cU ns ms hi hj)
  ⟨ho,sk,show Value.bool (lexLt ns ms)≠Value.notImplemented∧Q (.bool (lexLt ns ms)) s from ⟨(fun x=>nomatch x),h⟩⟩ hu
def aD(n d:Nat):Option Int→Nat
 | none=>d
 | some v=>if v<0 then (v+(n:Int)).toNat else min v.toNat n
theorem wO(n d:Nat):aD n d none=d:=rfl
theorem wQ(n d k:Nat):aD n d (some (k:Int))=min k n:=by
 show (if (k:Int)<0 then ((k:Int)+(n:Int)).toNat else min (k:Int).toNat n)=min k n
 rw [if_neg (by omega),Int.toNat_natCast]
theorem Cv(n d:Nat)(hd:d≤n)(o:Option Int):aD n d o≤n:=by
 cases o with
 | none=>exact hd
 | some v=>
  show (if v<0 then (v+(n:Int)).toNat else min v.toNat n)≤n
  by_cases hv:v<0
  ·rw [if_pos hv];omega
  ·rw [if_neg hv];exact Nat.min_le_right _ _
theorem wR(v:Int)(n d:Nat):(if v<0 then max (v+(n:Int)) 0 else min v (n:Int))=((aD n d (some v):Nat):Int):=by
 show (if v<0 then max (v+(n:Int)) 0 else min v (n:Int))=(((if v<0 then (v+(n:Int)).toNat else min v.toNat n):Nat):Int)
 by_cases hv:v<0
 ·simp only [if_pos hv];omega
 ·simp only [if_neg hv];omega
theorem Cw(lo hi:Option Int)(n:Nat):Builtin.Slice.sliceAdjust lo hi 1 (n:Int)=(((aD n 0 lo:Nat):Int),((aD n n hi:Nat):Int)):=by
 have h1:¬((1:Int)<0):=by omega
 unfold Builtin.Slice.sliceAdjust
 simp only [h1,if_false]
 refine Prod.ext ?_ ?_
 ·cases lo with
  | none=>rfl
  | some v=>exact wR v n 0
 ·cases hi with
  | none=>rfl
  | some v=>exact wR v n n
theorem Cy(i j:Nat):Builtin.Slice.slicePlaces (i:Int) (j:Int) 1=j-i:=by
 unfold Builtin.Slice.slicePlaces
 have h1:(1:Int)>0:=by omega
 simp only [h1,if_true,Int.ediv_one]
 split <;> omega
theorem wU{v:Value}{o:Option Int}{Q:Option Int→Shared→Prop}(p:IsPart v o)(h:Q o s):wpAny (model prog w) A (Builtin.Slice.slicePartIndex v) Q E s:=by
 cases p with
 | none=>exact slicePart_none h
 | int i t=>exact slicePart_int h
theorem wV{sl:Addr}{vl vu:Value}{lo hi:Option Int}{n:Nat}{Q:Int×Int×Nat→Shared→Prop}(hs:s.heap.IsSliceOf sl vl vu .none)(pl:IsPart vl lo)(pu:IsPart vu hi)
  (h:Q (((aD n 0 lo:Nat):Int),1,aD n n hi-aD n 0 lo) s):wpAny (model prog w) A (Builtin.Slice.sliceApplied (.ref sl) (pure (n:Int))) Q E s:=by
 obtain ⟨os,mM,wW,oG⟩:=id hs
 unfold Builtin.Slice.sliceApplied Builtin.Slice.sliceFields
 refine wpAny_bind (wpAny_bind (wpAny_field mM oG (x:=vl) rfl (wpAny_bind (wpAny_field mM oG (x:=vu) rfl (wpAny_bind (wpAny_field mM oG (x:=.none) rfl (wpAny_pure ?_)))))))
 refine wpAny_bind (slicePart_none ?_)
 show wpAny _ _ (if ((1:Int) == 0)=true then _ else _) _ _ s
 rw [if_neg (by decide)]
 refine wpAny_bind (wU pl (wpAny_bind (wU pu (wpAny_bind (wpAny_pure ?_)))))
 show wpAny _ _ (match Builtin.Slice.sliceAdjust lo hi 1 (n:Int) with | (lo,hi)=>pure (lo,(1:Int),Builtin.Slice.slicePlaces lo hi 1)) _ _ s
 rw [Cw lo hi n]
 show wpAny _ _ (pure (((aD n 0 lo:Nat):Int),(1:Int),Builtin.Slice.slicePlaces ((aD n 0 lo:Nat):Int) ((aD n n hi:Nat):Int) 1)) _ _ s
 rw [Cy]
 exact wpAny_pure h
theorem Cz(xs:Array Value)(i k:Nat):((List.range k).filterMap fun(m:Nat)=>xs[((i:Int)+(m:Int)*1).toNat]?).toArray=((xs.toList.drop i).take k).toArray:=by
 have e:(fun(m:Nat)=>xs[((i:Int)+(m:Int)*1).toNat]?)=fun m=>xs[i+m]?:=by
  funext m
  have:((i:Int)+(m:Int)*1).toNat=i+m:=by omega
  rw [this]
 rw [e]
 have:=pick_run xs i k
 rw [List.filterMap_map] at this
 have e2:((fun x=>xs[x]?) ∘ fun x=>i+x)=fun m=>xs[i+m]?:=rfl
 rw [e2] at this
 rw [this]
theorem CA{t sl:Addr}{items:Array Value}{vl vu:Value}{lo hi:Option Int}{Q:Value→Shared→Prop}(ht:IsTup s.heap t items)(hs:s.heap.IsSliceOf sl vl vu .none)(pl:IsPart vl lo)(pu:IsPart vu hi)
  (hw:¬(aD items.size 0 lo=0∧aD items.size items.size hi=items.size))
  (h:Q (.ref s.heap.objs.size) {s with heap:=s.heap.push {cls:=.type "tuple",data:=.seq ((items.toList.drop (aD items.size 0 lo)).take (aD items.size items.size hi-aD items.size 0 lo)).toArray}})
  (hsz:items.size≤sizeLine):wpAny (model prog w) A (getItem (.ref t) (.ref sl)) Q E s:=by
 have oH:sizeOk (.seq ((items.toList.drop (aD items.size 0 lo)).take (aD items.size items.size hi-aD items.size 0 lo)).toArray):=by
  show ((items.toList.drop (aD items.size 0 lo)).take (aD items.size items.size hi-aD items.size 0 lo)).toArray.size≤sizeLine
  rw [List.size_toArray,List.length_take,List.length_drop,Array.length_toList]
  omega
 have hj:aD items.size items.size hi≤items.size:=Cv _ _ (Nat.le_refl _) hi
 obtain ⟨os,mM,wW,oG⟩:=id hs
 have CB:s.TypeIs (.ref sl) "slice":=⟨os,mM,wW⟩
 unfold getItem
 try with_reducible refine wpAny_holding ?_
 first | refine wpAny_bind (wpAny_pure ?_) | skip
 refine wpAny_bind (wpAny_sequenceKey ht.typeIs (by decide) ?_)
 refine wpAny_bind (wpAny_callSpecial?_slot (name:=Str.ofString "__getitem__") ht.typeIs PyProof.Rows.slot_tuple_getitem
  (wpAny_call_entry PyProof.Rows.slot_tuple_getitem ht.typeIs entry_tuple_getitem ?_ (args_tuple_getitem _ _)))
 show wpAny _ _ (Builtin.Tuple.tupleItemsOf (.ref t) >>= _) _ _ s
 refine wpAny_bind (tupleItemsOf_ ht ?_)
 refine wpAny_bind (wpAny_typeOf CB ?_)
 rw [if_pos (by decide)]
 refine wpAny_bind (wV hs pl pu ?_)
 have sq:¬((((aD items.size 0 lo:Nat):Int) == 0 && (1:Int) == 1 && (aD items.size items.size hi-aD items.size 0 lo) == items.size)=true):=by
  intro q
  rw [Bool.and_eq_true,Bool.and_eq_true] at q
  have q1:((aD items.size 0 lo:Nat):Int)=0:=eq_of_beq q.1.1
  have q2:aD items.size items.size hi-aD items.size 0 lo=items.size:=eq_of_beq q.2
  exact hw ⟨by omega,by omega⟩
 show wpAny _ _ (if (((aD items.size 0 lo:Nat):Int) == 0 && (1:Int) == 1 && (aD items.size items.size hi-aD items.size 0 lo) == items.size)=true then _ else _) _ _ s
 rw [if_neg sq,Cz]
 first
  | exact wpAny_bind (m:=Builtin.Tuple.tupleExact _) (wpAny_newObj_type (wpAny_pure ⟨_,rfl,wpAny_pure h⟩) oH)
  | exact wpAny_bind (m:=Builtin.Tuple.tupleExact _) (wpAny_newObj_type (wpAny_bind (wpAny_pure (wpAny_pure ⟨_,rfl,wpAny_pure h⟩))) oH)
  | exact wpAny_bind (wpAny_bind (m:=Builtin.Tuple.tupleExact _) (wpAny_newObj_type (wpAny_pure (wpAny_pure ⟨_,rfl,wpAny_pure h⟩)) oH))
  | exact wpAny_bind (wpAny_bind (m:=Builtin.Tuple.tupleExact _) (wpAny_newObj_type (wpAny_pure ⟨_,rfl,wpAny_pure h⟩) oH))
end
end HT
namespace L2
open PySem PySem.Spec PyProof.Rows
abbrev TO:=St→Hp→(Option Int→Hp→Prop)→Prop
def PO(X:Cx)(e:Option Expr)(t:TO):Prop:=
 ∀(pins:List (Addr×Obj)) (s:Shared) (σ:St) (H:Hp) (Q:Option Int→Hp→Prop),Inv X pins σ H s→t σ H Q→
  wpAny (model X.prog X.w) X.A (evalPart e X.env) (fun u s'=>∃o H',Inv X pins σ H' s'∧IsPart u o∧Q o H') X.xe s
def CD:TO:=fun _ H Q=>Q none H
def CF(t:TE):TO:=fun σ H Q=>t σ H fun x H1=>∃i,x=.int i∧Q (some i) H1
theorem intsAre_of{ns:List Int}:∀{us:List Value},Vals (ns.map V.int) us→IntsAre us ns:=by
 induction ns with
 | nil=>intro us r;rw [List.map_nil] at r;cases r;exact .nil
 | cons n ns ih=>
  intro us r
  rw [List.map_cons] at r
  cases r with
  | cons r1 r2=>
   obtain ⟨t,e⟩:=r1
   subst e
   exact .cons n t (ih r2)
section
variable {X:Cx} {e:Expr} {te:TE} {lo hi:Option Expr} {tl th:TO} {pos p2:Pos}
theorem sr:PO X none CD:=by
 intro pins s σ H Q I h
 rw [evalPart_none]
 exact wpAny_pure ⟨none,H,I,.none,h⟩
theorem su(h:PE X e te):PO X (some e) (CF te):=by
 intro pins s σ H Q I hw
 rw [evalPart_some]
 refine aw (h pins s σ H _ I hw) fun u s1 ⟨x,H1,I1,r1,q1⟩=>?_
 obtain ⟨i,rfl,q⟩:=q1
 obtain ⟨t,rfl⟩:=r1
 exact ⟨some i,H1,I1,.int i t,q⟩
def oI(X:Cx)(r:V→Option Int→Option Int→Hp→VK→Prop):Prop:=
 ∀(pins:List (Addr×Obj)) (s:Shared) (σ:St) (H:Hp) (x:V) (v vl vu:Value) (lo hi:Option Int) (sl:Addr) (Q:VK),Inv X pins σ H s→RelV x v→s.heap.IsSliceOf sl vl vu .none→IsPart vl lo→IsPart vu hi→r x lo hi H Q→
  ∃T id,typeLookup (.type T) "__getitem__" = pure (some (.builtin id))∧s.TypeIs v T∧wpAny (model X.prog X.w) X.A (getItem v (.ref sl)) (EP X pins σ Q) X.xe s
def CG(r:V→Option Int→Option Int→Hp→VK→Prop)(te:TE)(tl th:TO):TE:=fun σ H Q=>te σ H fun x H1=>tl σ H1 fun l H2=>th σ H2 fun u H3=>r x l u H3 Q
theorem sC{r:V→Option Int→Option Int→Hp→VK→Prop}(hr:oI X r)(he:PE X e te)(hl:PO X lo tl)(hu:PO X hi th):PE X (.Subscript e (.Slice lo hi none p2) pos) (CG r te tl th):=by
 intro pins s σ H Q I h
 refine Subscript_ (aw (he pins s σ H _ I h) fun v s1 ⟨x,H1,I1,r1,q1⟩=>?_)
 refine wpAny_Slice (aw (hl pins s1 σ H1 _ I1 q1) fun vl s2 ⟨l,H2,I2,pl,q2⟩=>aw (hu pins s2 σ H2 _ I2 q2) fun vu s3 ⟨u,H3,I3,pu,q3⟩=>?_)
 rw [evalPart_none]
 refine wpAny_pure ?_
 have I4:Inv X pins σ H3 {s3 with heap:=s3.heap.push {cls:=.type "slice",data:=.fields #[vl,vu,.none]}}:=I3.kept (t':=s3.toks) fun b ob q=>Heap.get?_push_of_some _ q
 obtain ⟨T,id,hT,ht,hg⟩:=hr pins {s3 with heap:=s3.heap.push {cls:=.type "slice",data:=.fields #[vl,vu,.none]}} σ H3 x v vl vu l u s3.heap.objs.size Q I4 r1 (Heap.IsSliceOf.new ..) pl pu q3
 show wpAny (model X.prog X.w) X.A (subscriptTail e (.Slice lo hi none p2) v (.ref s3.heap.objs.size)) (EP X pins σ Q) X.xe {s3 with heap:=s3.heap.push {cls:=.type "slice",data:=.fields #[vl,vu,.none]}}
 exact tail_any (ops:=[.ref s3.heap.objs.size,v]) ht hT hg (by with_unfolding_all rfl)
def cy(xs:List V)(lo hi:Option Int):List V:=(xs.drop (HT.aD xs.length 0 lo)).take (HT.aD xs.length xs.length hi-HT.aD xs.length 0 lo)
theorem wX(xs:List V)(lo hi:Option Int):(cy xs lo hi).length≤xs.length:=by
 unfold cy
 rw [List.length_take,List.length_drop]
 omega
def CH(K:PySem.W.Frag):V→Option Int→Option Int→Hp→VK→Prop:=fun x lo hi H Q=>∃a xs,x=.ref a∧bH K H a xs ∧
 ¬(HT.aD xs.length 0 lo=0∧HT.aD xs.length xs.length hi=xs.length)∧∀p,H p=none→Q (.ref p) (upd H p (.tup (cy xs lo hi)))
theorem CI:oI X (CH X.K):=by
 intro pins s σ H x v vl vu lo hi sl Q I rx hs pl pu h
 obtain ⟨a,xs,rfl,hx,hw,q⟩:=h
 cases rx
 obtain ⟨aa,r,ht,hz⟩:=I.tuple hx
 have hlen:aa.toArray.size=xs.length:=by rw [List.size_toArray];exact r.length.symm
 refine ⟨"tuple",_,PyProof.Rows.slot_tuple_getitem.lookup,ht.typeIs,?_⟩
 refine HT.CA ht hs pl pu (by rw [hlen];exact hw) ?_ (by rw [hlen];exact hz)
 rw [hlen]
 refine ⟨.ref s.heap.objs.size,_,I.laid (t':=s.toks) (o:=.tup (cy xs lo hi)) (fun b ob q=>Heap.get?_push_of_some _ q) (Nat.le_refl _) ?_,rfl,q _ (I.aq.fresh (Nat.le_refl _))⟩
 exact ⟨Nat.le_trans (wX xs lo hi) hz,_,(r.drop (HT.aD xs.length 0 lo)).take (HT.aD xs.length xs.length hi-HT.aD xs.length 0 lo),IsTup.new _ _⟩
def wY(K:PySem.W.Frag):R2:=fun x y H Q=>∃a b ns ms,x=.ref a∧y=.ref b∧bH K H a (ns.map V.int)∧bH K H b (ms.map V.int)∧Q (.bl (HT.lexLt ns ms)) H
theorem CJ(hu:X.A.units<cLine):bI X (compareOp .Lt) (wY X.K):=by
 intro pins s σ H x y v u Q I rx ry h
 obtain ⟨a,b,ns,ms,rfl,rfl,ha,hb,q⟩:=h
 cases rx
 cases ry
 obtain ⟨aa,r1,p1,_⟩:=I.tuple ha
 obtain ⟨fX,r2,p2,_⟩:=I.tuple hb
 have i1:IntsAre aa.toArray.toList ns:=intsAre_of r1
 have i2:IntsAre fX.toArray.toList ms:=intsAre_of r2
 exact HT.Cu p1 p2 i1 i2 hu ⟨.bl (HT.lexLt ns ms),H,I,rfl,q⟩
end
def fm(n:Nat)(i:Int):Option Nat:=if 0≤i then (if i<n then some i.toNat else none) else if -(n:Int)≤i then some (i+n).toNat else none
def eA{α:Type}(xs:List α)(i:Int):Option α:=(fm xs.length i).bind fun j=>xs[j]?
theorem wZ{n:Nat}{i:Int}{j:Nat}(h:fm n i=some j):seqIndex? i n=some j∧j<n∧-(n:Int)≤i∧i<n:=by
 unfold fm at h
 by_cases h0:0≤i
 ·rw [if_pos h0] at h
  by_cases h1:i<n
  ·rw [if_pos h1] at h
   have e:i.toNat=j:=Option.some.inj h
   exact ⟨by rw [seqIndex_of h0 h1,e],by omega,by omega,h1⟩
  ·rw [if_neg h1] at h;cases h
 ·rw [if_neg h0] at h
  by_cases h1:-(n:Int)≤i
  ·rw [if_pos h1] at h
   have e:(i+n).toNat=j:=Option.some.inj h
   exact ⟨by rw [seqIndex_neg (by omega) h1,e],by omega,h1,by omega⟩
  ·rw [if_neg h1] at h;cases h
theorem w5{α:Type}{xs:List α}{i:Int}{v:α}(h:eA xs i=some v):∃j,seqIndex? i xs.length=some j∧xs[j]?=some v∧j<xs.length∧-(xs.length:Int)≤i∧i<xs.length:=by
 unfold eA at h
 cases e:fm xs.length i with
 | none=>rw [e] at h;cases h
 | some j=>
  rw [e] at h
  obtain ⟨h1,h2,h3,h4⟩:=wZ e
  exact ⟨j,h1,h,h2,h3,h4⟩
theorem i6{α:Type}{xs:List α}{j:Nat}{v:α}(h:xs[j]?=some v):eA xs (j:Int)=some v:=by
 have hj:j<xs.length:=(List.getElem?_eq_some_iff.mp h).1
 have e:fm xs.length (j:Int)=some j:=by
  unfold fm
  rw [if_pos (by omega),if_pos (by omega)];simp
 unfold eA;rw [e];exact h
def CK(b:Expr):Prop:=∀o i,subscripted b false o i=operate [o,i] (getItem o i)
def oJ(X:Cx)(r:R2):Prop:=
 ∀(value slice:Expr) (pins:List (Addr×Obj)) (s:Shared) (σ:St) (H:Hp) (x y:V) (v u:Value) (Q:VK),Inv X pins σ H s→RelV x v→RelV y u→r x y H Q→
  subscripted slice false v u=operate [v,u] (getItem v u)→wpAny (model X.prog X.w) X.A (subscriptTail value slice v u) (EP X pins σ Q) X.xe s
def w6(X:Cx)(id:String)(r:V→List V→Hp→VK→Prop):Prop:=
 ∀(pins:List (Addr×Obj)) (s:Shared) (σ:St) (H:Hp) (x:V) (xs:List V) (v:Value) (us:List Value) (Q:VK),Inv X pins σ H s→RelV x v→Vals xs us→r x xs H Q→
  wpAny (model X.prog X.w) X.A (call (.builtin id) (v::us)) (EP X pins σ Q) X.xe s
section
variable {X:Cx} {a b:Expr} {ta tb:TE} {pos:Pos}
theorem aQ{r:R2}(hr:oJ X r)(ha:PE X a ta)(hb:PE X b tb)(hs:CK b):PE X (.Subscript a b pos) (oq r ta tb):=by
 intro pins s σ H Q I h
 exact Subscript_ (rQ ha hb I h fun v u s2 x y H2 I2 rx ry q=>hr a b pins s2 σ H2 x y v u Q I2 rx ry q (hs _ _))
def w9(K:PySem.W.Frag):R2:=fun x y H Q=>∃p xs i v,x=.ref p∧y=.int i∧aX K H p xs∧eA xs i=some v∧Q v H
def CL(K:PySem.W.Frag):R2:=fun x y H Q=>∃p xs i v,x=.ref p∧y=.int i∧bH K H p xs∧eA xs i=some v∧Q v H
theorem bL:oJ X (w9 X.K):=by
 intro value slice pins s σ H x y v u Q I rx ry h hs
 obtain ⟨p,xs,i,z,rfl,rfl,hq,he,q⟩:=h
 cases rx
 obtain ⟨t,rfl⟩:=ry
 obtain ⟨aa,r,pl,hz⟩:=I.list hq
 obtain ⟨j,h1,h2,h3,h4,h5⟩:=w5 he
 obtain ⟨w,ew,i7⟩:=r.get h2
 have hl:=r.length
 have hn:=oD
 have fin:EP X pins σ Q w s:=⟨z,H,I,i7,q⟩
 by_cases h0:0≤i
 ·have hj:i.toNat=j:=by
   rw [seqIndex_of h0 h5] at h1
   exact Option.some.inj h1
  exact item_listR pl.isList h0 (by omega) (by rw [hj];simpa using ew) fin hs
 ·have hj:(i+(aa.toArray.size:Int)).toNat=j:=by
   rw [seqIndex_neg (by omega) h4] at h1
   rw [List.size_toArray,←hl]
   exact Option.some.inj h1
  exact subscriptTail_builtinR (x:=w) pl.isList.typeIs slot_list_getitem.lookup
   (wpAny_getItem_list_neg (Q:=fun r s'=>r=w∧EP X pins σ Q r s') pl.isList (by omega) (by rw [List.size_toArray] <;> omega) (by omega) (by rw [hj];simpa using ew) ⟨rfl,fin⟩) hs
theorem cP:oJ X (CL X.K):=by
 intro value slice pins s σ H x y v u Q I rx ry h hs
 obtain ⟨p,xs,i,z,rfl,rfl,hq,he,q⟩:=h
 cases rx
 obtain ⟨t,rfl⟩:=ry
 obtain ⟨aa,r,pl,hz⟩:=I.tuple hq
 obtain ⟨j,h1,h2,h3,h4,h5⟩:=w5 he
 obtain ⟨w,ew,i7⟩:=r.get h2
 have hl:=r.length
 have hn:=oD
 have fin:EP X pins σ Q w s:=⟨z,H,I,i7,q⟩
 exact subscriptTail_builtinR (x:=w) pl.typeIs slot_tuple_getitem.lookup
  (getItem_tuple (j:=j) (Q:=fun r s'=>r=w∧EP X pins σ Q r s') pl (by omega) (by omega) (by rw [List.size_toArray,←hl];exact h1) (by simpa using ew) ⟨rfl,fin⟩) hs
theorem CM(aa:List Value)(n j:Nat)(u:Value):Obj.mapSeq (·.setIfInBounds j u) {cls:=.type "list",data:=.seq aa.toArray n}={cls:=.type "list",data:=.seq (aa.set j u).toArray n}:=by
 simp [Obj.mapSeq]
theorem Inv.lst{pins:List (Addr×Obj)}{σ:St}{H:Hp}{s:Shared}{p:Addr}{xs:List V}(I:Inv X pins σ H s)(h:H p=some (.lst xs)) :
  ∃(aa:List Value) (n:Nat),Vals xs aa∧s.heap.get? p=some {cls:=.type "list",data:=.seq aa.toArray n}∧xs.length≤sizeLine:=by
 obtain ⟨z,aa,n,r,e⟩:=I.aq p _ h
 exact ⟨aa,n,r,e,z⟩
theorem Inv.CN{pins:List (Addr×Obj)}{σ:St}{H:Hp}{s:Shared}{p:Addr}{xs ys:List V}{aa its':List Value}{n n':Nat}{f:Obj→Obj}(I:Inv X pins σ H s)(h:H p=some (.lst xs))
  (ho:s.heap.get? p=some {cls:=.type "list",data:=.seq aa.toArray n}) (hf:f {cls:=.type "list",data:=.seq aa.toArray n}={cls:=.type "list",data:=.seq its'.toArray n'}) (r:Vals ys its') (hz:ys.length≤sizeLine) (t:Nat) :
  Inv X pins σ (upd H p (.lst ys)) {s with heap:=s.heap.update p f,toks:=t}:=by
 have e:(s.heap.update p f).get? p=some {cls:=.type "list",data:=.seq its'.toArray n'}:=by
  rw [Heap.get?_update_self f ho (by rw [hf] <;> rfl),hf]
 refine I.write (x:=p) (e:=p) (by rw [h];trivial) (.inl rfl) (fun b u hb q=>(Heap.get?_update_other _ _ (Ne.symm hb)).trans q) ⟨_,e⟩ ?_
 exact ⟨hz,its',n',r,e⟩
def CO:V→V→V→Hp→(Hp→Prop)→Prop:=fun o i v H Q=>∃p xs k j,o=.ref p∧i=.int k∧H p=some (.lst xs)∧fm xs.length k=some j∧Q (upd H p (.lst (xs.set j v)))
theorem set_list:v_ X CO:=by
 intro pins s σ H o i v ov iv u Q I ro ri rv h
 obtain ⟨p,xs,k,j,rfl,rfl,hp,hj,q⟩:=h
 cases ro
 obtain ⟨t,rfl⟩:=ri
 obtain ⟨aa,n,r,ho,hz⟩:=I.lst hp
 obtain ⟨h1,h2,h3,h4⟩:=wZ hj
 have hl:=r.length
 have hn:=oD
 have I':Inv X pins σ (upd H p (.lst (xs.set j v))) {s with heap:=s.heap.update p (Obj.mapSeq (·.setIfInBounds j u))}:=
  I.CN hp ho (CM aa n j u) (r.set rv j) (by rw [List.length_set];exact hz) s.toks
 by_cases h0:0≤k
 ·have hk:k.toNat=j:=by
   rw [seqIndex_of h0 h4] at h1
   exact Option.some.inj h1
  exact PySem.W.ki_setAt ho h0 (by omega) (by rw [List.size_toArray,←hl];exact h4) (by rw [hk];exact ⟨_,I',q⟩)
 ·have hk:(k+(aa.toArray.size:Int)).toNat=j:=by
   rw [seqIndex_neg (by omega) h3] at h1
   rw [List.size_toArray,←hl]
   exact Option.some.inj h1
  exact PySem.W.ki_setBack ho (by omega) (by rw [List.size_toArray,←hl];exact h3) (by omega) (by rw [hk];exact ⟨_,I',q⟩)
theorem CP(lo hi:Option Int)(n:Nat):(sliceBounds lo hi none n).1=((HT.aD n 0 lo:Nat):Int)∧(sliceBounds lo hi none n).2.1=((HT.aD n n hi:Nat):Int)∧(sliceBounds lo hi none n).2.2=1:=by
 refine ⟨?_,?_,rfl⟩
 ·cases lo with
  | none=>simp [sliceBounds,HT.aD]
  | some i=>
   simp only [sliceBounds,HT.aD,Option.getD_none,show (1:Int)>0 by decide,if_true]
   by_cases h:i<0
   ·simp only [h,if_true] <;> omega
   ·simp only [h,if_false] <;> omega
 ·cases hi with
  | none=>simp [sliceBounds,HT.aD]
  | some i=>
   simp only [sliceBounds,HT.aD,Option.getD_none,show (1:Int)>0 by decide,if_true]
   by_cases h:i<0
   ·simp only [h,if_true] <;> omega
   ·simp only [h,if_false] <;> omega
theorem CQ(aa:List Value)(lo hi:Option Int):slicePick aa.toArray lo hi none=((aa.drop (HT.aD aa.length 0 lo)).take (HT.aD aa.length aa.length hi-HT.aD aa.length 0 lo)).toArray:=by
 obtain ⟨h1,h2,h3⟩:=CP lo hi aa.toArray.size
 unfold slicePick
 rw [h1,h2,h3]
 simp only [sliceRange_one,pick_run,List.size_toArray] <;> rfl
def CS(K:PySem.W.Frag):V→Option Int→Option Int→Hp→VK→Prop:=fun x lo hi H Q=>∃a xs,x=.ref a∧aX K H a xs∧∀p,H p=none→Q (.ref p) (upd H p (.lst (cy xs lo hi)))
theorem w_:oI X (CS X.K):=by
 intro pins s σ H x v vl vu lo hi sl Q I rx hs pl pu h
 obtain ⟨a,xs,rfl,hx,q⟩:=h
 cases rx
 obtain ⟨aa,r,ht,hz⟩:=I.list hx
 have hlen:=r.length
 refine ⟨"list",_,slot_list_getitem.lookup,ht.isList.typeIs,?_⟩
 refine wpAny_getItem_list_slice ht.isList hs pl pu .none (by simp) ?_ (by rw [List.size_toArray] <;> omega)
 rw [CQ,←hlen]
 refine ⟨.ref s.heap.objs.size,_,I.laid (t':=s.toks) (o:=.lst (cy xs lo hi)) (fun b ob q=>Heap.get?_push_of_some _ q) (Nat.le_refl _) ?_,rfl,q _ (I.aq.fresh (Nat.le_refl _))⟩
 exact ⟨Nat.le_trans (wX xs lo hi) hz,_,0,(r.drop (HT.aD xs.length 0 lo)).take (HT.aD xs.length xs.length hi-HT.aD xs.length 0 lo),Heap.get?_push_size _ rfl⟩
def dJ:V→Bool
 | .aG=>true
 | .bl _=>true
 | .int _=>true
 | .str _=>true
 | _=>false
def eR:V→V→Bool
 | .aG,.aG=>true
 | .bl a,.bl b=>a == b
 | .bl a,.int b=>(if a then 1 else 0) == b
 | .int a,.bl b=>a == (if b then 1 else 0)
 | .int a,.int b=>a == b
 | .str a,.str b=>a == b
 | _,_=>false
theorem ki{A:Around}{s:Shared}{y x:V}{u v:Value}(ry:RelV y u)(rx:RelV x v)(fy:dJ y=true)(fx:dJ x=true):SeqAt.EqAt A s u v (eR y x):=by
 cases y with
 | aG=>
  cases ry
  cases x with
  | aG=>cases rx;exact SeqAt.EqAt.same _
  | bl b=>cases rx;exact SeqAt.EqAt.none_bool b
  | int b=>obtain ⟨t,rfl⟩:=rx;exact SeqAt.EqAt.none_int b t
  | str b=>obtain ⟨t,rfl⟩:=rx;exact SeqAt.EqAt.none_str b t
  | _=>exact absurd (show false=true from fx) Bool.false_ne_true
 | bl a=>
  cases ry
  cases x with
  | aG=>cases rx;exact SeqAt.EqAt.bool_none a
  | bl b=>cases rx;exact SeqAt.EqAt.bool_bool a b
  | int b=>obtain ⟨t,rfl⟩:=rx;exact SeqAt.EqAt.bool_int a b t
  | str b=>obtain ⟨t,rfl⟩:=rx;exact SeqAt.EqAt.bool_str a b t
  | _=>exact absurd (show false=true from fx) Bool.false_ne_true
 | int a=>
  obtain ⟨t',rfl⟩:=ry
  cases x with
  | aG=>cases rx;exact SeqAt.EqAt.int_none a t'
  | bl b=>cases rx;exact SeqAt.EqAt.int_bool a t' b
  | int b=>obtain ⟨t,rfl⟩:=rx;exact SeqAt.EqAt.int_int a t' b t
  | str b=>obtain ⟨t,rfl⟩:=rx;exact SeqAt.EqAt.int_str a t' b t
  | _=>exact absurd (show false=true from fx) Bool.false_ne_true
 | str a=>
  obtain ⟨t',rfl⟩:=ry
  cases x with
  | aG=>cases rx;exact SeqAt.EqAt.str_none a t'
  | bl b=>cases rx;exact SeqAt.EqAt.str_bool a t' b
  | int b=>obtain ⟨t,rfl⟩:=rx;exact SeqAt.EqAt.str_int a t' b t
  | str b=>obtain ⟨t,rfl⟩:=rx;exact SeqAt.EqAt.str_str a t' b t
  | _=>exact absurd (show false=true from fx) Bool.false_ne_true
 | _=>exact absurd (show false=true from fy) Bool.false_ne_true
def gA(x:V)(u:Value):Bool:=match u with
 | .none=>eR .aG x
 | .bool b=>eR (.bl b) x
 | .int i _=>eR (.int i) x
 | .str z _=>eR (.str z) x
 | _=>false
theorem xa{x y:V}{u:Value}(r:RelV y u)(f:dJ y=true):gA x u=eR y x:=by
 cases y with
 | aG=>cases r;rfl
 | bl b=>cases r;rfl
 | int i=>obtain ⟨t,rfl⟩:=r;rfl
 | str z=>obtain ⟨t,rfl⟩:=r;rfl
 | _=>exact absurd (show false=true from f) Bool.false_ne_true
theorem sD{x:V}:∀{xs:List V} {us:List Value},Vals xs us→xs.all dJ=true→us.any (gA x)=xs.any fun y=>eR y x
 | _,_,.nil,_=>rfl
 | y::xs,u::us,.cons r t,f=>by
  rw [List.all_cons,Bool.and_eq_true] at f
  rw [List.any_cons,List.any_cons,xa r f.1,sD t f.2]
theorem sE{A:Around}{s:Shared}{x:V}{v:Value}(rx:RelV x v)(fx:dJ x=true):∀{xs:List V} {us:List Value},Vals xs us→xs.all dJ=true→∀u∈us,SeqAt.EqAt A s u v (gA x u)
 | _,_,.nil,_=>fun u hu=>by cases hu
 | y::xs,u::us,.cons r t,f=>fun u' hu=>by
  rw [List.all_cons,Bool.and_eq_true] at f
  rcases List.mem_cons.mp hu with rfl | hu
  ·rw [xa r f.1];exact ki r rx f.1 fx
  ·exact sE rx fx t f.2 u' hu
def kj(x:V)(xs:List V):Bool:=xs.any fun y=>eR y x
def CT(K:PySem.W.Frag)(neg:Bool):R2:=fun x y H Q=>∃p xs,y=.ref p∧(aX K H p xs∨bH K H p xs)∧dJ x=true∧xs.all dJ=true∧Q (.bl (if neg then !kj x xs else kj x xs)) H
theorem CU:bI X (compareOp .In) (CT X.K false):=by
 intro pins s σ H x y v u Q I rx ry h
 obtain ⟨p,xs,rfl,hq,fx,fs,q⟩:=h
 cases ry
 rcases hq with hq | hq
 ·obtain ⟨aa,r,pl,hz⟩:=I.list hq
  refine SeqAt.in_listAt (gA x) pl.isList (fun w hw=>sE rx fx r fs w (by simpa using hw)) ⟨.bl _,H,I,rfl,?_⟩
  rw [show aa.toArray.any (gA x)=aa.any (gA x) by simp,sD r fs]
  exact q
 ·obtain ⟨aa,r,pl,hz⟩:=I.tuple hq
  refine SeqAt.in_tupleAt (gA x) pl (fun w hw=>sE rx fx r fs w (by simpa using hw)) ⟨.bl _,H,I,rfl,?_⟩
  rw [show aa.toArray.any (gA x)=aa.any (gA x) by simp,sD r fs]
  exact q
theorem i8:ei X (.builtin "len") (fun xs H Q=>∃p ys,xs=[.ref p]∧(aX X.K H p ys∨bH X.K H p ys)∧Q (.int ys.length) H):=by
 intro pins s σ H xs us Q I r h
 obtain ⟨p,ys,rfl,hq,q⟩:=h
 obtain ⟨u,rfl,rx⟩:=vals1 r
 cases rx
 have hn:=oD
 rcases hq with hq | hq
 ·obtain ⟨aa,r',pl,hz⟩:=I.list hq
  have hlen:=r'.length
  exact Calls.call_len_list pl.isList (by simp only [List.size_toArray] <;> omega) ⟨.int ys.length,H,I.tok _,⟨s.toks+1,by rw [List.size_toArray,hlen]⟩,q⟩
 ·obtain ⟨aa,r',pl,hz⟩:=I.tuple hq
  have hlen:=r'.length
  exact len_tuple pl (by simp only [List.size_toArray] <;> omega) ⟨.int ys.length,H,I.tok _,⟨s.toks+1,by rw [List.size_toArray,hlen]⟩,q⟩
theorem xb:ei X (.type "list") (fun xs H Q=>∃p ys,xs=[.ref p]∧(aX X.K H p ys∨bH X.K H p ys)∧∀l,H l=none→Q (.ref l) (upd H l (.lst ys))):=by
 intro pins s σ H xs us Q I r h
 obtain ⟨p,ys,rfl,hq,q⟩:=h
 obtain ⟨u,rfl,rx⟩:=vals1 r
 cases rx
 have fin:∀(aa:List Value),Vals ys aa→ys.length≤sizeLine→∀(h':Heap) (c':Nat),(∀b o',s.heap.get? b=some o'→h'.get? b=some o')→
   h'.get? s.heap.objs.size=some {cls:=.type "list",dict:=none,data:=.seq aa.toArray c',slots:=#[]}→EP X pins σ Q (.ref s.heap.objs.size) {s with heap:=h'}:=fun aa r' hz h' c' kp e=>
  ⟨.ref s.heap.objs.size,_,I.laid (t':=s.toks) kp (Nat.le_refl _) (show a7 X.prog X.w _ h' _ (.lst ys) from ⟨hz,aa,c',r',e⟩),rfl,q _ (I.aq.fresh (Nat.le_refl _))⟩
 rcases hq with hq | hq
 ·obtain ⟨aa,r',pl,hz⟩:=I.list hq
  have hlen:=r'.length
  obtain ⟨o,ho,hc,n,hd⟩:=pl.isList
  exact call_list_seq p (.inl rfl) ho hc hd (fun h' c' kp e=>fin aa r' hz h' c' kp e) (by simp only [List.size_toArray] <;> omega)
 ·obtain ⟨aa,r',pl,hz⟩:=I.tuple hq
  have hlen:=r'.length
  obtain ⟨o,ho,hc,n,hd⟩:=pl
  exact call_list_seq p (.inr rfl) ho hc hd (fun h' c' kp e=>fin aa r' hz h' c' kp e) (by simp only [List.size_toArray] <;> omega)
theorem sF:ei X (.type "tuple") (fun xs H Q=>∃p ys,xs=[.ref p]∧((aX X.K H p ys∧∀l,H l=none→Q (.ref l) (upd H l (.tup ys)))∨(bH X.K H p ys∧Q (.ref p) H))):=by
 intro pins s σ H xs us Q I r h
 obtain ⟨p,ys,rfl,h⟩:=h
 obtain ⟨u,rfl,rx⟩:=vals1 r
 cases rx
 rcases h with ⟨hq,q⟩ | ⟨hq,q⟩
 ·obtain ⟨aa,r',pl,hz⟩:=I.list hq
  have hlen:=r'.length
  refine call_tuple_list pl.isList (fun h' kp=>?_) (by simp only [List.size_toArray] <;> omega)
  have I1:Inv X pins σ H {s with heap:=h'}:=I.kept (t':=s.toks) kp
  have I2:Inv X pins σ (upd H h'.objs.size (.tup ys)) {s with heap:=h'.push {cls:=.type "tuple",data:=.seq aa.toArray}}:=
   I1.laid (t':=s.toks) (fun b o e=>Heap.get?_push_of_some _ e) (Nat.le_refl _) (show a7 X.prog X.w _ _ _ (.tup ys) from ⟨hz,aa,r',IsTup.new _ _⟩)
  exact ⟨.ref h'.objs.size,_,I2,rfl,q _ (I1.aq.fresh (Nat.le_refl _))⟩
 ·obtain ⟨aa,r',pl,hz⟩:=I.tuple hq
  exact call_tuple_same pl ⟨.ref p,H,I,rfl,q⟩
def sG(K:PySem.W.Frag)(T:String)(x:V)(H:Hp):Prop:=match x with
 | .str _=>T = "str"
 | .int _=>T = "int"
 | .ref p=>(T = "list"∧∃xs,aX K H p xs)∨(T = "tuple"∧∃o,K.lookup p=some o∧o.cls=.type "tuple"∧o.dict=none) ∨
   (T = "dict"∧((∃ai,H p=some (.dK ai))∨∃ai,H p=some (.dT ai)))∨(T = "set"∧∃S n,H p=some (.set S n))
 | _=>False
theorem xc{pins:List (Addr×Obj)}{σ:St}{H:Hp}{s:Shared}{T:String}{x:V}{v:Value}(I:Inv X pins σ H s)(r:RelV x v)(ty:sG X.K T x H) :
  s.TypeIs v T∧∀a,v=.ref a→∃ob,s.heap.get? a=some ob∧ob.dict=none:=by
 cases x with
 | str z=>
  obtain ⟨t,rfl⟩:=r
  cases (show T = "str" from ty)
  exact ⟨typeIs_str s z t,fun _ e=>nomatch e⟩
 | int i=>
  obtain ⟨t,rfl⟩:=r
  cases (show T = "int" from ty)
  exact ⟨typeIs_int s i t,fun _ e=>nomatch e⟩
 | ref p=>
  cases r
  rcases ty with ⟨rfl,xs,hq⟩ | ⟨rfl,o,hk,hc,hd⟩ | ⟨rfl,hk⟩ | ⟨rfl,S,n,hk⟩
  ·obtain ⟨aa,_,pl,_⟩:=I.list hq
   refine ⟨pl.isList.typeIs,fun a e=>?_⟩
   cases e
   obtain ⟨o,n,e,c,hd,_⟩:=pl
   exact ⟨o,e,hd⟩
  ·refine ⟨⟨o,I.cJ p o hk,hc⟩,fun a e=>?_⟩
   cases e
   exact ⟨o,I.cJ _ o hk,hd⟩
  ·have z:∃o,s.heap.get? p=some o∧o.ExactDict:=by
    rcases hk with ⟨ai,hk⟩ | ⟨ai,hk⟩
    ·obtain ⟨_,_,_,_,o,_,_,e,ex,_⟩:=I.aq p _ hk
     exact ⟨o,e,ex⟩
    ·obtain ⟨_,_,_,_,o,_,_,e,ex,_⟩:=I.aq p _ hk
     exact ⟨o,e,ex⟩
   obtain ⟨o,e,ex⟩:=z
   refine ⟨⟨o,e,ex.1⟩,fun a e2=>?_⟩
   cases e2
   exact ⟨o,e,ex.2.1⟩
  ·obtain ⟨o,_,_,_,e,ex,_⟩:=I.aq p _ hk
   refine ⟨⟨o,e,ex.1⟩,fun a e2=>?_⟩
   cases e2
   exact ⟨o,e,ex.2.1⟩
 | _=>exact False.elim ty
def CV(K:PySem.W.Frag)(T:String)(r:V→List V→Hp→VK→Prop)(to:TE):TE:=fun σ H Q=>to σ H fun x H1=>sG K T x H1∧r x [] H1 Q
def CW(K:PySem.W.Frag)(T:String)(r:V→List V→Hp→VK→Prop)(to:TE)(t:TA):TE:=fun σ H Q=>to σ H fun x H1=>sG K T x H1∧t σ H1 fun xs H2=>r x xs H2 Q
variable {o e:Expr} {es:List Expr} {to:TE} {t:TA} {name:Str} {apos dy:Pos} {T id:String} {r:V→List V→Hp→VK→Prop}
theorem CY(pa:PlainAttrs T)(slot:Slot T name id)(sI:typeOf (.builtin id)=pure (.type "method_descriptor"))(hm:w6 X id r)(ho:PE X o to)
  (sJ:attributeBase o name X.env (eval o X.env)=eval o X.env:=by rfl) (sL:(apos.endLine == dy.line)=true:=by rfl):PE X (.Call (.Attribute o name apos) [] [] dy) (CV X.K T r to):=by
 intro pins s σ H Q I h
 refine wpAny_Call_method0_late sJ sL (aw (ho pins s σ H _ I h) fun v s1 ⟨x,H1,I1,r1,ty,q1⟩=>?_)
 obtain ⟨h1,h2⟩:=xc I1 r1 ty
 exact ⟨T,id,pa,slot,sI,h1,h2,Calls.callWith_builtin rfl (PySem.evalArgs_none (hm pins s1 σ H1 x [] v [] Q I1 r1 .nil q1))⟩
theorem c_(pa:PlainAttrs T)(slot:Slot T name id)(sI:typeOf (.builtin id)=pure (.type "method_descriptor"))(hm:w6 X id r)(ho:PE X o to)(ha:PA X (e::es) t)
  (sJ:attributeBase o name X.env (eval o X.env)=eval o X.env:=by rfl)
  (CZ:((backTo dy (starEach (e::es) X.env)).all (fun x=>!x.1) && (backToKw dy (keywordEach [] X.env)).all (fun x=>x.1.isSome)
   && decide ((e::es).length+([]:List Keyword).length+(if ([]:List Keyword).isEmpty then 0 else 1)<30))=true:=by rfl)
  (sL:(apos.endLine == dy.line)=true:=by rfl) (hs:starEach (e::es) X.env=(false,eval e X.env)::starEach es X.env:=by rfl) (C0:(backTo dy (starEach es X.env)).any (·.1)=false:=by rfl) :
  PE X (.Call (.Attribute o name apos) (e::es) [] dy) (CW X.K T r to t):=by
 intro pins s σ H Q I h
 refine wpAny_Call_method_late sJ CZ sL rfl (aw (ho pins s σ H _ I h) fun v s1 ⟨x,H1,I1,r1,ty,q1⟩=>?_)
 obtain ⟨h1,h2⟩:=xc I1 r1 ty
 refine ⟨T,id,pa,slot,sI,h1,h2,?_⟩
 have hA:=ha dy pins s1 σ H1 _ I1 q1
 rw [hs] at hA ⊢
 refine Calls.callWith_builtin (by show (false || (backTo dy (starEach es X.env)).any (·.1))=false;rw [C0] <;> rfl) (Calls.evalArgs_plain ?_)
 exact aw hA fun us s2 ⟨vs,H2,I2,r2,q2⟩=>hm pins s2 σ H2 x vs v us Q I2 r1 r2 q2
end
def mO(X:Cx)(id:String)(r:V→List V→Hp→VK→Prop):Prop:=
 ∀(pins:List (Addr×Obj)) (s:Shared) (σ:St) (H:Hp) (x:V) (xs:List V) (v:Value) (us:List Value) (Q:VK),Inv X pins σ H s→RelV x v→Vals xs us→r x xs H Q→
  wpAny (model X.prog X.w) X.A (call (.builtin id) (v::us)) (EP X pins σ Q) X.xe s
theorem Vals.one:∀{x:V} {us:List Value},Vals [x] us→∃u,us=[u]∧RelV x u
 | _,_,.cons r .nil=>⟨_,rfl,r⟩
theorem Vals.zero:∀{us:List Value},Vals [] us→us=[]
 | _,.nil=>rfl
theorem Vals.dropLast{xs:List V}{us:List Value}(h:Vals xs us):Vals xs.dropLast us.dropLast:=by
 induction h with
 | nil=>exact .nil
 | cons r t ih=>
  cases t with
  | nil=>exact .nil
  | cons q t'=>exact .cons r ih
theorem Vals.eraseIdx:∀{xs:List V} {us:List Value} (i:Nat),Vals xs us→Vals (xs.eraseIdx i) (us.eraseIdx i)
 | _,_,_,.nil=>.nil
 | _,_,0,.cons _ t=>t
 | _,_,i+1,.cons r t=>.cons r (Vals.eraseIdx i t)
theorem Vals.rep{xs:List V}{us:List Value}(h:Vals xs us):∀k:Nat,Vals (List.replicate k xs).flatten (List.replicate k us).flatten
 | 0=>.nil
 | k+1=>by
  rw [List.replicate_succ,List.replicate_succ,List.flatten_cons,List.flatten_cons]
  exact Vals.append h (Vals.rep h k)
theorem C1{α:Type}(l:List α):l.eraseIdx (l.length-1)=l.dropLast:=by
 induction l with
 | nil=>rfl
 | cons a r ih=>
  cases r with
  | nil=>rfl
  | cons b r=>
   have e:(a::b::r).length-1=((b::r).length-1)+1:=by
    have h1:(a::b::r).length=r.length+2:=rfl
    have h2:(b::r).length=r.length+1:=rfl
    omega
   rw [e,List.eraseIdx_cons_succ,ih]
   all_goals rfl
theorem xf{α:Type}:∀(l:List α) (i:Nat),(l.eraseIdx i).length≤l.length
 | [],_=>Nat.le_refl _
 | _::_,0=>Nat.le_succ _
 | _::r,i+1=>Nat.succ_le_succ (xf r i)
theorem foldl_rep(aa:List Value):∀(k:Nat) (acc:List Value),
  List.foldl (fun x1 x2=>x1++x2) acc.toArray (List.replicate k aa.toArray)=(acc++(List.replicate k aa).flatten).toArray
 | 0,acc=>by simp
 | k+1,acc=>by
  have e:acc.toArray++aa.toArray=(acc++aa).toArray:=by simp
  have e2:(acc++aa)++(List.replicate k aa).flatten=acc++(List.replicate (k+1) aa).flatten:=by
   rw [List.replicate_succ,List.flatten_cons,List.append_assoc]
  rw [←e2,←foldl_rep aa k (acc++aa),←e,List.replicate_succ,List.foldl_cons]
section
variable {X:Cx} {pins:List (Addr×Obj)} {σ:St} {H:Hp} {s:Shared} {l b:Addr} {xs ys zs:List V}
theorem Inv.oK{aa its':List Value}{n:Nat}{f:Array Value→Array Value}{t':Nat}(I:Inv X pins σ H s)(hH:H l=some (.lst xs))
  (e:s.heap.get? l=some {cls:=.type "list",data:=.seq aa.toArray n}) (hf:f aa.toArray=its'.toArray) (hv:Vals ys its') (hz:ys.length≤sizeLine) :
  Inv X pins σ (upd H l (.lst ys)) {s with heap:=s.heap.update l (Obj.mapSeq f),toks:=t'}:=by
 have q:=PySem.IsL.update e f
 rw [hf] at q
 refine I.write (x:=l) (e:=l) (by rw [hH];exact trivial) (.inl rfl) (fun b' u hb hu=>(Heap.get?_update_other s.heap (Obj.mapSeq f) (Ne.symm hb)).trans hu) ⟨_,q⟩ ?_
 exact ⟨hz,its',_,hv,q⟩
theorem Inv.xg{aa:List Value}{t':Nat}(I:Inv X pins σ H s)(hv:Vals ys aa)(hz:ys.length≤sizeLine) :
  Inv X pins σ (upd H s.heap.objs.size (.lst ys)) {s with heap:=s.heap.push {cls:=.type "list",data:=.seq aa.toArray},toks:=t'}:=
 I.laid (fun _ _ q=>Heap.get?_push_of_some _ q) (Nat.le_refl _) ⟨hz,aa,0,hv,Heap.get?_push_size _ rfl⟩
theorem Inv.fresh(I:Inv X pins σ H s):H s.heap.objs.size=none:=I.aq.fresh (Nat.le_refl _)
theorem Inv.gB(I:Inv X pins σ H s)(hH:H l=some (.lst xs)):xs.length≤sizeLine∧∃(aa:List Value) (n:Nat),Vals xs aa∧xs.length=aa.length∧s.heap.get? l=some {cls:=.type "list",data:=.seq aa.toArray n}:=by
 obtain ⟨z,aa,n,r,e⟩:=I.aq l _ hH
 exact ⟨z,aa,n,r,r.length,e⟩
theorem xh{n:Nat}(h:n≤sizeLine):Builtin.List.listTooLong n=false:=by
 unfold Builtin.List.listTooLong
 exact decide_eq_false (by omega)
end
section
variable {X:Cx}
def C2:V→List V→Hp→VK→Prop:=fun x vs H Q=>∃l xs y,x=.ref l∧vs=[y]∧H l=some (.lst xs)∧xs.length<sizeLine∧Q .aG (upd H l (.lst (xs++[y])))
theorem dM:mO X "list.append" C2:=by
 intro pins s σ H x vs v us Q I rx rv h
 obtain ⟨l,xs,y,rfl,rfl,hH,hz,q⟩:=h
 cases rx
 obtain ⟨u,rfl,ru⟩:=rv.one
 obtain ⟨z,aa,n,r,hl,e⟩:=I.gB hH
 refine call_meets F.slot_list_append ⟨_,e,rfl⟩ F.entry_list_append (F.args_list_append_2 _ _) (PySem.list_append l aa.toArray n u (by rw [List.size_toArray];omega)) ⟨e,?_⟩
 refine ⟨.aG,_,I.oK (its':=aa++[u]) hH e (by simp) (r.append (.cons ru .nil)) ?_,rfl,q⟩
 rw [List.length_append,List.length_singleton]
 omega
def C3:V→List V→Hp→VK→Prop:=fun x vs H Q=>∃l b xs zs,x=.ref l∧vs=[.ref b]∧H l=some (.lst xs)∧H b=some (.lst zs)∧xs.length+zs.length≤sizeLine∧Q .aG (upd H l (.lst (xs++zs)))
theorem xi:mO X "list.extend" C3:=by
 intro pins s σ H x vs v us Q I rx rv h
 obtain ⟨l,b,xs,zs,rfl,rfl,hH,hB,hz,q⟩:=h
 cases rx
 obtain ⟨u,rfl,ru⟩:=rv.one
 cases ru
 obtain ⟨z,aa,n,r,hl,e⟩:=I.gB hH
 obtain ⟨z2,fX,n2,r2,C4,e2⟩:=I.gB hB
 have hsz:aa.toArray.size+fX.toArray.size≤sizeLine:=by rw [List.size_toArray,List.size_toArray];omega
 have sM:¬(!aa.toArray.isEmpty && Builtin.List.listTooLong (aa.toArray.size+fX.toArray.size))=true:=by
  rw [xh hsz,Bool.and_false]
  exact Bool.false_ne_true
 refine call_meets F.slot_list_extend ⟨_,e,rfl⟩ F.entry_list_extend (F.args_list_extend_2 _ _)
  (AutoSeq1.list_extend_list_list_0 l aa.toArray n b fX.toArray n2 sM (by rw [List.size_toArray];omega) (by omega)) ⟨e,e2,?_⟩
 refine ⟨.aG,_,I.oK (its':=aa++fX) hH e (by simp) (r.append r2) ?_,rfl,q⟩
 rw [List.length_append]
 omega
def C5:V→List V→Hp→VK→Prop:=fun x vs H Q=>∃l xs y,x=.ref l∧vs=[]∧H l=some (.lst xs)∧xs[xs.length-1]?=some y∧Q y (upd H l (.lst xs.dropLast))
theorem C6:mO X "list.pop" C5:=by
 intro pins s σ H x vs v us Q I rx rv h
 obtain ⟨l,xs,y,rfl,rfl,hH,hy,q⟩:=h
 cases rx
 have ko:=rv.zero
 subst ko
 obtain ⟨z,aa,n,r,hl,e⟩:=I.gB hH
 obtain ⟨u,hu,ru⟩:=r.get hy
 have oM:aa.toArray[aa.toArray.size-1]?=some u:=by
  show aa.toArray[aa.length-1]?=some u
  rw [←Array.getElem?_toList,←hl]
  exact hu
 refine call_meets F.slot_list_pop ⟨_,e,rfl⟩ F.entry_list_pop (F.args_list_pop_1 _) (MeetsSeq.list_pop_last l aa.toArray n u oM (by rw [List.size_toArray];omega)) ⟨e,?_⟩
 refine ⟨y,_,I.oK (its':=aa.dropLast) hH e ?_ r.dropLast ?_,ru,q⟩
 ·show aa.toArray.eraseIdxIfInBounds (aa.toArray.size-1)=aa.dropLast.toArray
  rw [List.size_toArray,List.eraseIdxIfInBounds_toArray,C1]
 ·rw [List.length_dropLast]
  omega
def C7:V→List V→Hp→VK→Prop:=fun x vs H Q=>∃l xs i k y,x=.ref l∧vs=[.int i]∧H l=some (.lst xs)∧-(2 ^ 63)≤i∧i<2 ^ 63∧seqIndex? i xs.length=some k∧xs[k]?=some y∧Q y (upd H l (.lst (xs.eraseIdx k)))
theorem C8:mO X "list.pop" C7:=by
 intro pins s σ H x vs v us Q I rx rv h
 obtain ⟨l,xs,i,k,y,rfl,rfl,hH,h1,h2,hk,hy,q⟩:=h
 cases rx
 obtain ⟨u,rfl,ru⟩:=rv.one
 obtain ⟨t,rfl⟩:=ru
 obtain ⟨z,aa,n,r,hl,e⟩:=I.gB hH
 obtain ⟨w,hw,i7⟩:=r.get hy
 refine call_meets F.slot_list_pop ⟨_,e,rfl⟩ F.entry_list_pop (F.args_list_pop_2 _ _)
  (MeetsSeq.list_pop_at l aa.toArray n i t k w (fitsIndex_both h1 h2) (by rw [List.size_toArray,←hl];exact hk) (by rw [←Array.getElem?_toList];exact hw) (by rw [List.size_toArray];omega)) ⟨e,?_⟩
 refine ⟨y,_,I.oK (its':=aa.eraseIdx k) hH e ?_ (r.eraseIdx k) ?_,i7,q⟩
 ·show aa.toArray.eraseIdxIfInBounds k=(aa.eraseIdx k).toArray
  rw [List.eraseIdxIfInBounds_toArray]
 ·have:=xf xs k
  omega
def C9:R2:=fun x y H Q=>∃l b xs zs,x=.ref l∧y=.ref b∧H l=some (.lst xs)∧H b=some (.lst zs)∧xs.length+zs.length≤sizeLine∧∀p,H p=none→Q (.ref p) (upd H p (.lst (xs++zs)))
theorem C_:bI X (binaryOp .Add) C9:=by
 intro pins s σ H x y v u Q I rx ry h
 obtain ⟨l,b,xs,zs,rfl,rfl,hH,hB,hz,q⟩:=h
 cases rx
 cases ry
 obtain ⟨z,aa,n,r,hl,e⟩:=I.gB hH
 obtain ⟨z2,fX,n2,r2,C4,e2⟩:=I.gB hB
 refine PySem.P.add_list e e2 ?_ (by rw [List.size_toArray,List.size_toArray];omega)
 have ea:aa.toArray++fX.toArray=(aa++fX).toArray:=by simp
 rw [ea]
 exact ⟨.ref _,_,I.xg (t':=s.toks) (r.append r2) (by rw [List.length_append];omega),rfl,q _ I.fresh⟩
def Dc:R2:=fun x y H Q=>∃l k xs,x=.ref l∧y=.int k∧H l=some (.lst xs)∧-(2 ^ 63)≤k∧k<2 ^ 63∧xs.length*k.toNat≤sizeLine ∧
 ∀p,H p=none→Q (.ref p) (upd H p (.lst (List.replicate k.toNat xs).flatten))
theorem len_rep{α:Type}(xs:List α)(k:Nat):(List.replicate k xs).flatten.length=k*xs.length:=by
 induction k with
 | zero=>simp
 | succ k ih=>rw [List.replicate_succ,List.flatten_cons,List.length_append,ih,Nat.succ_mul,Nat.add_comm]
theorem De:bI X (binaryOp .Mult) Dc:=by
 intro pins s σ H x y v u Q I rx ry h
 obtain ⟨l,k,xs,rfl,rfl,hH,h1,h2,hz,q⟩:=h
 cases rx
 obtain ⟨t,rfl⟩:=ry
 obtain ⟨z,aa,n,r,hl,e⟩:=I.gB hH
 have hlen:aa.toArray.size*k.toNat≤sizeLine:=by rw [List.size_toArray,←hl];exact hz
 have Dg:¬aa.toArray.size*k.toNat>(2 ^ 63-1) / 8:=by
  have:(sizeLine:Nat)≤(2 ^ 63-1) / 8:=by decide
  omega
 have Dh:¬(!Builtin.List.listFitsIndex k)=true:=by
  rw [fitsIndex_both h1 h2]
  exact Bool.false_ne_true
 have sM:¬Builtin.List.listTooLong (aa.toArray.size*k.toNat)=true:=by
  rw [xh hlen]
  exact Bool.false_ne_true
 have Di:List.foldl (fun x1 x2=>x1++x2) #[] (List.replicate (if aa.toArray.isEmpty=true then 0 else k.toNat) aa.toArray)=(List.replicate k.toNat aa).flatten.toArray:=by
  have f0:∀m:Nat,List.foldl (fun x1 x2=>x1++x2) #[] (List.replicate m aa.toArray)=(List.replicate m aa).flatten.toArray:=fun m=>by
   have:=foldl_rep aa m []
   rw [List.nil_append] at this
   exact this
  rw [f0]
  cases aa with
  | nil=>simp
  | cons a r'=>rw [if_neg (by simp)]
 refine wpAny_binaryOp_repeat_ref (T:="list") (U:="int") (by decide) ⟨_,e,rfl⟩ (fun s'=>typeIs_int s' k t) noFill_list_mul F.fills_int_mul F.slot_int_rmul repeat_list F.slot_int_index.lookup
  (call_meets F.slot_int_rmul (typeIs_int s k t) F.entry_int_rmul (F.args_int_rmul_2 _ _) (int___rmul___int_list k t l aa.toArray n)
   ⟨e,rfl,⟨_,e,rfl⟩,call_meets F.slot_list_mul ⟨_,e,rfl⟩ F.entry_list_mul (F.args_list_mul_2 _ _) (AutoListH.list___mul___list_int_3 l aa.toArray n k t Dh Dg sM) ⟨e,?_⟩⟩)
 rw [Di]
 exact ⟨.ref _,_,I.xg (t':=s.toks) (r.rep k.toNat) (by rw [len_rep,Nat.mul_comm];exact hz),rfl,q _ I.fresh⟩
end
section
variable {prog:Program} {w:World} {A:Around} {E:Value→Shared→Prop} {s:Shared}
end
section
variable {X:Cx}
end
end L2
namespace oO
open PySem PySem.W PySem.Calls PyProof.Rows
theorem Dj{P:Params}{h:Heap}:∀(ns:List Int) (vs:List Value),WellAll P h vs (ns.map WData.int)→IntsAre vs ns:=by
 intro ns
 induction ns with
 | nil=>
  intro vs w
  rw [List.map_nil] at w
  cases w
  exact .nil
 | cons n ns ih=>
  intro vs w
  rw [List.map_cons] at w
  cases w with
  | cons a b=>
   cases a
   exact .cons _ _ (ih _ b)
theorem Dk{l:OpenLaw}{n:Nat}(hn:l.most=some n){P:Params}{h:Heap}{args:List WData}{vals:List Value}
  (oP:l.row.toRowW.claim.pre args=true) (sN:WellAll P h vals args) :
  ∃a vs ns,vals=[Value.ref a]∧args=[WData.list (ns.map WData.int)]∧h.get? a=some {cls:=.type "list",data:=.seq vs.toArray}∧IntsAre vs ns∧ns.length≤n:=by
 have Dl:WShape.hasAll [] args [.list .int]=true:=(pre_splitW oP).1
 have hc:l.pre.holds [] {args:=args}=true:=(pre_splitW oP).2
 obtain ⟨d,r,rfl,h1,h2⟩:=hasAllW_cons Dl
 obtain rfl:=hasAllW_nil h2
 obtain ⟨xs,rfl,h3⟩:=hasW_list h1
 obtain ⟨ns,rfl⟩:=items_int h3
 have hlen:ns.length≤n:=by
  unfold OpenLaw.pre at hc
  have h4:(WTm.not (.lt (.lit (.int (n:Int))) (.len (.arg 0)))).holds [] {args:=[.list (ns.map .int)]}=true:=by
   have h4:=(holds_andW hc).1
   rw [hn] at h4
   exact h4
  have h5:=condW_of h4 (w_not (w_lt w_lit (w_len_list (w_arg rfl))))
  rw [List.length_map] at h5
  refine Nat.le_of_not_lt fun q=>?_
  have q':(n:Int)<((ns.length:Nat):Int):=by omega
  first
   | (rw [decide_eq_true q'] at h5;exact absurd h5 (by decide))
   | (simp at h5;omega)
 cases sN with
 | cons w1 w2=>
  cases w2
  cases w1 with
  | list ho sO=>exact ⟨_,_,ns,rfl,rfl,ho,Dj ns _ sO,hlen⟩
theorem Dm(l:OpenLaw)(args:List WData):l.row.toRowW.claim.post args (.bool true) args=true:=
 postW_of (r:=l.row.toRowW) (X:=(true == true))
  (show WShape.has [] (.bool true) .bool=true by first | rfl | decide | simp [WShape.has,WShape.arms,WShape.armsAll])
  (show (WTm.eq .res (.lit (.bool true))).value [] {args:=args,res:=some (.bool true),after:=args}=some (.bool (true == true)) from w_eq_bool (w_res rfl) w_lit) rfl
theorem Dn{l:OpenLaw}{n:Nat}{q:Program}{loose:List Str}{XP:(Str→Option Value)→Heap→Prop}{YP:World→Heap→Prop}{d:DefRec}
  (hn:l.most=some n) (mP:d.params.defaults=[])
  (call:∀(w:World) (s₀ s₁:Shared) (mg mb:Str→Option Value) (fa:Addr) (o:Obj) (pm cd doc:Value) (a:Addr) (vs:List Value) (ns:List Int),
   Ground q loose [] XP w s₀ mg mb s₁.heap→YP w s₁.heap→
   s₁.heap.get? fa=some o→o.data=.func (docDef d.name d.params d.body d.scope pm cd doc)→s₁.heap.CodeRec cd d.name→mg d.name=some (.ref fa)→
   s₁.heap.get? a=some {cls:=.type "list",data:=.seq vs.toArray}→IntsAre vs ns→ns.length≤n→s₁.gens = #[]→
   codeAny (model l.prog w) callerA (.call (.ref fa) ⟨[.ref a],[]⟩) (fun r s'=>r=.ok (.ret (.bool true))∧OldK s₁.heap s'.heap∧s'.os=s₁.os∧AllBare s'.gens) s₁) :
  WalkO q loose XP YP l.row.toRowW d [] (fun f vs=>PySem.call f vs):=by
 intro w s₀ s₁ mg mb G Y fa o pm cd doc dV kV ho hd dH hD mQ hg args vals as oP Ma Mb sN Mc
 obtain rfl:dV=.none:=Dflts.none hD mP
 obtain rfl:kV=.none:=Dflts.noKw hD
 obtain ⟨a,vs,ns,rfl,rfl,sP,hints,hlen⟩:=Dk hn oP sN
 refine enter_call (codeAny_mono (call w s₀ s₁ mg mb fa o pm cd doc a vs ns G Y ho (fd_plain hd) dH mQ sP hints hlen hg) fun r s' hq=>?_)
 obtain ⟨rfl,h2,h3,h4⟩:=hq
 exact ⟨.inl ⟨.bool true,.bool true,[],rfl,fun _=>rfl,.bool true,Dm l _,fun _=>⟨List.Pairwise.nil,fun _ hm=>(nomatch hm)⟩⟩,h2,h3,h4⟩
section
variable {prog:Program} {w:World} {A:Around} {E:Value→Shared→Prop} {s:Shared} {K:Frag}
end
end oO
namespace L2
open PySem PySem.Spec PyProof.Rows
theorem xj:∀{vs:List Value} {ns:List Int},IntsAre vs ns→Vals (ns.map V.int) vs
 | _,_,.nil=>.nil
 | _,_,.cons n t h=>.cons ⟨t,rfl⟩ (xj h)
def sQ(H:Hp):Prop:=∀b,H b=none∨∃o xs,H b=some (.bj o (.lst xs))
theorem Dp{P:Program}{w:World}{K:PySem.W.Frag}{mg mb:Str→Option Value}{CX:dw}{k:Nat}{fa a:Addr}{fd:FuncData}{x:Str}{sp:Sp}{s₁:Shared}{vs:List Value}{ns:List Int}
  (KX:K.In s₁.heap) (xk:s₁.heap.Ns mainGlobals mg) (hb:s₁.heap.Ns builtinsNs mb) (i9:∀x:Str,x ≠ "__name__"→mb x=bootBuiltins x) (Dq:s₁.heap.NoLimit) (hg:s₁.gens = #[])
  (ha:s₁.heap.get? a=some {cls:=.type "list",data:=.seq vs.toArray}) (hi:IntsAre vs ns) (hl:ns.length≤sizeLine) (hr:cx k callerA)
  (F:∀base:Heap,K.In base→base.Ns mainGlobals mg→bx P w K mg base CX k fa fd [x] sp) (Dr:∀(s:Shared) (u:Value),BindsTo s fd ⟨[u],[]⟩ [(x,u)])
  (fV:∀H:Hp,sQ H→aX K H a (ns.map V.int)→sp [.ref a] H (fun v _=>v=.bl true) fun _ _ _=>False)
  (sR:∀H e s',CX [] H s₁ (fun _ _ _=>False) e s'→False) :
  codeAny (model P w) callerA (.call (.ref fa) ⟨[.ref a],[]⟩) (fun r s'=>r=.ok (.ret (.bool true))∧OldK s₁.heap s'.heap∧s'.os=s₁.os∧AllBare s'.gens) s₁:=by
 have rv:=xj hi
 have Ds:=hi.length
 have core:∀H:Hp,sQ H→aX K H a (ns.map V.int)→a9 P w H s₁.heap→(∀b,H b≠none→b=a)→(H a≠none→K.lookup a=none)→
   codeAny (model P w) callerA (.call (.ref fa) ⟨[.ref a],[]⟩) (fun r s'=>r=.ok (.ret (.bool true))∧OldK s₁.heap s'.heap∧s'.os=s₁.os∧AllBare s'.gens) s₁:=by
  intro H hO hS aq hA hK
  have xl:∀{b:Addr} {o:Obj},s₁.heap.get? b=some o→H b=none→(gu s₁.heap H).get? b=some o:=fun e n=>Bk e n
  have mK:∀{b:Addr} {o:Obj} {es:Array DictEntry} {ep:Nat},s₁.heap.get? b=some o→o.data=.dict es ep→H b=none:=fun{b o es ep} e d=>by
   cases q:H b with
   | none=>rfl
   | some u=>
    have e':b=a:=hA b (by rw [q];simp)
    subst e'
    rw [ha] at e;cases e
    have d':Data.seq vs.toArray _=Data.dict es ep:=d
    cases d'
  have oQ:∀{b:Addr} {m:Str→Option Value},s₁.heap.Ns b m→(gu s₁.heap H).Ns b m:=fun{b m} ⟨o,es,ep,e,d,r⟩=>⟨o,es,ep,xl e (mK e d),d,r⟩
  have xm:K.In (gu s₁.heap H):=fun b o e=>xl (KX b o e) (by
   cases q:H b with
   | none=>rfl
   | some u=>
    have e':b=a:=hA b (by rw [q];simp)
    subst e'
    rw [hK (by rw [q];simp)] at e;cases e)
  have hM:Mod K mg (gu s₁.heap H):=⟨xm,oQ xk,⟨mb,oQ hb,i9⟩,let ⟨mc,h1,h2⟩:=Dq;⟨mc,oQ h1,h2⟩⟩
  have e0:oF P w K mg (gu s₁.heap H) callerA [] s₁ H:=⟨rfl,hM,fun b o e=>Bl e,Nat.le_of_eq (Bj _ _),trivial,fun b hb=>absurd (show b∈([]:List Addr) from hb) (by simp),aq,.of_eq hg⟩
  refine codeAny_mono ((F _ xm (oQ xk)).run callerA [] s₁ H ⟨[.ref a],[]⟩ [.ref a] [.ref a] _ _ hr e0 (Dr s₁ (.ref a)) (.cons rfl .nil) (fV H hO hS)) fun r s' h=>?_
  cases r with
  | error e=>exact (sR H e s' h).elim
  | ok fl=>
   cases fl with
   | next=>exact False.elim h
   | brk=>exact False.elim h
   | cont=>exact False.elim h
   | ret u=>
    obtain ⟨v,H',os,bare,un,Dt,r',q⟩:=h
    have q':v=.bl true:=q
    subst q'
    obtain rfl:u=Value.bool true:=r'
    refine ⟨rfl,OldK.of_keep fun b o e=>?_,os,bare⟩
    cases q:H b with
    | none=>exact un.keep b o e q (by intro z;exact absurd (show b∈([]:List Addr) from z) (by simp)) (by simp)
    | some u=>
     rcases hO b with z | ⟨ob,xs,z⟩
     ·rw [q] at z;cases z
     ·have z2:=un.cY b ob _ z
      obtain ⟨e1,_⟩:=aq b _ z
      obtain ⟨e2,_⟩:=Dt b _ z2
      rw [e] at e1;cases e1
      exact e2
 cases hk:K.lookup a with
 | some o=>
  have e:=KX a o hk
  rw [ha] at e
  cases e
  refine core (fun _=>none) (fun _=>.inl rfl) (.inr ⟨_,vs.toArray,_,hk,rfl,rfl,rfl,by rw [List.size_toArray,Ds];exact hl,by simpa using rv⟩) (fun b u z=>by have z':(none:Option HO)=some u:=z;cases z') (fun b z=>absurd rfl z) fun z=>absurd rfl z
 | none=>
  refine core (fun b=>if b=a then some (.bj {cls:=.type "list",data:=.seq vs.toArray} (.lst (ns.map V.int))) else none) (fun b=>?_) (.inl (.inr ⟨{cls:=.type "list",data:=.seq vs.toArray},if_pos rfl⟩)) (fun b u z=>?_) (fun b z=>?_) fun _=>hk
  ·by_cases hb:b=a
   ·exact .inr ⟨_,_,if_pos hb⟩
   ·exact .inl (if_neg hb)
  ·by_cases hb:b=a
   ·have z':=(if_pos hb).symm.trans z
    cases z'
    subst hb
    exact ⟨ha,by rw [List.length_map];exact hl,vs,_,rv,ha⟩
   ·have z':=(if_neg hb).symm.trans z
    cases z'
  ·by_cases hb:b=a
   ·exact hb
   ·exact absurd (if_neg hb) z
abbrev xn {K:PySem.W.Frag} {h:Heap} (_:K.In h):PySem.W.Frag:=K
theorem Du{l:PySem.W.OpenLaw}{n k:Nat}{q:Program}{loose:List Str}{XP:(Str→Option Value)→Heap→Prop}{YP:World→Heap→Prop}{d:DefRec}{K:Params→PySem.W.Frag}{CX:World→dw}{sp:World→Sp}{x:Str}
  (hn:l.most=some n) (Dv:n≤sizeLine) (mP:d.params.defaults=[]) (hr:cx k callerA)
  (hY:∀(w:World) (h:Heap),YP w h→(K w.params).In h)
  (F:∀(w:World) (mg:Str→Option Value) (fa:Addr) (h:Heap),(K w.params).In h→h.Ns mainGlobals mg→mg d.name=some (.ref fa)→
   ∃fd:FuncData,(∀(s:Shared) (u:Value),BindsTo s fd ⟨[u],[]⟩ [(x,u)]) ∧
    ∀base:Heap,(K w.params).In base→base.Ns mainGlobals mg→bx l.prog w (K w.params) mg base (CX w) k fa fd [x] (sp w))
  (fV:∀(w:World) (H:Hp) (a:Addr) (ns:List Int),ns.length≤n→sQ H→aX (K w.params) H a (ns.map V.int)→sp w [.ref a] H (fun v _=>v=.bl true) fun _ _ _=>False)
  (sR:∀(w:World) (H:Hp) (s:Shared) (e:Value) (s':Shared),CX w [] H s (fun _ _ _=>False) e s'→False) :
  PySem.W.WalkO q loose XP YP l.row.toRowW d [] (fun f vs=>PySem.call f vs):=by
 refine oO.Dn hn mP fun w s₀ s₁ mg mb fa o pm cd doc a vs ns G Y ho hd dH mQ sP hints hlen hg=>?_
 have KX:=hY w _ Y
 obtain ⟨fd,hb,hF⟩:=F w mg fa _ KX G.T.g mQ
 exact Dp KX G.T.g G.T.b G.T.builtins G.T.nolimit hg sP hints (Nat.le_trans hlen Dv) hr hF hb (fun H hO hS=>fV w H a ns hlen hO hS) fun H e s'=>sR w H s₁ e s'
def oR(s:Stmt):Arguments:=match s with
 | .FunctionDef _ a _ _ _ _ _ _ _ _=>a
 | _=>{posonlyargs:=[],args:=[],vararg:=none,kwonlyargs:=[],kw_defaults:=[],kwarg:=none,defaults:=[]}
def kq(s:Stmt):List Stmt:=match s with
 | .FunctionDef _ _ b _ _ _ _ _ _ _=>b
 | _=>[]
def bg(s:Stmt):Scope:=match s with
 | .FunctionDef _ _ _ _ _ _ sc _ _ _=>sc
 | _=>{kind:=.function,names:=[],isGenerator:=false,isCoroutine:=false}
abbrev bT:dw:=fun _ _ _ _ _ _=>False
abbrev E0:XK:=fun _ _ _=>False
theorem bA{X:Cx}:Passes bT X E0:=fun _ _ _ _ _ _ _ h=>h.elim
structure aI (K:PySem.W.Frag) (x qual:Str) (st:Stmt) (f:Addr) (fd:FuncData):Prop where
 ex:∃(oc:Value) (od:Option Addr) (kV doc pm:Value) (an:Option Addr) (aJ ct:Value) (fU:Array (Option Value)),
  fd=PySem.W.fnOf x qual (oR st) (kq st) (bg st) .none kV doc pm an aJ ct∧K.lookup f=some ⟨oc,od,.func fd,fU⟩∧PySem.W.codeIn K aJ qual=true
 kp:PySem.W.keepIn K (.ref f)=true
section
variable {P:Program} {w:World} {K:PySem.W.Frag} {mg:Str→Option Value} {base:Heap}
theorem aI.ok{x qual:Str}{st:Stmt}{f:Addr}{fd:FuncData}{N ps:List Str}{k:Nat}{sp:Sp}(F:aI K x qual st f fd)(S:bQ N ps (bg st))(len:∀vs H Q E,sp vs H Q E→vs.length=ps.length)
  (mL:∀(aJ:Value) (A:Around) (outer:List Env) (s:Shared) (H:Hp) (vs:List V) (Q:VK) (E:XK),cx k (A.deeper (envOfC qual (bg st) s.heap.objs.size f aJ))→sp vs H Q E→
   ∃t,dr (hE bT P w K mg base N qual (bg st) f aJ A outer s H E).mE (kq st) t∧t {nx:=fun _ H'=>Q .aG H',rt:=Q} (start N vs) H):bx P w K mg base bT (k+1) f fd ps sp:=by
 obtain ⟨oc,od,kV,doc,pm,an,aJ,ct,fU,rfl,lk,dH⟩:=F.ex
 refine wL lk dH S len fun A outer s H vs Q E hr fV=>?_
 obtain ⟨t,h,q⟩:=mL aJ A outer s H vs Q E hr fV
 exact ⟨t,h.mE,q⟩
theorem aI.binds{x qual:Str}{st:Stmt}{f:Addr}{fd:FuncData}{ps:List Str}(F:aI K x qual st f fd)
  (h:∀(kV doc pm:Value) (an:Option Addr) (aJ ct:Value) (us:List Value),us.length=ps.length→bindArgs (PySem.W.fnOf x qual (oR st) (kq st) (bg st) .none kV doc pm an aJ ct) ⟨us,[]⟩=pure (ps.zip us)):Binds K fd ps []:=by
 obtain ⟨oc,od,kV,doc,pm,an,aJ,ct,fU,rfl,lk,dH⟩:=F.ex
 exact .all (h kV doc pm an aJ ct)
theorem bY{x qual:Str}{st:Stmt}{f:Addr}{oc:Value}{od an:Option Addr}{fU:Array (Option Value)}{kV doc pm aJ ct:Value}(l:K.lookup f=some ⟨oc,od,.func (PySem.W.fnOf x qual (oR st) (kq st) (bg st) .none kV doc pm an aJ ct),fU⟩)
  (c:PySem.W.codeIn K aJ qual=true) (k:PySem.W.keepIn K (.ref f)=true):aI K x qual st f (PySem.W.fnOf x qual (oR st) (kq st) (bg st) .none kV doc pm an aJ ct):=⟨⟨oc,od,kV,doc,pm,an,aJ,ct,fU,rfl,l,c⟩,k⟩
end
theorem b5{n:Nat}(h:n≤1000):n<sizeLine:=Nat.lt_of_le_of_lt h (by decide)
section
variable {X:Cx}
theorem pv(i:Nat){x:Str}{pos:Pos}(hN:X.N[i]?=some x:=by rfl)(hv:my X.env.scope x:=by first | exact Or.inl rfl | exact Or.inr (Or.inl rfl) | exact Or.inr (Or.inr rfl))(hd:(x == ("__debug__":Str))=false:=by decide)
  (dH:(x == ("__classdict__":Str))=false:=by decide):PE X (.Name x pos) (vT i):=Bu hN hv hd dH
end
theorem dN{A B:Prop}(h:B):if false=true then A else B:=by
 rw [if_neg Bool.false_ne_true]
 exact h
theorem gC{A B:Prop}(h:A):if true=true then A else B:=by
 rw [if_pos rfl]
 exact h
theorem cp{c A B:Prop}[Decidable c](h1:c→A)(h2:¬c→B):if c then A else B:=by
 by_cases h:c
 ·rw [if_pos h]
  exact h1 h
 ·rw [if_neg h]
  exact h2 h
def aj(H H':Hp):Prop:=∀b o,H b=some o→H' b=some o
theorem aj.refl(H:Hp):aj H H:=fun _ _ h=>h
theorem aj.trans{H H1 H2:Hp}(a:aj H H1)(b:aj H1 H2):aj H H2:=fun c o h=>b c o (a c o h)
theorem aj.seq{K:PySem.W.Frag}{H H':Hp}{a:Addr}{xs:List V}(e:aj H H')(h:aX K H a xs):aX K H' a xs:=by
 rcases h with (h | ⟨o,h⟩) | h
 ·exact .inl (.inl (e _ _ h))
 ·exact .inl (.inr ⟨o,e _ _ h⟩)
 ·exact .inr h
end L2
set_option maxHeartbeats 4000000
namespace L2
open PySem PySem.Spec PyProof.Rows
structure oS (P:Program) (w:World) (outer:List Env) (H:Hp) (s:Shared) (H':Hp) (ea C:Addr) (B:Heap) (t:Addr) (s':Shared):Prop where
 os:s'.os=s.os
 bare:AllBare s'.gens
 fl:Heap.FlyingW B outer ea (.ref C) (.ref t) s'.heap
 aq:a9 P w H' B
 kb:∀b o,s.heap.get? b=some o→H b=none→b∉bu outer→B.get? b=some o
 tb:∀b o,s.heap.get? b=some o→b∉bu outer→∃o',B.get? b=some o'
 sl:∀b o,s.heap.get? b=some o→H b=none→b∈bu outer→∃l,s'.heap.get? b=some {o with slots:=l}
 Md:∀b∈bu outer,H b=none
 Dw:∀b o,s.heap.get? b=some o→H b=none→H' b=none
 dm:∀b xs,H b=some (.tup xs)→H' b=some (.tup xs)
 cY:∀b o u,H b=some (.bj o u)→H' b=some (.bj o u)
 dq:∀b ps,H b=some (.gs ps)→∃more,H' b=some (.gs (ps++more))
def fY(P:Program)(w:World):dw:=fun outer H s E e s'=>∃ea C H' B t,e=.ref ea∧oS P w outer H s H' ea C B t s'∧E (.ref C) none H'
section
variable {P:Program} {w:World} {outer:List Env} {H H':Hp} {s s':Shared} {ea C t:Addr} {B:Heap}
def ExcAt(ea C:Addr)(h:Heap):Prop:=∃oe,h.get? ea=some oe∧oe.cls=.ref C∧PySem.W.notCls oe=true
def Dx(ea C:Addr):HO:=.ext (ExcAt ea C)
end
section
variable {X:Cx} {pins:List (Addr×Obj)} {σ:St} {H H':Hp} {s s':Shared} {ea C t:Addr} {B:Heap}
structure mR (X:Cx) (E:XK):Prop where
 d_:X.stack=X.env::X.outer
 fr:X.env.frame=some X.env.locals
 ex:X.ex=[]
 xe:X.xe=fun e s'=>wpAny (model X.prog X.w) X.A (leaving X.env e) (fun _ fT=>fY X.prog X.w X.outer X.H₀ X.s₀ E e fT) (fun e' fT=>fY X.prog X.w X.outer X.H₀ X.s₀ E e' fT) s'
theorem oT{env:Env}{outer:List Env}{L:Addr}(h:env.frame=some L):bu (env::outer)=L::bu outer:=by
 unfold bu
 rw [List.filterMap_cons,h]
theorem oS.leave{E:XK}(L:mR X E)(I:Inv X pins σ H s)(f:oS X.prog X.w X.stack H s H' ea C B t s'){h:Heap}(x:Heap.FlyingW B X.outer ea (.ref C) (.ref t) h)(up:s'.heap.UpToSlots h):oS X.prog X.w X.outer X.H₀ X.s₀ H' ea C B t {s' with heap:=h}:=by
 have nL:∀b o,X.s₀.heap.get? b=some o→b≠X.env.locals:=fun b o e=>Nat.ne_of_lt (Nat.lt_of_lt_of_le (Heap.lt_size e) I.ok.above)
 have ns:∀b o,X.s₀.heap.get? b=some o→b∉bu X.outer→b∉bu X.stack:=fun b o e nb z=>by
  rw [L.d_,oT L.fr] at z
  rcases List.mem_cons.mp z with z | z
  ·exact nL b o e z
  ·exact nb z
 have nx:∀b:Addr,b∉X.ex:=fun b z=>by rw [L.ex] at z;cases z
 refine ⟨f.os.trans I.os,f.bare,x,f.aq,fun b o e n nb=>?_,fun b o e nb=>?_,fun b o e n hb=>?_,I.ok.gU,fun b o e n=>?_,fun b xs e=>f.dm b xs (I.base.dm b xs e),fun b o u e=>f.cY b o u (I.base.cY b o u e),fun b ps e=>?_⟩
 ·exact f.kb b o (I.base.keep b o e n nb (nx b)) (I.base.free b o e n (nx b)) (ns b o e nb)
 ·obtain ⟨o',e'⟩:=I.base.there b o e (nx b)
  exact f.tb b o' e' (ns b o e nb)
 ·obtain ⟨l,q⟩:=I.base.slot b o e n hb (nx b)
  have hs:b∈bu X.stack:=by rw [L.d_,oT L.fr];exact List.mem_cons_of_mem _ hb
  obtain ⟨l2,q2⟩:=f.sl b _ q (I.base.free b o e n (nx b)) hs
  obtain ⟨_,o2,q3,nf⟩:=f.fl.2.2.1.mem hs
  rw [q2] at q3
  cases q3
  obtain ⟨l3,q4⟩:=up b _ q2 nf
  exact ⟨l3,q4⟩
 ·obtain ⟨o',e'⟩:=I.base.there b o e (nx b)
  exact f.Dw b o' e' (I.base.free b o e n (nx b))
 ·obtain ⟨m1,e1⟩:=I.base.dq b ps e
  obtain ⟨m2,e2⟩:=f.dq b _ e1
  exact ⟨m1++m2,by rw [e2,Array.append_assoc]⟩
theorem xo:Passes (fY X.prog X.w) X (fun _ _ _=>False):=fun pins σ H s e s' I h=>by
 obtain ⟨_,_,_,_,_,_,_,q⟩:=h
 exact q.elim
theorem xp{E:XK}(L:mR X E):Passes (fY X.prog X.w) X E:=fun pins σ H s e s' I h=>by
 obtain ⟨ea,C,H',B,t,rfl,f,q⟩:=h
 rw [L.xe]
 refine wpAny_leaves_onW (by rw [I.ok.frames,L.d_]) L.fr (by have z:=f.fl;rw [L.d_] at z;exact z) fun h' x up=>?_
 exact ⟨ea,C,H',B,t,rfl,f.leave L I x up,q⟩
end
theorem Dy{K:PySem.W.Frag}{h:Heap}{C:Addr}{kr:List Value}{newId:String}(bP:K.In h)(hq:PySem.W.excIn K C kr newId=true) :
  ∃bm N nm qn bs hdct sn sub ab col dd k0 k1 k2 k3 k5 mN,h.get? C=some (excClassObj nm qn C N bs bm hdct sn sub ab col dd k0 k1 k2 k3 k5 newId)∧h.Ns N mN∧mN "__init__" = none∧OwnTail h kr bm∧PySem.W.mroIn K C=fun b=>some ((Value.ref C::bm).contains b):=by
 unfold PySem.W.excIn at hq
 split at hq
 ·rename_i ku cls slt look
  split at hq
  ·rename_i CC rest a0 a1 a2 a3 nn a5 em es
   simp only [Bool.and_eq_true,beq_iff_eq,Bool.not_eq_true'] at hq
   obtain ⟨⟨⟨⟨⟨e1,e2⟩,e3⟩,e4⟩,e5⟩,e6⟩:=hq
   subst e1 e2
   have Dz:PySem.W.mroIn K CC=fun b=>some ((Value.ref CC::rest).contains b):=by
    funext b
    unfold PySem.W.mroIn PySem.W.clsIn
    rw [look]
    simp [em]
   obtain ⟨c1,c2,c3,c4,c5,c6,c7,c8,c9,DA,Me⟩:=cls
   dsimp only at em e3 e5 e6
   subst em e3
   have DB:slt = #[a0,a1,a2,a3,some (.builtin nn),a5]:=by
    obtain ⟨ll⟩:=slt
    simp only at es
    rw [es]
   subst DB
   exact ⟨rest,c4,c1,c5,c2,c6,c7,c8,c9,DA,ku,a0,a1,a2,a3,a5,_,bP _ _ look,.of_isNs (PySem.W.isNs_of_in bP e5),PySem.W.nsMap_none_of_in bP e5 e6,PySem.W.tail_of_in bP e4,Dz⟩
  ·cases hq
 ·cases hq
section
variable {X:Cx} {E:XK} {x:Str} {C:Addr} {np dy pos:Pos} {e:Expr} {es:List Expr} {ta:TA} {B newId DC:String} {kr:List Value}
def DD(C:Addr)(E:XK)(ta:TA):TS:=fun _ σ H=>ta σ H fun vs H1=>vs.length≤sizeLine∧E (.ref C) none H1
theorem DE(L:mR X E)(hc:X.calm=true)(FB:ExcBaseFacts B newId DC kr)(hq:PySem.W.excIn X.K C kr newId=true)(hg:Gl X x)(hm:X.mg x=some (.ref C))(ha:PA X (e::es) ta)
  (hs:starEach (e::es) X.env=(false,eval e X.env)::starEach es X.env:=by rfl) (hp:(backTo dy (starEach es X.env)).any (·.1)=false:=by rfl) (hd:(x == ("__debug__":Str))=false:=by decide) :
  PS X (.Raise (some (.Call (.Name x np) (e::es) [] dy)) none pos) (DD C E ta):=by
 intro pins s σ H D I h
 obtain ⟨bm,N,nm,qn,bs,hdct,sn,sub,ab,col,dd,k0,k1,k2,k3,k5,mN,hC,hN,DF,T,_⟩:=Dy I.ok.mod.bP hq
 refine wpAny_Raise_call_subT (C:=C) (nm:=nm) (q:=qn) (N:=N) (bs:=bs) (bm:=bm) (hdct:=hdct) (sn:=sn) (sub:=sub) (ab:=ab) (col:=col) (dd:=dd) (k0:=k0) (k1:=k1) (k2:=k2) (k3:=k3) (k5:=k5) FB (mN:=mN) (T.hasType FB.hasBase) (I.ok.hd hc)
  (by rw [hs];show (false || (backTo dy (starEach es X.env)).any (·.1))=false;rw [hp];rfl) DF (rE I hg hm ⟨rfl,?_⟩ hd)
 have h1:=ha dy pins s σ H _ I h
 rw [hs] at h1 ⊢
 refine Calls.evalArgs_plain (aw h1 fun us s2 ⟨vs,H1,I1,r,hl,q⟩=>⟨rfl,by rw [←r.length];exact hl,I1.bk _ _ hC,hN.keeps I1.bk,T.keeps I1.bk,fun h' ea mk=>?_⟩)
 rw [L.xe]
 have nL:∀b o,X.s₀.heap.get? b=some o→b≠X.env.locals:=fun b o q=>Nat.ne_of_lt (Nat.lt_of_lt_of_le (Heap.lt_size q) I1.ok.above)
 have ns:∀b o,X.s₀.heap.get? b=some o→b∉bu X.outer→b∉bu X.stack:=fun b o q nb z=>by
  rw [L.d_,oT L.fr] at z
  rcases List.mem_cons.mp z with z | z
  ·exact nL b o q z
  ·exact nb z
 have nx:∀b:Addr,b∉X.ex:=fun b z=>by rw [L.ex] at z;cases z
 have ff:s2.heap.FunFrames (PySem.W.hideAll s2.heap (bu X.stack)) (X.env::X.outer):=by
  have z:=I1.stack
  rw [←L.d_]
  exact PySem.W.funFrames_hide z fun env he a hf=>List.mem_filterMap.mpr ⟨env,he,hf⟩
 refine wpAny_leaves_madeW (base:=PySem.W.hideAll s2.heap (bu X.stack)) (h:=s2.heap) (by rw [I1.ok.frames,L.d_]) L.fr (fun b o q=>PySem.W.of_hideAll _ q) ff mk fun h2 t fl _ _ up=>?_
 refine ⟨ea,C,H1,_,t,rfl,⟨I1.os,I1.bare,fl,fun a o e1=>?_,fun b o e1 n nb=>?_,fun b o e1 nb=>?_,fun b o e1 n hb=>?_,I1.ok.gU,fun b o e1 n=>?_,I1.base.dm,I1.base.cY,I1.base.dq⟩,q⟩
 ·refine (I1.aq a o e1).d8 (fun b u hb e2=>PySem.W.hideAll_get _ e2 fun z=>?_) (fun _ z=>z) fun _ _ z=>z
  have n0:=I1.mC b z
  rcases hb with hb | hb
  ·subst hb
   rw [e1] at n0
   cases n0
  ·rw [hb] at n0
   cases n0
 ·exact PySem.W.hideAll_get _ (I1.base.keep b o e1 n nb (nx b)) (ns b o e1 nb)
 ·obtain ⟨o',e2⟩:=I1.base.there b o e1 (nx b)
  exact ⟨o',PySem.W.hideAll_get _ e2 (ns b o e1 nb)⟩
 ·obtain ⟨l,e2⟩:=I1.base.slot b o e1 n hb (nx b)
  have iY:b∈bu X.stack:=by rw [L.d_,oT L.fr];exact List.mem_cons_of_mem _ hb
  obtain ⟨_,o2,e3,nf⟩:=I1.stack.mem iY
  rw [e2] at e3
  cases e3
  obtain ⟨l2,e4⟩:=up b _ (mk.keeps _ _ e2) nf
  exact ⟨l2,e4⟩
 ·obtain ⟨o',e2⟩:=I1.base.there b o e1 (nx b)
  exact I1.base.free b o e1 n (nx b)
end
section
variable {X:Cx} {k:Nat} {f C:Addr} {fd:FuncData} {ps:List Str} {sp:Sp} {fS:List V} {ds:List Value} {x m:Str} {p pos apos:Pos} {e o:Expr} {es:List Expr} {ta:TE} {t:TA}
variable {te:TX} {i:Nat} {pos':Pos}
end
section
variable {X:Cx} {pins:List (Addr×Obj)} {σ:St} {H:Hp} {s:Shared} {ea:Addr}
end
section
variable {M:Model} {A:Around} {E:Value→Shared→Prop} {h:Heap} {g:Array GenState} {d:Drawn} {t:Nat} {os:OsState} {e:Addr} {oe:Obj} {Q:Bool→Shared→Prop}
variable {nm q Mf q':Str} {C N D N':Addr} {bs bm Mg Mh:List Value} {hdct Mi:Bool} {sn Mj:List Str} {sub xq:List Value} {ab Mk:Bool} {col Ml:Option Bool} {dd hG:Option Addr} {k0 k1 k2 k3 k5 j0 j1 j2 j3 j5:Option Value} {newId Mm:String}
end
section
variable {X:Cx} {body:List Stmt} {b₀:Stmt} {Mn:List Stmt} {np Mo pos:Pos} {x n:Str} {D:Addr} {tb:Mp} {ts:TS} {kr:List Value} {newId:String} {i:Nat}
end
section
variable {P:Program} {w:World} {K:PySem.W.Frag} {mg:Str→Option Value} {base:Heap}
theorem aI.sS{x qual:Str}{st:Stmt}{f:Addr}{fd:FuncData}{N ps:List Str}{k:Nat}{sp:Sp}(F:aI K x qual st f fd)(S:bQ N ps (bg st))(len:∀vs H Q E,sp vs H Q E→vs.length=ps.length)
  (mL:∀(aJ:Value) (A:Around) (outer:List Env) (s:Shared) (H:Hp) (vs:List V) (Q:VK) (E:XK),cx k (A.deeper (envOfC qual (bg st) s.heap.objs.size f aJ))→sp vs H Q E→
   mR (hE (fY P w) P w K mg base N qual (bg st) f aJ A outer s H E) E→
   ∃t,dr (hE (fY P w) P w K mg base N qual (bg st) f aJ A outer s H E) (kq st) t∧t {nx:=fun _ H'=>Q .aG H',rt:=Q} (start N vs) H):bx P w K mg base (fY P w) (k+1) f fd ps sp:=by
 obtain ⟨oc,od,kV,doc,pm,an,aJ,ct,fU,rfl,lk,dH⟩:=F.ex
 exact wL lk dH S len fun A outer s H vs Q E hr fV=>mL aJ A outer s H vs Q E hr fV ⟨rfl,rfl,rfl,rfl⟩
end
structure i_ (K:PySem.W.Frag) (C:Addr):Prop where
 ci:PySem.W.hasDictIn K C=true
 ga:PySem.W.findIn K (.ref C) "__getattribute__" = some (some (.builtin "BaseException.__getattribute__"))
 gn:PySem.W.findIn K (.ref C) "__getattr__" = some none
 ca:PySem.W.findIn K (.ref C) "__class__" = some (some (.builtin "object.__class__"))
 mo:PySem.W.mroIn K C (.type "object")=some true
 mb:PySem.W.mroIn K C (.type "BaseException")=some true
section
variable {prog:Program} {w:World} {A:Around} {E:Value→Shared→Prop} {h:Heap} {g:Array GenState} {d:Drawn} {t:Nat} {os:OsState} {K:PySem.W.Frag} {a C:Addr} {o:Obj}
theorem DG{R:Result→Shared→Prop}(bP:K.In h)(c:i_ K C)(hx:h.get? a=some o)(hc:o.cls=.ref C)(hq:R (.ok (.ret (.ref C))) ⟨h,g,d,t,os⟩) :
  codeAny (model prog w) A (.call (.builtin "getset_descriptor.__get__") ⟨[.builtin "object.__class__",.ref a,.ref C],[]⟩) R ⟨h,g,d,t,os⟩:=by
 have xr:(⟨h,g,d,t,os⟩:Shared).TypeIs (.builtin "object.__class__") "getset_descriptor":=F.typeOf_object_class
 have L1:=PySem.W.looks_mroIn (M:=model prog w) bP c.mo
 have ow:=F.owner_object_class
 refine codeAny_call_builtin F.slot_gs_get.plain F.entry_gs_get (F.slot_gs_get.check _ _ _ _ _ _ _ _ xr (F.args_gs_get _ _ _) ?_)
 repeat (any_goals (first | assumption | (with_reducible refine wpAny_loadPart_at hx ?_;rw [hc]) | (rw [ow];with_reducible refine L1.at ?_) | wp_step))
 refine ⟨Code.quiet_builtin _ (by decide +kernel),codeAny_builtin F.entry_object_class ?_⟩
 repeat (any_goals (first | assumption | (with_reducible refine wpAny_loadPart_at hx ?_;rw [hc]) | wp_step))
theorem DH{tk:Tok}{Q:Fin→Shared→Prop}(bP:K.In h)(c:i_ K C)(hx:h.get? a=some o)(hc:o.cls=.ref C)(hq:Q (.done (.ret (.ref C))) ⟨h,g,d,t,os⟩) :
  wpAny (model prog w) A (Builtin.«object.__getattribute__» ⟨[.ref a,.str "__class__" tk],[]⟩) Q E ⟨h,g,d,t,os⟩:=by
 have xr:(⟨h,g,d,t,os⟩:Shared).TypeIs (.builtin "object.__class__") "getset_descriptor":=F.typeOf_object_class
 have L1:=PySem.W.looks_findIn (M:=model prog w) bP c.ca
 have f5:=F.typeOf_object_class
 have f6:=F.slot_gs_get.lookup
 have f7:=F.slot_gs_set.lookup
 repeat (any_goals (first | assumption | (with_reducible refine wpAny_loadPart_at hx ?_;rw [hc]) | with_reducible refine L1.at ?_ | wp_step))
 refine DG bP c hx hc ?_
 repeat (any_goals (first | assumption | wp_step))
theorem DI{M:Model}{nv:Value}{Q:Unit→Shared→Prop}(bP:K.In h)(c:i_ K C)(hx:h.get? a=some o)(hc:o.cls=.ref C)(hq:Q () ⟨h,g,d,t,os⟩) :
  wpAny M A (checkBuiltinCall "BaseException.__getattribute__" ⟨[.ref a,nv],[]⟩) Q E ⟨h,g,d,t,os⟩:=by
 have hk:builtinKind "BaseException.__getattribute__" = some .slot:=by decide +kernel
 have hs:splitId "BaseException.__getattribute__" = some ("BaseException","__getattribute__"):=by decide +kernel
 have L1:=PySem.W.looks_mroIn (M:=M) bP c.mb
 have ha:=F.args_bexc_ga (.ref a) nv
 simp only [checkBuiltinCall,hk,hs]
 refine wpAny_bind ?_
 unfold isInstance
 repeat (first | (with_reducible refine wpAny_loadPart_at hx ?_;rw [hc]) | with_reducible refine L1.at ?_ | wp_step)
 exact hq
theorem DJ{tk:Tok}{fill expr:Bool}{Q:Value→Shared→Prop}(bP:K.In h)(c:i_ K C)(hx:h.get? a=some o)(hc:o.cls=.ref C)(hq:Q (.ref C) ⟨h,g,d,t,os⟩) :
  wpAny (model prog w) A (getAttrBy (.ref a) (.str "__class__" tk) fill expr) Q E ⟨h,g,d,t,os⟩:=by
 have f3:=F.attrBase_ValueError.ga.bind (.ref a)
 have z0:(expr && onTheHeap (Value.builtin "BaseException.__getattribute__"))=false:=by cases expr <;> rfl
 have z2:(Value.builtin "BaseException.__getattribute__" == Value.builtin "object.__getattribute__")=false:=by decide +kernel
 have z1:(onTheHeap (Value.ref C) && Value.builtin "BaseException.__getattribute__" == Value.builtin "object.__getattribute__")=false:=by rw [z2];rfl
 have L1:=PySem.W.looks_findIn (M:=model prog w) bP c.ga
 have L2:=PySem.W.looks_findIn (M:=model prog w) bP c.gn
 repeat (any_goals (first | assumption | (with_reducible refine wpAny_loadPart_at hx ?_;rw [hc]) | with_reducible refine L1.at ?_ | with_reducible refine L2.at ?_ | wp_step))
 refine codeAny_call_builtin F.attrBase_ValueError.ga.plain F.entry_bexc_ga (DI bP c hx hc (DH bP c hx hc ?_))
 repeat (any_goals (first | assumption | wp_step))
theorem DK{Q:Option Value→Shared→Prop}(bP:K.In h)(c:i_ K C)(hx:h.get? a=some o)(hc:o.cls=.ref C)(hq:Q (some (.ref C)) ⟨h,g,d,t+1,os⟩) :
  wpAny (model prog w) A (getAttr? (.ref a) "__class__") Q E ⟨h,g,d,t,os⟩:=by
 unfold getAttr? getAttrBy?
 repeat (any_goals (first | assumption | with_reducible apply DJ bP c hx hc | wp_step))
theorem DL(c:i_ K C):PySem.W.KitX K (.ref a) (.ref C) (ExcAt a C) where
 ty:=fun M h _ k=>by
  obtain ⟨oe,e1,e2,_⟩:=k
  exact e2▸(PySem.W.Looks.ld e1).andThen .now
 it:=fun M h bP _=>by
  obtain ⟨cd,hc,_⟩:=PySem.W.any_some c.ci
  unfold PySem.W.clsIn at hc
  split at hc
  ·rename_i look
   intro A' Q' E' s' k q
   unfold isType loadHead
   exact wpAny_bind (wpAny_loadPart (k _ _ (bP _ _ look)) (wpAny_pure q))
  ·cases hc
 ne:=fun h tp dd aa n sl bP DM=>by
  obtain ⟨cd,hc,_⟩:=PySem.W.any_some c.ci
  refine Bool.eq_false_iff.mpr fun q=>?_
  have e:C=tp:=Value.ref.inj (beq_iff_eq.mp q)
  subst e
  unfold PySem.W.clsIn at hc
  split at hc
  ·rename_i look
   have z:=(bP _ _ look).symm.trans DM
   cases z
  ·cases hc
 ca:=fun{prog w A E Q s} bP k z=>by
  obtain ⟨oe,e1,e2,_⟩:=k
  obtain ⟨h,g,d,t,os⟩:=s
  exact DK bP c e1 e2 z
end
def dO(a:Addr)(h:Heap):Prop:=∃o ep,h.get? a=some o∧o.ExactDict∧o.data=.dict #[] ep∧(a == sysModules)=false
theorem dO.sU{a:Addr}{h:Heap}(e:dO a h):PySem.W.KitAt a "dict" h:=by
 obtain ⟨o,_,e,c,_⟩:=e
 exact ⟨o,e,c.1⟩
def sV(a:Addr):HO:=.ext (dO a)
inductive mS (K:PySem.W.Frag) (H:Hp):V→Value→Prop where
 | of {x:V} {t:Value} (h:en K H x t):mS K H x t
 | exc {a C:Addr} (e:H a=some (Dx a C)) (c:i_ K C):mS K H (.ref a) (.ref C)
 | ku {a:Addr} (e:H a=some (sV a)):mS K H (.ref a) (.type "dict")
def xt:V→Value
 | .ty n=>.type n
 | .ref a=>.ref a
 | _=>.none
def DN:V→Bool
 | .ty _=>true
 | .ref _=>true
 | _=>false
def DO(K:PySem.W.Frag):List V→Hp→VK→Prop:=fun xs H Q=>∃x c t b,xs=[x,c]∧DN c=true∧mS K H x t∧PySem.W.kitOne K t (xt c)=some b∧Q (.bl b) H
theorem ja{X:Cx}{K:PySem.W.Frag}(hK:X.K=K:=by rfl):ei X (.builtin "isinstance") (DO K):=by
 intro pins s σ H xs us Q I r h
 subst hK
 obtain ⟨x,c,t,b,rfl,hc,ty,e,q⟩:=h
 obtain ⟨u,cv,rfl,rx,rc⟩:=vals2 r
 have ec:cv=xt c:=by
  cases c with
  | ty n=>exact rc
  | ref a=>exact rc
  | _=>cases hc
 subst ec
 cases ty with
 | of ty=>exact B6 I rx ty e fun tk=>⟨.bl b,H,I.tok tk,rfl,q⟩
 | @ku a ea=>
  cases rx
  obtain ⟨k,_,_⟩:=(show a7 X.prog X.w H s.heap a (.ext (dO a)) from I.aq a _ ea)
  exact PySem.W.kia_one PySem.W.kitx_dict I.cJ k.sU e (fun z=>nomatch z) fun tk=>⟨.bl b,H,I.tok tk,rfl,q⟩
 | @exc a C ea cc=>
  cases rx
  obtain ⟨k,_,_⟩:=(show a7 X.prog X.w H s.heap a (.ext (ExcAt a C)) from I.aq a _ ea)
  exact PySem.W.kia_one (DL cc) I.cJ k e (fun z=>nomatch z) fun tk=>⟨.bl b,H,I.tok tk,rfl,q⟩
theorem boot_isinstance:bootBuiltins "isinstance" = some (.builtin "isinstance"):=by decide +kernel
theorem boot_min:bootBuiltins "min" = some (.builtin "min"):=by decide +kernel
theorem boot_max:bootBuiltins "max" = some (.builtin "max"):=by decide +kernel
theorem boot_int:bootBuiltins "int" = some (.type "int"):=by decide +kernel
theorem boot_bool:bootBuiltins "bool" = some (.type "bool"):=by decide +kernel
theorem boot_tuple:bootBuiltins "tuple" = some (.type "tuple"):=by decide +kernel
theorem boot_list:bootBuiltins "list" = some (.type "list"):=by decide +kernel
end L2
namespace My
open PySem L2
end My
namespace L2
open PySem PySem.Spec PyProof.Rows
abbrev Cx.aY (X:Cx) (N:List Str) (scope:Scope) (cl:List (Str×Addr)) (s₃:Shared) (H₃:Hp) (fp:List Addr):Cx:=
 {X with N:=N,s₀:=s₃,H₀:=H₃,env:=compEnvC scope cl s₃.heap.objs.size X.env,outer:=X.stack,stack:=X.stack,ex:=fp,fn:=fun _=>false,pn:=[],xe:=fun _ _=>False}
inductive hJ (X:Cx):List Expr→TT→Prop where
 | nil:hJ X [] (fun _ H Q=>Q true H)
 | one {c:Expr} {t:TT} (h:PT X c t):hJ X [c] t
def fq(wi:TI)(ρ:St→St)(tt:TT)(te:TE):TE:=fun σ H Q=>wi σ H fun J H1=>∀D,H1 D=none→∃W:Nat→Nat→List V→Hp→Prop,(∃m,W 0 m [] (upd H1 D (.lst []))) ∧
 ∀i m ys Hc,W i m ys Hc→Hc D=some (.lst ys)∧((J.stop i Hc∧Q (.ref D) Hc)∨(J.go i Hc∧∀x H',J.cn i Hc x H'→tt (some x::ρ σ) H' fun b H2=>
  if b=true then te (some x::ρ σ) H2 fun y H3=>H3 D=some (.lst ys)∧ys.length<sizeLine∧∃m',m'<m∧W (i+1) m' (ys++[y]) (upd H3 D (.lst (ys++[y]))) else ∃m',m'<m∧W (i+1) m' ys H2))
section
variable {X:Cx} {N:List Str} {scope:Scope} {cl:List (Str×Addr)} {x:Str} {px pos:Pos} {iter elt:Expr} {ifs:List Expr} {wi:TI} {ρ:St→St} {tt:TT} {te:TE}
structure xu (X:Cx) (N:List Str) (scope:Scope) (cl:List (Str×Addr)) (x:Str) (ρ:St→St):Prop where
 oU:closureFor scope X.env=pure cl
 kind:scope.kind=.function
 oV:∀y∈scope.names,y.2≠.cell
 names:∀y∈scope.names,y.2=.local→scope.names.lookup y.1=some .local
 sub:∀p∈cl,X.env.cells.lookup p.1=some p.2
 has:∀y,((relabel scope X.env).names.lookup y=some .cell∨(relabel scope X.env).names.lookup y=some .free)→∃c,cl.lookup y=some c
 n0:N[0]?=some x
 nd:N.Nodup
 hx:scope.names.lookup x=some .local
 oW:∀(σ:St) (j:Nat) (v:V),(ρ σ)[j]?=some (some v)→∃(i:Nat) (y:Str),N[j+1]?=some y∧X.N[i]?=some y∧σ[i]?=some (some v)∧my X.env.scope y∧(X.env.kindOf y=some .cell∨X.env.kindOf y=some .free)∧((relabel scope X.env).names.lookup y=some .cell∨(relabel scope X.env).names.lookup y=some .free)
 len:∀σ:St,σ.length=X.N.length→(ρ σ).length+1=N.length
theorem eS{names:List (Str×NameKind)}{cl:List (Str×Addr)}(h:(names.all fun q=>(q.2 != .cell && q.2 != .free) || (cl.lookup q.1).isSome)=true) :
  ∀y,(names.lookup y=some .cell∨names.lookup y=some .free)→∃c,cl.lookup y=some c:=fun y hy=>by
 have key:∀k:NameKind,(k != .cell && k != .free)=false→names.lookup y=some k→∃c,cl.lookup y=some c:=fun k hk e=>by
  have z:=List.all_eq_true.mp h (y,k) (PySem.mem_of_lookup e)
  rw [hk,Bool.false_or] at z
  exact Option.isSome_iff_exists.mp z
 rcases hy with e | e
 ·exact key .cell rfl e
 ·exact key .free rfl e
theorem join_some{o:Option (Option V)}{v:V}(h:some o.join=some (some v)):o=some (some v):=by
 cases o with
 | none=>cases h
 | some o=>cases h;rfl
theorem jb(B:xu X N scope cl x ρ)(hc:X.calm=true)(hi:PI X (.Name x px) iter wi)(ht:∀s₃ H₃ fp,hJ (X.aY N scope cl s₃ H₃ fp) ifs tt)(he:∀s₃ H₃ fp,PE (X.aY N scope cl s₃ H₃ fp) elt te)
  (hs:∀x,foldedSetIterable iter X.env x=pure x:=by intro _;rfl):PE X (.ListComp elt [⟨.Name x px,iter,ifs,0⟩] scope pos) (fq wi ρ tt te):=by
 intro pins s σ H Q I h
 rw [eval_ListComp]
 refine wpAny_comprehension_free (use:=none) rfl hs B.oU B.kind B.names (aw (hi pins s σ H _ I h) fun v s1 h1=>aw h1 fun mG s2 h2=>?_)
 obtain ⟨it,fp,tn,J,H2,rfl,I2,T,eh,f2,q2⟩:=h2
 have nD:H2 s2.heap.objs.size=none:=I2.aq.fresh (Nat.le_refl _)
 obtain ⟨W,⟨m0,w0⟩,turn⟩:=q2 _ nD
 refine wpAny_newObj_type (wpAny_newFunctionEnv B.oV (by intro y hy;simp at hy) (fun h₁ dP dQ=>?_) B.kind)
 dsimp only at dP dQ ⊢
 generalize hD:s2.heap.objs.size=D at nD w0 turn dP dQ ⊢
 generalize ft:({s2 with heap:=s2.heap.push {cls:=.type "list",dict:=none,data:=.seq ([]:List Value).toArray}}:Shared)=s3
 have I3:Inv X pins σ (upd H2 D (.lst [])) s3:=by
  subst hD ft
  exact I2.laid (t':=s2.toks) (fun b u e=>Heap.get?_push_of_some _ e) (Nat.le_refl _) ⟨Nat.zero_le _,[],_,.nil,Heap.get?_push_size _ rfl⟩
 have e3:s3.heap=s2.heap.push {cls:=.type "list",dict:=none,data:=.seq ([]:List Value).toArray}:=by rw [←ft]
 have dR:∀b o,s2.heap.get? b=some o→s3.heap.get? b=some o:=fun b o e=>by rw [e3];exact Heap.get?_push_of_some _ e
 rw [←e3] at dP dQ ⊢
 have below:∀b o,s3.heap.get? b=some o→b≠s3.heap.objs.size:=fun b o e=>Nat.ne_of_lt (Heap.lt_size e)
 have cz:∀b o,s3.heap.get? b=some o→h₁.get? b=some o:=fun b o e=>dQ.extBut b o (below b o e) (Heap.get?_push_of_some _ e)
 have fu:∀b∈fp,∃o,s2.heap.get? b=some o∧∀v,o.data≠.cell v:=T.obj _ _ eh
 have mT:∀b∈fp,b≠D:=fun b hb z=>by
  obtain ⟨o,e,_⟩:=fu b hb
  rw [z,←hD] at e
  exact absurd (Heap.lt_size e) (Nat.lt_irrefl _)
 have b8:∀y c,cl.lookup y=some c→X.env.cells.lookup y=some c:=fun y c e=>B.sub (y,c) (PySem.mem_of_lookup e)
 have mU:=I3.mC
 have hV:(X.aY N scope cl s3 (upd H2 D (.lst [])) fp).Ok:=by
  refine ⟨I.ok.mod,B.kind,I.ok.glob,I.ok.blt,Nat.le_refl _,fun a b c e1 e2=>I.ok.inj a b c (b8 a c e1) (b8 b c e2),fun y hy=>B.has y hy,(fun _ _ z _=>absurd z Bool.false_ne_true),(fun _=>I.ok.hd hc),I.ok.frames,.inl rfl,fun b hb=>⟨?_,fun y c e z=>?_⟩,fun b o e=>?_,Nat.le_trans I.ok.eN I3.sz,fun b o e hb=>?_,fun b hb z=>?_,I3.stack,mU⟩
  ·obtain ⟨o,e,_⟩:=fu b hb
   exact below b o (dR b o e)
  ·exact (f2 b hb).2.2.2.2.1 y c (b8 y c e) z
  ·exact I3.bs b o e
  ·rcases (f2 b hb).2.2.2.1 with z | z
   ·exact I.ok.iM b o e z
   ·exact absurd (Nat.lt_of_lt_of_le (Heap.lt_size e) (Nat.le_trans I.ok.eN z)) (Nat.lt_irrefl _)
  ·rcases List.mem_cons.mp (I3.mB b z) with z | z
   ·exact (f2 b hb).2.1 z
   ·exact (f2 b hb).2.2.1 z
 have IB:∀tk:Nat,Inv (X.aY N scope cl s3 (upd H2 D (.lst [])) fp) [] (none::ρ σ) (upd H2 D (.lst [])) {s3 with heap:=h₁,toks:=tk}:=fun tk=>by
  refine ⟨hV,rfl,I3.bare,Un.kept cz,⟨_,dP,fun j y v e1 e2 e3=>?_⟩,fun y c e=>?_,?_,fun y c e=>I3.eO y c (b8 y c e),(fun p hp=>nomatch hp),I3.aq.kept cz,?_⟩
  ·cases j with
   | zero=>cases e2
   | succ j=>
    obtain ⟨i,y',a1,a2,a3,a4,a5,a6⟩:=B.oW σ j v e2
    have jc:N[j+1]?=some y:=e1
    rw [jc] at a1
    cases a1
    obtain ⟨m,hn,hl⟩:=I3.loc
    obtain ⟨u,r,l⟩:=hl i y v a2 a3 a4
    refine ⟨u,r,.inr ⟨a6,?_⟩⟩
    obtain ⟨c,ec⟩:=B.has y a6
    rcases l with ⟨k,_⟩ | ⟨_,c',hW,z⟩
    ·rcases a5 with q | q <;> (rw [k] at q;cases q)
    ·have:=b8 y c ec
     rw [this] at hW
     cases hW
     obtain ⟨o,ho,hd⟩:=z
     exact ⟨c,ec,o,cz _ _ ho,hd⟩
  ·obtain ⟨v,o,ho,hd⟩:=I3.cell y c (b8 y c e)
   exact ⟨v,o,cz _ _ ho,hd⟩
  ·exact I3.aq.fresh (Nat.le_refl _)
  ·show (none::ρ σ).length=N.length
   rw [List.length_cons]
   exact B.len σ I.len
 have fin:∀{σ':St} {H':Hp} {s':Shared},Inv (X.aY N scope cl s3 (upd H2 D (.lst [])) fp) [] σ' H' s'→Q (.ref D) H'→compPost (model X.prog X.w) X.A X.xe none (EP X pins σ Q) (.ref D) s3.heap.objs.size (.ok .next) s':=fun{σ' H' s'} J q=>by
  obtain ⟨m,hn,_⟩:=J.loc
  refine ⟨m,hn,fun h' dS=>⟨.ref D,H',?_,rfl,q⟩⟩
  have old:∀b o,s3.heap.get? b=some o→b≠s3.heap.objs.size:=below
  have u1:Un (bu X.stack) fp (upd H2 D (.lst [])) H' s3.heap h':=by
   refine ⟨fun b o e n hb hx=>?_,fun b o e n hb hx=>?_,J.base.free,fun b o e hx=>?_,J.base.dm,J.base.cY,J.base.dq⟩
   ·exact (dS.2 b (old b o e)).trans (J.base.keep b o e n hb hx)
   ·obtain ⟨sl,z⟩:=J.base.slot b o e n hb hx
    exact ⟨sl,(dS.2 b (old b o e)).trans z⟩
   ·obtain ⟨o',z⟩:=J.base.there b o e hx
    exact ⟨o',(dS.2 b (old b o e)).trans z⟩
  have mV:a9 X.prog X.w H' h':=fun b u e=>by
   refine (J.aq b u e).d8 (fun c v hc z=>(dS.2 c fun y=>?_).trans z) (fun _ z=>z) fun _ _ z=>z
   have fr:=J.free
   have y':c=s3.heap.objs.size:=y
   rcases hc with hc | hc
   ·rw [←hc,y'] at e
    exact absurd (fr.symm.trans e) (by simp)
   ·rw [y'] at hc
    exact absurd (fr.symm.trans hc) (by simp)
  refine I3.gW (s':={s' with heap:=h'}) (ch:=fp) (J.os) u1 mV J.bare fun b hb=>?_
  obtain ⟨g0,g1,g2,g3,g4,g5⟩:=f2 b hb
  exact ⟨g3,g1,g4,g5⟩
 have du:∀{H':Hp},(∀b∈fp,H' b=none)→∀b∈fp,gv (X.aY N scope cl s3 (upd H2 D (.lst [])) fp) [] H' b:=fun hn b hb=>by
  refine ⟨hn b hb,?_,?_,.inl hb,fun y c e z=>(f2 b hb).2.2.2.2.1 y c (b8 y c e) z,fun p hp=>nomatch hp⟩
  ·obtain ⟨o,e,_⟩:=fu b hb
   exact below b o (dR b o e)
  ·exact hV.iO b hb
 have loop:∀tk:Nat,codeAny (model X.prog X.w) X.A (.compLoop (.ListComp elt [⟨.Name x px,iter,ifs,0⟩] scope pos) 0 (.ref it) (.ref D) (compEnvC scope cl s3.heap.objs.size X.env))
   (compPost (model X.prog X.w) X.A X.xe none (EP X pins σ Q) (.ref D) s3.heap.objs.size) {s3 with heap:=h₁,toks:=tk}:=fun tk=>by
  refine codeAny_compLoop_tests (fun n s'=>∃i ys o H',Inv (X.aY N scope cl s3 (upd H2 D (.lst [])) fp) [] (o::ρ σ) H' s'∧tn i s'.heap∧(∀b∈fp,H' b=none)∧W i n ys H') ?_ m0
   ⟨0,[],none,_,IB tk,T.keep _ _ _ eh fun b hb o e=>cz _ _ (dR _ _ e),fun b hb=>by rw [aA (mT b hb)];exact (f2 b hb).1,w0⟩
  rintro n s4 ⟨i,ys,o,H4,I4,hZ,h8,w4⟩
  obtain ⟨xv,mW⟩:=turn i n ys H4 w4
  rcases mW with ⟨stop,qn⟩ | ⟨go,step⟩
  ·refine wpAny_mono (T.done (X.aY N scope cl s3 (upd H2 D (.lst [])) fp) rfl rfl rfl hc i [] s4 _ H4 (fun _ _=>False) I4 (du h8) hZ stop) (fun r s5 ⟨hr,I5⟩=>?_) fun _ _ z=>z.elim
   subst hr
   exact fin I5 qn
  ·refine wpAny_mono (T.item (X.aY N scope cl s3 (upd H2 D (.lst [])) fp) rfl rfl rfl hc i [] s4 _ H4 (fun _ _=>False) I4 (du h8) hZ go) (fun r s5 ⟨u,hr,h5⟩=>?_) fun _ _ z=>z.elim
   subst hr
   have z:letOwnedTupleGo (.Name x px) (.ref it) u=pure ():=rfl
   rw [z] at h5
   show wpAny _ _ ((pure ():Sem Unit) >>= fun _=>assign (.Name x px) (compEnvC scope cl s3.heap.objs.size X.env) u) _ _ s5
   refine wpAny_bind (wpAny_mono h5 (fun _ s5 ⟨y,H5,I5,r5,y5,dv,iZ⟩=>?_) fun _ _ z=>z.elim)
   have i3:=I5.pinned (du iZ) (T.obj _ _ dv)
   have pg:PG (X.aY N scope cl s3 (upd H2 D (.lst [])) fp) (.Name x px) (aT 0):=bS (i:=0) B.nd B.n0 (.inl (lookup_relabel_local B.hx)) (.inr (lookup_relabel_local B.hx))
   have again:∀{σ7:St} {H7:Hp} {s7:Shared},Inv (X.aY N scope cl s3 (upd H2 D (.lst [])) fp) ([]++fP fp s5.heap) σ7 H7 s7→Inv (X.aY N scope cl s3 (upd H2 D (.lst [])) fp) [] σ7 H7 s7∧tn (i+1) s7.heap∧∀b∈fp,H7 b=none:=fun{σ7 H7 s7} I7=>by
    refine ⟨I7.kd,T.keep _ _ _ dv fun b hb o e=>(I7.pin (b,o) (List.mem_append_right _ (List.mem_append_right _ (g8 hb e)))).1,fun b hb=>?_⟩
    obtain ⟨o,e,d⟩:=T.obj _ _ dv b hb
    exact (I7.pin (b,o) (List.mem_append_right _ (List.mem_append_right _ (g8 hb e)))).2.1
   refine wpAny_mono (pg _ s5 _ H5 y u (fun σ2 H6=>σ2=some y::ρ σ∧H6=H5) i3 r5 ⟨rfl,rfl⟩) (fun _ s6 ⟨σ6,H6,I6,q6⟩=>?_) fun _ _ z=>z.elim
   obtain ⟨rfl,rfl⟩:=q6
   have mX:=step y _ y5
   have tests:∀{fv:TT},hJ (X.aY N scope cl s3 (upd H2 D (.lst [])) fp) ifs fv→∀{R:Bool→Hp→Prop},fv (some y::ρ σ) H6 R→wpAny (model X.prog X.w) X.A
     (forIn ifs true fun c r=>if r=true then do let ok ←isTrue c (compEnvC scope cl s3.heap.objs.size X.env) (eval c (compEnvC scope cl s3.heap.objs.size X.env));pure (ForInStep.yield ok) else pure (ForInStep.yield r))
     (fun ok s7=>∃H7,Inv (X.aY N scope cl s3 (upd H2 D (.lst [])) fp) ([]++fP fp s5.heap) (some y::ρ σ) H7 s7∧R ok H7) (fun _ _=>False) s6:=fun{fv} p {R} hR=>by
    cases p with
    | nil=>exact wpAny_tests_nil ⟨_,I6,hR⟩
    | one p=>exact wpAny_tests_one (p _ s6 _ _ _ I6 hR)
   refine wpAny_mono (tests (ht s3 _ fp) mX) (fun ok s7 ⟨H7,I7,q7⟩=>?_) fun _ _ z=>z.elim
   cases ok with
   | false=>
    obtain ⟨m',da,w7⟩:=q7
    obtain ⟨a1,a2,a3⟩:=again I7
    exact ⟨m',da,i+1,ys,_,H7,a1,a2,a3,w7⟩
   | true=>
    refine wpAny_mono (he s3 _ fp _ s7 _ H7 _ I7 q7) (fun ev s8 ⟨z,H8,I8,r8,mY,hz,m',da,w8⟩=>?_) fun _ _ z=>z.elim
    refine wpAny_mono (dM (X:=X.aY N scope cl s3 (upd H2 D (.lst [])) fp) _ s8 _ H8 (.ref D) [z] (.ref D) [ev] (fun _ H9=>H9=upd H8 D (.lst (ys++[z]))) I8 rfl (.cons r8 .nil) ⟨D,ys,z,rfl,rfl,mY,hz,rfl⟩) (fun _ s9 ⟨_,H9,I9,_,q9⟩=>?_) fun _ _ z=>z.elim
    subst q9
    obtain ⟨a1,a2,a3⟩:=again I9
    exact ⟨m',da,i+1,ys++[z],_,_,a1,a2,a3,w8⟩
 have start:=loop (s3.toks+([]:List (Str×Value)).length)
 have es:({s3 with heap:=h₁,toks:=s3.toks+([]:List (Str×Value)).length}:Shared)={s2 with heap:=h₁,toks:=s2.toks+([]:List (Str×Value)).length}:=by rw [←ft]
 rw [es] at start
 exact codeAny_compStart_list start (T.self _ 0 _ _ _ (T.keep _ _ _ eh fun b hb o e=>cz _ _ (dR _ _ e)) start)
end
def de(i:Int):Prop:=i.natAbs<2 ^ 2048
theorem de.log{i:Int}(h:de i):i.natAbs.log2<2048:=by
 by_cases z:i.natAbs=0
 ·rw [z];decide
 ·exact (Nat.log2_lt z).mpr h
theorem xw:∀{xs:List V} {us:List Value},xs.length=us.length→(∀(i:Nat) (x:V) (u:Value),xs[i]?=some x→us[i]?=some u→RelV x u)→Vals xs us
 | [],[],_,_=>.nil
 | [],_::_,h,_=>by simp at h
 | _::_,[],h,_=>by simp at h
 | x::xs,u::us,h,k=>.cons (k 0 x u rfl rfl) (xw (by simpa using h) fun i a b h1 h2=>k (i+1) a b (by simpa using h1) (by simpa using h2))
section
variable {X:Cx}
def DP(i j:Int):Prop:=0<j∧de j
theorem DQ:bI X (binaryOp .FloorDiv) (rI DP fun i j=>.int (i / j)):=ot fun i j _ _ _ _ _ hc q=>
 floordiv_int (Int.ne_of_gt hc.1) (by rw [Int.fdiv_eq_ediv_of_nonneg i (Int.le_of_lt hc.1)];exact q) (.inl (PyProof.noPylong_of_log2 (Nat.lt_of_lt_of_le hc.2.log (by decide))))
def allR(K:PySem.W.Frag):List V→Hp→VK→Prop:=fun xs H Q=>∃(p:Addr) (bs:List Bool),xs=[.ref p]∧aX K H p (bs.map V.bl)∧Q (.bl (bs.all id)) H
theorem sW{K:PySem.W.Frag}(hc:X.calm=true)(hK:X.K=K:=by rfl):ei X (.builtin "all") (allR K):=by
 intro pins s σ H xs us Q I r h
 subst hK
 obtain ⟨p,bs,rfl,hq,q⟩:=h
 obtain ⟨u,rfl,ru⟩:=vals1 r
 cases ru
 obtain ⟨aa,rv,pl,hz⟩:=I.list hq
 have sX:p≠s.heap.objs.size:=by
  obtain ⟨o,e,_⟩:=pl.isList
  exact Nat.ne_of_lt (Heap.lt_size e)
 have hl:aa.length=bs.length:=by rw [←rv.length,List.length_map]
 refine call_all_walk (wpAny_pyIter_list pl.isList ?_)
 refine ⟨s.heap.objs.size,_,_,_,_,_,fun i=>bs.getD i true,rfl,Walks.list (A:=X.A.in1) (show X.A.in1.handled=none from I.ok.hd hc) s.heap.objs.size p sX aa.toArray,⟨⟨_,Heap.get?_push_size _ rfl,rfl,rfl⟩,pl.isList.push _⟩,fun i v s' Q' E' hv oX=>?_,fun h' tk hk=>?_⟩
 ·have oY:aa[i]?=some v:=by simpa using hv
  cases eb:bs[i]? with
  | none=>
   have:=rv.none_of (i:=i) (by rw [List.getElem?_map,eb];rfl)
   rw [this] at oY
   cases oY
  | some b=>
   obtain ⟨u,hu,ru⟩:=rv.get (i:=i) (x:=V.bl b) (by rw [List.getElem?_map,eb];rfl)
   rw [hu] at oY
   cases oY
   cases ru
   have e:bs.getD i true=b:=by rw [List.getD_eq_getElem?_getD,eb];rfl
   have gD:Q' (bs.getD i true) s':=oX
   rw [e] at gD
   exact wpAny_truthy_bool gD
 ·refine ⟨.bl (bs.all id),H,I.kept fun b o e=>hk b o (fun z=>?_) (Heap.get?_push_of_some _ e),?_,q⟩
  ·exact absurd (Heap.lt_size e) (by rw [List.mem_singleton.mp z];exact Nat.lt_irrefl _)
  ·show Value.bool _=Value.bool _
   congr 1
   rw [List.size_toArray,hl]
   clear hk q rv pl hz hl hq
   induction bs with
   | nil=>rfl
   | cons b bs ih=>
    rw [List.length_cons,List.range_succ_eq_map,List.all_cons,List.all_map,List.all_cons]
    show (b && (List.range bs.length).all fun i=>bs.getD i true)=(b && bs.all id)
    rw [ih]
def DR:List V→Hp→VK→Prop:=fun xs H Q=>∃j:Int,xs=[.int j]∧∀p,H p=none→Q (.ref p) (upd H p (.d7 0 j))
theorem sY:ei X (.type "range") DR:=by
 intro pins s σ H xs us Q I r h
 obtain ⟨j,rfl,q⟩:=h
 obtain ⟨u,rfl,ru⟩:=vals1 r
 obtain ⟨t,rfl⟩:=ru
 refine call_range_1 ⟨.ref s.heap.objs.size,_,I.laid (o:=.d7 0 j) (fun b o e=>Heap.get?_push_of_some _ e) (Nat.le_refl _) ⟨_,_,_,Heap.get?_push_size _ rfl⟩,rfl,q _ (I.aq.fresh (Nat.le_refl _))⟩
def bW(n:Nat):List V:=(List.range n).map fun i:Nat=>V.int (i:Int)
def DS:List V→Hp→VK→Prop:=fun xs H Q=>∃p n,xs=[.ref p]∧H p=some (.d7 0 (n:Nat))∧n≤10000∧∀l,H l=none→Q (.ref l) (upd H l (.lst (bW n)))
theorem sZ(hc:X.calm=true):ei X (.type "list") DS:=by
 intro pins s σ H xs us Q I r h
 obtain ⟨p,n,rfl,hp,hn,q⟩:=h
 obtain ⟨u,rfl,ru⟩:=vals1 r
 cases ru
 obtain ⟨t,u,v,e⟩:=(show a7 X.prog X.w H s.heap p (.d7 0 n) from I.aq p _ hp)
 refine call_list_range (n:=n) (I.ok.hd hc) e (small_one (by omega) (by omega) (by omega) (by omega)) (by rw [rangeSize_one];split <;> omega) (by omega) fun h' tk acc c hk hD hit=>?_
 refine ⟨.ref s.heap.objs.size,_,I.laid (o:=.lst (bW n)) (fun b o e=>hk b o e) (Nat.le_refl _) ⟨?_,acc.toList,c,?_,?_⟩,rfl,q _ (I.aq.fresh (Nat.le_refl _))⟩
 ·unfold bW
  rw [List.length_map,List.length_range]
  exact Nat.le_trans hn (by decide)
 ·refine xw ?_ fun i x u h1 h2=>?_
  ·unfold bW
   rw [List.length_map,List.length_range,Array.length_toList,hit.1]
  ·have xx:acc[i]?=some u:=by simpa using h2
   obtain ⟨DT,e'⟩:=hit.2 i u xx
   unfold bW at h1
   rw [List.getElem?_map] at h1
   have hi:i<n:=by
    have z:=(Array.getElem?_eq_some_iff.mp xx).1
    rw [hit.1] at z
    exact z
   rw [List.getElem?_range hi] at h1
   cases h1
   exact ⟨DT,by rw [e'];simp⟩
 ·rw [hD]
end
theorem boot_all:bootBuiltins "all" = some (.builtin "all"):=by decide +kernel
theorem s_:bootBuiltins "range" = some (.type "range"):=by decide +kernel
def xy:Expr→Bool
 | .Starred _ _=>false
 | _=>true
theorem DU{e:Expr}{es:List Expr}{env:Env}(h:xy e=true):starEach (e::es) env=(false,eval e env)::starEach es env:=by
 cases e <;> first | rfl | cases h
theorem ae{X:Cx}{e:Expr}{es:List Expr}{te:TE}{t:TA}(hs:xy e=true)(ha:PE X e te)(hr:PA X es t):PA X (e::es) (rZ te t):=
 B7 ha hr (DU hs)
theorem ba{X:Cx}{pos:Pos}{i:Nat}{x:Str}{e:Expr}{te:TE}{pos':Pos}(hs:swapsWith e (some (.Name x pos')) pos.line X.env=pure false)(hf:X.fn x=true∨X.env.scope.names.lookup x=some .local)(hN:X.N.Nodup)(hi:X.N[i]?=some x)(hx:Loc X.env.scope x)(he:PE X e te) :
  PS X (.Assign [.Name x pos'] e pos) (mF te (aT i)):=BH hN hi hx he hs hf
end L2
namespace My
open PySem L2
theorem xA(a b:Int):decide (V.int a=V.int b)=decide (a=b):=by
 by_cases h:a=b
 ·subst h;simp
 ·rw [decide_eq_false h];exact decide_eq_false fun e=>h (V.int.inj e)
theorem mZ{K:PySem.W.Frag}{T:String}:PySem.W.kitOne K (.type T) (.type T)=some true:=by
 unfold PySem.W.kitOne
 rw [if_pos (beq_self_eq_true _)]
theorem aU{H:Hp}{p:Addr}{o:HO}(h:H p=none):aj H (upd H p o):=fun b u e=>by
 rw [aA (eL e h)]
 exact e
theorem xB{α:Type}{xs:List α}{i:Int}(h0:0≤i)(h1:i<xs.length):∃v,eA xs i=some v∧v∈xs:=by
 obtain ⟨k,rfl⟩:∃k:Nat,i=(k:Int):=⟨i.toNat,by omega⟩
 have hk:k<xs.length:=by omega
 exact ⟨xs[k],i6 (by simp [hk]),List.getElem_mem _⟩
inductive Any (H:Hp):V→Prop where
 | aG:Any H .aG
 | bl (b:Bool):Any H (.bl b)
 | int (i:Int):Any H (.int i)
 | str (x:Str):Any H (.str x)
 | lst {a:Addr} {xs:List V} (e:H a=some (.lst xs)):Any H (.ref a)
 | tup {a:Addr} {xs:List V} (e:H a=some (.tup xs)):Any H (.ref a)
 | ku {a:Addr} (e:H a=some (sV a)):Any H (.ref a)
def ky:V→Bool
 | .int _=>true
 | _=>false
def kA:V→Bool
 | .bl _=>true
 | _=>false
def oZ(H:Hp):V→Bool
 | .ref a=>(match H a with | some (.tup _)=>true | _=>false)
 | _=>false
theorem Any.sU{K:PySem.W.Frag}{H:Hp}{v:V}(h:Any H v):∃T:String,mS K H v (.type T)∧PySem.W.kitOne K (.type T) (.type "int")=some (ky v || kA v)∧PySem.W.kitOne K (.type T) (.type "bool")=some (kA v) ∧
  PySem.W.kitOne K (.type T) (.type "tuple")=some (oZ H v):=by
 cases h with
 | aG=>exact ⟨"NoneType",.of .aG,rfl,rfl,rfl⟩
 | bl b=>exact ⟨"bool",.of (.bl b),rfl,rfl,rfl⟩
 | int i=>exact ⟨"int",.of (.int i),rfl,rfl,rfl⟩
 | str x=>exact ⟨"str",.of (.str x),rfl,rfl,rfl⟩
 | lst e=>exact ⟨"list",.of (.lst e),rfl,rfl,by unfold oZ;dsimp only;rw [e];rfl⟩
 | tup e=>exact ⟨"tuple",.of (.tup e),rfl,rfl,by unfold oZ;dsimp only;rw [e];rfl⟩
 | ku e=>exact ⟨"dict",.ku e,rfl,rfl,by unfold oZ;dsimp only;rw [e];rfl⟩
theorem DV{v:V}(h:kA v=true):ky v=false:=by cases v <;> first | rfl | cases h
theorem de.of_lt{i:Int}(h1:-(10 ^ 70)<i)(h2:i<10 ^ 70):de i:=by
 have h3:i.natAbs<2 ^ 240:=by omega
 exact Nat.lt_of_lt_of_le h3 (Nat.pow_le_pow_right (by decide) (by decide))
def DW:Sp:=fun vs H Q _=>∃v:V,vs=[v]∧Any H v∧Q (.bl (ky v)) H
def o6(K:PySem.W.Frag):Sp:=fun vs H Q _=>∃(a:Addr) (ns:List Int),vs=[.ref a]∧aX K H a (ns.map V.int)∧ns.length≤63∧∀H',Q (.bl true) H'
theorem DX(xs:List V)(k:Nat):cy xs none (some (k:Int))=xs.take k:=by
 unfold cy
 rw [HT.wO,HT.wQ,List.drop_zero,Nat.sub_zero]
 rw [List.take_eq_take_iff]
 omega
end My
namespace L2
open PySem PySem.Spec PyProof.Rows
end L2
namespace My
open PySem L2
end My
namespace L2
open PySem PySem.Spec PyProof.Rows
section
variable {P:Program} {w:World} {K:PySem.W.Frag} {mg:Str→Option Value} {base:Heap}
end
section
variable {X:Cx} {CX:dw} {k:Nat} {f C:Addr} {fd:FuncData} {ps:List Str} {y:Str} {sp:Sp} {E:XK} {m:Str} {pos apos wD:Pos} {e e' o:Expr} {ta:TE} {t tk:TA}
end
end L2
namespace My
open PySem L2
end My
namespace L2
open PySem PySem.Spec PyProof.Rows
section
variable {X:Cx}
theorem DY:bI X (compareOp .IsNot) (fun x y H Q=>∃a b,x=.bl a∧y=.bl b∧Q (.bl (!(a == b))) H):=by
 intro pins s σ H x y v u Q I rx ry h
 obtain ⟨a,b,rfl,rfl,q⟩:=h
 cases rx
 cases ry
 exact wpAny_pure (bJ I q (by cases a <;> cases b <;> rfl))
end
end L2
namespace My
open PySem L2
section
variable {C N z:Addr} {q:Int} {v u:V} {t b t' b':Int} {H:Hp} {Q:VK} {E:XK}
end
end My
namespace L2
open PySem PySem.Spec PyProof.Rows
structure h9 (J:It) (xs:List V) (H1:Hp):Prop where
 go:∀i Hc,aj H1 Hc→i<xs.length→J.go i Hc
 cn:∀i Hc x H',aj H1 Hc→J.cn i Hc x H'→H'=Hc∧(i<xs.length→xs[i]?=some x)
 stop:∀i Hc,aj H1 Hc→xs.length≤i→J.stop i Hc
theorem kB{K:PySem.W.Frag}{a:Addr}{xs:List V}{H1:Hp}(h:aX K H1 a xs):h9 (iX K a) xs H1 where
 go:=fun i Hc s hi=>⟨xs,xs[i],s.seq h,by simp [hi]⟩
 cn:=fun i Hc x H' s y=>⟨y.1,fun _=>y.2 xs (s.seq h)⟩
 stop:=fun i Hc s hi=>⟨xs,s.seq h,hi⟩
theorem xC{lo:Int}{n:Nat}{H1:Hp}:h9 (gZ lo n) ((List.range n).map fun i:Nat=>V.int (lo+(i:Int))) H1 where
 go:=fun i Hc s hi=>by
  have hi:i<n:=by simpa using hi
  exact hi
 cn:=fun i Hc x H' s y=>⟨y.1,fun hi=>by
  have hi:i<n:=by simpa using hi
  rw [y.2]
  simp [hi]⟩
 stop:=fun i Hc s hi=>by
  have hi:n≤i:=by simpa using hi
  exact hi
theorem cV{H H':Hp}{D:Addr}{o:HO}(s:aj H H')(n:H D=none):aj H (upd H' D o):=fun b u e=>by
 rw [aA (eL e n)]
 exact s b u e
theorem xD{J:It}{xs:List V}{H1:Hp}{ρσ:St}{te:TE}{D:Addr}{Q:VK}(js:h9 J xs H1)(nD:H1 D=none)(hn:xs.length<sizeLine)
  (P:Nat→V→Hp→Prop) (mono:∀i y H H' ys,P i y H→H D=some (.lst ys)→(∀b o,b≠D→H b=some o→H' b=some o)→P i y H')
  (step:∀i x,xs[i]?=some x→∀(Hc:Hp) (R:VK),aj H1 Hc→(∃ys,Hc D=some (.lst ys))→(∀y H3,aj Hc H3→P i y H3→R y H3)→te (some x::ρσ) Hc R)
  (fin:∀ys Hc,aj H1 Hc→ys.length=xs.length→(∀i y,ys[i]?=some y→P i y Hc)→Hc D=some (.lst ys)→Q (.ref D) Hc) :
  ∃W:Nat→Nat→List V→Hp→Prop,(∃m,W 0 m [] (upd H1 D (.lst []))) ∧
   ∀i m ys Hc,W i m ys Hc→Hc D=some (.lst ys)∧((J.stop i Hc∧Q (.ref D) Hc)∨(J.go i Hc∧∀x H',J.cn i Hc x H'→
    if true=true then te (some x::ρσ) H' fun y H3=>H3 D=some (.lst ys)∧ys.length<sizeLine∧∃m',m'<m∧W (i+1) m' (ys++[y]) (upd H3 D (.lst (ys++[y]))) else ∃m',m'<m∧W (i+1) m' ys H')):=by
 refine ⟨fun i m ys Hc=>m=xs.length-i∧i≤xs.length∧Hc D=some (.lst ys)∧aj H1 Hc∧ys.length=i∧∀j y,ys[j]?=some y→P j y Hc,⟨_,rfl,Nat.zero_le _,ar,cV (aj.refl H1) nD,rfl,fun j y e=>by simp at e⟩,?_⟩
 rintro i m ys Hc ⟨rfl,hi,eD,sH,el,hP⟩
 refine ⟨eD,?_⟩
 by_cases a8:i<xs.length
 ·refine .inr ⟨js.go i Hc sH a8,fun x H' hy=>?_⟩
  obtain ⟨rfl,hx⟩:=js.cn i Hc x H' sH hy
  rw [if_pos rfl]
  refine step i x (hx a8) _ _ sH ⟨ys,eD⟩ fun y H3 s3 hp=>?_
  have e3:=s3 _ _ eD
  refine ⟨e3,by omega,xs.length-(i+1),by omega,rfl,a8,ar,cV (sH.trans s3) nD,by simp [el],fun j y' e=>?_⟩
  have bb:∀b o,b≠D→H3 b=some o→upd H3 D (.lst (ys++[y])) b=some o:=fun b o nb e=>by rw [aA nb];exact e
  by_cases hj:j<i
  ·have e':ys[j]?=some y':=by rw [List.getElem?_append_left (by omega)] at e;exact e
   refine mono j y' H' _ ys (hP j y' e') eD fun b o nb e=>?_
   exact bb b o nb (s3 _ _ e)
  ·have hj:j=i:=by
    have:=(List.getElem?_eq_some_iff.mp e).1
    simp at this
    omega
   subst hj
   have e':y'=y:=by rw [List.getElem?_append_right (by omega),el,Nat.sub_self] at e;simpa using e.symm
   subst e'
   exact mono _ _ H3 _ ys hp e3 bb
 ·have e:i=xs.length:=by omega
  subst e
  exact .inl ⟨js.stop _ Hc sH (Nat.le_refl _),fin ys Hc sH el hP eD⟩
theorem xE{wi:TI}{ρ:St→St}{te:TE}{σ:St}{H:Hp}{Q:VK}{xs:List V}(cZ:∀R:It→Hp→Prop,(∀J H1,aj H H1→h9 J xs H1→R J H1)→wi σ H R)(hn:xs.length<sizeLine)
  (P:Addr→Nat→V→Hp→Prop) (mono:∀D i y H H' ys,P D i y H→H D=some (.lst ys)→(∀b o,b≠D→H b=some o→H' b=some o)→P D i y H')
  (step:∀D i x,xs[i]?=some x→∀(Hc:Hp) (R:VK),aj H Hc→(∃ys,Hc D=some (.lst ys))→(∀y H3,aj Hc H3→P D i y H3→R y H3)→te (some x::ρ σ) Hc R)
  (fin:∀D ys Hc,aj H Hc→ys.length=xs.length→(∀i y,ys[i]?=some y→P D i y Hc)→Hc D=some (.lst ys)→Q (.ref D) Hc):fq wi ρ (fun _ H Q=>Q true H) te σ H Q:=by
 refine cZ _ fun J H1 s1 js=>?_
 intro D nD
 exact xD (ρσ:=ρ σ) (te:=te) (Q:=Q) js nD hn (P D) (mono D) (fun i x hx Hc R sc=>step D i x hx Hc R (s1.trans sc)) (fun ys Hc sc=>fin D ys Hc (s1.trans sc))
theorem kC{te:TE}{g:TG}{D:Ends}{σ:St}{H:Hp}(h:te σ H fun x H1=>g x σ H1 D.nx):mF te g D σ H:=h
theorem bU{a b:TS}{D:Ends}{σ:St}{H:Hp}(h:a {D with nx:=fun σ H=>b D σ H} σ H):vY a b D σ H:=h
section
variable {X:Cx} {N:List Str} {scope:Scope} {cl:List (Str×Addr)} {x:Str} {px pos:Pos} {iter elt:Expr} {ifs:List Expr} {wi:TI} {ρ:St→St} {tt:TT} {te:TE}
theorem o7{y:Str}{py xF:Pos}{i0:Nat}(B:xu X N scope cl x ρ)(hc:X.calm=true)(hN:X.N.Nodup)(DZ:X.N[i0]?=some y)(hy:Loc X.env.scope y)(hi:PI X (.Name x px) iter wi)(ht:∀s₃ H₃ fp,hJ (X.aY N scope cl s₃ H₃ fp) ifs tt)(he:∀s₃ H₃ fp,PE (X.aY N scope cl s₃ H₃ fp) elt te)
  (D3:swapsWith (.ListComp elt [⟨.Name x px,iter,ifs,0⟩] scope pos) (some (.Name y py)) xF.line X.env=pure true:=by rfl) (hf:X.fn y=true∨X.env.scope.names.lookup y=some .local:=by first | exact .inl rfl | exact .inr rfl | assumption)
  (hs:∀x,foldedSetIterable iter X.env x=pure x:=by intro _;rfl):PS X (.Assign [.Name y py] (.ListComp elt [⟨.Name x px,iter,ifs,0⟩] scope pos) xF) (mF (fq wi ρ tt te) (aT i0)):=by
 intro pins s σ H D0 I h
 have h:fq wi ρ tt te σ H (fun v H1=>D0.nx (σ.set i0 (some v)) H1):=h
 rw [exec_Assign_Name_used _ _ _ _ D3]
 refine wpAny_bind (wpAny_standAt (wpAny_bind ?_))
 show wpAny _ X.A (do let _ ←comprehension (.ListComp elt [⟨.Name x px,iter,ifs,0⟩] scope pos) scope X.env _ (newList []) false (eval iter X.env) (some (assign (.Name y py) X.env))) _ _ s
 refine wpAny_bind (wpAny_mono (Q:=fun _ s'=>SP X pins D0 .next s') ?_ (fun _ s' hq=>wpAny_pure (wpAny_pure hq)) fun _ _ e=>e)
 refine wpAny_comprehension_free (use:=some (assign (.Name y py) X.env)) rfl hs B.oU B.kind B.names (aw (hi pins s σ H _ I h) fun v s1 h1=>aw h1 fun mG s2 h2=>?_)
 obtain ⟨it,fp,tn,J,H2,rfl,I2,T,eh,f2,q2⟩:=h2
 have nD:H2 s2.heap.objs.size=none:=I2.aq.fresh (Nat.le_refl _)
 obtain ⟨W,⟨m0,w0⟩,turn⟩:=q2 _ nD
 refine wpAny_newObj_type (wpAny_newFunctionEnv B.oV (by intro y hy;simp at hy) (fun h₁ dP dQ=>?_) B.kind)
 dsimp only at dP dQ ⊢
 generalize hD:s2.heap.objs.size=D at nD w0 turn dP dQ ⊢
 generalize ft:({s2 with heap:=s2.heap.push {cls:=.type "list",dict:=none,data:=.seq ([]:List Value).toArray}}:Shared)=s3
 have I3:Inv X pins σ (upd H2 D (.lst [])) s3:=by
  subst hD ft
  exact I2.laid (t':=s2.toks) (fun b u e=>Heap.get?_push_of_some _ e) (Nat.le_refl _) ⟨Nat.zero_le _,[],_,.nil,Heap.get?_push_size _ rfl⟩
 have e3:s3.heap=s2.heap.push {cls:=.type "list",dict:=none,data:=.seq ([]:List Value).toArray}:=by rw [←ft]
 have dR:∀b o,s2.heap.get? b=some o→s3.heap.get? b=some o:=fun b o e=>by rw [e3];exact Heap.get?_push_of_some _ e
 rw [←e3] at dP dQ ⊢
 have below:∀b o,s3.heap.get? b=some o→b≠s3.heap.objs.size:=fun b o e=>Nat.ne_of_lt (Heap.lt_size e)
 have cz:∀b o,s3.heap.get? b=some o→h₁.get? b=some o:=fun b o e=>dQ.extBut b o (below b o e) (Heap.get?_push_of_some _ e)
 have fu:∀b∈fp,∃o,s2.heap.get? b=some o∧∀v,o.data≠.cell v:=T.obj _ _ eh
 have mT:∀b∈fp,b≠D:=fun b hb z=>by
  obtain ⟨o,e,_⟩:=fu b hb
  rw [z,←hD] at e
  exact absurd (Heap.lt_size e) (Nat.lt_irrefl _)
 have b8:∀y c,cl.lookup y=some c→X.env.cells.lookup y=some c:=fun y c e=>B.sub (y,c) (PySem.mem_of_lookup e)
 have mU:=I3.mC
 have hV:(X.aY N scope cl s3 (upd H2 D (.lst [])) fp).Ok:=by
  refine ⟨I.ok.mod,B.kind,I.ok.glob,I.ok.blt,Nat.le_refl _,fun a b c e1 e2=>I.ok.inj a b c (b8 a c e1) (b8 b c e2),fun y hy=>B.has y hy,(fun _ _ z _=>absurd z Bool.false_ne_true),(fun _=>I.ok.hd hc),I.ok.frames,.inl rfl,fun b hb=>⟨?_,fun y c e z=>?_⟩,fun b o e=>?_,Nat.le_trans I.ok.eN I3.sz,fun b o e hb=>?_,fun b hb z=>?_,I3.stack,mU⟩
  ·obtain ⟨o,e,_⟩:=fu b hb
   exact below b o (dR b o e)
  ·exact (f2 b hb).2.2.2.2.1 y c (b8 y c e) z
  ·exact I3.bs b o e
  ·rcases (f2 b hb).2.2.2.1 with z | z
   ·exact I.ok.iM b o e z
   ·exact absurd (Nat.lt_of_lt_of_le (Heap.lt_size e) (Nat.le_trans I.ok.eN z)) (Nat.lt_irrefl _)
  ·rcases List.mem_cons.mp (I3.mB b z) with z | z
   ·exact (f2 b hb).2.1 z
   ·exact (f2 b hb).2.2.1 z
 have IB:∀tk:Nat,Inv (X.aY N scope cl s3 (upd H2 D (.lst [])) fp) [] (none::ρ σ) (upd H2 D (.lst [])) {s3 with heap:=h₁,toks:=tk}:=fun tk=>by
  refine ⟨hV,rfl,I3.bare,Un.kept cz,⟨_,dP,fun j y v e1 e2 e3=>?_⟩,fun y c e=>?_,?_,fun y c e=>I3.eO y c (b8 y c e),(fun p hp=>nomatch hp),I3.aq.kept cz,?_⟩
  ·cases j with
   | zero=>cases e2
   | succ j=>
    obtain ⟨i,y',a1,a2,a3,a4,a5,a6⟩:=B.oW σ j v e2
    have jc:N[j+1]?=some y:=e1
    rw [jc] at a1
    cases a1
    obtain ⟨m,hn,hl⟩:=I3.loc
    obtain ⟨u,r,l⟩:=hl i y v a2 a3 a4
    refine ⟨u,r,.inr ⟨a6,?_⟩⟩
    obtain ⟨c,ec⟩:=B.has y a6
    rcases l with ⟨k,_⟩ | ⟨_,c',hW,z⟩
    ·rcases a5 with q | q <;> (rw [k] at q;cases q)
    ·have:=b8 y c ec
     rw [this] at hW
     cases hW
     obtain ⟨o,ho,hd⟩:=z
     exact ⟨c,ec,o,cz _ _ ho,hd⟩
  ·obtain ⟨v,o,ho,hd⟩:=I3.cell y c (b8 y c e)
   exact ⟨v,o,cz _ _ ho,hd⟩
  ·exact I3.aq.fresh (Nat.le_refl _)
  ·show (none::ρ σ).length=N.length
   rw [List.length_cons]
   exact B.len σ I.len
 have tf:∀b o,s3.heap.get? b=some o→b≠s3.heap.objs.size:=below
 have fin:∀{σ':St} {H':Hp} {s':Shared},Inv (X.aY N scope cl s3 (upd H2 D (.lst [])) fp) [] σ' H' s'→D0.nx (σ.set i0 (some (.ref D))) H'→compPost (model X.prog X.w) X.A X.xe (some (assign (.Name y py) X.env)) (fun _ s'=>SP X pins D0 .next s') (.ref D) s3.heap.objs.size (.ok .next) s':=fun{σ' H' s'} J q=>by
  obtain ⟨m,hn,_⟩:=J.loc
  have hn:s'.heap.Ns s3.heap.objs.size m:=hn
  have JC:H' s3.heap.objs.size=none:=J.free
  have u1:Un (bu X.stack) fp (upd H2 D (.lst [])) H' s3.heap s'.heap:=by
   refine ⟨fun b o e n hb hx=>J.base.keep b o e n hb hx,fun b o e n hb hx=>J.base.slot b o e n hb hx,J.base.free,fun b o e hx=>J.base.there b o e hx,J.base.dm,J.base.cY,J.base.dq⟩
  have IX:Inv X pins σ H' s':=I3.gW (ch:=fp) (J.os) u1 J.aq J.bare fun b hb=>by
   obtain ⟨g0,g1,g2,g3,g4,g5⟩:=f2 b hb
   exact ⟨g3,g1,g4,g5⟩
  have nl:X.env.locals≠s3.heap.objs.size:=by
   obtain ⟨m3,⟨o3,_,_,e3,_⟩,_⟩:=I3.loc
   exact tf _ _ e3
  have nc:∀z c,X.env.cells.lookup z=some c→c≠s3.heap.objs.size:=fun z c e=>by
   obtain ⟨v3,o3,e3,_⟩:=I3.cell z c e
   exact tf _ _ e3
  refine wpAny_assign_Name (vM (v:=.ref D) IX hN DZ hy rfl (fun fT tj tm=>?_) hf)
  obtain ⟨a,tm,ha⟩:=tm
  have na:s3.heap.objs.size≠a:=by
   rcases ha with rfl | e
   ·exact fun z=>nl z.symm
   ·exact fun z=>nc _ _ e z.symm
  refine ⟨m,hn.sameBut tm na,fun h' dS=>⟨σ.set i0 (some (.ref D)),H',?_,q⟩⟩
  have u2:Un (bu X.stack) [s3.heap.objs.size] H' H' fT.heap h':=by
   refine ⟨fun b o e n hb hx=>(dS.2 b (by simpa using hx)).trans e,fun b o e n hb hx=>⟨o.slots,(dS.2 b (by simpa using hx)).trans e⟩,fun b o e n hx=>n,fun b o e hx=>⟨o,(dS.2 b (by simpa using hx)).trans e⟩,fun b xs z=>z,fun b o u z=>z,fun b ps z=>⟨#[],by simpa using z⟩⟩
  have mV:a9 X.prog X.w H' h':=fun b u e=>by
   refine (tj.aq b u e).d8 (fun c v hc z=>(dS.2 c fun y=>?_).trans z) (fun _ z=>z) fun _ _ z=>z
   have y':c=s3.heap.objs.size:=y
   rcases hc with hc | hc
   ·rw [←hc,y',JC] at e
    cases e
   ·rw [y',JC] at hc
    cases hc
  refine tj.gW (s':={fT with heap:=h'}) (ch:=[s3.heap.objs.size]) rfl u2 mV tj.bare fun b hb=>?_
  have eb:b=s3.heap.objs.size:=by simpa using hb
  subst eb
  refine ⟨.inr I3.sz,fun z=>nl z.symm,fun z c e=>nc z c e,fun p hp=>?_⟩
  exact tf _ _ (I3.pin p hp).1
 have du:∀{H':Hp},(∀b∈fp,H' b=none)→∀b∈fp,gv (X.aY N scope cl s3 (upd H2 D (.lst [])) fp) [] H' b:=fun hn b hb=>by
  refine ⟨hn b hb,?_,?_,.inl hb,fun y c e z=>(f2 b hb).2.2.2.2.1 y c (b8 y c e) z,fun p hp=>nomatch hp⟩
  ·obtain ⟨o,e,_⟩:=fu b hb
   exact below b o (dR b o e)
  ·exact hV.iO b hb
 have loop:∀tk:Nat,codeAny (model X.prog X.w) X.A (.compLoop (.ListComp elt [⟨.Name x px,iter,ifs,0⟩] scope pos) 0 (.ref it) (.ref D) (compEnvC scope cl s3.heap.objs.size X.env))
   (compPost (model X.prog X.w) X.A X.xe (some (assign (.Name y py) X.env)) (fun _ s'=>SP X pins D0 .next s') (.ref D) s3.heap.objs.size) {s3 with heap:=h₁,toks:=tk}:=fun tk=>by
  refine codeAny_compLoop_tests (fun n s'=>∃i ys o H',Inv (X.aY N scope cl s3 (upd H2 D (.lst [])) fp) [] (o::ρ σ) H' s'∧tn i s'.heap∧(∀b∈fp,H' b=none)∧W i n ys H') ?_ m0
   ⟨0,[],none,_,IB tk,T.keep _ _ _ eh fun b hb o e=>cz _ _ (dR _ _ e),fun b hb=>by rw [aA (mT b hb)];exact (f2 b hb).1,w0⟩
  rintro n s4 ⟨i,ys,o,H4,I4,hZ,h8,w4⟩
  obtain ⟨xv,mW⟩:=turn i n ys H4 w4
  rcases mW with ⟨stop,qn⟩ | ⟨go,step⟩
  ·refine wpAny_mono (T.done (X.aY N scope cl s3 (upd H2 D (.lst [])) fp) rfl rfl rfl hc i [] s4 _ H4 (fun _ _=>False) I4 (du h8) hZ stop) (fun r s5 ⟨hr,I5⟩=>?_) fun _ _ z=>z.elim
   subst hr
   exact fin I5 qn
  ·refine wpAny_mono (T.item (X.aY N scope cl s3 (upd H2 D (.lst [])) fp) rfl rfl rfl hc i [] s4 _ H4 (fun _ _=>False) I4 (du h8) hZ go) (fun r s5 ⟨u,hr,h5⟩=>?_) fun _ _ z=>z.elim
   subst hr
   have z:letOwnedTupleGo (.Name x px) (.ref it) u=pure ():=rfl
   rw [z] at h5
   show wpAny _ _ ((pure ():Sem Unit) >>= fun _=>assign (.Name x px) (compEnvC scope cl s3.heap.objs.size X.env) u) _ _ s5
   refine wpAny_bind (wpAny_mono h5 (fun _ s5 ⟨y,H5,I5,r5,y5,dv,iZ⟩=>?_) fun _ _ z=>z.elim)
   have i3:=I5.pinned (du iZ) (T.obj _ _ dv)
   have pg:PG (X.aY N scope cl s3 (upd H2 D (.lst [])) fp) (.Name x px) (aT 0):=bS (i:=0) B.nd B.n0 (.inl (lookup_relabel_local B.hx)) (.inr (lookup_relabel_local B.hx))
   have again:∀{σ7:St} {H7:Hp} {s7:Shared},Inv (X.aY N scope cl s3 (upd H2 D (.lst [])) fp) ([]++fP fp s5.heap) σ7 H7 s7→Inv (X.aY N scope cl s3 (upd H2 D (.lst [])) fp) [] σ7 H7 s7∧tn (i+1) s7.heap∧∀b∈fp,H7 b=none:=fun{σ7 H7 s7} I7=>by
    refine ⟨I7.kd,T.keep _ _ _ dv fun b hb o e=>(I7.pin (b,o) (List.mem_append_right _ (List.mem_append_right _ (g8 hb e)))).1,fun b hb=>?_⟩
    obtain ⟨o,e,d⟩:=T.obj _ _ dv b hb
    exact (I7.pin (b,o) (List.mem_append_right _ (List.mem_append_right _ (g8 hb e)))).2.1
   refine wpAny_mono (pg _ s5 _ H5 y u (fun σ2 H6=>σ2=some y::ρ σ∧H6=H5) i3 r5 ⟨rfl,rfl⟩) (fun _ s6 ⟨σ6,H6,I6,q6⟩=>?_) fun _ _ z=>z.elim
   obtain ⟨rfl,rfl⟩:=q6
   have mX:=step y _ y5
   have tests:∀{fv:TT},hJ (X.aY N scope cl s3 (upd H2 D (.lst [])) fp) ifs fv→∀{R:Bool→Hp→Prop},fv (some y::ρ σ) H6 R→wpAny (model X.prog X.w) X.A
     (forIn ifs true fun c r=>if r=true then do let ok ←isTrue c (compEnvC scope cl s3.heap.objs.size X.env) (eval c (compEnvC scope cl s3.heap.objs.size X.env));pure (ForInStep.yield ok) else pure (ForInStep.yield r))
     (fun ok s7=>∃H7,Inv (X.aY N scope cl s3 (upd H2 D (.lst [])) fp) ([]++fP fp s5.heap) (some y::ρ σ) H7 s7∧R ok H7) (fun _ _=>False) s6:=fun{fv} p {R} hR=>by
    cases p with
    | nil=>exact wpAny_tests_nil ⟨_,I6,hR⟩
    | one p=>exact wpAny_tests_one (p _ s6 _ _ _ I6 hR)
   refine wpAny_mono (tests (ht s3 _ fp) mX) (fun ok s7 ⟨H7,I7,q7⟩=>?_) fun _ _ z=>z.elim
   cases ok with
   | false=>
    obtain ⟨m',da,w7⟩:=q7
    obtain ⟨a1,a2,a3⟩:=again I7
    exact ⟨m',da,i+1,ys,_,H7,a1,a2,a3,w7⟩
   | true=>
    refine wpAny_mono (he s3 _ fp _ s7 _ H7 _ I7 q7) (fun ev s8 ⟨z,H8,I8,r8,mY,hz,m',da,w8⟩=>?_) fun _ _ z=>z.elim
    refine wpAny_mono (dM (X:=X.aY N scope cl s3 (upd H2 D (.lst [])) fp) _ s8 _ H8 (.ref D) [z] (.ref D) [ev] (fun _ H9=>H9=upd H8 D (.lst (ys++[z]))) I8 rfl (.cons r8 .nil) ⟨D,ys,z,rfl,rfl,mY,hz,rfl⟩) (fun _ s9 ⟨_,H9,I9,_,q9⟩=>?_) fun _ _ z=>z.elim
    subst q9
    obtain ⟨a1,a2,a3⟩:=again I9
    exact ⟨m',da,i+1,ys++[z],_,_,a1,a2,a3,w8⟩
 have start:=loop (s3.toks+([]:List (Str×Value)).length)
 have es:({s3 with heap:=h₁,toks:=s3.toks+([]:List (Str×Value)).length}:Shared)={s2 with heap:=h₁,toks:=s2.toks+([]:List (Str×Value)).length}:=by rw [←ft]
 rw [es] at start
 exact codeAny_compStart_list start (T.self _ 0 _ _ _ (T.keep _ _ _ eh fun b hb o e=>cz _ _ (dR _ _ e)) start)
end
theorem boot_zip:bootBuiltins "zip" = some (.type "zip"):=by decide +kernel
section
variable {X:Cx}
end
section
variable {prog:Program} {w:World} {A:Around} {R:Result→Shared→Prop} {s:Shared}
theorem D4{elt target iter:Expr}{ifs:List Expr}{scope:Scope}{pos:Pos}{it acc:Value}{env:Env}(I:Nat→Shared→Prop)
  (turn:∀n s,I n s→wpAny (model prog w) A (pyNext it) (fun r s₁=>match r with
   | none=>R (.ok .next) s₁
   | some v=>wpAny (model prog w) A (letOwnedTupleGo target it v) (fun _ s₁=>wpAny (model prog w) A (assign target env v) (fun _ s₂=>
     wpAny (model prog w) A (forIn ifs true fun c r=>if r=true then do let ok ←isTrue c env (eval c env);pure (ForInStep.yield ok) else pure (ForInStep.yield r)) (fun ok s₃=>
      if ok=true then wpAny (model prog w) A (eval elt env) (fun x s₄=>
       wpAny (model prog w) A (call (.builtin "list.append") [acc,x]) (fun _ s₅=>∃m,m<n∧I m s₅) (notedBy (model prog w) A env fun e s'=>R (.error e) s') s₄) (notedBy (model prog w) A env fun e s'=>R (.error e) s') s₃
      else ∃m,m<n∧I m s₃) (notedBy (model prog w) A env fun e s'=>R (.error e) s') s₂) (notedBy (model prog w) A env fun e s'=>R (.error e) s') s₁) (notedBy (model prog w) A env fun e s'=>R (.error e) s') s₁) (notedBy (model prog w) A env fun e s'=>R (.error e) s') s)
  (n:Nat) (h:I n s):codeAny (model prog w) A (.compLoop (.ListComp elt [⟨target,iter,ifs,0⟩] scope pos) 0 it acc env) R s:=by
 refine codeAny_loop rfl I (fun n s hI=>?_) n h
 show wpAny _ A ((compTurn (.ListComp elt [⟨target,iter,ifs,0⟩] scope pos) 0 it acc env).onRaise (fun x=>do noteFrame x env;theTreesLotGoes x)) _ _ s
 refine wpAny_noted ?_
 rw [compTurn_list]
 refine wpAny_bind (wpAny_standAt (wpAny_bind (wpAny_mono (turn n s hI) (fun r s₁ h₁=>?_) fun _ _ h'=>h')))
 cases r with
 | none=>exact wpAny_pure h₁
 | some v=>
  refine wpAny_bind (wpAny_mono h₁ (fun _ s₁ h₁=>?_) fun _ _ h'=>h')
  refine wpAny_bind (wpAny_mono h₁ (fun _ s₂ h₂=>wpAny_bind (wpAny_mono h₂ (fun ok s₃ h₃=>?_) fun _ _ h'=>h')) fun _ _ h'=>h')
  cases ok with
  | false=>exact wpAny_pure ⟨rfl,h₃⟩
  | true=>
   exact wpAny_bind (wpAny_bind (wpAny_mono h₃ (fun x s₄ h₄=>wpAny_bind (wpAny_mono h₄ (fun _ s₅ h₅=>wpAny_pure (wpAny_pure ⟨rfl,h₅⟩)) fun _ _ h'=>h')) fun _ _ h'=>h'))
end
def xG(K:PySem.W.Frag)(wi:TI)(ρ:St→St)(tt:TT)(te:TE):TE:=fun σ H Q=>wi σ H fun J H1=>∀D,H1 D=none→∃W:Nat→Nat→List V→Hp→Prop,(∃m,W 0 m [] (upd H1 D (.lst []))) ∧
 ∀i m ys Hc,W i m ys Hc→Hc D=some (.lst ys)∧((J.stop i Hc∧Q (.ref D) Hc)∨(J.go i Hc∧∀v H',J.cn i Hc v H'→∃T x1 x2,v=.ref T∧bH K H' T [x1,x2]∧tt (some x1::some x2::ρ σ) H' fun b H2=>
  if b=true then te (some x1::some x2::ρ σ) H2 fun y H3=>H3 D=some (.lst ys)∧ys.length<sizeLine∧∃m',m'<m∧W (i+1) m' (ys++[y]) (upd H3 D (.lst (ys++[y]))) else ∃m',m'<m∧W (i+1) m' ys H2))
section
variable {X:Cx} {N:List Str} {scope:Scope} {cl:List (Str×Addr)} {x y:Str} {px py pos tp:Pos} {m4:Nat} {iter elt:Expr} {ifs:List Expr} {wi:TI} {ρ:St→St} {tt:TT} {te:TE}
structure D5 (X:Cx) (N:List Str) (scope:Scope) (cl:List (Str×Addr)) (x y:Str) (ρ:St→St):Prop where
 oU:closureFor scope X.env=pure cl
 kind:scope.kind=.function
 oV:∀y∈scope.names,y.2≠.cell
 names:∀y∈scope.names,y.2=.local→scope.names.lookup y.1=some .local
 sub:∀p∈cl,X.env.cells.lookup p.1=some p.2
 has:∀y,((relabel scope X.env).names.lookup y=some .cell∨(relabel scope X.env).names.lookup y=some .free)→∃c,cl.lookup y=some c
 n0:N[0]?=some x
 n1:N[1]?=some y
 nd:N.Nodup
 hx:scope.names.lookup x=some .local
 hy:scope.names.lookup y=some .local
 oW:∀(σ:St) (j:Nat) (v:V),(ρ σ)[j]?=some (some v)→∃(i:Nat) (y:Str),N[j+1+1]?=some y∧X.N[i]?=some y∧σ[i]?=some (some v)∧my X.env.scope y∧(X.env.kindOf y=some .cell∨X.env.kindOf y=some .free)∧((relabel scope X.env).names.lookup y=some .cell∨(relabel scope X.env).names.lookup y=some .free)
 len:∀σ:St,σ.length=X.N.length→(ρ σ).length+1+1=N.length
theorem D6(B:D5 X N scope cl x y ρ)(hc:X.calm=true)(hi:PI X (.Tuple [.Name x px,.Name y py] m4 tp) iter wi)(ht:∀s₃ H₃ fp,hJ (X.aY N scope cl s₃ H₃ fp) ifs tt)(he:∀s₃ H₃ fp,PE (X.aY N scope cl s₃ H₃ fp) elt te)
  (hs:∀x,foldedSetIterable iter X.env x=pure x:=by intro _;rfl):PE X (.ListComp elt [⟨.Tuple [.Name x px,.Name y py] m4 tp,iter,ifs,0⟩] scope pos) (xG X.K wi ρ tt te):=by
 intro pins s σ H Q I h
 rw [eval_ListComp]
 refine wpAny_comprehension_free (use:=none) rfl hs B.oU B.kind B.names (aw (hi pins s σ H _ I h) fun v s1 h1=>aw h1 fun mG s2 h2=>?_)
 obtain ⟨it,fp,tn,J,H2,rfl,I2,T,eh,f2,q2⟩:=h2
 have nD:H2 s2.heap.objs.size=none:=I2.aq.fresh (Nat.le_refl _)
 obtain ⟨W,⟨m0,w0⟩,turn⟩:=q2 _ nD
 refine wpAny_newObj_type (wpAny_newFunctionEnv B.oV (by intro y hy;simp at hy) (fun h₁ dP dQ=>?_) B.kind)
 dsimp only at dP dQ ⊢
 generalize hD:s2.heap.objs.size=D at nD w0 turn dP dQ ⊢
 generalize ft:({s2 with heap:=s2.heap.push {cls:=.type "list",dict:=none,data:=.seq ([]:List Value).toArray}}:Shared)=s3
 have I3:Inv X pins σ (upd H2 D (.lst [])) s3:=by
  subst hD ft
  exact I2.laid (t':=s2.toks) (fun b u e=>Heap.get?_push_of_some _ e) (Nat.le_refl _) ⟨Nat.zero_le _,[],_,.nil,Heap.get?_push_size _ rfl⟩
 have e3:s3.heap=s2.heap.push {cls:=.type "list",dict:=none,data:=.seq ([]:List Value).toArray}:=by rw [←ft]
 have dR:∀b o,s2.heap.get? b=some o→s3.heap.get? b=some o:=fun b o e=>by rw [e3];exact Heap.get?_push_of_some _ e
 rw [←e3] at dP dQ ⊢
 have below:∀b o,s3.heap.get? b=some o→b≠s3.heap.objs.size:=fun b o e=>Nat.ne_of_lt (Heap.lt_size e)
 have cz:∀b o,s3.heap.get? b=some o→h₁.get? b=some o:=fun b o e=>dQ.extBut b o (below b o e) (Heap.get?_push_of_some _ e)
 have fu:∀b∈fp,∃o,s2.heap.get? b=some o∧∀v,o.data≠.cell v:=T.obj _ _ eh
 have mT:∀b∈fp,b≠D:=fun b hb z=>by
  obtain ⟨o,e,_⟩:=fu b hb
  rw [z,←hD] at e
  exact absurd (Heap.lt_size e) (Nat.lt_irrefl _)
 have b8:∀y c,cl.lookup y=some c→X.env.cells.lookup y=some c:=fun y c e=>B.sub (y,c) (PySem.mem_of_lookup e)
 have mU:=I3.mC
 have hV:(X.aY N scope cl s3 (upd H2 D (.lst [])) fp).Ok:=by
  refine ⟨I.ok.mod,B.kind,I.ok.glob,I.ok.blt,Nat.le_refl _,fun a b c e1 e2=>I.ok.inj a b c (b8 a c e1) (b8 b c e2),fun y hy=>B.has y hy,(fun _ _ z _=>absurd z Bool.false_ne_true),(fun _=>I.ok.hd hc),I.ok.frames,.inl rfl,fun b hb=>⟨?_,fun y c e z=>?_⟩,fun b o e=>?_,Nat.le_trans I.ok.eN I3.sz,fun b o e hb=>?_,fun b hb z=>?_,I3.stack,mU⟩
  ·obtain ⟨o,e,_⟩:=fu b hb
   exact below b o (dR b o e)
  ·exact (f2 b hb).2.2.2.2.1 y c (b8 y c e) z
  ·exact I3.bs b o e
  ·rcases (f2 b hb).2.2.2.1 with z | z
   ·exact I.ok.iM b o e z
   ·exact absurd (Nat.lt_of_lt_of_le (Heap.lt_size e) (Nat.le_trans I.ok.eN z)) (Nat.lt_irrefl _)
  ·rcases List.mem_cons.mp (I3.mB b z) with z | z
   ·exact (f2 b hb).2.1 z
   ·exact (f2 b hb).2.2.1 z
 have IB:∀tk:Nat,Inv (X.aY N scope cl s3 (upd H2 D (.lst [])) fp) [] (none::none::ρ σ) (upd H2 D (.lst [])) {s3 with heap:=h₁,toks:=tk}:=fun tk=>by
  refine ⟨hV,rfl,I3.bare,Un.kept cz,⟨_,dP,fun j y v e1 e2 e3=>?_⟩,fun y c e=>?_,?_,fun y c e=>I3.eO y c (b8 y c e),(fun p hp=>nomatch hp),I3.aq.kept cz,?_⟩
  ·cases j with
   | zero=>cases e2
   | succ j=>
   cases j with
   | zero=>cases e2
   | succ j=>
    obtain ⟨i,y',a1,a2,a3,a4,a5,a6⟩:=B.oW σ j v e2
    have jc:N[j+1+1]?=some y:=e1
    rw [jc] at a1
    cases a1
    obtain ⟨m,hn,hl⟩:=I3.loc
    obtain ⟨u,r,l⟩:=hl i y v a2 a3 a4
    refine ⟨u,r,.inr ⟨a6,?_⟩⟩
    obtain ⟨c,ec⟩:=B.has y a6
    rcases l with ⟨k,_⟩ | ⟨_,c',hW,z⟩
    ·rcases a5 with q | q <;> (rw [k] at q;cases q)
    ·have:=b8 y c ec
     rw [this] at hW
     cases hW
     obtain ⟨o,ho,hd⟩:=z
     exact ⟨c,ec,o,cz _ _ ho,hd⟩
  ·obtain ⟨v,o,ho,hd⟩:=I3.cell y c (b8 y c e)
   exact ⟨v,o,cz _ _ ho,hd⟩
  ·exact I3.aq.fresh (Nat.le_refl _)
  ·show (none::none::ρ σ).length=N.length
   rw [List.length_cons,List.length_cons]
   exact B.len σ I.len
 have fin:∀{σ':St} {H':Hp} {s':Shared},Inv (X.aY N scope cl s3 (upd H2 D (.lst [])) fp) [] σ' H' s'→Q (.ref D) H'→compPost (model X.prog X.w) X.A X.xe none (EP X pins σ Q) (.ref D) s3.heap.objs.size (.ok .next) s':=fun{σ' H' s'} J q=>by
  obtain ⟨m,hn,_⟩:=J.loc
  refine ⟨m,hn,fun h' dS=>⟨.ref D,H',?_,rfl,q⟩⟩
  have old:∀b o,s3.heap.get? b=some o→b≠s3.heap.objs.size:=below
  have u1:Un (bu X.stack) fp (upd H2 D (.lst [])) H' s3.heap h':=by
   refine ⟨fun b o e n hb hx=>?_,fun b o e n hb hx=>?_,J.base.free,fun b o e hx=>?_,J.base.dm,J.base.cY,J.base.dq⟩
   ·exact (dS.2 b (old b o e)).trans (J.base.keep b o e n hb hx)
   ·obtain ⟨sl,z⟩:=J.base.slot b o e n hb hx
    exact ⟨sl,(dS.2 b (old b o e)).trans z⟩
   ·obtain ⟨o',z⟩:=J.base.there b o e hx
    exact ⟨o',(dS.2 b (old b o e)).trans z⟩
  have mV:a9 X.prog X.w H' h':=fun b u e=>by
   refine (J.aq b u e).d8 (fun c v hc z=>(dS.2 c fun y=>?_).trans z) (fun _ z=>z) fun _ _ z=>z
   have fr:=J.free
   have y':c=s3.heap.objs.size:=y
   rcases hc with hc | hc
   ·rw [←hc,y'] at e
    exact absurd (fr.symm.trans e) (by simp)
   ·rw [y'] at hc
    exact absurd (fr.symm.trans hc) (by simp)
  refine I3.gW (s':={s' with heap:=h'}) (ch:=fp) (J.os) u1 mV J.bare fun b hb=>?_
  obtain ⟨g0,g1,g2,g3,g4,g5⟩:=f2 b hb
  exact ⟨g3,g1,g4,g5⟩
 have du:∀{H':Hp},(∀b∈fp,H' b=none)→∀b∈fp,gv (X.aY N scope cl s3 (upd H2 D (.lst [])) fp) [] H' b:=fun hn b hb=>by
  refine ⟨hn b hb,?_,?_,.inl hb,fun y c e z=>(f2 b hb).2.2.2.2.1 y c (b8 y c e) z,fun p hp=>nomatch hp⟩
  ·obtain ⟨o,e,_⟩:=fu b hb
   exact below b o (dR b o e)
  ·exact hV.iO b hb
 have loop:∀tk:Nat,codeAny (model X.prog X.w) X.A (.compLoop (.ListComp elt [⟨.Tuple [.Name x px,.Name y py] m4 tp,iter,ifs,0⟩] scope pos) 0 (.ref it) (.ref D) (compEnvC scope cl s3.heap.objs.size X.env))
   (compPost (model X.prog X.w) X.A X.xe none (EP X pins σ Q) (.ref D) s3.heap.objs.size) {s3 with heap:=h₁,toks:=tk}:=fun tk=>by
  refine D4 (fun n s'=>∃i ys o o2 H',Inv (X.aY N scope cl s3 (upd H2 D (.lst [])) fp) [] (o::o2::ρ σ) H' s'∧tn i s'.heap∧(∀b∈fp,H' b=none)∧W i n ys H') ?_ m0
   ⟨0,[],none,none,_,IB tk,T.keep _ _ _ eh fun b hb o e=>cz _ _ (dR _ _ e),fun b hb=>by rw [aA (mT b hb)];exact (f2 b hb).1,w0⟩
  rintro n s4 ⟨i,ys,o,o2,H4,I4,hZ,h8,w4⟩
  obtain ⟨xv,mW⟩:=turn i n ys H4 w4
  rcases mW with ⟨stop,qn⟩ | ⟨go,step⟩
  ·refine wpAny_mono (T.done (X.aY N scope cl s3 (upd H2 D (.lst [])) fp) rfl rfl rfl hc i [] s4 _ H4 (fun _ _=>False) I4 (du h8) hZ stop) (fun r s5 ⟨hr,I5⟩=>?_) fun _ _ z=>z.elim
   subst hr
   exact fin I5 qn
  ·refine wpAny_mono (T.item (X.aY N scope cl s3 (upd H2 D (.lst [])) fp) rfl rfl rfl hc i [] s4 _ H4 (fun _ _=>False) I4 (du h8) hZ go) (fun r s5 ⟨u,hr,h5⟩=>?_) fun _ _ z=>z.elim
   subst hr
   refine wpAny_mono h5 (fun _ s5 ⟨y0,H5,I5,r5,y5,dv,iZ⟩=>?_) fun _ _ z=>z.elim
   obtain ⟨Tt,x1,x2,e0,D7,mX⟩:=step y0 _ y5
   subst e0
   have i3:=I5.pinned (du iZ) (T.obj _ _ dv)
   have pg:PG (X.aY N scope cl s3 (upd H2 D (.lst [])) fp) (.Tuple [.Name x px,.Name y py] m4 tp) (wb X.K 2 (rK (aT 0) (rK (aT 1) wa))):=
    iW (X:=X.aY N scope cl s3 (upd H2 D (.lst [])) fp) hc (dI (bS (i:=0) B.nd B.n0 (.inl (lookup_relabel_local B.hx)) (.inr (lookup_relabel_local B.hx))) (dI (bS (i:=1) B.nd B.n1 (.inl (lookup_relabel_local B.hy)) (.inr (lookup_relabel_local B.hy))) iV))
   have again:∀{σ7:St} {H7:Hp} {s7:Shared},Inv (X.aY N scope cl s3 (upd H2 D (.lst [])) fp) ([]++fP fp s5.heap) σ7 H7 s7→Inv (X.aY N scope cl s3 (upd H2 D (.lst [])) fp) [] σ7 H7 s7∧tn (i+1) s7.heap∧∀b∈fp,H7 b=none:=fun{σ7 H7 s7} I7=>by
    refine ⟨I7.kd,T.keep _ _ _ dv fun b hb o e=>(I7.pin (b,o) (List.mem_append_right _ (List.mem_append_right _ (g8 hb e)))).1,fun b hb=>?_⟩
    obtain ⟨o,e,d⟩:=T.obj _ _ dv b hb
    exact (I7.pin (b,o) (List.mem_append_right _ (List.mem_append_right _ (g8 hb e)))).2.1
   refine wpAny_mono (pg _ s5 _ H5 (.ref Tt) u (fun σ2 H6=>σ2=some x1::some x2::ρ σ∧H6=H5) i3 r5 ⟨Tt,_,rfl,D7,rfl,_,_,rfl,_,_,rfl,rfl,rfl,rfl⟩) (fun _ s6 ⟨σ6,H6,I6,q6⟩=>?_) fun _ _ z=>z.elim
   obtain ⟨rfl,rfl⟩:=q6
   have tests:∀{fv:TT},hJ (X.aY N scope cl s3 (upd H2 D (.lst [])) fp) ifs fv→∀{R:Bool→Hp→Prop},fv (some x1::some x2::ρ σ) H6 R→wpAny (model X.prog X.w) X.A
     (forIn ifs true fun c r=>if r=true then do let ok ←isTrue c (compEnvC scope cl s3.heap.objs.size X.env) (eval c (compEnvC scope cl s3.heap.objs.size X.env));pure (ForInStep.yield ok) else pure (ForInStep.yield r))
     (fun ok s7=>∃H7,Inv (X.aY N scope cl s3 (upd H2 D (.lst [])) fp) ([]++fP fp s5.heap) (some x1::some x2::ρ σ) H7 s7∧R ok H7) (fun _ _=>False) s6:=fun{fv} p {R} hR=>by
    cases p with
    | nil=>exact wpAny_tests_nil ⟨_,I6,hR⟩
    | one p=>exact wpAny_tests_one (p _ s6 _ _ _ I6 hR)
   refine wpAny_mono (tests (ht s3 _ fp) mX) (fun ok s7 ⟨H7,I7,q7⟩=>?_) fun _ _ z=>z.elim
   cases ok with
   | false=>
    obtain ⟨m',da,w7⟩:=q7
    obtain ⟨a1,a2,a3⟩:=again I7
    exact ⟨m',da,i+1,ys,_,_,H7,a1,a2,a3,w7⟩
   | true=>
    refine wpAny_mono (he s3 _ fp _ s7 _ H7 _ I7 q7) (fun ev s8 ⟨z,H8,I8,r8,mY,hz,m',da,w8⟩=>?_) fun _ _ z=>z.elim
    refine wpAny_mono (dM (X:=X.aY N scope cl s3 (upd H2 D (.lst [])) fp) _ s8 _ H8 (.ref D) [z] (.ref D) [ev] (fun _ H9=>H9=upd H8 D (.lst (ys++[z]))) I8 rfl (.cons r8 .nil) ⟨D,ys,z,rfl,rfl,mY,hz,rfl⟩) (fun _ s9 ⟨_,H9,I9,_,q9⟩=>?_) fun _ _ z=>z.elim
    subst q9
    obtain ⟨a1,a2,a3⟩:=again I9
    exact ⟨m',da,i+1,ys++[z],_,_,_,a1,a2,a3,w8⟩
 have start:=loop (s3.toks+([]:List (Str×Value)).length)
 have es:({s3 with heap:=h₁,toks:=s3.toks+([]:List (Str×Value)).length}:Shared)={s2 with heap:=h₁,toks:=s2.toks+([]:List (Str×Value)).length}:=by rw [←ft]
 rw [es] at start
 exact codeAny_compStart_list start (T.self _ 0 _ _ _ (T.keep _ _ _ eh fun b hb o e=>cz _ _ (dR _ _ e)) start)
end
section
variable {X:Cx}
end
section
variable {M:Model} {A:Around} {E:Value→Shared→Prop} {s:Shared}
end
section
variable {X:Cx} {N:List Str} {scope:Scope} {cl:List (Str×Addr)} {x:Str} {px pos:Pos} {iter elt:Expr} {ifs:List Expr} {wi:TI} {ρ:St→St} {tt:TT} {te:TE}
end
def tu(K:PySem.W.Frag)(H:Hp):Nat→V→V→Prop
 | 0,v,u=>v=u∧dJ v=true
 | n+1,v,u=>(v=u∧dJ v=true)∨∃a b xs ys,v=.ref a∧u=.ref b∧((aX K H a xs∧aX K H b ys)∨(bH K H a xs∧bH K H b ys))∧xs.length=ys.length∧∀(j:Nat) (x y:V),xs[j]?=some x→ys[j]?=some y→tu K H n x y
theorem kD{v:V}(h:dJ v=true):eR v v=true:=by
 cases v with
 | aG=>rfl
 | bl b=>show (b == b)=true;simp
 | int i=>show (i == i)=true;simp
 | str x=>show (x == x)=true;simp
 | _=>cases h
theorem all_range(n:Nat):(List.range n).all (fun _=>true)=true:=by simp
section
variable {X:Cx} {pins:List (Addr×Obj)} {σ:St} {H:Hp} {s:Shared}
theorem o8(I:Inv X pins σ H s):∀(n:Nat) (A:Around) (v u:V) (a b:Value),tu X.K H n v u→RelV v a→RelV u b→A.units+n<cLine→SeqAt.EqAt A s a b true
 | 0,A,v,u,a,b,h,ra,rb,hu=>by
  obtain ⟨rfl,hf⟩:=h
  have z:=ki (A:=A) (s:=s) ra rb hf hf
  rw [kD hf] at z
  exact z
 | n+1,A,v,u,a,b,h,ra,rb,hu=>by
  rcases h with ⟨rfl,hf⟩ | ⟨p,q,xs,ys,rfl,rfl,hs,hl,hi⟩
  ·have z:=ki (A:=A) (s:=s) ra rb hf hf
   rw [kD hf] at z
   exact z
  ·cases ra
   cases rb
   by_cases pq:p=q
   ·subst pq
    exact SeqAt.EqAt.same _
   rcases hs with ⟨h1,h2⟩ | ⟨h1,h2⟩
   ·obtain ⟨us,r1,t1,_⟩:=I.list h1
    obtain ⟨vs,r2,t2,_⟩:=I.list h2
    have l1:=r1.length
    have l2:=r2.length
    have z:=SeqAt.RcAt.lists (A:=A) (e:=fun _=>true) t1.isList t2.isList (by simp;omega) (by omega) (fun j z1 z2=>by
     have h_:j<us.length:=by simpa using z1
     have o9:j<vs.length:=by simpa using z2
     obtain ⟨x,ex⟩:∃x,xs[j]?=some x:=⟨xs[j],by simp [show j<xs.length by omega]⟩
     obtain ⟨y,ey⟩:∃y,ys[j]?=some y:=⟨ys[j],by simp [show j<ys.length by omega]⟩
     obtain ⟨x',d9,rx⟩:=r1.get ex
     obtain ⟨y',fw,ry⟩:=r2.get ey
     have e1:us.toArray[j]=x':=by simpa using (List.getElem?_eq_some_iff.mp d9).2
     have e2:vs.toArray[j]=y':=by simpa using (List.getElem?_eq_some_iff.mp fw).2
     rw [e1,e2]
     exact o8 I n A.in1 x y x' y' (hi j x y ex ey) rx ry (by rw [Around.in1_units];omega))
    rw [all_range] at z
    exact SeqAt.EqAt.of_refs pq z
   ·obtain ⟨us,r1,t1,_⟩:=I.tuple h1
    obtain ⟨vs,r2,t2,_⟩:=I.tuple h2
    have l1:=r1.length
    have l2:=r2.length
    have z:=SeqAt.RcAt.tuples (A:=A) (e:=fun _=>true) t1 t2 (by omega) (fun j z1 z2=>by
     have h_:j<us.length:=by simpa using z1
     have o9:j<vs.length:=by simpa using z2
     obtain ⟨x,ex⟩:∃x,xs[j]?=some x:=⟨xs[j],by simp [show j<xs.length by omega]⟩
     obtain ⟨y,ey⟩:∃y,ys[j]?=some y:=⟨ys[j],by simp [show j<ys.length by omega]⟩
     obtain ⟨x',d9,rx⟩:=r1.get ex
     obtain ⟨y',fw,ry⟩:=r2.get ey
     have e1:us.toArray[j]=x':=by simpa using (List.getElem?_eq_some_iff.mp d9).2
     have e2:vs.toArray[j]=y':=by simpa using (List.getElem?_eq_some_iff.mp fw).2
     rw [e1,e2]
     exact o8 I n A.in1 x y x' y' (hi j x y ex ey) rx ry (by rw [Around.in1_units];omega))
    have e3:(us.toArray.size == vs.toArray.size)=true:=by simp;omega
    rw [all_range,e3] at z
    exact SeqAt.EqAt.of_refs pq z
end
section
variable {X:Cx}
def xH(K:PySem.W.Frag)(n:Nat)(r:Bool):R2:=fun x y H Q=>∃a b xs ys,x=.ref a∧y=.ref b∧aX K H a xs∧aX K H b ys∧xs.length=ys.length∧(∀(j:Nat) (x y:V),xs[j]?=some x→ys[j]?=some y→tu K H n x y)∧Q (.bl r) H
theorem Mq{n:Nat}(hu:X.A.units+64<cLine)(hn:n<60:=by decide):bI X (compareOp .Eq) (xH X.K n true):=by
 intro pins s σ H x y v u Q I rx ry h
 obtain ⟨a,b,xs,ys,rfl,rfl,h1,h2,hl,hi,q⟩:=h
 cases rx
 cases ry
 obtain ⟨us,r1,t1,_⟩:=I.list h1
 obtain ⟨vs,r2,t2,_⟩:=I.list h2
 have l1:=r1.length
 have l2:=r2.length
 refine SeqAt.eq_listAt (e:=fun _=>true) t1.isList t2.isList (by simp;omega) (by omega) (fun j z1 z2=>?_) ?_
 ·have h_:j<us.length:=by simpa using z1
  have o9:j<vs.length:=by simpa using z2
  obtain ⟨x,ex⟩:∃x,xs[j]?=some x:=⟨xs[j],by simp [show j<xs.length by omega]⟩
  obtain ⟨y,ey⟩:∃y,ys[j]?=some y:=⟨ys[j],by simp [show j<ys.length by omega]⟩
  obtain ⟨x',d9,rx⟩:=r1.get ex
  obtain ⟨y',fw,ry⟩:=r2.get ey
  have e1:us.toArray[j]=x':=by simpa using (List.getElem?_eq_some_iff.mp d9).2
  have e2:vs.toArray[j]=y':=by simpa using (List.getElem?_eq_some_iff.mp fw).2
  rw [e1,e2]
  exact o8 I n X.A.in1 x y x' y' (hi j x y ex ey) rx ry (by rw [Around.in1_units];omega)
 ·rw [all_range]
  exact ⟨.bl true,H,I,rfl,q⟩
theorem xI{n:Nat}(hu:X.A.units+64<cLine)(hn:n<60:=by decide):bI X (compareOp .NotEq) (xH X.K n false):=by
 intro pins s σ H x y v u Q I rx ry h
 obtain ⟨a,b,xs,ys,rfl,rfl,h1,h2,hl,hi,q⟩:=h
 cases rx
 cases ry
 obtain ⟨us,r1,t1,_⟩:=I.list h1
 obtain ⟨vs,r2,t2,_⟩:=I.list h2
 have l1:=r1.length
 have l2:=r2.length
 refine SeqAt.RcNeAt.lists (e:=fun _=>true) t1.isList t2.isList (by simp;omega) (by omega) (fun j z1 z2=>?_) _ _ _ _ ?_
 ·have h_:j<us.length:=by simpa using z1
  have o9:j<vs.length:=by simpa using z2
  obtain ⟨x,ex⟩:∃x,xs[j]?=some x:=⟨xs[j],by simp [show j<xs.length by omega]⟩
  obtain ⟨y,ey⟩:∃y,ys[j]?=some y:=⟨ys[j],by simp [show j<ys.length by omega]⟩
  obtain ⟨x',d9,rx⟩:=r1.get ex
  obtain ⟨y',fw,ry⟩:=r2.get ey
  have e1:us.toArray[j]=x':=by simpa using (List.getElem?_eq_some_iff.mp d9).2
  have e2:vs.toArray[j]=y':=by simpa using (List.getElem?_eq_some_iff.mp fw).2
  rw [e1,e2]
  exact o8 I n X.A.in1 x y x' y' (hi j x y ex ey) rx ry (by rw [Around.in1_units];omega)
 ·rw [all_range]
  exact ⟨.bl false,H,I,rfl,q⟩
end
section
variable {X:Cx} {N:List Str} {scope:Scope} {cl:List (Str×Addr)} {x:Str} {px pos:Pos} {iter elt:Expr} {ifs:List Expr} {wi:TI} {ρ:St→St} {tt:TT} {te:TE}
end
structure xJ (J:It) (zs:List (V×V)) (H1:Hp):Prop where
 go:∀i Hc,aj H1 Hc→i<zs.length→J.go i Hc
 cn:∀i Hc v H',aj H1 Hc→J.cn i Hc v H'→∃T x y,v=.ref T∧Hc T=none∧H'=upd Hc T (.tup [x,y])∧(i<zs.length→zs[i]?=some (x,y))
 stop:∀i Hc,aj H1 Hc→zs.length≤i→J.stop i Hc
theorem D8{K:PySem.W.Frag}{wi:TI}{ρ:St→St}{te:TE}{σ:St}{H:Hp}{Q:VK}{zs:List (V×V)}(cZ:∀R:It→Hp→Prop,(∀J H1,aj H H1→xJ J zs H1→R J H1)→wi σ H R)(hn:zs.length<sizeLine)
  (P:Nat→V→Prop)
  (step:∀i x y,zs[i]?=some (x,y)→∀(Hc:Hp) (R:VK),aj H Hc→(∀v H3,aj Hc H3→P i v→R v H3)→te (some x::some y::ρ σ) Hc R)
  (fin:∀D vs Hc,aj H Hc→vs.length=zs.length→(∀(i:Nat) (v:V),vs[i]?=some v→P i v)→Hc D=some (.lst vs)→Q (.ref D) Hc):xG K wi ρ (fun _ H Q=>Q true H) te σ H Q:=by
 refine cZ _ fun J H1 s1 js=>?_
 intro D nD
 refine ⟨fun i m vs Hc=>m=zs.length-i∧i≤zs.length∧Hc D=some (.lst vs)∧aj H1 Hc∧vs.length=i∧∀(j:Nat) (v:V),vs[j]?=some v→P j v,⟨_,rfl,Nat.zero_le _,ar,cV (aj.refl H1) nD,rfl,fun j y e=>by simp at e⟩,?_⟩
 rintro i m vs Hc ⟨rfl,hi,eD,sH,el,hP⟩
 refine ⟨eD,?_⟩
 by_cases a8:i<zs.length
 ·refine .inr ⟨js.go i Hc sH a8,fun v H' hy=>?_⟩
  obtain ⟨T,x,y,ev,nT,eH,hx⟩:=js.cn i Hc v H' sH hy
  subst ev eH
  refine ⟨T,x,y,rfl,.of ar,?_⟩
  dsimp only
  rw [if_pos rfl]
  have sT:aj Hc (upd Hc T (.tup [x,y])):=fun b o e=>by rw [aA (eL e nT)];exact e
  refine step i x y (hx a8) _ _ (s1.trans (sH.trans sT)) fun w H3 s3 hp=>?_
  have e3:=s3 _ _ (sT _ _ eD)
  refine ⟨e3,by omega,zs.length-(i+1),by omega,rfl,a8,ar,cV (sH.trans (sT.trans s3)) nD,by simp [el],fun j v' e=>?_⟩
  by_cases hj:j<i
  ·exact hP j v' (by rw [List.getElem?_append_left (by omega)] at e;exact e)
  ·have hj:j=i:=by
    have:=(List.getElem?_eq_some_iff.mp e).1
    simp at this
    omega
   subst hj
   have e':v'=w:=by rw [List.getElem?_append_right (by omega),el,Nat.sub_self] at e;simpa using e.symm
   subst e'
   exact hp
 ·have e:i=zs.length:=by omega
  subst e
  exact .inl ⟨js.stop _ Hc sH (Nat.le_refl _),fin D vs Hc (s1.trans sH) el hP eD⟩
theorem xK{wi:TI}{ρ:St→St}{te:TE}{σ:St}{H:Hp}{Q:VK}{xs:List V}(cZ:∀R:It→Hp→Prop,(∀J H1,aj H H1→h9 J xs H1→R J H1)→wi σ H R)(hn:xs.length<sizeLine)
  (P:Addr→Nat→V→Hp→Prop) (mono:∀D i y H H' ys,P D i y H→H D=some (.lst ys)→(∀b o,b≠D→H b=some o→H' b=some o)→P D i y H')
  (step:∀D i x,xs[i]?=some x→∀(Hc:Hp) (R:VK),aj H Hc→(∃ys,Hc D=some (.lst ys))→(∀y H3,aj Hc H3→P D i y H3→R y H3)→te (some x::ρ σ) Hc R)
  (fin:∀D ys Hc,H D=none→aj H Hc→ys.length=xs.length→(∀(i:Nat) (y:V),ys[i]?=some y→P D i y Hc)→Hc D=some (.lst ys)→Q (.ref D) Hc):fq wi ρ (fun _ H Q=>Q true H) te σ H Q:=by
 refine cZ _ fun J H1 s1 js=>?_
 intro D nD
 have hD:H D=none:=by
  cases e:H D with
  | none=>rfl
  | some o=>rw [s1 _ _ e] at nD;cases nD
 exact xD (ρσ:=ρ σ) (te:=te) (Q:=Q) js nD hn (P D) (mono D) (fun i x hx Hc R sc=>step D i x hx Hc R (s1.trans sc)) (fun ys Hc sc=>fin D ys Hc hD (s1.trans sc))
section
variable {X:Cx} {K:PySem.W.Frag}
theorem xM(hK:X.K=K:=by rfl):oJ X (w9 K):=by
 subst hK
 exact bL
end
end L2
namespace My
open PySem L2
theorem o_{r:List V→Hp→VK→Prop}{te:TE}{σ:St}{H:Hp}{Q:VK}(h:te σ H fun x H1=>r [x] H1 Q):r6 r (rZ te oE) σ H Q:=h
theorem xN{te:TE}{D:Ends}{σ:St}{H:Hp}(h:te σ H D.rt):vZ te D σ H:=h
theorem tw{vs:List V}{b:Bool}(h:∀(i:Nat) (v:V),vs[i]?=some v→v=.bl b):vs=(List.replicate vs.length b).map V.bl:=by
 refine List.ext_getElem? fun i=>?_
 rw [List.getElem?_map]
 by_cases hi:i<vs.length
 ·rw [show vs[i]?=some vs[i] by simp [hi],h i vs[i] (by simp [hi])]
  simp [hi]
 ·rw [List.getElem?_eq_none (by omega),List.getElem?_eq_none (by simp;omega)]
  rfl
theorem tD(n:Nat):(List.replicate n true).all id=true:=by simp
theorem none_of{H H':Hp}{b:Addr}(s:aj H H')(h:H' b=none):H b=none:=by
 cases e:H b with
 | none=>rfl
 | some o=>rw [s _ _ e] at h;cases h
theorem getD_at{α:Type}{xs:List α}{d:α}{i:Nat}(hi:i<xs.length):xs.getD i d=xs[i]:=by
 rw [List.getD_eq_getElem?_getD,show xs[i]?=some xs[i] by simp [hi]]
 rfl
def er(P:Addr)(H:Hp):Hp:=fun b=>if b=P then none else H b
theorem pb{P:Addr}{H:Hp}:aj (er P H) H:=fun b o e=>by
 unfold er at e
 split at e
 ·cases e
 ·exact e
theorem cL{P b:Addr}{H:Hp}(h:b≠P):er P H b=H b:=if_neg h
theorem tE{P b:Addr}{H:Hp}{o:HO}(h:b≠P)(e:H b=some o):er P H b=some o:=by rw [cL h];exact e
theorem ph{P:Addr}{H H':Hp}(s:aj H H'):aj (er P H) (er P H'):=fun b o e=>by
 unfold er at e ⊢
 split at e
 ·cases e
 ·rename_i h
  rw [if_neg h]
  exact s _ _ e
theorem xO{P:Addr}{H:Hp}{o:HO}:er P (upd H P o)=er P H:=funext fun b=>by
 unfold er
 split
 ·rfl
 ·rename_i h
  exact aA h
def bo(H:Hp)(P a:Addr):Prop:=∃x y:Int,H P=some (.lst [.ref a,.int x,.int y])∧0≤x∧0≤y
theorem bo.mono{H H':Hp}{P a:Addr}(h:bo H P a)(s:aj H H'):bo H' P a:=by
 obtain ⟨x,y,e,h1,h2⟩:=h
 exact ⟨x,y,s _ _ e,h1,h2⟩
theorem bo.upd{H:Hp}{P a D:Addr}{o:HO}(h:bo H P a)(n:D≠P):bo (L2.upd H D o) P a:=by
 obtain ⟨x,y,e,h1,h2⟩:=h
 exact ⟨x,y,by rw [aA n.symm];exact e,h1,h2⟩
theorem bo.ne{H:Hp}{P a D:Addr}(h:bo H P a)(n:H D=none):D≠P:=fun z=>by
 obtain ⟨x,y,e,_⟩:=h
 rw [z,e] at n
 cases n
def ay(P:Addr)(H H':Hp):Prop:=aj (er P H) (er P H')
theorem ay.refl{P:Addr}(H:Hp):ay P H H:=aj.refl _
theorem ay.trans{P:Addr}{H H' H2:Hp}(s:ay P H H')(t:ay P H' H2):ay P H H2:=aj.trans s t
theorem ay.of{P:Addr}{H H':Hp}(s:aj H H'):ay P H H':=ph s
theorem ay.fZ{P:Addr}{H:Hp}{o:HO}:ay P H (upd H P o):=by
 unfold ay
 rw [xO]
 exact aj.refl _
theorem ay.but{P D:Addr}{H H':Hp}{o:HO}(s:ay P H H')(n:H D=none):ay P H (upd H' D o):=fun b u e=>by
 have e0:=s b u e
 have nb:b≠P:=fun z=>by unfold er at e;rw [if_pos z] at e;cases e
 rw [cL nb] at e e0 ⊢
 rw [aA (eL e n)]
 exact e0
theorem ay.at{P b:Addr}{H H':Hp}{o:HO}(s:ay P H H')(nb:b≠P)(e:H b=some o):H' b=some o:=by
 have z:=s b o (tE nb e)
 rw [cL nb] at z
 exact z
end My
namespace L2
open PySem PySem.Spec PyProof.Rows
end L2
namespace My
open PySem L2
def D9:Sp:=fun vs H Q _=>∃c a:Int,vs=[.int c,.int a]∧0≤a∧∀r:Int,0≤r→Q (.int r) H
def D_(K:PySem.W.Frag):Sp:=fun vs H Q _=>∃(P a:Addr) (ns:List Int) (many:Int),vs=[.ref P,.int many]∧bo H P a∧aX K (er P H) a (ns.map V.int)∧1≤many∧de many∧∀(r:Int) (H':Hp),0≤r→r<many→ay P H H'→bo H' P a→Q (.int r) H'
end My
namespace L2
open PySem PySem.Spec PyProof.Rows
end L2
namespace My
open PySem L2
end My
namespace L2
open PySem PySem.Spec PyProof.Rows
def m5(K:PySem.W.Frag)(l:Addr):It:=
  ⟨fun i H=>∃xs x,aX K H l xs∧xs[i]?=some x,
   fun i H v H'=>∃T x,H T=none∧v=.ref T∧H'=upd H T (.tup [.int (i:Int),x])∧∀xs,aX K H l xs→xs[i]?=some x,
   fun i H=>∃xs,aX K H l xs∧xs.length≤i⟩
theorem Ea{P:Program}{w:World}{K:PySem.W.Frag}{elts:List Expr}{k:Nat}{pos:Pos}{e it l:Addr}(xP:e≠it):Turn P w K (.Tuple elts k pos) (m5 K l) [e,it] e
  (fun i h=>(∃old,IsEnum h e it (i:Int) old)∧h.IsListIter it l i) where
 mem:=by simp
 obj:=fun i h st b hb=>by
  obtain ⟨⟨old,he⟩,h1⟩:=st
  simp only [List.mem_cons,List.not_mem_nil,or_false] at hb
  rcases hb with rfl | rfl
  ·exact ⟨_,he,fun v z=>by cases z⟩
  ·obtain ⟨o,e,c,d⟩:=h1
   exact ⟨o,e,fun v z=>by rw [d] at z;cases z⟩
 keep:=fun i h h' st k=>by
  obtain ⟨⟨old,he⟩,h1⟩:=st
  exact ⟨⟨old,k _ (by simp) _ he⟩,h1.at fun o e=>k _ (by simp) o e⟩
 item:=by
  intro X hP hw hK hc i pins s σ H E I hf st hg
  subst hP hw hK
  obtain ⟨⟨old,he⟩,h1⟩:=st
  obtain ⟨xs,x,eB,hx⟩:=hg
  obtain ⟨aa,rv,p,_⟩:=I.list eB
  obtain ⟨u,hu,ru⟩:=rv.get hx
  refine wpAny_pyNext_enum_item he h1 p.isList (x:=u) (by simpa using hu) xP fun h' g1 g2 g3 g4 g5=>⟨_,rfl,?_⟩
  refine wpAny_letOwnedTupleGo_enum g1 fun f9 q1 sb=>?_
  have m6:H s.heap.objs.size=none:=I.aq.fresh (Nat.le_refl _)
  have lt:∀b o,s.heap.get? b=some o→b≠s.heap.objs.size:=fun b o e=>Nat.ne_of_lt (Heap.lt_size e)
  have keep:∀b o,b∉[e,it]→s.heap.get? b=some o→f9.get? b=some o:=fun b o nb e=>by
   simp only [List.mem_cons,List.not_mem_nil,or_false,not_or] at nb
   exact sb.extBut _ _ nb.1 (g5 b o nb.1 nb.2 e)
  have elt:e≠s.heap.objs.size:=lt _ _ he
  have pT:=sb.extBut _ _ elt.symm g3
  have fz:∀{b:Addr} {o:HO} (e:H b=some o),upd H s.heap.objs.size (.tup [.int (i:Int),x]) b=some o:=fun e=>by rw [aA (eL e m6)];exact e
  have aq:a9 X.prog X.w (upd H s.heap.objs.size (.tup [.int (i:Int),x])) f9:=fun b o e=>by
   by_cases hb:b=s.heap.objs.size
   ·subst hb
    rw [ar] at e
    cases e
    exact ⟨by show 2≤sizeLine;decide,[.int i s.toks,u],.cons ⟨_,rfl⟩ (.cons ru .nil),⟨_,pT,rfl,_,rfl⟩⟩
   ·rw [aA hb] at e
    refine (I.aq b o e).d8 (fun c v b_ q=>keep c v (fun m=>?_) q) (fun c q=>fz q) fun c xs q=>fz q
    have nn:=(hf c m).1
    rcases b_ with rfl | b_
    ·rw [nn] at e;cases e
    ·rw [nn] at b_;cases b_
  have u1:Un (bu X.stack) [e,it] H (upd H s.heap.objs.size (.tup [.int (i:Int),x])) s.heap f9:=
   ⟨fun b o e n _ hx=>keep b o hx e,fun b o e n _ hx=>⟨o.slots,keep b o hx e⟩,fun b o e n hx=>by rw [aA (lt b o e)];exact n,fun b o e hx=>⟨o,keep b o hx e⟩,fun b xs e=>fz e,fun b o u e=>fz e,fun b ps e=>⟨#[],by rw [fz e];simp⟩⟩
  refine ⟨.ref s.heap.objs.size,upd H s.heap.objs.size (.tup [.int (i:Int),x]),I.gW (s':={s with heap:=f9,toks:=s.toks+1}) (ch:=[e,it]) rfl u1 aq I.bare (fun b hb=>?_),rfl,⟨_,x,m6,rfl,rfl,fun as ha=>by rw [I.vX ha eB];exact hx⟩,?_,fun b hb=>?_⟩
  ·obtain ⟨f0,f1,f2,f3,f4,f5⟩:=hf b hb
   exact ⟨f3,f1,f4,f5⟩
  ·refine ⟨⟨u,?_⟩,g2.extBut sb.extBut xP.symm⟩
   have z:((i+1:Nat):Int)=(i:Int)+1:=by omega
   rw [z]
   exact q1
  ·have nb:b≠s.heap.objs.size:=by
    simp only [List.mem_cons,List.not_mem_nil,or_false] at hb
    rcases hb with rfl | rfl
    ·exact lt _ _ he
    ·obtain ⟨o,e,_⟩:=h1;exact lt _ _ e
   rw [aA nb]
   exact (hf b hb).1
 done:=by
  intro X hP hw hK hc i pins s σ H E I hf st hg
  subst hP hw hK
  obtain ⟨⟨old,he⟩,h1⟩:=st
  obtain ⟨xs,eB,hx⟩:=hg
  obtain ⟨aa,rv,p,_⟩:=I.list eB
  have hl:=rv.length
  refine wpAny_pyNext_enum_end (I.ok.hd hc) he h1 p.isList (by simp;omega) fun h' g=>⟨rfl,?_⟩
  have keep:∀b o,b∉[e,it]→s.heap.get? b=some o→h'.get? b=some o:=fun b o nb e=>by
   simp only [List.mem_cons,List.not_mem_nil,or_false,not_or] at nb
   exact g b o nb.2 e
  have aq:a9 X.prog X.w H h':=fun b o e=>by
   refine (I.aq b o e).d8 (fun c v b_ q=>keep c v (fun m=>?_) q) (fun c q=>q) fun c xs q=>q
   have nn:=(hf c m).1
   rcases b_ with rfl | b_
   ·rw [nn] at e;cases e
   ·rw [nn] at b_;cases b_
  have u1:Un (bu X.stack) [e,it] H H s.heap h':=
   ⟨fun b o e n _ hx=>keep b o hx e,fun b o e n _ hx=>⟨o.slots,keep b o hx e⟩,fun b o e n hx=>n,fun b o e hx=>⟨o,keep b o hx e⟩,fun b xs e=>e,fun b o u e=>e,fun b ps e=>⟨#[],by rw [e];simp⟩⟩
  refine I.gW (s':={s with heap:=h'}) (ch:=[e,it]) rfl u1 aq I.bare fun b hb=>?_
  obtain ⟨f0,f1,f2,f3,f4,f5⟩:=hf b hb
  exact ⟨f3,f1,f4,f5⟩
 self:=fun _ _ _ _ _ st h=>by
  obtain ⟨⟨old,he⟩,_⟩:=st
  exact wpAny_pyIter_enum he h
theorem boot_enumerate:bootBuiltins "enumerate" = some (.type "enumerate"):=by decide +kernel
def Eb(K:PySem.W.Frag)(ta:TA):TI:=fun σ H R=>ta σ H fun vs H1=>∃l,vs=[.ref l]∧(∃xs,aX K H1 l xs)∧R (m5 K l) H1
section
variable {X:Cx}
theorem xQ{elts:List Expr}{k:Nat}{kf:Pos}{a:Expr}{ta:TA}{p pos:Pos}(hg:Gl X "enumerate")(hm:X.mg "enumerate" = none)(ha:PA X [a] ta)(hs:starEach [a] X.env=[(false,eval a X.env)]:=by rfl) :
  PI X (.Tuple elts k kf) (.Call (.Name "enumerate" p) [a] [] pos) (Eb X.K ta):=by
 intro pins s σ H R I h
 refine Call_ (iR I hg hm boot_enumerate (PyProof.Rows.callWith_type1 (aw (ha pos pins s σ H _ I h) fun us s1 ⟨vs,H1,I1,r1,q1⟩=>?_) hs rfl))
 obtain ⟨l,e,⟨xs,eB⟩,q⟩:=q1
 subst e
 obtain ⟨u,rfl,ru⟩:=vals1 r1
 cases ru
 obtain ⟨aa,rv,p1,_⟩:=I1.list eB
 refine call_enumerate_list p1.isList fun h' z1 z2 z3 z4=>?_
 refine wpAny_pyIter_enum (s:={s1 with heap:=h'}) z1 ?_
 refine ⟨_,_,_,_,H1,rfl,I1.kept (t':=s1.toks) z4,Ea (Nat.succ_ne_self _),⟨⟨_,z1⟩,z2⟩,fun b hb=>?_,q⟩
 have le:s1.heap.objs.size≤b:=by
  simp only [List.mem_cons,List.not_mem_nil,or_false] at hb
  rcases hb with rfl | rfl
  ·exact Nat.le_add_right ..
  ·exact Nat.le_refl _
 exact I1.j_ le (I1.aq.fresh le)
end
theorem xR{K:PySem.W.Frag}{l:Addr}{xs:List V}{g:TG}{tb:TS}{D:Ends}{σ:St}{H:Hp}(Pv:Nat→St→Hp→Prop)(h0:Pv 0 σ H)(hl:∀i σ H,Pv i σ H→aX K H l xs)
  (hs:∀(i:Nat) (x:V) σ H T,xs[i]?=some x→Pv i σ H→H T=none→g (.ref T) σ (upd H T (.tup [.int (i:Int),x])) fun σ2 H2=>tb {D with nx:=Pv (i+1),ct:=Pv (i+1),bk:=D.nx} σ2 H2) (hd:∀σ H,Pv xs.length σ H→D.nx σ H) :
  ∃W:Nat→Nat→St→Hp→Prop,(∃m,W 0 m σ H)∧∀i m σ H,W i m σ H→
   ((m5 K l).stop i H∧D.nx σ H)∨((m5 K l).go i H∧∃N:St→Hp→Prop,(∀σ' H',N σ' H'→∃m',m'<m∧W (i+1) m' σ' H')∧∀x H',(m5 K l).cn i H x H'→g x σ H' fun σ2 H2=>tb {D with nx:=N,ct:=N,bk:=D.nx} σ2 H2):=by
 refine ⟨fun i m σ H=>m=xs.length-i∧i≤xs.length∧Pv i σ H,⟨xs.length,by simp,Nat.zero_le _,h0⟩,?_⟩
 rintro i m σ H ⟨rfl,hi,p⟩
 have q1:=hl i σ H p
 by_cases a8:i<xs.length
 ·refine .inr ⟨⟨xs,xs[i],q1,by simp [a8]⟩,Pv (i+1),fun σ' H' p'=>⟨xs.length-(i+1),by omega,rfl,a8,p'⟩,fun v H' hy=>?_⟩
  obtain ⟨T,x,nT,rfl,rfl,hx⟩:=hy
  exact hs i x σ H T (hx xs q1) p nT
 ·have e:i=xs.length:=by omega
  subst e
  exact .inl ⟨⟨xs,q1,Nat.le_refl _⟩,hd σ H p⟩
end L2
namespace My
open PySem L2
end My
namespace L2
open PySem PySem.Spec PyProof.Rows
section
variable {X:Cx} {tg:Expr}
end
section
variable {X:Cx} {e:Expr} {te:TE} {pos p2:Pos}
end
end L2
namespace My
open PySem L2
theorem m7{wi:TI}{ρ:St→St}{te:TE}{σ:St}{H:Hp}{Q:VK}{xs:List V}{n:Nat}(hl:xs.length=n)(cZ:∀R:It→Hp→Prop,(∀J H1,aj H H1→h9 J xs H1→R J H1)→wi σ H R)(hn:n<sizeLine)
  (P:Addr→Nat→Addr→Hp→Prop) (mono:∀D i y H H' ys,P D i y H→y≠D→H D=some (.lst ys)→(∀b o,b≠D→H b=some o→H' b=some o)→P D i y H')
  (step:∀D (i:Nat) (x:V),xs[i]?=some x→∀(Hc:Hp) (R:VK),aj H Hc→(∃ys,Hc D=some (.lst ys))→(∀y H3,aj Hc H3→Hc y=none→(∃o,H3 y=some o)→P D i y H3→R (.ref y) H3)→te (some x::ρ σ) Hc R)
  (fin:∀D (A:Nat→Addr) Hc,H D=none→aj H Hc→(∀i j,i<n→j<n→A i=A j→i=j)→(∀i,i<n→P D i (A i) Hc∧A i≠D)→Hc D=some (.lst ((List.range n).map fun i=>V.ref (A i)))→Q (.ref D) Hc):fq wi ρ (fun _ H Q=>Q true H) te σ H Q:=by
 refine cZ _ fun J H1 s1 js=>?_
 intro D nD
 have hD:H D=none:=by
  cases e:H D with
  | none=>rfl
  | some o=>rw [s1 _ _ e] at nD;cases nD
 refine ⟨fun i m ys Hc=>m=n-i∧i≤n∧Hc D=some (.lst ys)∧aj H1 Hc∧∃A:Nat→Addr,ys=(List.range i).map (fun j=>V.ref (A j))∧(∀a b,a<i→b<i→A a=A b→a=b)∧∀j,j<i→P D j (A j) Hc∧A j≠D∧∃o,Hc (A j)=some o,⟨_,rfl,Nat.zero_le _,ar,cV (aj.refl H1) nD,fun _=>D,rfl,(fun a b h=>by omega),fun j h=>by omega⟩,?_⟩
 rintro i m ys Hc ⟨rfl,hi,eD,sH,A,rfl,inj,hA⟩
 refine ⟨eD,?_⟩
 by_cases a8:i<n
 ·refine .inr ⟨js.go i Hc sH (by omega),fun x H' hy=>?_⟩
  obtain ⟨rfl,hx⟩:=js.cn i Hc x H' sH hy
  rw [if_pos rfl]
  refine step D i x (hx (by omega)) _ _ (s1.trans sH) ⟨_,eD⟩ fun y H3 s3 ny ⟨o,ho⟩ hp=>?_
  have e3:=s3 _ _ eD
  have yD:y≠D:=fun e=>by rw [e,eD] at ny;cases ny
  have bb:∀b o,b≠D→H3 b=some o→upd H3 D (.lst ((List.range i).map (fun j=>V.ref (A j))++[.ref y])) b=some o:=fun b o nb e=>by rw [aA nb];exact e
  have nA:∀j,j<i→A j≠y:=fun j hj e=>by
   obtain ⟨_,_,o',h'⟩:=hA j hj
   rw [e,ny] at h'
   cases h'
  refine ⟨e3,by simp;omega,n-(i+1),by omega,rfl,a8,ar,cV (sH.trans s3) nD,fun j=>if j=i then y else A j,?_,fun a b ha hb e=>?_,fun j hj=>?_⟩
  ·rw [List.range_succ,List.map_append]
   congr 1
   ·refine List.map_congr_left fun j hj=>?_
    dsimp only
    rw [if_neg (by have:=List.mem_range.mp hj;omega)]
   ·simp
  ·dsimp only at e
   by_cases z1:a=i
   ·by_cases z2:b=i
    ·omega
    ·rw [if_pos z1,if_neg z2] at e
     exact absurd e.symm (nA b (by omega))
   ·by_cases z2:b=i
    ·rw [if_neg z1,if_pos z2] at e
     exact absurd e (nA a (by omega))
    ·rw [if_neg z1,if_neg z2] at e
     exact inj a b (by omega) (by omega) e
  ·dsimp only
   by_cases z:j=i
   ·rw [if_pos z,z]
    exact ⟨mono D i y H3 _ _ hp yD e3 bb,yD,o,bb _ _ yD ho⟩
   ·rw [if_neg z]
    obtain ⟨h1,h2,o',h3⟩:=hA j (by omega)
    exact ⟨mono D j (A j) H' _ _ h1 h2 eD (fun b o nb e=>bb b o nb (s3 _ _ e)),h2,o',bb _ _ h2 (s3 _ _ h3)⟩
 ·have e:i=n:=by omega
  subst e
  exact .inl ⟨js.stop _ Hc sH (by omega),fin D A Hc hD (s1.trans sH) inj (fun j hj=>⟨(hA j hj).1,(hA j hj).2.1⟩) eD⟩
end My
namespace L2
open PySem PySem.Spec PyProof.Rows
theorem Ec{xs ys:List Int}(h:xs.length=ys.length):((List.range xs.length).all fun j=>eR (.int (xs.getD j 0)) (.int (ys.getD j 0)))=decide (xs=ys):=by
 by_cases e:xs=ys
 ·subst e
  rw [decide_eq_true rfl,List.all_eq_true]
  intro j _
  exact kD rfl
 ·rw [decide_eq_false e]
  cases z:((List.range xs.length).all fun j=>eR (.int (xs.getD j 0)) (.int (ys.getD j 0))) with
  | false=>rfl
  | true=>
   refine absurd (List.ext_getElem h fun j h1 h2=>?_) e
   have:=List.all_eq_true.mp z j (List.mem_range.mpr h1)
   have this:(xs.getD j 0 == ys.getD j 0)=true:=this
   rw [beq_iff_eq,List.getD_eq_getElem?_getD,List.getD_eq_getElem?_getD] at this
   simpa [h1,h2] using this
end L2
namespace My
open PySem L2
end My
namespace L2
open PySem PySem.Spec PyProof.Rows
end L2
namespace My
open PySem L2
end My
namespace L2
open PySem PySem.Spec PyProof.Rows
section
variable {X:Cx}
end
end L2
namespace My
open PySem L2
end My
namespace L2
open PySem PySem.Spec PyProof.Rows
end L2
namespace My
open PySem L2
end My
namespace L2
open PySem PySem.Spec PyProof.Rows
section
variable {X:Cx} {N:List Str} {scope:Scope} {cl:List (Str×Addr)} {x y:Str} {px py pos tp:Pos} {m4:Nat} {iter elt:Expr} {ifs:List Expr} {wi:TI} {ρ:St→St} {tt:TT} {te:TE}
end
inductive Tr where
 | fl (v:V)
 | ls (xs:List Tr)
 | tp (xs:List Tr)
 | dc
inductive fA (H:Hp):Tr→V→Prop where
 | fl {v:V} (h:dJ v=true):fA H (.fl v) v
 | ls {a:Addr} {vs:List V} {ts:List Tr} (e:H a=some (.lst vs)) (l:vs.length=ts.length) (h:∀(i:Nat) (v:V) (t:Tr),vs[i]?=some v→ts[i]?=some t→fA H t v):fA H (.ls ts) (.ref a)
 | tp {a:Addr} {vs:List V} {ts:List Tr} (e:H a=some (.tup vs)) (l:vs.length=ts.length) (h:∀(i:Nat) (v:V) (t:Tr),vs[i]?=some v→ts[i]?=some t→fA H t v):fA H (.tp ts) (.ref a)
 | dc {a:Addr} (e:H a=some (sV a)):fA H .dc (.ref a)
def Tr.In:Nat→Tr→Prop
 | _,.fl _=>True
 | _,.dc=>True
 | 0,.ls _=>False
 | 0,.tp _=>False
 | n+1,.ls ts=>∀t∈ts,t.In n
 | n+1,.tp ts=>∀t∈ts,t.In n
section
variable {X:Cx} {pins:List (Addr×Obj)} {σ:St} {H:Hp} {s:Shared}
theorem xS{A:Around}{a b:Addr}(ha:dO a s.heap)(hb:dO b s.heap)(hu:A.units<cLine):SeqAt.RcAt A s (.ref a) (.ref b) true:=fun prog w E Q h=>by
 obtain ⟨o,ep,e,c,d,z⟩:=ha
 obtain ⟨o',iQ,e',c',d',z'⟩:=hb
 exact PySem.W.keq_eq (knd:=cN prog w) (ka:=[]) (kb:=[]) z z' ⟨o,#[],ep,e,c,d,fun _ h=>by simp at h,.nil,List.nodup_nil⟩ ⟨o',#[],iQ,e',c',d',fun _ h=>by simp at h,.nil,List.nodup_nil⟩ hu (fun _=>.nil) h
theorem Ed{A:Around}{a b:Addr}(ha:dO a s.heap)(hb:dO b s.heap)(hu:A.units<cLine):SeqAt.RcNeAt A s (.ref a) (.ref b) false:=fun prog w E Q h=>by
 obtain ⟨o,ep,e,c,d,z⟩:=ha
 obtain ⟨o',iQ,e',c',d',z'⟩:=hb
 exact PySem.W.keq_ne (knd:=cN prog w) (ka:=[]) (kb:=[]) z z' ⟨o,#[],ep,e,c,d,fun _ h=>by simp at h,.nil,List.nodup_nil⟩ ⟨o',#[],iQ,e',c',d',fun _ h=>by simp at h,.nil,List.nodup_nil⟩ hu (fun _=>.nil) h
theorem pj{xs ys:List V}{us vs:List Value}(r1:Vals xs us)(r2:Vals ys vs){j:Nat}(h1:j<us.length)(h2:j<vs.length):∃x y,xs[j]?=some x∧ys[j]?=some y∧RelV x us.toArray[j]∧RelV y vs.toArray[j]:=by
 have l1:=r1.length
 have l2:=r2.length
 obtain ⟨x,ex⟩:∃x,xs[j]?=some x:=⟨xs[j],by simp [show j<xs.length by omega]⟩
 obtain ⟨y,ey⟩:∃y,ys[j]?=some y:=⟨ys[j],by simp [show j<ys.length by omega]⟩
 obtain ⟨x',d9,rx⟩:=r1.get ex
 obtain ⟨y',fw,ry⟩:=r2.get ey
 have e1:us.toArray[j]=x':=by simpa using (List.getElem?_eq_some_iff.mp d9).2
 have e2:vs.toArray[j]=y':=by simpa using (List.getElem?_eq_some_iff.mp fw).2
 exact ⟨x,y,ex,ey,by rw [e1];exact rx,by rw [e2];exact ry⟩
theorem xT(I:Inv X pins σ H s):∀(n:Nat) (A:Around) (t:Tr) (v u:V) (a b:Value),t.In n→fA H t v→fA H t u→RelV v a→RelV u b→A.units+n<cLine→SeqAt.EqAt A s a b true:=by
 intro n
 induction n with
 | zero=>
  intro A t v u a b hn h1 h2 ra rb hu
  cases h1 with
  | fl h=>
   cases h2 with
   | fl _=>
    have z:=ki (A:=A) (s:=s) ra rb h h
    rw [kD h] at z
    exact z
  | ls e l h=>exact hn.elim
  | tp e l h=>exact hn.elim
  | @dc p e=>
   cases h2 with
   | @dc p' e'=>
    cases ra
    cases rb
    by_cases pq:p=p'
    ·subst pq;exact SeqAt.EqAt.same _
    ·exact SeqAt.EqAt.of_refs pq (xS (show a7 X.prog X.w H s.heap p (.ext (dO p)) from I.aq p _ e).1 (show a7 X.prog X.w H s.heap p' (.ext (dO p')) from I.aq p' _ e').1 hu)
 | succ n ih=>
  intro A t v u a b hn h1 h2 ra rb hu
  cases h1 with
  | fl h=>
   cases h2 with
   | fl _=>
    have z:=ki (A:=A) (s:=s) ra rb h h
    rw [kD h] at z
    exact z
  | @dc p e=>
   cases h2 with
   | @dc p' e'=>
    cases ra
    cases rb
    by_cases pq:p=p'
    ·subst pq;exact SeqAt.EqAt.same _
    ·exact SeqAt.EqAt.of_refs pq (xS (show a7 X.prog X.w H s.heap p (.ext (dO p)) from I.aq p _ e).1 (show a7 X.prog X.w H s.heap p' (.ext (dO p')) from I.aq p' _ e').1 (by omega))
  | @ls p xs ts e l h=>
   cases h2 with
   | @ls p' ys _ e' l' h'=>
    cases ra
    cases rb
    by_cases pq:p=p'
    ·subst pq;exact SeqAt.EqAt.same _
    obtain ⟨us,r1,t1,_⟩:=I.list (.of e)
    obtain ⟨vs,r2,t2,_⟩:=I.list (.of e')
    have l1:=r1.length
    have l2:=r2.length
    have z:=SeqAt.RcAt.lists (A:=A) (e:=fun _=>true) t1.isList t2.isList (by simp;omega) (by omega) (fun j z1 z2=>by
     obtain ⟨x,y,ex,ey,rx,ry⟩:=pj r1 r2 (by simpa using z1) (by simpa using z2)
     have jt:j<ts.length:=by have:=(List.getElem?_eq_some_iff.mp ex).1;omega
     exact ih A.in1 ts[j] x y _ _ (hn _ (List.getElem_mem jt)) (h j x _ ex (by simp [jt])) (h' j y _ ey (by simp [jt])) rx ry (by rw [Around.in1_units];omega))
    rw [all_range] at z
    exact SeqAt.EqAt.of_refs pq z
  | @tp p xs ts e l h=>
   cases h2 with
   | @tp p' ys _ e' l' h'=>
    cases ra
    cases rb
    by_cases pq:p=p'
    ·subst pq;exact SeqAt.EqAt.same _
    obtain ⟨us,r1,t1,_⟩:=I.tuple (.of e)
    obtain ⟨vs,r2,t2,_⟩:=I.tuple (.of e')
    have l1:=r1.length
    have l2:=r2.length
    have z:=SeqAt.RcAt.tuples (A:=A) (e:=fun _=>true) t1 t2 (by omega) (fun j z1 z2=>by
     obtain ⟨x,y,ex,ey,rx,ry⟩:=pj r1 r2 (by simpa using z1) (by simpa using z2)
     have jt:j<ts.length:=by have:=(List.getElem?_eq_some_iff.mp ex).1;omega
     exact ih A.in1 ts[j] x y _ _ (hn _ (List.getElem_mem jt)) (h j x _ ex (by simp [jt])) (h' j y _ ey (by simp [jt])) rx ry (by rw [Around.in1_units];omega))
    have e3:(us.toArray.size == vs.toArray.size)=true:=by simp;omega
    rw [all_range,e3] at z
    exact SeqAt.EqAt.of_refs pq z
end
def Ee(n:Nat):R2:=fun x y H Q=>∃t:Tr,t.In n∧fA H t x∧fA H t y∧Q (.bl false) H
theorem Ef{v:V}(h:dJ v=true):rS v v=true:=by cases v <;> first | rfl | cases h
theorem Eg{X:Cx}{n:Nat}(hu:X.A.units+64<cLine)(hn:n<60:=by decide):bI X (compareOp .NotEq) (Ee n):=by
 intro pins s σ H x y v u Q I rx ry h
 obtain ⟨t,pA,h1,h2,q⟩:=h
 cases h1 with
 | fl h=>
  cases h2 with
  | fl _=>
   refine oA pins s σ H x x v u Q I rx ry ⟨Ef h,?_⟩
   rw [decide_eq_true rfl]
   exact q
 | @dc p e=>
  cases h2 with
  | @dc p' e'=>
   cases rx
   cases ry
   exact (Ed (show a7 X.prog X.w H s.heap p (.ext (dO p)) from I.aq p _ e).1 (show a7 X.prog X.w H s.heap p' (.ext (dO p')) from I.aq p' _ e').1 (by omega)) _ _ _ _ ⟨.bl false,H,I,rfl,q⟩
 | @ls p xs ts e l h=>
  cases h2 with
  | @ls p' ys _ e' l' h'=>
   cases rx
   cases ry
   cases n with
   | zero=>exact pA.elim
   | succ n=>
    obtain ⟨us,r1,t1,_⟩:=I.list (.of e)
    obtain ⟨vs,r2,t2,_⟩:=I.list (.of e')
    have l1:=r1.length
    have l2:=r2.length
    refine SeqAt.RcNeAt.lists (e:=fun _=>true) t1.isList t2.isList (by simp;omega) (by omega) (fun j z1 z2=>?_) _ _ _ _ ?_
    ·obtain ⟨x,y,ex,ey,rx,ry⟩:=pj r1 r2 (by simpa using z1) (by simpa using z2)
     have jt:j<ts.length:=by have:=(List.getElem?_eq_some_iff.mp ex).1;omega
     exact xT I n X.A.in1 ts[j] x y _ _ (pA _ (List.getElem_mem jt)) (h j x _ ex (by simp [jt])) (h' j y _ ey (by simp [jt])) rx ry (by rw [Around.in1_units];omega)
    ·rw [all_range]
     exact ⟨.bl false,H,I,rfl,q⟩
 | @tp p xs ts e l h=>
  cases h2 with
  | @tp p' ys _ e' l' h'=>
   cases rx
   cases ry
   cases n with
   | zero=>exact pA.elim
   | succ n=>
    obtain ⟨us,r1,t1,_⟩:=I.tuple (.of e)
    obtain ⟨vs,r2,t2,_⟩:=I.tuple (.of e')
    have l1:=r1.length
    have l2:=r2.length
    refine SeqAt.RcNeAt.tuples (e:=fun _=>true) t1 t2 (by omega) (fun j z1 z2=>?_) _ _ _ _ ?_
    ·obtain ⟨x,y,ex,ey,rx,ry⟩:=pj r1 r2 (by simpa using z1) (by simpa using z2)
     have jt:j<ts.length:=by have:=(List.getElem?_eq_some_iff.mp ex).1;omega
     exact xT I n X.A.in1 ts[j] x y _ _ (pA _ (List.getElem_mem jt)) (h j x _ ex (by simp [jt])) (h' j y _ ey (by simp [jt])) rx ry (by rw [Around.in1_units];omega)
    ·have e3:(us.toArray.size == vs.toArray.size)=true:=by simp;omega
     rw [all_range,e3]
     exact ⟨.bl false,H,I,rfl,q⟩
end L2
namespace My
open PySem PySem.W PyProof.Rows
section
variable {n:Nat} {c:Nat→Int}
def f_(n:Nat)(p:Array Nat):Prop:=p.Perm (List.toArray (List.range n))
theorem f_.size{p:Array Nat}(h:f_ n p):p.size=n:=by
 rw [Array.Perm.size_eq h]
 simp
def vN(c:Nat→Int)(p:Array Nat)(i:Nat):Int:=c (p.getD i 0)
def ic(c:Nat→Int)(p:Array Nat)(k:Nat):Prop:=∀a b,a≤b→b<k→vN c p a≤vN c p b
end
end My
namespace Tm
open PySem PySem.W PyProof.Rows
def ie:Bool→Keyed→Array Keyed→Nat→Nat→Nat→StateT SortSt Sem (Option Nat):=sortPriv% PySem.Builtin.gallop
def m8:Nat→StateT SortSt Sem Unit:=sortPriv% PySem.Builtin.setMinGallop
def tF:Array Keyed→Array Keyed→StateT SortSt Sem (Array Keyed):=sortPriv% PySem.Builtin.mergeLo
def tG:Array Keyed→Array Keyed→StateT SortSt Sem (Array Keyed):=sortPriv% PySem.Builtin.mergeHi
def jd(left:Bool)(key:Keyed)(arr:Array Keyed)(base i:Nat):StateT SortSt Sem (Option Bool):=do
 let x ←elem' arr (base+i)
 if left then lt' x key else return (←lt' key x).map (!·)
theorem Eh(left:Bool)(key:Keyed)(arr:Array Keyed)(base n hint:Nat):ie left key arr base n hint=(do
 let mut pB:=0
 let mut aO:=1
 let mut lo:=0
 let mut hi:=0
 let some right ←jd left key arr base hint | return none
 if right then
  let m9:=n-hint
  for _ in [0:n] do
   if aO≥m9 then break
   let some more ←jd left key arr base (hint+aO) | return none
   if !more then break
   pB:=aO
   aO:=2*aO+1
  lo:=hint+pB+1
  hi:=hint+min aO m9
 else
  let m9:=hint+1
  for _ in [0:n] do
   if aO≥m9 then break
   let some found ←jd left key arr base (hint-aO) | return none
   if found then break
   pB:=aO
   aO:=2*aO+1
  lo:=hint+1-min aO m9
  hi:=hint-pB
 for _ in [0:n] do
  if lo≥hi then break
  let m:=lo+(hi-lo) / 2
  let some more ←jd left key arr base m | return none
  if more then lo:=m+1 else hi:=m
 return some hi):=rfl
section
variable {prog:Program} {w:World} {A:Around} {E:Value→Shared→Prop} {s:Shared} {κ:SortKind} {key:Keyed→Int} {Ok:Keyed→Prop}
def eU(prog:Program)(w:World)(A:Around)(s:Shared)(κ:SortKind)(key:Keyed→Int)(Ok:Keyed→Prop):Prop:=
 ∀x y,Ok x→Ok y→∀C:Bool→Shared→Prop,C (decide (key x<key y)) s→wpAny (model prog w) A (keyLt' κ x.1 y.1) C (fun _ _=>False) s
theorem m_(h:eU prog w A s κ key Ok){x y:Keyed}(ox:Ok x)(oy:Ok y){st:SortSt}(hk:kindOf st=κ){Q:Option Bool→SortSt→Prop}(q:Q (some (decide (key x<key y))) st):wpS (model prog w) A E s (lt' x y) Q st:=by
 rw [lt'_eq]
 refine wpS_bind (wpS_get ?_)
 rw [hk]
 refine wpS_bind (wpS_lift (wpAny_attempt (wpAny_mono (h x y ox oy (fun c s'=>s'=s∧wpS (model prog w) A E s (pure (some c)) Q st) ⟨rfl,wpS_pure q⟩) (fun c s' hc=>?_) fun _ _ hF=>hF.elim)))
 exact hc
def nn:Keyed:=(Value.none,Value.none)
theorem aP{arr:Array Keyed}{i:Nat}(hi:i<arr.size){st:SortSt}{Q:Keyed→SortSt→Prop}(q:Q (arr.getD i nn) st):wpS (model prog w) A E s (elem' arr i) Q st:=by
 rw [elem'_eq]
 have e:arr[i]?=some (arr.getD i nn):=by simp [Array.getD,hi]
 rw [e]
 exact wpS_pure q
def cM(Ok:Keyed→Prop)(arr:Array Keyed):Prop:=∀i,i<arr.size→Ok (arr.getD i nn)
def bB(left:Bool)(k a:Int):Bool:=if left=true then decide (a<k) else !decide (k<a)
theorem dU(h:eU prog w A s κ key Ok){left:Bool}{kx:Keyed}{arr:Array Keyed}{base i:Nat}(hi:base+i<arr.size)(ha:cM Ok arr)(ox:Ok kx){st:SortSt}(hk:kindOf st=κ){Q:Option Bool→SortSt→Prop}(q:Q (some (bB left (key kx) (key (arr.getD (base+i) nn)))) st):wpS (model prog w) A E s (jd left kx arr base i) Q st:=by
 unfold jd
 refine wpS_bind (aP hi ?_)
 unfold bB at q
 cases left with
 | true=>
  rw [if_pos rfl] at q ⊢
  exact m_ h (ha _ hi) ox hk q
 | false=>
  rw [if_neg (by simp)] at q ⊢
  exact wpS_bind (m_ h ox (ha _ hi) hk (wpS_pure q))
theorem dW{left:Bool}{kx:Keyed}{arr:Array Keyed}{base n hint:Nat}{f:Nat→Bool}{st:SortSt}
  (hb:∀i,i<n→∀Q:Option Bool→SortSt→Prop,Q (some (f i)) st→wpS (model prog w) A E s (jd left kx arr base i) Q st)
  (hh:hint<n) (mono:∀i j,i≤j→j<n→f j=true→f i=true) {Q:Option Nat→SortSt→Prop}
  (k:∀m,m≤n→(∀i,i<m→f i=true)→(∀i,m≤i→i<n→f i=false)→Q (some m) st):wpS (model prog w) A E s (ie left kx arr base n hint) Q st:=by
 rw [Eh]
 refine wpS_bind (hb hint hh _ ?_)
 dsimp only
 have tH:∀i j,i≤j→j<n→f i=false→f j=false:=fun i j h1 h2 h3=>by
  cases e:f j with
  | false=>rfl
  | true=>rw [mono i j h1 h2 e] at h3;cases h3
 have bs:∀(lo hi:Nat) (body:Nat→Option (Option Nat)×Nat×Nat→StateT SortSt Sem (ForInStep (Option (Option Nat)×Nat×Nat))) (R:Option (Option Nat)×Nat×Nat→SortSt→Prop),lo≤hi→hi≤n→(∀i,i<lo→f i=true)→(∀i,hi≤i→i<n→f i=false)→
   (∀x lo hi (R:ForInStep (Option (Option Nat)×Nat×Nat)→SortSt→Prop),lo≥hi→R (.done (none,lo,hi)) st→wpS (model prog w) A E s (body x (none,lo,hi)) R st)→
   (∀x lo hi (R:ForInStep (Option (Option Nat)×Nat×Nat)→SortSt→Prop),lo<hi→hi≤n→R (.yield (if f (lo+(hi-lo) / 2)=true then (none,lo+(hi-lo) / 2+1,hi) else (none,lo,lo+(hi-lo) / 2))) st→wpS (model prog w) A E s (body x (none,lo,hi)) R st)→
   (∀m,m≤n→(∀i,i<m→f i=true)→(∀i,m≤i→i<n→f i=false)→R (none,m,m) st)→
   wpS (model prog w) A E s (forIn [0:n] (none,lo,hi) body) R st:=fun lo hi body R h1 h2 h3 h4 b1 b2 kk=>by
  refine wpS_forRange (I:=fun x c ak=>ak=st∧∃lo hi,c=(none,lo,hi)∧lo≤hi∧hi≤n∧hi-lo+x≤n∧(∀i,i<lo→f i=true)∧(∀i,hi≤i→i<n→f i=false)) ?_ ?_ ⟨rfl,lo,hi,rfl,h1,h2,by omega,h3,h4⟩
  ·rintro x c ak _ hx ⟨rfl,lo,hi,rfl,g1,g2,g3,g4,g5⟩
   by_cases z:lo≥hi
   ·refine b1 x lo hi _ z ?_
    obtain rfl:lo=hi:=by omega
    exact kk lo g2 g4 g5
   ·refine b2 x lo hi _ (by omega) g2 ?_
    cases e:f (lo+(hi-lo) / 2) with
    | true=>
     rw [if_pos rfl]
     exact ⟨rfl,_,_,rfl,by omega,g2,by omega,fun i aR=>mono i (lo+(hi-lo) / 2) (by omega) (by omega) e,g5⟩
    | false=>
     rw [if_neg (by simp)]
     exact ⟨rfl,_,_,rfl,by omega,by omega,by omega,g4,fun i h1 h2=>tH (lo+(hi-lo) / 2) i h1 h2 e⟩
  ·rintro c ak ⟨rfl,lo,hi,rfl,g1,g2,g3,g4,g5⟩
   have:lo=hi:=by
    have:max 0 n=n:=by omega
    omega
   subst this
   exact kk lo g2 g4 g5
 cases e:f hint with
 | true=>
  rw [if_pos rfl]
  refine wpS_bind (wpS_mono (wpS_forRange (I:=fun x c ak=>ak=st∧∃la aO,c=(none,la,aO)∧x+1≤aO∧la<aO∧la<n-hint∧f (hint+la)=true)
   (Q:=fun c ak=>ak=st∧∃la aO,c=(none,la,aO)∧la<aO∧la<n-hint∧f (hint+la)=true∧(aO≥n-hint∨f (hint+aO)=false)) ?_ ?_ ⟨rfl,0,1,rfl,Nat.le_refl _,by omega,by omega,by simpa using e⟩) ?_)
  ·rintro x c ak _ hx ⟨rfl,la,aO,rfl,g1,g2,g3,g4⟩
   dsimp only
   by_cases z:aO≥n-hint
   ·rw [if_pos z]
    exact wpS_pure ⟨rfl,la,aO,rfl,g2,g3,g4,.inl z⟩
   ·rw [if_neg z]
    refine wpS_bind (hb _ (by omega) _ ?_)
    dsimp only
    cases e':f (hint+aO) with
    | true=>
     rw [if_neg (by simp)]
     exact wpS_pure ⟨rfl,_,_,rfl,by omega,by omega,by omega,e'⟩
    | false=>
     rw [if_pos (by simp)]
     exact wpS_pure ⟨rfl,la,aO,rfl,g2,g3,g4,.inr e'⟩
  ·rintro c ak ⟨rfl,la,aO,rfl,g1,g2,g3,g4⟩
   have:max 0 n=n:=by omega
   exact ⟨rfl,la,aO,rfl,g2,g3,g4,.inl (by omega)⟩
  ·rintro c ak ⟨rfl,la,aO,rfl,g2,g3,g4,g5⟩
   refine wpS_bind (bs (hint+la+1) (hint+min aO (n-hint)) _ _ (by omega) (by omega) (fun i hi=>mono i (hint+la) (by omega) (by omega) g4) (fun i h1 h2=>?_) ?_ ?_ ?_)
   ·rcases g5 with g5 | g5
    ·omega
    ·by_cases z:aO≥n-hint
     ·omega
     ·exact tH (hint+aO) i (by omega) h2 g5
   ·intro x lo hi R z hR
    dsimp only
    rw [if_pos z]
    exact wpS_pure hR
   ·intro x lo hi R z z2 hR
    dsimp only
    rw [if_neg (by omega)]
    refine wpS_bind (hb _ (by omega) _ ?_)
    dsimp only
    cases e:f (lo+(hi-lo) / 2) with
    | true=>
     rw [e,if_pos rfl] at hR
     rw [if_pos rfl]
     exact wpS_pure hR
    | false=>
     rw [e,if_neg (by simp)] at hR
     rw [if_neg (by simp)]
     exact wpS_pure hR
   ·exact fun m m1 m2 m3=>wpS_pure (k m m1 m2 m3)
 | false=>
  rw [if_neg (by simp)]
  refine wpS_bind (wpS_mono (wpS_forRange (I:=fun x c ak=>ak=st∧∃la aO,c=(none,la,aO)∧x+1≤aO∧la<aO∧la≤hint∧f (hint-la)=false)
   (Q:=fun c ak=>ak=st∧∃la aO,c=(none,la,aO)∧la<aO∧la≤hint∧f (hint-la)=false∧(aO≥hint+1∨f (hint-aO)=true)) ?_ ?_ ⟨rfl,0,1,rfl,Nat.le_refl _,by omega,by omega,by simpa using e⟩) ?_)
  ·rintro x c ak _ hx ⟨rfl,la,aO,rfl,g1,g2,g3,g4⟩
   dsimp only
   by_cases z:aO≥hint+1
   ·rw [if_pos z]
    exact wpS_pure ⟨rfl,la,aO,rfl,g2,g3,g4,.inl z⟩
   ·rw [if_neg z]
    refine wpS_bind (hb _ (by omega) _ ?_)
    dsimp only
    cases e':f (hint-aO) with
    | true=>
     rw [if_pos rfl]
     exact wpS_pure ⟨rfl,la,aO,rfl,g2,g3,g4,.inr e'⟩
    | false=>
     rw [if_neg (by simp)]
     exact wpS_pure ⟨rfl,_,_,rfl,by omega,by omega,by omega,e'⟩
  ·rintro c ak ⟨rfl,la,aO,rfl,g1,g2,g3,g4⟩
   have:max 0 n=n:=by omega
   exact ⟨rfl,la,aO,rfl,g2,g3,g4,.inl (by omega)⟩
  ·rintro c ak ⟨rfl,la,aO,rfl,g2,g3,g4,g5⟩
   refine wpS_bind (bs (hint+1-min aO (hint+1)) (hint-la) _ _ (by omega) (by omega) (fun i hi=>?_) (fun i h1 h2=>tH (hint-la) i (by omega) h2 g4) ?_ ?_ ?_)
   ·rcases g5 with g5 | g5
    ·omega
    ·by_cases z:aO≥hint+1
     ·omega
     ·exact mono i (hint-aO) (by omega) (by omega) g5
   ·intro x lo hi R z hR
    dsimp only
    rw [if_pos z]
    exact wpS_pure hR
   ·intro x lo hi R z z2 hR
    dsimp only
    rw [if_neg (by omega)]
    refine wpS_bind (hb _ (by omega) _ ?_)
    dsimp only
    cases e:f (lo+(hi-lo) / 2) with
    | true=>
     rw [e,if_pos rfl] at hR
     rw [if_pos rfl]
     exact wpS_pure hR
    | false=>
     rw [e,if_neg (by simp)] at hR
     rw [if_neg (by simp)]
     exact wpS_pure hR
   ·exact fun m m1 m2 m3=>wpS_pure (k m m1 m2 m3)
end
def aK(K:Keyed→Int)(l:List Keyed):Prop:=l.Pairwise fun x y=>K x≤K y
theorem aK.take{K:Keyed→Int}{l:List Keyed}(h:aK K l)(k:Nat):aK K (l.take k):=List.Pairwise.sublist (List.take_sublist k l) h
theorem aK.drop{K:Keyed→Int}{l:List Keyed}(h:aK K l)(k:Nat):aK K (l.drop k):=List.Pairwise.sublist (List.drop_sublist k l) h
theorem aK.app{K:Keyed→Int}{l m:List Keyed}(h:aK K l)(h':aK K m)(k:∀x∈l,∀y∈m,K x≤K y):aK K (l++m):=List.pairwise_append.mpr ⟨h,h',k⟩
structure MI (K:Keyed→Int) (A B O:List Keyed) (i j:Nat):Prop where
 pm:O.Perm (A.take i++B.take j)
 so:aK K O
 ca:∀x∈O,∀y∈A.drop i,K x≤K y
 cb:∀x∈O,∀y∈B.drop j,K x≤K y
theorem MI.flip{K:Keyed→Int}{A B O:List Keyed}{i j:Nat}(h:MI K A B O i j):MI K B A O j i:=⟨h.pm.trans List.perm_append_comm,h.so,h.cb,h.ca⟩
theorem MI.pC{K:Keyed→Int}{A B O:List Keyed}{i j:Nat}(h:MI K A B O i j)(sA:aK K A)(k:Nat)(hk:∀x∈(A.drop i).take k,∀y∈B.drop j,K x≤K y):MI K A B (O++(A.drop i).take k) (i+k) j:=by
 have e:A.take (i+k)=A.take i++(A.drop i).take k:=List.take_add
 have d:A.drop (i+k)=(A.drop i).drop k:=by rw [List.drop_drop]
 have sd:=sA.drop i
 have sp:(A.drop i).take k++(A.drop i).drop k=A.drop i:=List.take_append_drop ..
 have cr:∀x∈(A.drop i).take k,∀y∈(A.drop i).drop k,K x≤K y:=by
  have:=sd
  rw [←sp] at this
  exact (List.pairwise_append.mp this).2.2
 refine ⟨?_,h.so.app (sd.take k) fun x hx y hy=>h.ca x hx y (List.mem_of_mem_take hy),fun x hx y hy=>?_,fun x hx y hy=>?_⟩
 ·rw [e]
  refine (h.pm.append_right _).trans ?_
  rw [List.append_assoc,List.append_assoc]
  exact List.Perm.append_left _ List.perm_append_comm
 ·rw [d] at hy
  rcases List.mem_append.mp hx with hx | hx
  ·exact h.ca x hx y (List.mem_of_mem_drop hy)
  ·exact cr x hx y hy
 ·rcases List.mem_append.mp hx with hx | hx
  ·exact h.cb x hx y hy
  ·exact hk x hx y hy
theorem MI.tI{K:Keyed→Int}{A B O:List Keyed}{i j:Nat}(h:MI K A B O i j)(sB:aK K B)(k:Nat)(hk:∀x∈(B.drop j).take k,∀y∈A.drop i,K x≤K y):MI K A B (O++(B.drop j).take k) i (j+k):=(h.flip.pC sB k hk).flip
theorem MI.done{K:Keyed→Int}{A B O:List Keyed}{i j:Nat}(h:MI K A B O i j)(sA:aK K A)(sB:aK K B)(k:∀x∈A.drop i,∀y∈B.drop j,K x≤K y):(O++A.drop i++B.drop j).Perm (A++B)∧aK K (O++A.drop i++B.drop j):=by
 refine ⟨?_,(h.so.app (sA.drop i) h.ca).app (sB.drop j) fun x hx y hy=>?_⟩
 ·have e1:A.take i++A.drop i=A:=List.take_append_drop ..
  have e2:B.take j++B.drop j=B:=List.take_append_drop ..
  have:(A.take i++B.take j++A.drop i++B.drop j).Perm ((A.take i++A.drop i)++(B.take j++B.drop j)):=by
   rw [List.append_assoc,List.append_assoc,List.append_assoc]
   refine List.Perm.append_left _ ?_
   rw [←List.append_assoc,←List.append_assoc]
   exact List.Perm.append_right _ List.perm_append_comm
  rw [e1,e2] at this
  exact ((h.pm.append_right _).append_right _).trans this
 ·rcases List.mem_append.mp hx with hx | hx
  ·exact h.cb x hx y hy
  ·exact k x hx y hy
theorem MI.xU{K:Keyed→Int}{A B O:List Keyed}{i j:Nat}(h:MI K A B O i j)(sA:aK K A)(sB:aK K B)(k:∀x∈A.drop i,∀y∈B.drop j,K y≤K x):(O++B.drop j++A.drop i).Perm (A++B)∧aK K (O++B.drop j++A.drop i):=by
 have:=h.flip.done sB sA fun x hx y hy=>k y hy x hx
 exact ⟨this.1.trans List.perm_append_comm,this.2⟩
theorem Ei(a b:Array Keyed):tF a b=(do
 rule "list.sort.merge-lo"
 let total:=a.size+b.size
 let done (out:Array Keyed) (ia ib:Nat):=out++a.extract ia a.size++b.extract ib b.size
 let pD (out:Array Keyed) (ia ib:Nat):=out++b.extract ib b.size++a.extract ia a.size
 let mut out:Array Keyed:=#[←elem' b 0]
 let mut ia:=0
 let mut ib:=1
 if ib == b.size then return done out ia ib
 if ia+1 == a.size then return pD out ia ib
 let mut minGallop:=gallopOf (←get)
 for _ in [0:total] do
  let mut eC:=0
  let mut eE:=0
  for _ in [0:total] do
   let some Ej ←lt' (←elem' b ib) (←elem' a ia) | return done out ia ib
   if Ej then
    out:=out.push (←elem' b ib);ib:=ib+1;eE:=eE+1;eC:=0
    if ib == b.size then return done out ia ib
    if eE≥minGallop then break
   else
    out:=out.push (←elem' a ia);ia:=ia+1;eC:=eC+1;eE:=0
    if ia+1 == a.size then return pD out ia ib
    if eC≥minGallop then break
  rule "list.sort.gallop"
  minGallop:=minGallop+1
  for _ in [0:total] do
   if minGallop>1 then minGallop:=minGallop-1
   m8 minGallop
   let some k ←ie false (←elem' b ib) a ia (a.size-ia) 0 | return done out ia ib
   eC:=k
   if k>0 then
    out:=out++a.extract ia (ia+k);ia:=ia+k
    if ia+1 == a.size then return pD out ia ib
    if ia == a.size then return done out ia ib
   out:=out.push (←elem' b ib);ib:=ib+1
   if ib == b.size then return done out ia ib
   let some k ←ie true (←elem' a ia) b ib (b.size-ib) 0 | return done out ia ib
   eE:=k
   if k>0 then
    out:=out++b.extract ib (ib+k);ib:=ib+k
    if ib == b.size then return done out ia ib
   out:=out.push (←elem' a ia);ia:=ia+1
   if ia+1 == a.size then return pD out ia ib
   if eC<7 && eE<7 then break
  minGallop:=minGallop+1
  m8 minGallop
 unsupported "internal:list.sort.merge-bound"):=rfl
section
variable {prog:Program} {w:World} {A:Around} {E:Value→Shared→Prop} {s:Shared} {κ:SortKind} {key:Keyed→Int} {Ok:Keyed→Prop}
def setG(st:SortSt)(g:Nat):SortSt:=SortSt.mk' (kindOf st) (arrOf st) (pendingOf st) g (failedOf st)
theorem ng{a:Array Keyed}{i:Nat}(hi:i<a.size):(a.toList.drop i).take 1=[a.getD i nn]:=by
 have hl:i<a.toList.length:=by simpa using hi
 rw [List.drop_eq_getElem_cons hl]
 simp [Array.getD,hi]
theorem eV(a:Array Keyed)(i j:Nat):(a.extract i j).toList=(a.toList.drop i).take (j-i):=by
 rw [Array.toList_extract,List.extract_eq_take_drop]
theorem pE(a:Array Keyed)(i:Nat):(a.extract i a.size).toList=a.toList.drop i:=by
 rw [eV]
 refine List.take_of_length_le ?_
 simp
theorem je{a:Array Keyed}{i:Nat}{x:Keyed}(h:x∈a.toList.drop i):∃j,i≤j∧j<a.size∧x=a.getD j nn:=by
 obtain ⟨j,hj,rfl⟩:=List.getElem_of_mem h
 have cC:i+j<a.size:=by simp at hj;omega
 refine ⟨i+j,by omega,cC,?_⟩
 rw [List.getElem_drop]
 simp [Array.getD,cC]
theorem tJ{a:Array Keyed}{i k:Nat}{x:Keyed}(h:x∈(a.toList.drop i).take k):∃j,j<k∧i+j<a.size∧x=a.getD (i+j) nn:=by
 obtain ⟨j,hj,rfl⟩:=List.getElem_of_mem h
 have cC:i+j<a.size∧j<k:=by simp at hj;omega
 refine ⟨j,cC.2,cC.1,?_⟩
 rw [List.getElem_take,List.getElem_drop]
 simp [Array.getD,cC.1]
theorem cQ{a:Array Keyed}(h:aK key a.toList){i j:Nat}(tK:i≤j)(hj:j<a.size):key (a.getD i nn)≤key (a.getD j nn):=by
 have hi:i<a.size:=by omega
 by_cases e:i=j
 ·subst e;exact Int.le_refl _
 ·have:=List.pairwise_iff_getElem.mp h i j (by simpa using hi) (by simpa using hj) (by omega)
  simpa [Array.getD,hi,hj] using this
theorem cq{c:Prop}[Decidable c]{α:Type}{m1 m2:StateT SortSt Sem α}{Q:α→SortSt→Prop}{st:SortSt}(h1:c→wpS (model prog w) A E s m1 Q st)(h2:¬c→wpS (model prog w) A E s m2 Q st):wpS (model prog w) A E s (if c then m1 else m2) Q st:=by
 by_cases h:c
 ·rw [if_pos h];exact h1 h
 ·rw [if_neg h];exact h2 h
theorem kF{st:SortSt}{g:Nat}{Q:Unit→SortSt→Prop}(q:Q () (setG st g)):wpS (model prog w) A E s (m8 g) Q st:=wpS_modify q
theorem dz{k a:Int}(h:bB true k a=true):a<k:=of_decide_eq_true h
theorem dX{k a:Int}(h:bB true k a=false):k≤a:=Int.not_lt.mp (of_decide_eq_false h)
theorem gc{k a:Int}(h:bB false k a=true):a≤k:=by
 have:(!decide (k<a))=true:=h
 simpa using this
theorem ig{k a:Int}(h:bB false k a=false):k<a:=by
 have:(!decide (k<a))=false:=h
 simpa using this
theorem ik{b:Array Keyed}(sb:aK key b.toList){k:Int}{o:Nat}:∀i j,i≤j→j<b.size-o→bB true k (key (b.getD (o+j) nn))=true→bB true k (key (b.getD (o+i) nn))=true:=fun i j h1 h2 h3=>decide_eq_true (Int.lt_of_le_of_lt (cQ sb (by omega) (by omega)) (dz h3))
theorem pF{b:Array Keyed}(sb:aK key b.toList){k:Int}{o:Nat}:∀i j,i≤j→j<b.size-o→bB false k (key (b.getD (o+j) nn))=true→bB false k (key (b.getD (o+i) nn))=true:=fun i j h1 h2 h3=>by
 have:key (b.getD (o+i) nn)≤k:=Int.le_trans (cQ sb (by omega) (by omega)) (gc h3)
 show (!decide (k<key (b.getD (o+i) nn)))=true
 simpa using this
section
variable {a b:Array Keyed} (sa:aK key a.toList) (sb:aK key b.toList) {out:Array Keyed} {ia ib:Nat}
include sa sb
theorem kG(m:MI key a.toList b.toList out.toList ia ib)(hb:ib<b.size)(k:∀j,ia≤j→j<a.size→key (b.getD ib nn)≤key (a.getD j nn)):MI key a.toList b.toList (out.push (b.getD ib nn)).toList ia (ib+1):=by
 have:=m.tI sb 1 fun x hx y hy=>by
  rw [ng hb,List.mem_singleton] at hx
  subst hx
  obtain ⟨j,h1,h2,rfl⟩:=je hy
  exact k j h1 h2
 rw [ng hb] at this
 rw [Array.toList_push]
 exact this
theorem gE(m:MI key a.toList b.toList out.toList ia ib)(ha:ia<a.size)(k:∀j,ib≤j→j<b.size→key (a.getD ia nn)≤key (b.getD j nn)):MI key a.toList b.toList (out.push (a.getD ia nn)).toList (ia+1) ib:=by
 have:=m.pC sa 1 fun x hx y hy=>by
  rw [ng ha,List.mem_singleton] at hx
  subst hx
  obtain ⟨j,h1,h2,rfl⟩:=je hy
  exact k j h1 h2
 rw [ng ha] at this
 rw [Array.toList_push]
 exact this
theorem xV(m:MI key a.toList b.toList out.toList ia ib){n:Nat}(k:∀i j,i<n→ia+i<a.size→ib≤j→j<b.size→key (a.getD (ia+i) nn)≤key (b.getD j nn)):MI key a.toList b.toList (out++a.extract ia (ia+n)).toList (ia+n) ib:=by
 have:=m.pC sa n fun x hx y hy=>by
  obtain ⟨i,h3,h4,rfl⟩:=tJ hx
  obtain ⟨j,h1,h2,rfl⟩:=je hy
  exact k i j h3 h4 h1 h2
 rw [Array.toList_append,eV,show ia+n-ia=n by omega]
 exact this
theorem pG(m:MI key a.toList b.toList out.toList ia ib){n:Nat}(k:∀i j,i<n→ib+i<b.size→ia≤j→j<a.size→key (b.getD (ib+i) nn)≤key (a.getD j nn)):MI key a.toList b.toList (out++b.extract ib (ib+n)).toList ia (ib+n):=by
 have:=m.tI sb n fun x hx y hy=>by
  obtain ⟨i,h3,h4,rfl⟩:=tJ hx
  obtain ⟨j,h1,h2,rfl⟩:=je hy
  exact k i j h3 h4 h1 h2
 rw [Array.toList_append,eV,show ib+n-ib=n by omega]
 exact this
theorem eW(m:MI key a.toList b.toList out.toList ia ib)(e:ib=b.size∨ia=a.size):(out++a.extract ia a.size++b.extract ib b.size).toList.Perm (a.toList++b.toList)∧aK key (out++a.extract ia a.size++b.extract ib b.size).toList:=by
 rw [Array.toList_append,Array.toList_append,pE,pE]
 refine m.done sa sb fun x hx y hy=>?_
 obtain ⟨i,h1,h2,_⟩:=je hx
 obtain ⟨j,h3,h4,_⟩:=je hy
 omega
theorem eX(m:MI key a.toList b.toList out.toList ia ib)(hl:∀y∈b.toList,key y≤key (a.getD (a.size-1) nn))(e:ia+1=a.size):(out++b.extract ib b.size++a.extract ia a.size).toList.Perm (a.toList++b.toList)∧aK key (out++b.extract ib b.size++a.extract ia a.size).toList:=by
 rw [Array.toList_append,Array.toList_append,pE,pE]
 refine m.xU sa sb fun x hx y hy=>?_
 obtain ⟨i,h1,h2,rfl⟩:=je hx
 have:=hl y (List.mem_of_mem_drop hy)
 rw [show i=a.size-1 by omega]
 exact this
end
theorem Ek(h:eU prog w A s κ key Ok){a b:Array Keyed}(oa:cM Ok a)(ob:cM Ok b)(sa:aK key a.toList)(sb:aK key b.toList)(a1:1≤a.size)(b1:1≤b.size)
  (h0:∀x∈a.toList,key (b.getD 0 nn)≤key x) (hl:∀y∈b.toList,key y≤key (a.getD (a.size-1) nn)) {st:SortSt} (hk:kindOf st=κ) {Q:Array Keyed→SortSt→Prop}
  (q:∀m g,m.toList.Perm (a.toList++b.toList)→aK key m.toList→Q m (setG st g)):wpS (model prog w) A E s (tF a b) Q st:=by
 rw [Ei]
 refine wpS_bind (wpS_lift (wpAny_rule ⟨rfl,?_⟩))
 refine wpS_bind (aP (by omega) ?_)
 dsimp only
 have m0:MI key a.toList b.toList (#[b.getD 0 nn]:Array Keyed).toList 0 1:=by
  have:MI key a.toList b.toList (#[]:Array Keyed).toList 0 0:=⟨by simp,List.Pairwise.nil,fun x hx=>by simp at hx,fun x hx=>by simp at hx⟩
  exact kG sa sb this (by omega) fun j _ hj=>h0 _ (by simp [Array.getD,hj])
 have cR:∀g,kindOf (setG st g)=κ:=fun _=>hk
 by_cases e1:(1 == b.size)=true
 ·rw [if_pos e1]
  have:=eW sa sb m0 (.inl (eq_of_beq e1))
  exact wpS_pure (q _ (gallopOf st) this.1 this.2)
 rw [if_neg e1]
 by_cases e2:(0+1 == a.size)=true
 ·rw [if_pos e2]
  have:=eX sa sb m0 hl (eq_of_beq e2)
  exact wpS_pure (q _ (gallopOf st) this.1 this.2)
 rw [if_neg e2]
 have b2:1<b.size:=by
  have:1≠b.size:=fun e=>e1 (by simp [←e])
  omega
 have a2:0+1<a.size:=by
  have:0+1≠a.size:=fun e=>e2 (by simp [←e])
  omega
 refine wpS_bind (wpS_get ?_)
 refine wpS_bind (wpS_mono (wpS_forRange (I:=fun x c ak=>∃out ia ib mg g,c=(none,out,ia,ib,mg)∧ak=setG st g∧MI key a.toList b.toList out.toList ia ib∧ia+1<a.size∧ib<b.size∧x≤ia+ib)
  (Q:=fun c ak=>∃m g,c.1=some m∧ak=setG st g∧m.toList.Perm (a.toList++b.toList)∧aK key m.toList) ?_ ?_ ⟨_,_,_,_,gallopOf st,rfl,rfl,m0,a2,b2,Nat.zero_le _⟩) ?_)
 ·rintro x c ak _ hx ⟨out,ia,ib,mg,g,rfl,rfl,mi,ha,hb,tL⟩
  dsimp only
  refine wpS_bind (wpS_mono (wpS_forRange (I:=fun y c ak=>∃out df dA ac bc,c=(none,out,df,dA,ac,bc)∧ak=setG st g∧MI key a.toList b.toList out.toList df dA∧df+1<a.size∧dA<b.size∧ia+ib+y≤df+dA)
   (Q:=fun c ak=>ak=setG st g∧((∃m,c.1=some m∧m.toList.Perm (a.toList++b.toList)∧aK key m.toList)∨∃out df dA ac bc,c=(none,out,df,dA,ac,bc)∧MI key a.toList b.toList out.toList df dA∧df+1<a.size∧dA<b.size∧ia+ib+1≤df+dA)) ?_ ?_ ⟨_,_,_,_,_,rfl,rfl,mi,ha,hb,Nat.le_refl _⟩) ?_)
  ·rintro y c ak _ hy ⟨out,df,dA,ac,bc,rfl,rfl,mi,ha,hb,dB⟩
   dsimp only
   refine wpS_bind (aP hb (wpS_bind (aP (by omega) (wpS_bind (m_ h (ob _ hb) (oa df (by omega)) (cR _) ?_)))))
   dsimp only
   by_cases z:key (b.getD dA nn)<key (a.getD df nn)
   ·rw [decide_eq_true z,if_pos rfl]
    refine wpS_bind (aP hb ?_)
    have dC:=kG sa sb mi hb fun j h1 h2=>Int.le_trans (Int.le_of_lt z) (cQ sa h1 h2)
    by_cases z1:(dA+1 == b.size)=true
    ·rw [if_pos z1]
     exact wpS_pure ⟨rfl,.inl ⟨_,rfl,eW sa sb dC (.inl (eq_of_beq z1))⟩⟩
    ·rw [if_neg z1]
     have h_:dA+1≠b.size:=fun e=>z1 (by simp [←e])
     by_cases z2:bc+1≥mg
     ·rw [if_pos z2]
      exact wpS_pure ⟨rfl,.inr ⟨_,_,_,_,_,rfl,dC,ha,by omega,by omega⟩⟩
     ·rw [if_neg z2]
      exact wpS_pure ⟨_,_,_,_,_,rfl,rfl,dC,ha,by omega,by omega⟩
   ·rw [decide_eq_false z,if_neg (by simp)]
    refine wpS_bind (aP (by omega) ?_)
    have dC:=gE sa sb mi (by omega) fun j h1 h2=>Int.le_trans (Int.not_lt.mp z) (cQ sb h1 h2)
    by_cases z1:(df+1+1 == a.size)=true
    ·rw [if_pos z1]
     exact wpS_pure ⟨rfl,.inl ⟨_,rfl,eX sa sb dC hl (eq_of_beq z1)⟩⟩
    ·rw [if_neg z1]
     have h_:df+1+1≠a.size:=fun e=>z1 (by simp [←e])
     by_cases z2:ac+1≥mg
     ·rw [if_pos z2]
      exact wpS_pure ⟨rfl,.inr ⟨_,_,_,_,_,rfl,dC,by omega,hb,by omega⟩⟩
     ·rw [if_neg z2]
      exact wpS_pure ⟨_,_,_,_,_,rfl,rfl,dC,by omega,hb,by omega⟩
  ·rintro c ak ⟨out,df,dA,ac,bc,rfl,rfl,mi,ha,hb,dB⟩
   exact ⟨rfl,.inr ⟨_,_,_,_,_,rfl,mi,ha,hb,by omega⟩⟩
  ·rintro c ak ⟨rfl,⟨m,e,pm⟩ | ⟨out,df,dA,ac,bc,rfl,mi,ha,hb,dB⟩⟩
   ·obtain ⟨c1,c2⟩:=c
    dsimp only at e
    subst e
    exact wpS_pure ⟨m,g,rfl,rfl,pm⟩
   ·dsimp only
    refine wpS_bind (wpS_lift (wpAny_rule ⟨rfl,?_⟩))
    refine wpS_bind (wpS_mono (wpS_forRange (I:=fun y c ak=>∃out i j mg ac bc g,c=(none,out,i,j,mg,ac,bc)∧ak=setG st g∧MI key a.toList b.toList out.toList i j∧i+1<a.size∧j<b.size∧x+1≤i+j)
     (Q:=fun c ak=>(∃m g,c.1=some m∧ak=setG st g∧m.toList.Perm (a.toList++b.toList)∧aK key m.toList)∨∃out i j mg ac bc g,c=(none,out,i,j,mg,ac,bc)∧ak=setG st g∧MI key a.toList b.toList out.toList i j∧i+1<a.size∧j<b.size∧x+1≤i+j) ?_ ?_ ⟨_,_,_,_,_,_,g,rfl,rfl,mi,ha,hb,by omega⟩) ?_)
    ·clear mi ha hb dB
     rintro y c ak _ hy ⟨out,ia,ib,mg,ac,bc,g,rfl,rfl,mi,ha,hb,dB⟩
     dsimp only
     rcases Nat.lt_or_ge 1 mg with zm | zm
     ·rw [if_pos zm]
      refine wpS_bind (kF ?_)
      refine wpS_bind (aP hb (wpS_bind (dW (f:=fun i=>bB false (key (b.getD ib nn)) (key (a.getD (ia+i) nn))) (fun i hi Q q=>dU h (by omega) oa (ob _ hb) (cR _) q) (by omega) (pF sa) fun k k1 k2 k3=>?_)))
      dsimp only
      by_cases zk:k>0
      ·rw [if_pos zk]
       have dD:=xV sa sb mi (n:=k) fun i j hi aR hj cC=>Int.le_trans (gc (k2 i hi)) (cQ sb hj cC)
       by_cases w1:(ia+k+1 == a.size)=true
       ·rw [if_pos w1]
        exact wpS_pure (.inl ⟨_,_,rfl,rfl,eX sa sb dD hl (eq_of_beq w1)⟩)
       ·rw [if_neg w1]
        have tM:ia+k+1≠a.size:=fun e=>w1 (by simp [←e])
        by_cases w2:(ia+k == a.size)=true
        ·rw [if_pos w2]
         exact wpS_pure (.inl ⟨_,_,rfl,rfl,eW sa sb dD (.inr (eq_of_beq w2))⟩)
        ·rw [if_neg w2]
         have El:ia+k≠a.size:=fun e=>w2 (by simp [←e])
         refine wpS_bind (aP hb ?_)
         have bq:=kG sa sb dD hb fun j h1 h2=>by have:=ig (k3 (j-ia) (by omega) (by omega));rw [show ia+(j-ia)=j by omega] at this;exact Int.le_of_lt this
         by_cases x1:(ib+1 == b.size)=true
         ·rw [if_pos x1]
          exact wpS_pure (.inl ⟨_,_,rfl,rfl,eW sa sb bq (.inl (eq_of_beq x1))⟩)
         ·rw [if_neg x1]
          have jf:ib+1≠b.size:=fun e=>x1 (by simp [←e])
          refine wpS_bind (aP (by omega) (wpS_bind (dW (f:=fun i=>bB true (key (a.getD (ia+k) nn)) (key (b.getD (ib+1+i) nn))) (fun i hi Q q=>dU h (by omega) ob (oa _ (by omega)) (cR _) q) (by omega) (ik sb) fun k' q1 q2 q3=>?_)))
          dsimp only
          by_cases b9:k'>0
          ·rw [if_pos b9]
           have bV:=pG sa sb bq (n:=k') fun i j hi aR hj cC=>Int.le_trans (Int.le_of_lt (dz (q2 i hi))) (cQ sa hj cC)
           by_cases x2:(ib+1+k' == b.size)=true
           ·rw [if_pos x2]
            exact wpS_pure (.inl ⟨_,_,rfl,rfl,eW sa sb bV (.inl (eq_of_beq x2))⟩)
           ·rw [if_neg x2]
            have jg:ib+1+k'≠b.size:=fun e=>x2 (by simp [←e])
            refine wpS_bind (aP (by omega) ?_)
            have aE:=gE sa sb bV (by omega) fun j h1 h2=>by have:=dX (q3 (j-(ib+1)) (by omega) (by omega));rwa [show ib+1+(j-(ib+1))=j by omega] at this
            by_cases y1:(ia+k+1+1 == a.size)=true
            ·rw [if_pos y1]
             exact wpS_pure (.inl ⟨_,_,rfl,rfl,eX sa sb aE hl (eq_of_beq y1)⟩)
            ·rw [if_neg y1]
             have dE:ia+k+1+1≠a.size:=fun e=>y1 (by simp [←e])
             exact cq (fun _=>wpS_pure (.inr ⟨_,_,_,_,_,_,_,rfl,rfl,aE,by omega,by omega,by omega⟩)) (fun _=>wpS_pure ⟨_,_,_,_,_,_,_,rfl,rfl,aE,by omega,by omega,by omega⟩)
          ·rw [if_neg b9]
           obtain rfl:k'=0:=by omega
           refine wpS_bind (aP (by omega) ?_)
           have aE:=gE sa sb bq (by omega) fun j h1 h2=>by have:=dX (q3 (j-(ib+1)) (by omega) (by omega));rwa [show ib+1+(j-(ib+1))=j by omega] at this
           by_cases y1:(ia+k+1+1 == a.size)=true
           ·rw [if_pos y1]
            exact wpS_pure (.inl ⟨_,_,rfl,rfl,eX sa sb aE hl (eq_of_beq y1)⟩)
           ·rw [if_neg y1]
            have dE:ia+k+1+1≠a.size:=fun e=>y1 (by simp [←e])
            exact cq (fun _=>wpS_pure (.inr ⟨_,_,_,_,_,_,_,rfl,rfl,aE,by omega,by omega,by omega⟩)) (fun _=>wpS_pure ⟨_,_,_,_,_,_,_,rfl,rfl,aE,by omega,by omega,by omega⟩)
      ·rw [if_neg zk]
       obtain rfl:k=0:=by omega
       refine wpS_bind (aP hb ?_)
       have bq:=kG sa sb mi hb fun j h1 h2=>by have:=ig (k3 (j-ia) (by omega) (by omega));rw [show ia+(j-ia)=j by omega] at this;exact Int.le_of_lt this
       by_cases x1:(ib+1 == b.size)=true
       ·rw [if_pos x1]
        exact wpS_pure (.inl ⟨_,_,rfl,rfl,eW sa sb bq (.inl (eq_of_beq x1))⟩)
       ·rw [if_neg x1]
        have jf:ib+1≠b.size:=fun e=>x1 (by simp [←e])
        refine wpS_bind (aP (by omega) (wpS_bind (dW (f:=fun i=>bB true (key (a.getD (ia) nn)) (key (b.getD (ib+1+i) nn))) (fun i hi Q q=>dU h (by omega) ob (oa _ (by omega)) (cR _) q) (by omega) (ik sb) fun k' q1 q2 q3=>?_)))
        dsimp only
        by_cases b9:k'>0
        ·rw [if_pos b9]
         have bV:=pG sa sb bq (n:=k') fun i j hi aR hj cC=>Int.le_trans (Int.le_of_lt (dz (q2 i hi))) (cQ sa hj cC)
         by_cases x2:(ib+1+k' == b.size)=true
         ·rw [if_pos x2]
          exact wpS_pure (.inl ⟨_,_,rfl,rfl,eW sa sb bV (.inl (eq_of_beq x2))⟩)
         ·rw [if_neg x2]
          have jg:ib+1+k'≠b.size:=fun e=>x2 (by simp [←e])
          refine wpS_bind (aP (by omega) ?_)
          have aE:=gE sa sb bV (by omega) fun j h1 h2=>by have:=dX (q3 (j-(ib+1)) (by omega) (by omega));rwa [show ib+1+(j-(ib+1))=j by omega] at this
          by_cases y1:(ia+1+1 == a.size)=true
          ·rw [if_pos y1]
           exact wpS_pure (.inl ⟨_,_,rfl,rfl,eX sa sb aE hl (eq_of_beq y1)⟩)
          ·rw [if_neg y1]
           have dE:ia+1+1≠a.size:=fun e=>y1 (by simp [←e])
           exact cq (fun _=>wpS_pure (.inr ⟨_,_,_,_,_,_,_,rfl,rfl,aE,by omega,by omega,by omega⟩)) (fun _=>wpS_pure ⟨_,_,_,_,_,_,_,rfl,rfl,aE,by omega,by omega,by omega⟩)
        ·rw [if_neg b9]
         obtain rfl:k'=0:=by omega
         refine wpS_bind (aP (by omega) ?_)
         have aE:=gE sa sb bq (by omega) fun j h1 h2=>by have:=dX (q3 (j-(ib+1)) (by omega) (by omega));rwa [show ib+1+(j-(ib+1))=j by omega] at this
         by_cases y1:(ia+1+1 == a.size)=true
         ·rw [if_pos y1]
          exact wpS_pure (.inl ⟨_,_,rfl,rfl,eX sa sb aE hl (eq_of_beq y1)⟩)
         ·rw [if_neg y1]
          have dE:ia+1+1≠a.size:=fun e=>y1 (by simp [←e])
          exact cq (fun _=>wpS_pure (.inr ⟨_,_,_,_,_,_,_,rfl,rfl,aE,by omega,by omega,by omega⟩)) (fun _=>wpS_pure ⟨_,_,_,_,_,_,_,rfl,rfl,aE,by omega,by omega,by omega⟩)
     ·rw [if_neg (by omega)]
      refine wpS_bind (kF ?_)
      refine wpS_bind (aP hb (wpS_bind (dW (f:=fun i=>bB false (key (b.getD ib nn)) (key (a.getD (ia+i) nn))) (fun i hi Q q=>dU h (by omega) oa (ob _ hb) (cR _) q) (by omega) (pF sa) fun k k1 k2 k3=>?_)))
      dsimp only
      by_cases zk:k>0
      ·rw [if_pos zk]
       have dD:=xV sa sb mi (n:=k) fun i j hi aR hj cC=>Int.le_trans (gc (k2 i hi)) (cQ sb hj cC)
       by_cases w1:(ia+k+1 == a.size)=true
       ·rw [if_pos w1]
        exact wpS_pure (.inl ⟨_,_,rfl,rfl,eX sa sb dD hl (eq_of_beq w1)⟩)
       ·rw [if_neg w1]
        have tM:ia+k+1≠a.size:=fun e=>w1 (by simp [←e])
        by_cases w2:(ia+k == a.size)=true
        ·rw [if_pos w2]
         exact wpS_pure (.inl ⟨_,_,rfl,rfl,eW sa sb dD (.inr (eq_of_beq w2))⟩)
        ·rw [if_neg w2]
         have El:ia+k≠a.size:=fun e=>w2 (by simp [←e])
         refine wpS_bind (aP hb ?_)
         have bq:=kG sa sb dD hb fun j h1 h2=>by have:=ig (k3 (j-ia) (by omega) (by omega));rw [show ia+(j-ia)=j by omega] at this;exact Int.le_of_lt this
         by_cases x1:(ib+1 == b.size)=true
         ·rw [if_pos x1]
          exact wpS_pure (.inl ⟨_,_,rfl,rfl,eW sa sb bq (.inl (eq_of_beq x1))⟩)
         ·rw [if_neg x1]
          have jf:ib+1≠b.size:=fun e=>x1 (by simp [←e])
          refine wpS_bind (aP (by omega) (wpS_bind (dW (f:=fun i=>bB true (key (a.getD (ia+k) nn)) (key (b.getD (ib+1+i) nn))) (fun i hi Q q=>dU h (by omega) ob (oa _ (by omega)) (cR _) q) (by omega) (ik sb) fun k' q1 q2 q3=>?_)))
          dsimp only
          by_cases b9:k'>0
          ·rw [if_pos b9]
           have bV:=pG sa sb bq (n:=k') fun i j hi aR hj cC=>Int.le_trans (Int.le_of_lt (dz (q2 i hi))) (cQ sa hj cC)
           by_cases x2:(ib+1+k' == b.size)=true
           ·rw [if_pos x2]
            exact wpS_pure (.inl ⟨_,_,rfl,rfl,eW sa sb bV (.inl (eq_of_beq x2))⟩)
           ·rw [if_neg x2]
            have jg:ib+1+k'≠b.size:=fun e=>x2 (by simp [←e])
            refine wpS_bind (aP (by omega) ?_)
            have aE:=gE sa sb bV (by omega) fun j h1 h2=>by have:=dX (q3 (j-(ib+1)) (by omega) (by omega));rwa [show ib+1+(j-(ib+1))=j by omega] at this
            by_cases y1:(ia+k+1+1 == a.size)=true
            ·rw [if_pos y1]
             exact wpS_pure (.inl ⟨_,_,rfl,rfl,eX sa sb aE hl (eq_of_beq y1)⟩)
            ·rw [if_neg y1]
             have dE:ia+k+1+1≠a.size:=fun e=>y1 (by simp [←e])
             exact cq (fun _=>wpS_pure (.inr ⟨_,_,_,_,_,_,_,rfl,rfl,aE,by omega,by omega,by omega⟩)) (fun _=>wpS_pure ⟨_,_,_,_,_,_,_,rfl,rfl,aE,by omega,by omega,by omega⟩)
          ·rw [if_neg b9]
           obtain rfl:k'=0:=by omega
           refine wpS_bind (aP (by omega) ?_)
           have aE:=gE sa sb bq (by omega) fun j h1 h2=>by have:=dX (q3 (j-(ib+1)) (by omega) (by omega));rwa [show ib+1+(j-(ib+1))=j by omega] at this
           by_cases y1:(ia+k+1+1 == a.size)=true
           ·rw [if_pos y1]
            exact wpS_pure (.inl ⟨_,_,rfl,rfl,eX sa sb aE hl (eq_of_beq y1)⟩)
           ·rw [if_neg y1]
            have dE:ia+k+1+1≠a.size:=fun e=>y1 (by simp [←e])
            exact cq (fun _=>wpS_pure (.inr ⟨_,_,_,_,_,_,_,rfl,rfl,aE,by omega,by omega,by omega⟩)) (fun _=>wpS_pure ⟨_,_,_,_,_,_,_,rfl,rfl,aE,by omega,by omega,by omega⟩)
      ·rw [if_neg zk]
       obtain rfl:k=0:=by omega
       refine wpS_bind (aP hb ?_)
       have bq:=kG sa sb mi hb fun j h1 h2=>by have:=ig (k3 (j-ia) (by omega) (by omega));rw [show ia+(j-ia)=j by omega] at this;exact Int.le_of_lt this
       by_cases x1:(ib+1 == b.size)=true
       ·rw [if_pos x1]
        exact wpS_pure (.inl ⟨_,_,rfl,rfl,eW sa sb bq (.inl (eq_of_beq x1))⟩)
       ·rw [if_neg x1]
        have jf:ib+1≠b.size:=fun e=>x1 (by simp [←e])
        refine wpS_bind (aP (by omega) (wpS_bind (dW (f:=fun i=>bB true (key (a.getD (ia) nn)) (key (b.getD (ib+1+i) nn))) (fun i hi Q q=>dU h (by omega) ob (oa _ (by omega)) (cR _) q) (by omega) (ik sb) fun k' q1 q2 q3=>?_)))
        dsimp only
        by_cases b9:k'>0
        ·rw [if_pos b9]
         have bV:=pG sa sb bq (n:=k') fun i j hi aR hj cC=>Int.le_trans (Int.le_of_lt (dz (q2 i hi))) (cQ sa hj cC)
         by_cases x2:(ib+1+k' == b.size)=true
         ·rw [if_pos x2]
          exact wpS_pure (.inl ⟨_,_,rfl,rfl,eW sa sb bV (.inl (eq_of_beq x2))⟩)
         ·rw [if_neg x2]
          have jg:ib+1+k'≠b.size:=fun e=>x2 (by simp [←e])
          refine wpS_bind (aP (by omega) ?_)
          have aE:=gE sa sb bV (by omega) fun j h1 h2=>by have:=dX (q3 (j-(ib+1)) (by omega) (by omega));rwa [show ib+1+(j-(ib+1))=j by omega] at this
          by_cases y1:(ia+1+1 == a.size)=true
          ·rw [if_pos y1]
           exact wpS_pure (.inl ⟨_,_,rfl,rfl,eX sa sb aE hl (eq_of_beq y1)⟩)
          ·rw [if_neg y1]
           have dE:ia+1+1≠a.size:=fun e=>y1 (by simp [←e])
           exact cq (fun _=>wpS_pure (.inr ⟨_,_,_,_,_,_,_,rfl,rfl,aE,by omega,by omega,by omega⟩)) (fun _=>wpS_pure ⟨_,_,_,_,_,_,_,rfl,rfl,aE,by omega,by omega,by omega⟩)
        ·rw [if_neg b9]
         obtain rfl:k'=0:=by omega
         refine wpS_bind (aP (by omega) ?_)
         have aE:=gE sa sb bq (by omega) fun j h1 h2=>by have:=dX (q3 (j-(ib+1)) (by omega) (by omega));rwa [show ib+1+(j-(ib+1))=j by omega] at this
         by_cases y1:(ia+1+1 == a.size)=true
         ·rw [if_pos y1]
          exact wpS_pure (.inl ⟨_,_,rfl,rfl,eX sa sb aE hl (eq_of_beq y1)⟩)
         ·rw [if_neg y1]
          have dE:ia+1+1≠a.size:=fun e=>y1 (by simp [←e])
          exact cq (fun _=>wpS_pure (.inr ⟨_,_,_,_,_,_,_,rfl,rfl,aE,by omega,by omega,by omega⟩)) (fun _=>wpS_pure ⟨_,_,_,_,_,_,_,rfl,rfl,aE,by omega,by omega,by omega⟩)
    ·rintro c ak ⟨out,i,j,mg,ac,bc,g,rfl,rfl,mi,ha,hb,dB⟩
     exact .inr ⟨_,_,_,_,_,_,_,rfl,rfl,mi,ha,hb,dB⟩
    ·rintro c ak (⟨m,g,e,rfl,pm⟩ | ⟨out,i,j,mg,ac,bc,g,rfl,rfl,mi,ha,hb,dB⟩)
     ·obtain ⟨c1,c2⟩:=c
      dsimp only at e
      subst e
      exact wpS_pure ⟨m,g,rfl,rfl,pm⟩
     ·dsimp only
      exact wpS_bind (kF (wpS_pure ⟨_,_,_,_,_,rfl,rfl,mi,ha,hb,by omega⟩))
 ·rintro c ak ⟨out,ia,ib,mg,g,rfl,rfl,mi,ha,hb,tL⟩
  exfalso
  omega
 ·rintro c ak ⟨m,g,e,rfl,pm,sm⟩
  obtain ⟨c1,c2⟩:=c
  dsimp only at e
  subst e
  exact wpS_pure (q m g pm sm)
end
theorem Em(a b:Array Keyed):tG a b=(do
 rule "list.sort.merge-hi"
 let total:=a.size+b.size
 let done (out:Array Keyed) (na nb:Nat):=a.extract 0 na++b.extract 0 nb++out.reverse
 let pH (out:Array Keyed) (na nb:Nat):=b.extract 0 nb++a.extract 0 na++out.reverse
 let mut na:=a.size-1
 let mut nb:=b.size
 let mut out:Array Keyed:=#[←elem' a na]
 if na == 0 then return done out na nb
 if nb == 1 then return pH out na nb
 let mut minGallop:=gallopOf (←get)
 for _ in [0:total] do
  let mut eC:=0
  let mut eE:=0
  for _ in [0:total] do
   let some En ←lt' (←elem' b (nb-1)) (←elem' a (na-1)) | return done out na nb
   if En then
    na:=na-1;out:=out.push (←elem' a na);eC:=eC+1;eE:=0
    if na == 0 then return done out na nb
    if eC≥minGallop then break
   else
    nb:=nb-1;out:=out.push (←elem' b nb);eE:=eE+1;eC:=0
    if nb == 1 then return pH out na nb
    if eE≥minGallop then break
  rule "list.sort.gallop"
  minGallop:=minGallop+1
  for _ in [0:total] do
   if minGallop>1 then minGallop:=minGallop-1
   m8 minGallop
   let some at_ ←ie false (←elem' b (nb-1)) a 0 na (na-1) | return done out na nb
   let k:=na-at_
   eC:=k
   if k>0 then
    out:=out++(a.extract at_ na).reverse;na:=at_
    if na == 0 then return done out na nb
   nb:=nb-1;out:=out.push (←elem' b nb)
   if nb == 1 then return pH out na nb
   let some at_ ←ie true (←elem' a (na-1)) b 0 nb (nb-1) | return done out na nb
   let k:=nb-at_
   eE:=k
   if k>0 then
    out:=out++(b.extract at_ nb).reverse;nb:=at_
    if nb == 1 then return pH out na nb
    if nb == 0 then return done out na nb
   na:=na-1;out:=out.push (←elem' a na)
   if na == 0 then return done out na nb
   if eC<7 && eE<7 then break
  minGallop:=minGallop+1
  m8 minGallop
 unsupported "internal:list.sort.merge-bound"):=rfl
section
variable {key:Keyed→Int}
theorem kH{l:List Keyed}(h:aK key l):aK (fun x=>-key x) l.reverse:=by
 unfold aK
 rw [List.pairwise_reverse]
 exact List.Pairwise.imp (fun h=>Int.neg_le_neg h) h
theorem xW{l:List Keyed}(h:aK (fun x=>-key x) l):aK key l.reverse:=by
 unfold aK
 rw [List.pairwise_reverse]
 exact List.Pairwise.imp (fun h=>Int.le_of_neg_le_neg h) h
theorem fB{a:Array Keyed}{n:Nat}(h:n≤a.size):a.toList.reverse.drop (a.size-n)=(a.extract 0 n).toList.reverse:=by
 rw [List.drop_reverse,eV,List.drop_zero,Nat.sub_zero,Array.length_toList,show a.size-(a.size-n)=n by omega]
theorem pI{a:Array Keyed}{n m:Nat}(h:n≤a.size)(hm:m≤n):(a.toList.reverse.drop (a.size-n)).take (n-m)=(a.extract m n).reverse.toList:=by
 rw [fB h,Array.toList_reverse,eV,eV,List.drop_zero,Nat.sub_zero,List.take_reverse,List.length_take,Array.length_toList,show min n a.size-(n-m)=m by omega,List.drop_take]
theorem gF{a:Array Keyed}{n m:Nat}(h:n≤a.size){x:Keyed}(hx:x∈(a.extract m n).toList):∃j,m≤j∧j<n∧x=a.getD j nn:=by
 rw [eV] at hx
 obtain ⟨j,h1,h2,rfl⟩:=tJ hx
 exact ⟨m+j,by omega,by omega,rfl⟩
theorem xX{a:Array Keyed}{n:Nat}(h:n≤a.size)(h1:1≤n):(a.extract (n-1) n).reverse.toList=[a.getD (n-1) nn]:=by
 rw [Array.toList_reverse,eV,show n-(n-1)=1 by omega,ng (by omega)]
 rfl
def MH(key:Keyed→Int)(a b out:Array Keyed)(na nb:Nat):Prop:=MI (fun x=>-key x) a.toList.reverse b.toList.reverse out.toList (a.size-na) (b.size-nb)∧na≤a.size∧nb≤b.size
variable {a b:Array Keyed} (sa:aK key a.toList) (sb:aK key b.toList) {out:Array Keyed} {na nb:Nat}
include sa sb
theorem tN(m:MH key a b out na nb){k:Nat}(hk:k≤na)(c:∀i j,k≤i→i<na→j<nb→key (b.getD j nn)≤key (a.getD i nn)):MH key a b (out++(a.extract k na).reverse) k nb:=by
 obtain ⟨m,ha,hb⟩:=m
 refine ⟨?_,by omega,hb⟩
 have:=m.pC (kH sa) (na-k) fun x hx y hy=>by
  rw [pI ha hk,Array.toList_reverse,List.mem_reverse] at hx
  rw [fB hb,List.mem_reverse] at hy
  obtain ⟨i,i1,i2,rfl⟩:=gF ha hx
  obtain ⟨j,j1,j2,rfl⟩:=gF hb hy
  have:=c i j i1 i2 j2
  omega
 rw [pI ha hk,show a.size-na+(na-k)=a.size-k by omega] at this
 rw [Array.toList_append]
 exact this
theorem nh(m:MH key a b out na nb){k:Nat}(hk:k≤nb)(c:∀i j,k≤i→i<nb→j<na→key (a.getD j nn)≤key (b.getD i nn)):MH key a b (out++(b.extract k nb).reverse) na k:=by
 obtain ⟨m,ha,hb⟩:=m
 refine ⟨?_,ha,by omega⟩
 have:=m.tI (kH sb) (nb-k) fun x hx y hy=>by
  rw [pI hb hk,Array.toList_reverse,List.mem_reverse] at hx
  rw [fB ha,List.mem_reverse] at hy
  obtain ⟨i,i1,i2,rfl⟩:=gF hb hx
  obtain ⟨j,j1,j2,rfl⟩:=gF ha hy
  have:=c i j i1 i2 j2
  omega
 rw [pI hb hk,show b.size-nb+(nb-k)=b.size-k by omega] at this
 rw [Array.toList_append]
 exact this
theorem gf(m:MH key a b out na nb)(h1:1≤na)(c:∀j,j<nb→key (b.getD j nn)≤key (a.getD (na-1) nn)):MH key a b (out.push (a.getD (na-1) nn)) (na-1) nb:=by
 have:=tN sa sb m (k:=na-1) (by omega) fun i j i1 i2 j1=>by
  rw [show i=na-1 by omega]
  exact c j j1
 have e:out++(a.extract (na-1) na).reverse=out.push (a.getD (na-1) nn):=by
  apply Array.toList_inj.mp
  rw [Array.toList_append,xX m.2.1 h1,Array.toList_push]
 rw [e] at this
 exact this
theorem ni(m:MH key a b out na nb)(h1:1≤nb)(c:∀j,j<na→key (a.getD j nn)≤key (b.getD (nb-1) nn)):MH key a b (out.push (b.getD (nb-1) nn)) na (nb-1):=by
 have:=nh sa sb m (k:=nb-1) (by omega) fun i j i1 i2 j1=>by
  rw [show i=nb-1 by omega]
  exact c j j1
 have e:out++(b.extract (nb-1) nb).reverse=out.push (b.getD (nb-1) nn):=by
  apply Array.toList_inj.mp
  rw [Array.toList_append,xX m.2.2 h1,Array.toList_push]
 rw [e] at this
 exact this
theorem dg(m:MH key a b out na nb)(e:na=0∨nb=0):(a.extract 0 na++b.extract 0 nb++out.reverse).toList.Perm (a.toList++b.toList)∧aK key (a.extract 0 na++b.extract 0 nb++out.reverse).toList:=by
 obtain ⟨m,ha,hb⟩:=m
 have:=m.xU (kH sa) (kH sb) fun x hx y hy=>by
  rw [fB ha,List.mem_reverse] at hx
  rw [fB hb,List.mem_reverse] at hy
  obtain ⟨i,i1,i2,_⟩:=gF ha hx
  obtain ⟨j,j1,j2,_⟩:=gF hb hy
  omega
 rw [fB ha,fB hb] at this
 have er:(a.extract 0 na++b.extract 0 nb++out.reverse).toList=(out.toList++(b.extract 0 nb).toList.reverse++(a.extract 0 na).toList.reverse).reverse:=by
  simp
 rw [er]
 refine ⟨(List.reverse_perm _).trans (this.1.trans ?_),xW this.2⟩
 exact (List.reverse_perm _).append (List.reverse_perm _)
theorem gg(m:MH key a b out na nb)(h0:∀x∈a.toList,key (b.getD 0 nn)≤key x)(e:nb=1):(b.extract 0 nb++a.extract 0 na++out.reverse).toList.Perm (a.toList++b.toList)∧aK key (b.extract 0 nb++a.extract 0 na++out.reverse).toList:=by
 obtain ⟨m,ha,hb⟩:=m
 have:=m.done (kH sa) (kH sb) fun x hx y hy=>by
  rw [fB ha,List.mem_reverse] at hx
  rw [fB hb,List.mem_reverse] at hy
  obtain ⟨i,i1,i2,rfl⟩:=gF ha hx
  obtain ⟨j,j1,j2,rfl⟩:=gF hb hy
  have:=h0 (a.getD i nn) (by simp [Array.getD,show i<a.size by omega])
  rw [show j=0 by omega]
  omega
 rw [fB ha,fB hb] at this
 have er:(b.extract 0 nb++a.extract 0 na++out.reverse).toList=(out.toList++(a.extract 0 na).toList.reverse++(b.extract 0 nb).toList.reverse).reverse:=by
  simp
 rw [er]
 refine ⟨(List.reverse_perm _).trans (this.1.trans ?_),xW this.2⟩
 exact (List.reverse_perm _).append (List.reverse_perm _)
end
section
variable {prog:Program} {w:World} {A:Around} {E:Value→Shared→Prop} {s:Shared} {κ:SortKind} {key:Keyed→Int} {Ok:Keyed→Prop}
theorem Eo(h:eU prog w A s κ key Ok){a b:Array Keyed}(oa:cM Ok a)(ob:cM Ok b)(sa:aK key a.toList)(sb:aK key b.toList)(a1:1≤a.size)(b1:1≤b.size)
  (h0:∀x∈a.toList,key (b.getD 0 nn)≤key x) (hl:∀y∈b.toList,key y≤key (a.getD (a.size-1) nn)) {st:SortSt} (hk:kindOf st=κ) {Q:Array Keyed→SortSt→Prop}
  (q:∀m g,m.toList.Perm (a.toList++b.toList)→aK key m.toList→Q m (setG st g)):wpS (model prog w) A E s (tG a b) Q st:=by
 rw [Em]
 refine wpS_bind (wpS_lift (wpAny_rule ⟨rfl,?_⟩))
 refine wpS_bind (aP (by omega) ?_)
 dsimp only
 have m0:MH key a b (#[a.getD (a.size-1) nn]:Array Keyed) (a.size-1) b.size:=by
  have:MH key a b (#[]:Array Keyed) a.size b.size:=⟨⟨by simp,List.Pairwise.nil,fun x hx=>by simp at hx,fun x hx=>by simp at hx⟩,Nat.le_refl _,Nat.le_refl _⟩
  exact gf sa sb this a1 fun j hj=>hl _ (by simp [Array.getD,hj])
 have cR:∀g,kindOf (setG st g)=κ:=fun _=>hk
 by_cases e1:(a.size-1 == 0)=true
 ·rw [if_pos e1]
  have:=dg sa sb m0 (.inl (eq_of_beq e1))
  exact wpS_pure (q _ (gallopOf st) this.1 this.2)
 rw [if_neg e1]
 by_cases e2:(b.size == 1)=true
 ·rw [if_pos e2]
  have:=gg sa sb m0 h0 (eq_of_beq e2)
  exact wpS_pure (q _ (gallopOf st) this.1 this.2)
 rw [if_neg e2]
 have a2:1≤a.size-1:=by
  have:a.size-1≠0:=fun e=>e1 (by simp [e])
  omega
 have b2:2≤b.size:=by
  have:b.size≠1:=fun e=>e2 (by simp [e])
  omega
 refine wpS_bind (wpS_get ?_)
 refine wpS_bind (wpS_mono (wpS_forRange (I:=fun x c ak=>∃(out:Array Keyed) (na nb mg g:Nat),c=(none,na,nb,out,mg)∧ak=setG st g∧MH key a b out na nb∧1≤na∧2≤nb∧x+na+nb≤a.size+b.size)
  (Q:=fun c ak=>∃(m:Array Keyed) (g:Nat),c.1=some m∧ak=setG st g∧m.toList.Perm (a.toList++b.toList)∧aK key m.toList) ?_ ?_ ⟨_,a.size-1,b.size,_,gallopOf st,rfl,rfl,m0,a2,b2,show 0+(a.size-1)+b.size≤a.size+b.size by omega⟩) ?_)
 ·rintro x c ak _ hx ⟨out,na,nb,mg,g,rfl,rfl,mi,ha,hb,tL⟩
  dsimp only
  refine wpS_bind (wpS_mono (wpS_forRange (I:=fun y c ak=>∃(out:Array Keyed) (aM bf ac bc:Nat),c=(none,aM,bf,out,ac,bc)∧ak=setG st g∧MH key a b out aM bf∧1≤aM∧2≤bf∧y+aM+bf≤na+nb)
   (Q:=fun c ak=>ak=setG st g∧((∃m:Array Keyed,c.1=some m∧m.toList.Perm (a.toList++b.toList)∧aK key m.toList)∨∃(out:Array Keyed) (aM bf ac bc:Nat),c=(none,aM,bf,out,ac,bc)∧MH key a b out aM bf∧1≤aM∧2≤bf∧1+aM+bf≤na+nb)) ?_ ?_ ⟨_,na,nb,_,_,rfl,rfl,mi,ha,hb,show 0+na+nb≤na+nb by omega⟩) ?_)
  ·rintro y c ak _ hy ⟨out,aM,bf,ac,bc,rfl,rfl,mi,ha,hb,dB⟩
   have Ep:=mi.2.1
   have i9:=mi.2.2
   dsimp only
   refine wpS_bind (aP (by omega) (wpS_bind (aP (by omega) (wpS_bind (m_ h (ob (bf-1) (by omega)) (oa (aM-1) (by omega)) (cR _) ?_)))))
   dsimp only
   by_cases z:key (b.getD (bf-1) nn)<key (a.getD (aM-1) nn)
   ·rw [decide_eq_true z,if_pos rfl]
    refine wpS_bind (aP (by omega) ?_)
    have dC:=gf sa sb mi ha fun j hj=>Int.le_trans (cQ sb (by omega) (by omega)) (Int.le_of_lt z)
    by_cases z1:(aM-1 == 0)=true
    ·rw [if_pos z1]
     exact wpS_pure ⟨rfl,.inl ⟨_,rfl,dg sa sb dC (.inl (eq_of_beq z1))⟩⟩
    ·rw [if_neg z1]
     have h_:aM-1≠0:=fun e=>z1 (by simp [e])
     exact cq (fun _=>wpS_pure ⟨rfl,.inr ⟨_,_,_,_,_,rfl,dC,by omega,hb,by omega⟩⟩) (fun _=>wpS_pure ⟨_,_,_,_,_,rfl,rfl,dC,by omega,hb,by omega⟩)
   ·rw [decide_eq_false z,if_neg (by simp)]
    refine wpS_bind (aP (by omega) ?_)
    have dC:=ni sa sb mi (by omega) fun j hj=>Int.le_trans (cQ sa (by omega) (by omega)) (Int.not_lt.mp z)
    by_cases z1:(bf-1 == 1)=true
    ·rw [if_pos z1]
     exact wpS_pure ⟨rfl,.inl ⟨_,rfl,gg sa sb dC h0 (eq_of_beq z1)⟩⟩
    ·rw [if_neg z1]
     have h_:bf-1≠1:=fun e=>z1 (by simp [e])
     exact cq (fun _=>wpS_pure ⟨rfl,.inr ⟨_,_,_,_,_,rfl,dC,ha,by omega,by omega⟩⟩) (fun _=>wpS_pure ⟨_,_,_,_,_,rfl,rfl,dC,ha,by omega,by omega⟩)
  ·rintro c ak ⟨out,aM,bf,ac,bc,rfl,rfl,mi,ha,hb,dB⟩
   exact ⟨rfl,.inr ⟨_,_,_,_,_,rfl,mi,ha,hb,by omega⟩⟩
  ·rintro c ak ⟨rfl,⟨m,e,pm⟩ | ⟨out,aM,bf,ac,bc,rfl,mi,ha,hb,dB⟩⟩
   ·obtain ⟨c1,c2⟩:=c
    dsimp only at e
    subst e
    exact wpS_pure ⟨m,g,rfl,rfl,pm⟩
   ·dsimp only
    refine wpS_bind (wpS_lift (wpAny_rule ⟨rfl,?_⟩))
    refine wpS_bind (wpS_mono (wpS_forRange (I:=fun y c ak=>∃(out:Array Keyed) (i j mg ac bc g:Nat),c=(none,i,j,out,mg,ac,bc)∧ak=setG st g∧MH key a b out i j∧1≤i∧2≤j∧x+1+i+j≤a.size+b.size)
     (Q:=fun c ak=>(∃(m:Array Keyed) (g:Nat),c.1=some m∧ak=setG st g∧m.toList.Perm (a.toList++b.toList)∧aK key m.toList)∨∃(out:Array Keyed) (i j mg ac bc g:Nat),c=(none,i,j,out,mg,ac,bc)∧ak=setG st g∧MH key a b out i j∧1≤i∧2≤j∧x+1+i+j≤a.size+b.size) ?_ ?_ ⟨_,aM,bf,_,_,_,g,rfl,rfl,mi,ha,hb,by omega⟩) ?_)
    ·clear mi ha hb dB
     rintro y c ak _ hy ⟨out,na,nb,mg,ac,bc,g,rfl,rfl,mi,ha,hb,dB⟩
     have Ep:=mi.2.1
     have i9:=mi.2.2
     dsimp only
     rcases Nat.lt_or_ge 1 mg with zm | zm
     ·rw [if_pos zm]
      refine wpS_bind (kF ?_)
      refine wpS_bind (aP (by omega) (wpS_bind (dW (f:=fun i=>bB false (key (b.getD (nb-1) nn)) (key (a.getD (0+i) nn))) (fun i hi Q q=>dU h (by omega) oa (ob _ (by omega)) (cR _) q) (by omega) (fun i j h1 h2 h3=>pF sa (o:=0) i j h1 (by omega) h3) fun k k1 k2 k3=>?_)))
      dsimp only
      by_cases zk:na-k>0
      ·rw [if_pos zk]
       have dD:=tN sa sb mi (k:=k) k1 fun i j hi aR hj=>by
        have:=ig (k3 i hi aR)
        rw [Nat.zero_add] at this
        exact Int.le_trans (cQ sb (by omega) (by omega)) (Int.le_of_lt this)
       by_cases w1:(k == 0)=true
       ·rw [if_pos w1]
        exact wpS_pure (.inl ⟨_,_,rfl,rfl,dg sa sb dD (.inl (eq_of_beq w1))⟩)
       ·rw [if_neg w1]
        have tM:k≠0:=fun e=>w1 (by simp [e])
        refine wpS_bind (aP (by have:=dD.2.2;omega) ?_)
        have bq:=ni sa sb dD (by omega) fun j h1=>by have:=gc (k2 j h1);rw [Nat.zero_add] at this;exact this
        by_cases x1:(nb-1 == 1)=true
        ·rw [if_pos x1]
         exact wpS_pure (.inl ⟨_,_,rfl,rfl,gg sa sb bq h0 (eq_of_beq x1)⟩)
        ·rw [if_neg x1]
         have jf:nb-1≠1:=fun e=>x1 (by simp [e])
         have i9:=bq.2.2
         refine wpS_bind (aP (by omega) (wpS_bind (dW (f:=fun i=>bB true (key (a.getD (k-1) nn)) (key (b.getD (0+i) nn))) (fun i hi Q q=>dU h (by omega) ob (oa _ (by omega)) (cR _) q) (by omega) (fun i j h1 h2 h3=>ik sb (o:=0) i j h1 (by omega) h3) fun k' q1 q2 q3=>?_)))
         dsimp only
         by_cases b9:nb-1-k'>0
         ·rw [if_pos b9]
          have bV:=nh sa sb bq (k:=k') q1 fun i j hi aR hj=>by
           have:=dX (q3 i hi aR)
           rw [Nat.zero_add] at this
           exact Int.le_trans (cQ sa (by omega) (by omega)) this
          by_cases x2:(k' == 1)=true
          ·rw [if_pos x2]
           exact wpS_pure (.inl ⟨_,_,rfl,rfl,gg sa sb bV h0 (eq_of_beq x2)⟩)
          ·rw [if_neg x2]
           have jg:k'≠1:=fun e=>x2 (by simp [e])
           by_cases x3:(k' == 0)=true
           ·rw [if_pos x3]
            exact wpS_pure (.inl ⟨_,_,rfl,rfl,dg sa sb bV (.inr (eq_of_beq x3))⟩)
           ·rw [if_neg x3]
            have tO:k'≠0:=fun e=>x3 (by simp [e])
            refine wpS_bind (aP (by omega) ?_)
            have aE:=gf sa sb bV (by omega) fun j h1=>by have:=dz (q2 j h1);rw [Nat.zero_add] at this;exact Int.le_of_lt this
            by_cases y1:(k-1 == 0)=true
            ·rw [if_pos y1]
             exact wpS_pure (.inl ⟨_,_,rfl,rfl,dg sa sb aE (.inl (eq_of_beq y1))⟩)
            ·rw [if_neg y1]
             have dE:k-1≠0:=fun e=>y1 (by simp [e])
             exact cq (fun _=>wpS_pure (.inr ⟨_,_,_,_,_,_,_,rfl,rfl,aE,by omega,by omega,by omega⟩)) (fun _=>wpS_pure ⟨_,_,_,_,_,_,_,rfl,rfl,aE,by omega,by omega,by omega⟩)
         ·rw [if_neg b9]
          obtain rfl:k'=nb-1:=by omega
          refine wpS_bind (aP (by omega) ?_)
          have aE:=gf sa sb bq (by omega) fun j h1=>by have:=dz (q2 j h1);rw [Nat.zero_add] at this;exact Int.le_of_lt this
          by_cases y1:(k-1 == 0)=true
          ·rw [if_pos y1]
           exact wpS_pure (.inl ⟨_,_,rfl,rfl,dg sa sb aE (.inl (eq_of_beq y1))⟩)
          ·rw [if_neg y1]
           have dE:k-1≠0:=fun e=>y1 (by simp [e])
           exact cq (fun _=>wpS_pure (.inr ⟨_,_,_,_,_,_,_,rfl,rfl,aE,by omega,by omega,by omega⟩)) (fun _=>wpS_pure ⟨_,_,_,_,_,_,_,rfl,rfl,aE,by omega,by omega,by omega⟩)
      ·rw [if_neg zk]
       obtain rfl:k=na:=by omega
       refine wpS_bind (aP (by have:=mi.2.2;omega) ?_)
       have bq:=ni sa sb mi (by omega) fun j h1=>by have:=gc (k2 j h1);rw [Nat.zero_add] at this;exact this
       by_cases x1:(nb-1 == 1)=true
       ·rw [if_pos x1]
        exact wpS_pure (.inl ⟨_,_,rfl,rfl,gg sa sb bq h0 (eq_of_beq x1)⟩)
       ·rw [if_neg x1]
        have jf:nb-1≠1:=fun e=>x1 (by simp [e])
        have i9:=bq.2.2
        refine wpS_bind (aP (by omega) (wpS_bind (dW (f:=fun i=>bB true (key (a.getD (k-1) nn)) (key (b.getD (0+i) nn))) (fun i hi Q q=>dU h (by omega) ob (oa _ (by omega)) (cR _) q) (by omega) (fun i j h1 h2 h3=>ik sb (o:=0) i j h1 (by omega) h3) fun k' q1 q2 q3=>?_)))
        dsimp only
        by_cases b9:nb-1-k'>0
        ·rw [if_pos b9]
         have bV:=nh sa sb bq (k:=k') q1 fun i j hi aR hj=>by
          have:=dX (q3 i hi aR)
          rw [Nat.zero_add] at this
          exact Int.le_trans (cQ sa (by omega) (by omega)) this
         by_cases x2:(k' == 1)=true
         ·rw [if_pos x2]
          exact wpS_pure (.inl ⟨_,_,rfl,rfl,gg sa sb bV h0 (eq_of_beq x2)⟩)
         ·rw [if_neg x2]
          have jg:k'≠1:=fun e=>x2 (by simp [e])
          by_cases x3:(k' == 0)=true
          ·rw [if_pos x3]
           exact wpS_pure (.inl ⟨_,_,rfl,rfl,dg sa sb bV (.inr (eq_of_beq x3))⟩)
          ·rw [if_neg x3]
           have tO:k'≠0:=fun e=>x3 (by simp [e])
           refine wpS_bind (aP (by omega) ?_)
           have aE:=gf sa sb bV (by omega) fun j h1=>by have:=dz (q2 j h1);rw [Nat.zero_add] at this;exact Int.le_of_lt this
           by_cases y1:(k-1 == 0)=true
           ·rw [if_pos y1]
            exact wpS_pure (.inl ⟨_,_,rfl,rfl,dg sa sb aE (.inl (eq_of_beq y1))⟩)
           ·rw [if_neg y1]
            have dE:k-1≠0:=fun e=>y1 (by simp [e])
            exact cq (fun _=>wpS_pure (.inr ⟨_,_,_,_,_,_,_,rfl,rfl,aE,by omega,by omega,by omega⟩)) (fun _=>wpS_pure ⟨_,_,_,_,_,_,_,rfl,rfl,aE,by omega,by omega,by omega⟩)
        ·rw [if_neg b9]
         obtain rfl:k'=nb-1:=by omega
         refine wpS_bind (aP (by omega) ?_)
         have aE:=gf sa sb bq (by omega) fun j h1=>by have:=dz (q2 j h1);rw [Nat.zero_add] at this;exact Int.le_of_lt this
         by_cases y1:(k-1 == 0)=true
         ·rw [if_pos y1]
          exact wpS_pure (.inl ⟨_,_,rfl,rfl,dg sa sb aE (.inl (eq_of_beq y1))⟩)
         ·rw [if_neg y1]
          have dE:k-1≠0:=fun e=>y1 (by simp [e])
          exact cq (fun _=>wpS_pure (.inr ⟨_,_,_,_,_,_,_,rfl,rfl,aE,by omega,by omega,by omega⟩)) (fun _=>wpS_pure ⟨_,_,_,_,_,_,_,rfl,rfl,aE,by omega,by omega,by omega⟩)
     ·rw [if_neg (by omega)]
      refine wpS_bind (kF ?_)
      refine wpS_bind (aP (by omega) (wpS_bind (dW (f:=fun i=>bB false (key (b.getD (nb-1) nn)) (key (a.getD (0+i) nn))) (fun i hi Q q=>dU h (by omega) oa (ob _ (by omega)) (cR _) q) (by omega) (fun i j h1 h2 h3=>pF sa (o:=0) i j h1 (by omega) h3) fun k k1 k2 k3=>?_)))
      dsimp only
      by_cases zk:na-k>0
      ·rw [if_pos zk]
       have dD:=tN sa sb mi (k:=k) k1 fun i j hi aR hj=>by
        have:=ig (k3 i hi aR)
        rw [Nat.zero_add] at this
        exact Int.le_trans (cQ sb (by omega) (by omega)) (Int.le_of_lt this)
       by_cases w1:(k == 0)=true
       ·rw [if_pos w1]
        exact wpS_pure (.inl ⟨_,_,rfl,rfl,dg sa sb dD (.inl (eq_of_beq w1))⟩)
       ·rw [if_neg w1]
        have tM:k≠0:=fun e=>w1 (by simp [e])
        refine wpS_bind (aP (by have:=dD.2.2;omega) ?_)
        have bq:=ni sa sb dD (by omega) fun j h1=>by have:=gc (k2 j h1);rw [Nat.zero_add] at this;exact this
        by_cases x1:(nb-1 == 1)=true
        ·rw [if_pos x1]
         exact wpS_pure (.inl ⟨_,_,rfl,rfl,gg sa sb bq h0 (eq_of_beq x1)⟩)
        ·rw [if_neg x1]
         have jf:nb-1≠1:=fun e=>x1 (by simp [e])
         have i9:=bq.2.2
         refine wpS_bind (aP (by omega) (wpS_bind (dW (f:=fun i=>bB true (key (a.getD (k-1) nn)) (key (b.getD (0+i) nn))) (fun i hi Q q=>dU h (by omega) ob (oa _ (by omega)) (cR _) q) (by omega) (fun i j h1 h2 h3=>ik sb (o:=0) i j h1 (by omega) h3) fun k' q1 q2 q3=>?_)))
         dsimp only
         by_cases b9:nb-1-k'>0
         ·rw [if_pos b9]
          have bV:=nh sa sb bq (k:=k') q1 fun i j hi aR hj=>by
           have:=dX (q3 i hi aR)
           rw [Nat.zero_add] at this
           exact Int.le_trans (cQ sa (by omega) (by omega)) this
          by_cases x2:(k' == 1)=true
          ·rw [if_pos x2]
           exact wpS_pure (.inl ⟨_,_,rfl,rfl,gg sa sb bV h0 (eq_of_beq x2)⟩)
          ·rw [if_neg x2]
           have jg:k'≠1:=fun e=>x2 (by simp [e])
           by_cases x3:(k' == 0)=true
           ·rw [if_pos x3]
            exact wpS_pure (.inl ⟨_,_,rfl,rfl,dg sa sb bV (.inr (eq_of_beq x3))⟩)
           ·rw [if_neg x3]
            have tO:k'≠0:=fun e=>x3 (by simp [e])
            refine wpS_bind (aP (by omega) ?_)
            have aE:=gf sa sb bV (by omega) fun j h1=>by have:=dz (q2 j h1);rw [Nat.zero_add] at this;exact Int.le_of_lt this
            by_cases y1:(k-1 == 0)=true
            ·rw [if_pos y1]
             exact wpS_pure (.inl ⟨_,_,rfl,rfl,dg sa sb aE (.inl (eq_of_beq y1))⟩)
            ·rw [if_neg y1]
             have dE:k-1≠0:=fun e=>y1 (by simp [e])
             exact cq (fun _=>wpS_pure (.inr ⟨_,_,_,_,_,_,_,rfl,rfl,aE,by omega,by omega,by omega⟩)) (fun _=>wpS_pure ⟨_,_,_,_,_,_,_,rfl,rfl,aE,by omega,by omega,by omega⟩)
         ·rw [if_neg b9]
          obtain rfl:k'=nb-1:=by omega
          refine wpS_bind (aP (by omega) ?_)
          have aE:=gf sa sb bq (by omega) fun j h1=>by have:=dz (q2 j h1);rw [Nat.zero_add] at this;exact Int.le_of_lt this
          by_cases y1:(k-1 == 0)=true
          ·rw [if_pos y1]
           exact wpS_pure (.inl ⟨_,_,rfl,rfl,dg sa sb aE (.inl (eq_of_beq y1))⟩)
          ·rw [if_neg y1]
           have dE:k-1≠0:=fun e=>y1 (by simp [e])
           exact cq (fun _=>wpS_pure (.inr ⟨_,_,_,_,_,_,_,rfl,rfl,aE,by omega,by omega,by omega⟩)) (fun _=>wpS_pure ⟨_,_,_,_,_,_,_,rfl,rfl,aE,by omega,by omega,by omega⟩)
      ·rw [if_neg zk]
       obtain rfl:k=na:=by omega
       refine wpS_bind (aP (by have:=mi.2.2;omega) ?_)
       have bq:=ni sa sb mi (by omega) fun j h1=>by have:=gc (k2 j h1);rw [Nat.zero_add] at this;exact this
       by_cases x1:(nb-1 == 1)=true
       ·rw [if_pos x1]
        exact wpS_pure (.inl ⟨_,_,rfl,rfl,gg sa sb bq h0 (eq_of_beq x1)⟩)
       ·rw [if_neg x1]
        have jf:nb-1≠1:=fun e=>x1 (by simp [e])
        have i9:=bq.2.2
        refine wpS_bind (aP (by omega) (wpS_bind (dW (f:=fun i=>bB true (key (a.getD (k-1) nn)) (key (b.getD (0+i) nn))) (fun i hi Q q=>dU h (by omega) ob (oa _ (by omega)) (cR _) q) (by omega) (fun i j h1 h2 h3=>ik sb (o:=0) i j h1 (by omega) h3) fun k' q1 q2 q3=>?_)))
        dsimp only
        by_cases b9:nb-1-k'>0
        ·rw [if_pos b9]
         have bV:=nh sa sb bq (k:=k') q1 fun i j hi aR hj=>by
          have:=dX (q3 i hi aR)
          rw [Nat.zero_add] at this
          exact Int.le_trans (cQ sa (by omega) (by omega)) this
         by_cases x2:(k' == 1)=true
         ·rw [if_pos x2]
          exact wpS_pure (.inl ⟨_,_,rfl,rfl,gg sa sb bV h0 (eq_of_beq x2)⟩)
         ·rw [if_neg x2]
          have jg:k'≠1:=fun e=>x2 (by simp [e])
          by_cases x3:(k' == 0)=true
          ·rw [if_pos x3]
           exact wpS_pure (.inl ⟨_,_,rfl,rfl,dg sa sb bV (.inr (eq_of_beq x3))⟩)
          ·rw [if_neg x3]
           have tO:k'≠0:=fun e=>x3 (by simp [e])
           refine wpS_bind (aP (by omega) ?_)
           have aE:=gf sa sb bV (by omega) fun j h1=>by have:=dz (q2 j h1);rw [Nat.zero_add] at this;exact Int.le_of_lt this
           by_cases y1:(k-1 == 0)=true
           ·rw [if_pos y1]
            exact wpS_pure (.inl ⟨_,_,rfl,rfl,dg sa sb aE (.inl (eq_of_beq y1))⟩)
           ·rw [if_neg y1]
            have dE:k-1≠0:=fun e=>y1 (by simp [e])
            exact cq (fun _=>wpS_pure (.inr ⟨_,_,_,_,_,_,_,rfl,rfl,aE,by omega,by omega,by omega⟩)) (fun _=>wpS_pure ⟨_,_,_,_,_,_,_,rfl,rfl,aE,by omega,by omega,by omega⟩)
        ·rw [if_neg b9]
         obtain rfl:k'=nb-1:=by omega
         refine wpS_bind (aP (by omega) ?_)
         have aE:=gf sa sb bq (by omega) fun j h1=>by have:=dz (q2 j h1);rw [Nat.zero_add] at this;exact Int.le_of_lt this
         by_cases y1:(k-1 == 0)=true
         ·rw [if_pos y1]
          exact wpS_pure (.inl ⟨_,_,rfl,rfl,dg sa sb aE (.inl (eq_of_beq y1))⟩)
         ·rw [if_neg y1]
          have dE:k-1≠0:=fun e=>y1 (by simp [e])
          exact cq (fun _=>wpS_pure (.inr ⟨_,_,_,_,_,_,_,rfl,rfl,aE,by omega,by omega,by omega⟩)) (fun _=>wpS_pure ⟨_,_,_,_,_,_,_,rfl,rfl,aE,by omega,by omega,by omega⟩)
    ·rintro c ak ⟨out,i,j,mg,ac,bc,g,rfl,rfl,mi,ha,hb,dB⟩
     exact .inr ⟨_,_,_,_,_,_,_,rfl,rfl,mi,ha,hb,dB⟩
    ·rintro c ak (⟨m,g,e,rfl,pm⟩ | ⟨out,i,j,mg,ac,bc,g,rfl,rfl,mi,ha,hb,dB⟩)
     ·obtain ⟨c1,c2⟩:=c
      dsimp only at e
      subst e
      exact wpS_pure ⟨m,g,rfl,rfl,pm⟩
     ·dsimp only
      exact wpS_bind (kF (wpS_pure ⟨_,_,_,_,_,rfl,rfl,mi,ha,hb,by omega⟩))
 ·rintro c ak ⟨out,ia,ib,mg,g,rfl,rfl,mi,ha,hb,tL⟩
  exfalso
  omega
 ·rintro c ak ⟨m,g,e,rfl,pm,sm⟩
  obtain ⟨c1,c2⟩:=c
  dsimp only at e
  subst e
  exact wpS_pure (q m g pm sm)
end
section
variable {prog:Program} {w:World} {A:Around} {E:Value→Shared→Prop} {s:Shared} {κ:SortKind} {key:Keyed→Int} {Ok:Keyed→Prop}
def vA(key:Keyed→Int)(arr:Array Keyed)(i:Nat):Int:=key (arr.getD i nn)
def bF(key:Keyed→Int)(arr:Array Keyed)(lo hi:Nat):Prop:=∀i j,lo≤i→i≤j→j<hi→vA key arr i≤vA key arr j
def eY(key:Keyed→Int)(arr:Array Keyed)(lo hi:Nat):Prop:=∀i j,lo≤i→i≤j→j<hi→vA key arr j≤vA key arr i
structure Rl (arr aC:Array Keyed) (lo hi:Nat):Prop where
 pm:aC.Perm arr
 out:∀k,k<lo∨hi≤k→aC[k]?=arr[k]?
theorem Rl.refl(arr:Array Keyed)(lo hi:Nat):Rl arr arr lo hi:=⟨Array.Perm.refl _,fun _ _=>rfl⟩
theorem Rl.trans{arr aC au:Array Keyed}{lo hi:Nat}(h:Rl arr aC lo hi)(h':Rl aC au lo hi):Rl arr au lo hi:=⟨h'.pm.trans h.pm,fun k hk=>(h'.out k hk).trans (h.out k hk)⟩
theorem Rl.size{arr aC:Array Keyed}{lo hi:Nat}(h:Rl arr aC lo hi):aC.size=arr.size:=h.pm.size_eq
theorem Rl.wide{arr aC:Array Keyed}{lo hi xY aR:Nat}(h:Rl arr aC lo hi)(h1:xY≤lo)(h2:hi≤aR):Rl arr aC xY aR:=⟨h.pm,fun k hk=>h.out k (by omega)⟩
theorem fC(arr:Array Keyed)(i:Nat):arr.getD i nn=arr[i]?.getD nn:=by
 by_cases z:i<arr.size <;> simp [Array.getD,z]
theorem Rl.v{arr aC:Array Keyed}{lo hi:Nat}(h:Rl arr aC lo hi){k:Nat}(hk:k<lo∨hi≤k):vA key aC k=vA key arr k:=by
 unfold vA
 rw [fC,fC,h.out k hk]
theorem kI{arr aC:Array Keyed}(h:cM Ok arr)(p:aC.Perm arr):cM Ok aC:=fun i hi=>by
 have e:aC.getD i nn=aC[i]:=by simp [Array.getD,hi]
 rw [e]
 have m:aC[i]∈arr:=(Array.Perm.mem_iff p).mp (Array.getElem_mem hi)
 obtain ⟨j,hj,ej⟩:=Array.getElem_of_mem m
 rw [←ej]
 have:=h j hj
 simpa [Array.getD,hj] using this
theorem Rl.ok{arr aC:Array Keyed}{lo hi:Nat}(h:Rl arr aC lo hi)(ok:cM Ok arr):cM Ok aC:=kI ok h.pm
theorem fD{arr:Array Keyed}{i j:Nat}(hj:j≤arr.size):Rl arr (mirror arr i j ((j-i) / 2)) i j:=⟨mirror_perm ..,fun k hk=>by rw [getElem?_mirror_all hj,if_neg (by omega)]⟩
theorem pJ{arr:Array Keyed}{i j:Nat}(hj:j≤arr.size){k:Nat}(h1:i≤k)(h2:k<j):vA key (mirror arr i j ((j-i) / 2)) k=vA key arr (i+j-1-k):=by
 unfold vA
 rw [fC,fC,getElem?_mirror_all hj,if_pos ⟨h1,h2⟩]
abbrev aH (κ:SortKind) (arr:Array Keyed) (pend:Array (Nat×Nat×Nat)) (g:Nat):SortSt:=SortSt.mk' κ arr pend g none
variable {arr:Array Keyed} {pend:Array (Nat×Nat×Nat)} {g:Nat}
theorem fE(h:eU prog w A s κ key Ok)(ok:cM Ok arr){i j:Nat}(hi:i<arr.size)(hj:j<arr.size){Q:Option Bool→SortSt→Prop}(q:Q (some (decide (vA key arr i<vA key arr j))) (aH κ arr pend g)):wpS (model prog w) A E s (ltAt' i j) Q (aH κ arr pend g):=by
 rw [ltAt'_eq]
 refine wpS_bind (wpS_get ?_)
 exact wpS_bind (aP hi (wpS_bind (aP hj (m_ h (ok _ hi) (ok _ hj) rfl q))))
theorem gG{i j:Nat}{Q:Unit→SortSt→Prop}(q:Q () (aH κ (mirror arr i j ((j-i) / 2)) pend g)):wpS (model prog w) A E s (reverseSlice' i j) Q (aH κ arr pend g):=by
 rw [reverseSlice'_eq]
 exact wpS_modify q
theorem bF.more{lo n:Nat}(h:bF key arr lo (lo+n))(n1:1≤n)(c:vA key arr (lo+n-1)≤vA key arr (lo+n)):bF key arr lo (lo+(n+1)):=fun i j h1 h2 h3=>by
 by_cases z:j<lo+n
 ·exact h i j h1 h2 z
 ·obtain rfl:j=lo+n:=by omega
  by_cases y:i=lo+n
  ·rw [y];exact Int.le_refl _
  ·exact Int.le_trans (h i (lo+n-1) h1 (by omega) (by omega)) c
theorem eY.more{lo n:Nat}(h:eY key arr lo (lo+n))(n1:1≤n)(c:vA key arr (lo+n)≤vA key arr (lo+n-1)):eY key arr lo (lo+(n+1)):=fun i j h1 h2 h3=>by
 by_cases z:j<lo+n
 ·exact h i j h1 h2 z
 ·obtain rfl:j=lo+n:=by omega
  by_cases y:i=lo+n
  ·rw [y];exact Int.le_refl _
  ·exact Int.le_trans c (h i (lo+n-1) h1 (by omega) (by omega))
def nj(key:Keyed→Int)(arr:Array Keyed)(lo n q:Nat):Prop:=q+1≤n∧∀i,lo+n-(q+1)≤i→i<lo+n→vA key arr i=vA key arr (lo+n-1)
theorem pK{lo n q:Nat}(hz:lo+n≤arr.size)(d:eY key arr lo (lo+n))(e:nj key arr lo n q):eY key (mirror arr (lo+n-(q+1)) (lo+n) ((lo+n-(lo+n-(q+1))) / 2)) lo (lo+n)∧∀k,vA key (mirror arr (lo+n-(q+1)) (lo+n) ((lo+n-(lo+n-(q+1))) / 2)) k=vA key arr k:=by
 have hv:∀k,vA key (mirror arr (lo+n-(q+1)) (lo+n) ((lo+n-(lo+n-(q+1))) / 2)) k=vA key arr k:=fun k=>by
  by_cases z:lo+n-(q+1)≤k∧k<lo+n
  ·rw [pJ hz z.1 z.2,e.2 _ (by have:=e.1;omega) (by omega),e.2 k z.1 z.2]
  ·exact (fD hz).v (by omega)
 refine ⟨fun i j h1 h2 h3=>?_,hv⟩
 rw [hv,hv]
 exact d i j h1 h2 h3
theorem pL{lo n:Nat}(hz:lo+n≤arr.size)(d:eY key arr lo (lo+n)):bF key (mirror arr lo (lo+n) ((lo+n-lo) / 2)) lo (lo+n):=fun i j h1 h2 h3=>by
 rw [pJ hz h1 (by omega),pJ hz (by omega) h3]
 exact d _ _ (by omega) (by omega) (by omega)
end
section
variable {prog:Program} {w:World} {A:Around} {E:Value→Shared→Prop} {s:Shared} {κ:SortKind} {key:Keyed→Int} {Ok:Keyed→Prop} {arr:Array Keyed} {pend:Array (Nat×Nat×Nat)} {g:Nat}
theorem nk(h:eU prog w A s κ key Ok)(ok:cM Ok arr){lo m bt:Nat}(hz:lo+bt≤arr.size)(m1:1≤m)(mn:m≤bt)(sg:bF key arr lo (lo+m)){body:Nat→Option (Option Nat)×Nat→StateT SortSt Sem (ForInStep (Option (Option Nat)×Nat))}{R:Option (Option Nat)×Nat→SortSt→Prop}
  (hb:∀x n (R:ForInStep (Option (Option Nat)×Nat)→SortSt→Prop),1≤n→n<bt→R (if vA key arr (lo+n)<vA key arr (lo+n-1) then .done (none,n) else .yield (none,n+1)) (aH κ arr pend g)→wpS (model prog w) A E s (body x (none,n)) R (aH κ arr pend g))
  (k:∀n,m≤n→n≤bt→bF key arr lo (lo+n)→(n<bt→vA key arr (lo+n)<vA key arr (lo+n-1))→R (none,n) (aH κ arr pend g)) :
  wpS (model prog w) A E s (forIn [m:bt] (none,m) body) R (aH κ arr pend g):=by
 refine wpS_forRange (I:=fun x c ak=>ak=aH κ arr pend g∧c=(none,x)∧m≤x∧x≤bt∧bF key arr lo (lo+x)) ?_ ?_ ⟨rfl,rfl,Nat.le_refl _,mn,sg⟩
 ·rintro x c ak _ hx ⟨rfl,rfl,g1,g2,g3⟩
  refine hb x x _ (by omega) hx ?_
  by_cases z:vA key arr (lo+x)<vA key arr (lo+x-1)
  ·rw [if_pos z]
   exact k x g1 g2 g3 fun _=>z
  ·rw [if_neg z]
   exact ⟨rfl,rfl,by omega,by omega,g3.more (by omega) (Int.not_lt.mp z)⟩
 ·rintro c ak ⟨rfl,rfl,g1,g2,g3⟩
  have e:max m bt=bt:=by omega
  rw [e] at g3 ⊢
  exact k bt mn (Nat.le_refl _) g3 fun z=>absurd z (Nat.lt_irrefl _)
theorem Er(h:eU prog w A s κ key Ok)(ok:cM Ok arr){lo bt:Nat}(hz:lo+bt≤arr.size)(n1:1≤bt){Q:Option Nat→SortSt→Prop}
  (k:∀n aC,1≤n→n≤bt→Rl arr aC lo (lo+bt)→bF key aC lo (lo+n)→Q (some n) (aH κ aC pend g)):wpS (model prog w) A E s (countRun' lo bt) Q (aH κ arr pend g):=by
 rw [countRun'_eq]
 refine wpS_bind (nk h ok hz (Nat.le_refl 1) n1 (fun i j h1 h2 h3=>by rw [show i=j by omega];exact Int.le_refl _) ?_ fun n m1 mn sg br=>?_)
 ·intro x n R a1 a2 r
  dsimp only
  refine wpS_bind (fE h ok (by omega) (by omega) ?_)
  dsimp only
  by_cases z:vA key arr (lo+n)<vA key arr (lo+n-1)
  ·rw [if_pos z] at r
   rw [decide_eq_true z,if_pos rfl]
   exact wpS_pure r
  ·rw [if_neg z] at r
   rw [decide_eq_false z,if_neg (by simp)]
   exact wpS_pure r
 dsimp only
 by_cases e1:(n == bt)=true
 ·rw [if_pos e1]
  exact wpS_pure (k n arr m1 mn (Rl.refl ..) sg)
 rw [if_neg e1]
 have a8:n<bt:=by
  have:n≠bt:=fun e=>e1 (by simp [e])
  omega
 have xZ:=br a8
 by_cases e2:n>1
 ·rw [if_pos e2]
  refine wpS_bind (fE h ok (by omega) (by omega) ?_)
  dsimp only
  by_cases z:vA key arr lo<vA key arr (lo+n-1)
  ·rw [decide_eq_true z,if_pos rfl]
   exact wpS_pure (k n arr m1 mn (Rl.refl ..) sg)
  ·rw [decide_eq_false z,if_neg (by simp)]
   refine wpS_bind (gG ?_)
   have ev:∀i,lo≤i→i<lo+n→vA key arr i=vA key arr (lo+n-1):=fun i h1 h2=>by
    have a1:=sg lo i (Nat.le_refl _) h1 h2
    have a2:=sg i (lo+n-1) h1 (by omega) (by omega)
    omega
   have hv:∀i,vA key (mirror arr lo (lo+n) ((lo+n-lo) / 2)) i=vA key arr i:=fun i=>by
    by_cases y:lo≤i∧i<lo+n
    ·rw [pJ (by omega) y.1 y.2,ev _ (by omega) (by omega),ev i y.1 y.2]
    ·exact (fD (by omega)).v (by omega)
   have d1:eY key (mirror arr lo (lo+n) ((lo+n-lo) / 2)) lo (lo+n):=fun i j h1 h2 h3=>by
    rw [hv,hv,ev i h1 (by omega),ev j (by omega) h3]
    exact Int.le_refl _
   have pM:Rl arr (mirror arr lo (lo+n) ((lo+n-lo) / 2)) lo (lo+bt):=(fD (by omega)).wide (Nat.le_refl _) (by omega)
   have x4:vA key (mirror arr lo (lo+n) ((lo+n-lo) / 2)) (lo+n)<vA key (mirror arr lo (lo+n) ((lo+n-lo) / 2)) (lo+n-1):=by
    rw [hv,hv]
    exact xZ
   generalize mirror arr lo (lo+n) ((lo+n-lo) / 2)=Es at d1 pM x4 ⊢
   refine wpS_bind (wpS_lift (wpAny_rule ⟨rfl,?_⟩))
   refine wpS_bind (wpS_mono (wpS_forRange (I:=fun x c ak=>∃(au:Array Keyed) (q:Nat),ak=aH κ au pend g∧c=(none,x,q)∧Rl arr au lo (lo+bt)∧eY key au lo (lo+x)∧nj key au lo x q∧x≤bt∧1≤x)
    (Q:=fun c ak=>∃(au:Array Keyed) (n q:Nat),ak=aH κ au pend g∧c=(none,n,q)∧Rl arr au lo (lo+bt)∧eY key au lo (lo+n)∧nj key au lo n q∧n≤bt∧1≤n) ?_ ?_ ⟨Es,0,rfl,rfl,pM,d1.more (by omega) (Int.le_of_lt x4),⟨by omega,fun i h1 h2=>by rw [show i=lo+(n+1)-1 by omega]⟩,by omega,by omega⟩) ?_)
   ·rintro x c ak _ hx ⟨au,q,rfl,rfl,bZ,d2,e2,x1,x2⟩
    have eZ:=bZ.ok ok
    have z2:=bZ.size
    dsimp only
    refine wpS_bind (fE h eZ (by omega) (by omega) ?_)
    dsimp only
    by_cases z:vA key au (lo+x)<vA key au (lo+x-1)
    ·rw [decide_eq_true z,if_pos rfl]
     by_cases y:q>0
     ·rw [if_pos y]
      refine wpS_bind (gG (wpS_pure ?_))
      obtain ⟨d3,hv⟩:=pK (by omega) d2 e2
      refine ⟨_,0,rfl,rfl,bZ.trans ((fD (by omega)).wide (by have:=e2.1;omega) (by omega)),d3.more (by omega) (by rw [hv,hv];exact Int.le_of_lt z),⟨by omega,fun i h1 h2=>by rw [show i=lo+(x+1)-1 by omega]⟩,by omega,by omega⟩
     ·rw [if_neg y]
      exact wpS_pure ⟨_,0,rfl,rfl,bZ,d2.more (by omega) (Int.le_of_lt z),⟨by omega,fun i h1 h2=>by rw [show i=lo+(x+1)-1 by omega]⟩,by omega,by omega⟩
    ·rw [decide_eq_false z,if_neg (by simp)]
     refine wpS_bind (fE h eZ (by omega) (by omega) ?_)
     dsimp only
     by_cases y:vA key au (lo+x-1)<vA key au (lo+x)
     ·rw [decide_eq_true y,if_pos rfl]
      exact wpS_pure ⟨_,_,_,rfl,rfl,bZ,d2,e2,x1,x2⟩
     ·rw [decide_eq_false y,if_neg (by simp)]
      have ev:vA key au (lo+x)=vA key au (lo+x-1):=by omega
      refine wpS_pure ⟨_,_,rfl,rfl,bZ,d2.more (by omega) (by omega),⟨by have:=e2.1;omega,fun i h1 h2=>?_⟩,by omega,by omega⟩
      rw [show lo+(x+1)-1=lo+x by omega]
      by_cases w:i=lo+x
      ·rw [w]
      ·rw [ev]
       exact e2.2 i (by omega) (by omega)
   ·rintro c ak ⟨au,q,rfl,rfl,bZ,d2,e2,x1,x2⟩
    exact ⟨au,_,q,rfl,rfl,bZ,d2,e2,x1,x2⟩
   ·rintro c ak ⟨au,n2,q2,rfl,rfl,bZ,d2,e2,x1,x2⟩
    have z2:=bZ.size
    dsimp only
    by_cases y:q2>0
    ·rw [if_pos y]
     obtain ⟨d3,hv⟩:=pK (by omega) d2 e2
     refine wpS_bind (gG (wpS_bind (gG ?_)))
     have fF:=bZ.trans ((fD (arr:=au) (i:=lo+n2-(q2+1)) (j:=lo+n2) (by omega)).wide (by have:=e2.1;omega) (show lo+n2≤lo+bt by omega))
     generalize mirror au (lo+n2-(q2+1)) (lo+n2) _=bC at d3 fF ⊢
     have z3:=fF.size
     have cW:=pL (by omega) d3
     have aZ:=fF.trans ((fD (arr:=bC) (i:=lo) (j:=lo+n2) (by omega)).wide (Nat.le_refl lo) (show lo+n2≤lo+bt by omega))
     generalize mirror bC lo (lo+n2) _=aF at cW aZ ⊢
     have fG:=Rl.ok aZ ok
     have z4:=Rl.size aZ
     refine wpS_bind (nk h fG (by omega) (by omega) (by omega) cW ?_ fun m m1 mn jh _=>wpS_pure (k m aF (by omega) mn aZ jh))
     intro x n R a1 a2 r
     dsimp only
     refine wpS_bind (fE h fG (by omega) (by omega) ?_)
     dsimp only
     by_cases z:vA key aF (lo+n)<vA key aF (lo+n-1)
     ·rw [if_pos z] at r
      rw [decide_eq_true z,if_pos rfl]
      exact wpS_pure r
     ·rw [if_neg z] at r
      rw [decide_eq_false z,if_neg (by simp)]
      exact wpS_pure r
    ·rw [if_neg y]
     refine wpS_bind (gG ?_)
     have cW:=pL (by omega) d2
     have aZ:=bZ.trans ((fD (arr:=au) (i:=lo) (j:=lo+n2) (by omega)).wide (Nat.le_refl lo) (show lo+n2≤lo+bt by omega))
     generalize mirror au lo (lo+n2) _=aF at cW aZ ⊢
     have fG:=Rl.ok aZ ok
     have z4:=Rl.size aZ
     refine wpS_bind (nk h fG (by omega) (by omega) (by omega) cW ?_ fun m m1 mn jh _=>wpS_pure (k m aF (by omega) mn aZ jh))
     intro x n R a1 a2 r
     dsimp only
     refine wpS_bind (fE h fG (by omega) (by omega) ?_)
     dsimp only
     by_cases z:vA key aF (lo+n)<vA key aF (lo+n-1)
     ·rw [if_pos z] at r
      rw [decide_eq_true z,if_pos rfl]
      exact wpS_pure r
     ·rw [if_neg z] at r
      rw [decide_eq_false z,if_neg (by simp)]
      exact wpS_pure r
 ·rw [if_neg e2]
  have d1:eY key arr lo (lo+n):=fun i j h1 h2 h3=>by
   rw [show i=j by omega]
   exact Int.le_refl _
  have pM:Rl arr arr lo (lo+bt):=Rl.refl ..
  refine wpS_bind (wpS_lift (wpAny_rule ⟨rfl,?_⟩))
  refine wpS_bind (wpS_mono (wpS_forRange (I:=fun x c ak=>∃(au:Array Keyed) (q:Nat),ak=aH κ au pend g∧c=(none,x,q)∧Rl arr au lo (lo+bt)∧eY key au lo (lo+x)∧nj key au lo x q∧x≤bt∧1≤x)
   (Q:=fun c ak=>∃(au:Array Keyed) (n q:Nat),ak=aH κ au pend g∧c=(none,n,q)∧Rl arr au lo (lo+bt)∧eY key au lo (lo+n)∧nj key au lo n q∧n≤bt∧1≤n) ?_ ?_ ⟨arr,0,rfl,rfl,pM,d1.more (by omega) (Int.le_of_lt xZ),⟨by omega,fun i h1 h2=>by rw [show i=lo+(n+1)-1 by omega]⟩,by omega,by omega⟩) ?_)
  ·rintro x c ak _ hx ⟨au,q,rfl,rfl,bZ,d2,e2,x1,x2⟩
   have eZ:=bZ.ok ok
   have z2:=bZ.size
   dsimp only
   refine wpS_bind (fE h eZ (by omega) (by omega) ?_)
   dsimp only
   by_cases z:vA key au (lo+x)<vA key au (lo+x-1)
   ·rw [decide_eq_true z,if_pos rfl]
    by_cases y:q>0
    ·rw [if_pos y]
     refine wpS_bind (gG (wpS_pure ?_))
     obtain ⟨d3,hv⟩:=pK (by omega) d2 e2
     refine ⟨_,0,rfl,rfl,bZ.trans ((fD (by omega)).wide (by have:=e2.1;omega) (by omega)),d3.more (by omega) (by rw [hv,hv];exact Int.le_of_lt z),⟨by omega,fun i h1 h2=>by rw [show i=lo+(x+1)-1 by omega]⟩,by omega,by omega⟩
    ·rw [if_neg y]
     exact wpS_pure ⟨_,0,rfl,rfl,bZ,d2.more (by omega) (Int.le_of_lt z),⟨by omega,fun i h1 h2=>by rw [show i=lo+(x+1)-1 by omega]⟩,by omega,by omega⟩
   ·rw [decide_eq_false z,if_neg (by simp)]
    refine wpS_bind (fE h eZ (by omega) (by omega) ?_)
    dsimp only
    by_cases y:vA key au (lo+x-1)<vA key au (lo+x)
    ·rw [decide_eq_true y,if_pos rfl]
     exact wpS_pure ⟨_,_,_,rfl,rfl,bZ,d2,e2,x1,x2⟩
    ·rw [decide_eq_false y,if_neg (by simp)]
     have ev:vA key au (lo+x)=vA key au (lo+x-1):=by omega
     refine wpS_pure ⟨_,_,rfl,rfl,bZ,d2.more (by omega) (by omega),⟨by have:=e2.1;omega,fun i h1 h2=>?_⟩,by omega,by omega⟩
     rw [show lo+(x+1)-1=lo+x by omega]
     by_cases w:i=lo+x
     ·rw [w]
     ·rw [ev]
      exact e2.2 i (by omega) (by omega)
  ·rintro c ak ⟨au,q,rfl,rfl,bZ,d2,e2,x1,x2⟩
   exact ⟨au,_,q,rfl,rfl,bZ,d2,e2,x1,x2⟩
  ·rintro c ak ⟨au,n2,q2,rfl,rfl,bZ,d2,e2,x1,x2⟩
   have z2:=bZ.size
   dsimp only
   by_cases y:q2>0
   ·rw [if_pos y]
    obtain ⟨d3,hv⟩:=pK (by omega) d2 e2
    refine wpS_bind (gG (wpS_bind (gG ?_)))
    have fF:=bZ.trans ((fD (arr:=au) (i:=lo+n2-(q2+1)) (j:=lo+n2) (by omega)).wide (by have:=e2.1;omega) (show lo+n2≤lo+bt by omega))
    generalize mirror au (lo+n2-(q2+1)) (lo+n2) _=bC at d3 fF ⊢
    have z3:=fF.size
    have cW:=pL (by omega) d3
    have aZ:=fF.trans ((fD (arr:=bC) (i:=lo) (j:=lo+n2) (by omega)).wide (Nat.le_refl lo) (show lo+n2≤lo+bt by omega))
    generalize mirror bC lo (lo+n2) _=aF at cW aZ ⊢
    have fG:=Rl.ok aZ ok
    have z4:=Rl.size aZ
    refine wpS_bind (nk h fG (by omega) (by omega) (by omega) cW ?_ fun m m1 mn jh _=>wpS_pure (k m aF (by omega) mn aZ jh))
    intro x n R a1 a2 r
    dsimp only
    refine wpS_bind (fE h fG (by omega) (by omega) ?_)
    dsimp only
    by_cases z:vA key aF (lo+n)<vA key aF (lo+n-1)
    ·rw [if_pos z] at r
     rw [decide_eq_true z,if_pos rfl]
     exact wpS_pure r
    ·rw [if_neg z] at r
     rw [decide_eq_false z,if_neg (by simp)]
     exact wpS_pure r
   ·rw [if_neg y]
    refine wpS_bind (gG ?_)
    have cW:=pL (by omega) d2
    have aZ:=bZ.trans ((fD (arr:=au) (i:=lo) (j:=lo+n2) (by omega)).wide (Nat.le_refl lo) (show lo+n2≤lo+bt by omega))
    generalize mirror au lo (lo+n2) _=aF at cW aZ ⊢
    have fG:=Rl.ok aZ ok
    have z4:=Rl.size aZ
    refine wpS_bind (nk h fG (by omega) (by omega) (by omega) cW ?_ fun m m1 mn jh _=>wpS_pure (k m aF (by omega) mn aZ jh))
    intro x n R a1 a2 r
    dsimp only
    refine wpS_bind (fE h fG (by omega) (by omega) ?_)
    dsimp only
    by_cases z:vA key aF (lo+n)<vA key aF (lo+n-1)
    ·rw [if_pos z] at r
     rw [decide_eq_true z,if_pos rfl]
     exact wpS_pure r
    ·rw [if_neg z] at r
     rw [decide_eq_false z,if_neg (by simp)]
     exact wpS_pure r
end
section
variable {prog:Program} {w:World} {A:Around} {E:Value→Shared→Prop} {s:Shared} {κ:SortKind} {key:Keyed→Int} {Ok:Keyed→Prop} {arr:Array Keyed} {pend:Array (Nat×Nat×Nat)} {g:Nat}
theorem Et{i j:Nat}{Q:Unit→SortSt→Prop}(q:Q () (aH κ (bubble arr i (i-j)) pend g)):wpS (model prog w) A E s (moveDown' i j) Q (aH κ arr pend g):=by
 rw [moveDown'_eq]
 exact wpS_modify q
theorem x5{i d k:Nat}(hi:i<arr.size)(hd:d≤i):vA key (bubble arr i d) k=if k=i-d then vA key arr i else if i-d<k∧k≤i then vA key arr (k-1) else vA key arr k:=by
 unfold vA
 rw [fC,getElem?_bubble hi d hd,fC arr i,fC arr (k-1),fC arr k]
 by_cases a:k=i-d
 ·rw [if_pos a,if_pos a]
 ·rw [if_neg a,if_neg a]
  by_cases b:i-d<k∧k≤i
  ·rw [if_pos b,if_pos b]
  ·rw [if_neg b,if_neg b]
theorem Eu{i d lo hi:Nat}(h:i<arr.size)(hd:d≤i)(h1:lo≤i-d)(h2:i<hi):Rl arr (bubble arr i d) lo hi:=⟨bubble_perm ..,fun k hk=>by
 rw [getElem?_bubble h d hd,if_neg (by omega),if_neg (by omega)]⟩
theorem Ew(h:eU prog w A s κ key Ok)(ok:cM Ok arr){lo n m:Nat}(hz:lo+n≤arr.size)(m1:1≤m)(mn:m≤n)(sg:bF key arr lo (lo+m)){Q:Bool→SortSt→Prop}
  (k:∀aC,Rl arr aC lo (lo+n)→bF key aC lo (lo+n)→Q true (aH κ aC pend g)):wpS (model prog w) A E s (binarySort' lo n m) Q (aH κ arr pend g):=by
 rw [binarySort'_eq]
 have em:max m 1=m:=by omega
 rw [em]
 refine wpS_bind (wpS_mono (wpS_forRange (I:=fun x c ak=>∃au:Array Keyed,ak=aH κ au pend g∧c=(none,())∧Rl arr au lo (lo+n)∧bF key au lo (lo+x)∧m≤x∧x≤n)
  (Q:=fun c ak=>∃au:Array Keyed,ak=aH κ au pend g∧c=(none,())∧Rl arr au lo (lo+n)∧bF key au lo (lo+n)) ?_ ?_ ⟨arr,rfl,rfl,Rl.refl ..,sg,Nat.le_refl _,mn⟩) ?_)
 ·rintro x c ak _ hx ⟨au,rfl,rfl,rl,sg,x1,x2⟩
  have eZ:=rl.ok ok
  have z2:=rl.size
  dsimp only
  refine wpS_bind (wpS_mono (wpS_forRange (I:=fun y c ak=>∃l r:Nat,ak=aH κ au pend g∧c=(none,l,r)∧l≤r∧r≤x∧r-l+y≤x∧(∀i,i<l→vA key au (lo+i)≤vA key au (lo+x))∧(∀i,r≤i→i<x→vA key au (lo+x)≤vA key au (lo+i)))
   (Q:=fun c ak=>∃l:Nat,ak=aH κ au pend g∧c=(none,l,l)∧l≤x∧(∀i,i<l→vA key au (lo+i)≤vA key au (lo+x))∧(∀i,l≤i→i<x→vA key au (lo+x)≤vA key au (lo+i))) ?_ ?_ ⟨0,x,rfl,rfl,by omega,Nat.le_refl _,show x-0+0≤x by omega,fun i hi=>absurd hi (Nat.not_lt_zero _),fun i h1 h2=>by omega⟩) ?_)
  ·rintro y c ak _ hy ⟨l,r,rfl,rfl,g1,g2,g3,g4,g5⟩
   dsimp only
   by_cases z:l≥r
   ·rw [if_pos z]
    obtain rfl:l=r:=by omega
    exact wpS_pure ⟨l,rfl,rfl,g2,g4,g5⟩
   ·rw [if_neg z]
    refine wpS_bind (fE h eZ (by omega) (by omega) ?_)
    dsimp only
    by_cases w:vA key au (lo+x)<vA key au (lo+(l+r) / 2)
    ·rw [decide_eq_true w,if_pos rfl]
     exact wpS_pure ⟨l,_,rfl,rfl,by omega,by omega,by omega,g4,fun i h1 h2=>Int.le_trans (Int.le_of_lt w) (sg _ _ (by omega) (by omega) (by omega))⟩
    ·rw [decide_eq_false w,if_neg (by simp)]
     exact wpS_pure ⟨_,r,rfl,rfl,by omega,g2,by omega,fun i h1=>Int.le_trans (sg _ _ (by omega) (by omega) (by omega)) (Int.not_lt.mp w),g5⟩
  ·rintro c ak ⟨l,r,rfl,rfl,g1,g2,g3,g4,g5⟩
   have:max 0 x=x:=by omega
   obtain rfl:l=r:=by omega
   exact ⟨l,rfl,rfl,g2,g4,g5⟩
  ·rintro c ak ⟨l,rfl,rfl,g2,g4,g5⟩
   dsimp only
   refine wpS_bind (Et (wpS_pure ?_))
   have ed:lo+x-(lo+l)=x-l:=by omega
   rw [ed]
   refine ⟨_,rfl,rfl,rl.trans (Eu (by omega) (by omega) (by omega) (by omega)),fun i j h1 h2 h3=>?_,by omega,by omega⟩
   have e0:lo+x-(x-l)=lo+l:=by omega
   rw [x5 (by omega) (by omega),x5 (by omega) (by omega),e0]
   have f4:∀i,lo≤i→i<lo+l→vA key au i≤vA key au (lo+x):=fun i a b=>by have:=g4 (i-lo) (by omega);rwa [show lo+(i-lo)=i by omega] at this
   have f5:∀i,lo+l≤i→i<lo+x→vA key au (lo+x)≤vA key au i:=fun i a b=>by have:=g5 (i-lo) (by omega) (by omega);rwa [show lo+(i-lo)=i by omega] at this
   by_cases a1:i=lo+l
   ·rw [if_pos a1]
    by_cases b1:j=lo+l
    ·rw [if_pos b1];exact Int.le_refl _
    ·rw [if_neg b1,if_pos (by omega)]
     exact f5 _ (by omega) (by omega)
   ·rw [if_neg a1]
    by_cases a2:lo+l<i∧i≤lo+x
    ·rw [if_pos a2,if_neg (by omega),if_pos (by omega)]
     exact sg _ _ (by omega) (by omega) (by omega)
    ·rw [if_neg a2]
     by_cases b1:j=lo+l
     ·rw [if_pos b1]
      exact f4 i h1 (by omega)
     ·rw [if_neg b1]
      by_cases b2:lo+l<j∧j≤lo+x
      ·rw [if_pos b2]
       exact Int.le_trans (f4 i h1 (by omega)) (f5 _ (by omega) (by omega))
      ·rw [if_neg b2]
       exact sg _ _ (by omega) (by omega) (by omega)
 ·rintro c ak ⟨au,rfl,rfl,rl,sg,x1,x2⟩
  have:max m n=n:=by omega
  rw [this] at sg
  exact ⟨au,rfl,rfl,rl,sg⟩
 ·rintro c ak ⟨au,rfl,rfl,rl,sg⟩
  exact wpS_pure (k au rl sg)
end
theorem Ex(i:Nat):mergeAt' i=(do
 let s ←get
 let (some (sa,na,power),some (sb,nb,_)):=((pendingOf s)[i]?,(pendingOf s)[i+1]?) | unsupported "internal:list.sort.pending"
 set (setPending s (((pendingOf s).setIfInBounds i (sa,na+nb,power)).eraseIdxIfInBounds (i+1)))
 let some k ←ie false (←elem' (arrOf s) sb) (arrOf s) sa na 0 | return false
 let (sa,na):=(sa+k,na-k)
 if na == 0 then return true
 let some nb ←ie true (←elem' (arrOf s) (sa+na-1)) (arrOf s) sb nb (nb-1) | return false
 if nb == 0 then return true
 let x:=(arrOf s).extract sa sb
 let y:=(arrOf s).extract sb (sb+nb)
 let merged ←if na≤nb then tF x y else tG x y
 modify fun s=>setArr s (merged.toList.zipIdx.foldl (fun a (p,j)=>a.setIfInBounds (sa+j) p) (arrOf s))
 return (failedOf (←get)).isNone):=rfl
def putL(m:List Keyed)(o:Nat)(arr:Array Keyed)(n:Nat):Array Keyed:=(m.zipIdx n).foldl (fun a (p,j)=>a.setIfInBounds (o+j) p) arr
theorem x6(m:List Keyed)(o:Nat):∀(arr:Array Keyed) (n k:Nat),o+n+m.length≤arr.size→(putL m o arr n)[k]?=if o+n≤k∧k<o+n+m.length then m[k-(o+n)]? else arr[k]?:=by
 induction m with
 | nil=>
  intro arr n k _
  rw [if_neg (by simp)]
  rfl
 | cons x m ih=>
  intro arr n k hz
  rw [List.length_cons] at hz ⊢
  show (putL m o (arr.setIfInBounds (o+n) x) (n+1))[k]?=_
  rw [ih _ _ _ (by simp;omega)]
  by_cases a:o+(n+1)≤k∧k<o+(n+1)+m.length
  ·rw [if_pos a,if_pos (by omega),show k-(o+n)=(k-(o+(n+1)))+1 by omega]
   rfl
  ·rw [if_neg a]
   by_cases b:k=o+n
   ·subst b
    rw [if_pos (by omega),Nat.sub_self]
    simp [show o+n<arr.size by omega]
   ·rw [if_neg (by omega)]
    rw [Array.getElem?_setIfInBounds_ne (by omega)]
theorem Ey{m:List Keyed}{o:Nat}{arr:Array Keyed}(hz:o+m.length≤arr.size):(putL m o arr 0).toList=arr.toList.take o++m++arr.toList.drop (o+m.length):=by
 refine List.ext_getElem? fun k=>?_
 have e:(putL m o arr 0).toList[k]?=(putL m o arr 0)[k]?:=by simp
 rw [e,x6 m o arr 0 k (by omega),Nat.add_zero]
 by_cases a:k<o
 ·rw [if_neg (by omega),List.append_assoc,List.getElem?_append_left (by simp;omega),List.getElem?_take_of_lt a]
  simp
 ·by_cases b:k<o+m.length
  ·rw [if_pos (by omega),List.append_assoc,List.getElem?_append_right (by simp;omega),List.getElem?_append_left (by simp;omega)]
   congr 1
   simp
   omega
  ·rw [if_neg (by omega),List.getElem?_append_right (by simp;omega),List.getElem?_drop]
   have:o+m.length+(k-(arr.toList.take o++m).length)=k:=by simp;omega
   rw [this]
   simp
section
variable {prog:Program} {w:World} {A:Around} {E:Value→Shared→Prop} {s:Shared} {κ:SortKind} {key:Keyed→Int} {Ok:Keyed→Prop} {arr:Array Keyed} {pend:Array (Nat×Nat×Nat)} {g:Nat}
theorem x8{lo hi:Nat}(h:bF key arr lo hi)(hz:hi≤arr.size):aK key (arr.extract lo hi).toList:=by
 unfold aK
 rw [List.pairwise_iff_getElem]
 intro i j aR hj tK
 have h1:i<hi-lo∧j<hi-lo:=by
  simp at aR hj
  omega
 have:=h (lo+i) (lo+j) (by omega) (by omega) (by omega)
 unfold vA at this
 simpa [Array.getD,show lo+i<arr.size by omega,show lo+j<arr.size by omega] using this
theorem tP{lo hi i:Nat}(hz:hi≤arr.size)(aR:lo+i<hi):(arr.extract lo hi).getD i nn=arr.getD (lo+i) nn:=by
 simp [Array.getD,show lo+i<arr.size by omega,show i<min hi arr.size-lo by omega]
theorem x9(ok:cM Ok arr){lo hi:Nat}(hz:hi≤arr.size):cM Ok (arr.extract lo hi):=fun i aR=>by
 have:lo+i<hi:=by simp at aR;omega
 rw [tP hz this]
 exact ok _ (by omega)
theorem ext_mem{lo hi:Nat}(hz:hi≤arr.size){x:Keyed}(hx:x∈(arr.extract lo hi).toList):∃j,lo≤j∧j<hi∧x=arr.getD j nn:=gF hz hx
theorem Ez{σ:Type}{st ak:σ}{Q:PUnit→σ→Prop}{M:Model}(q:Q ⟨⟩ ak):wpS M A E s (set ak:StateT σ Sem PUnit) Q st:=by
 unfold wpS
 rw [StateT.run_set]
 exact wpAny_pure ⟨rfl,q⟩
theorem EA{sa sb aM bf na nb:Nat}{m:Array Keyed}(hz:sb+nb≤arr.size)(h0:sa+na=sb)(hk:aM≤na)(hb:bf≤nb)(pm:m.toList.Perm ((arr.extract (sa+aM) sb).toList++(arr.extract sb (sb+bf)).toList))(sm:aK key m.toList)
  (s1:bF key arr sa sb) (s2:bF key arr sb (sb+nb)) (EB:aM<na) (x_:1≤nb)
  (c1:∀i,i<aM→vA key arr (sa+i)≤vA key arr sb) (c2:∀i,bf≤i→i<nb→vA key arr (sb-1)≤vA key arr (sb+i)) :
  Rl arr (putL m.toList (sa+aM) arr 0) sa (sb+nb)∧bF key (putL m.toList (sa+aM) arr 0) sa (sb+nb):=by
 have lm:m.toList.length=(na-aM)+bf:=by
  rw [pm.length_eq,List.length_append,eV,eV]
  simp
  omega
 have hsz:sa+aM+m.toList.length≤arr.size:=by omega
 have at':=x6 m.toList (sa+aM) arr 0
 have rl:Rl arr (putL m.toList (sa+aM) arr 0) sa (sb+nb):=by
  refine ⟨Array.perm_iff_toList_perm.mpr ?_,fun k cR=>?_⟩
  ·rw [Ey hsz]
   have e:arr.toList=arr.toList.take (sa+aM)++((arr.extract (sa+aM) sb).toList++(arr.extract sb (sb+bf)).toList)++arr.toList.drop (sa+aM+m.toList.length):=by
    rw [eV,eV,show sa+aM+m.toList.length=sb+bf by omega,show sb+bf-sb=bf by omega]
    have t1:arr.toList.drop (sa+aM)=(arr.toList.drop (sa+aM)).take (sb-(sa+aM))++arr.toList.drop sb:=by
     have:=(List.take_append_drop (sb-(sa+aM)) (arr.toList.drop (sa+aM))).symm
     rw [List.drop_drop,show sa+aM+(sb-(sa+aM))=sb by omega] at this
     exact this
    have t2:arr.toList.drop sb=(arr.toList.drop sb).take bf++arr.toList.drop (sb+bf):=by
     have:=(List.take_append_drop bf (arr.toList.drop sb)).symm
     rw [List.drop_drop] at this
     exact this
    have t0:=(List.take_append_drop (sa+aM) arr.toList).symm
    rw [t1,t2] at t0
    rw [List.append_assoc,List.append_assoc]
    exact t0
   refine List.Perm.trans ?_ (List.Perm.of_eq e.symm)
   exact List.Perm.append_right _ (List.Perm.append_left _ pm)
  ·rw [at' k (by omega),if_neg (by omega)]
 have vo:∀k,k<sa+aM∨sb+bf≤k→vA key (putL m.toList (sa+aM) arr 0) k=vA key arr k:=fun k cR=>by
  unfold vA
  rw [fC,at' k (by omega),if_neg (by omega),fC]
 have vm:∀k,sa+aM≤k→k<sb+bf→∃hj:k-(sa+aM)<m.toList.length,vA key (putL m.toList (sa+aM) arr 0) k=key (m.toList[k-(sa+aM)]'hj):=fun k h1 h2=>by
  have hj:k-(sa+aM)<m.toList.length:=by omega
  refine ⟨hj,?_⟩
  unfold vA
  rw [fC,at' k (by omega),if_pos (by omega),Nat.add_zero,List.getElem?_eq_getElem hj]
  rfl
 have vq:∀k,sa+aM≤k→k<sb+bf→∃q,sa+aM≤q∧q<sb+bf∧vA key (putL m.toList (sa+aM) arr 0) k=vA key arr q:=fun k h1 h2=>by
  obtain ⟨hj,e⟩:=vm k h1 h2
  have mm:=pm.mem_iff.mp (List.getElem_mem hj)
  rcases List.mem_append.mp mm with mm | mm
  ·obtain ⟨q,q1,q2,eq⟩:=ext_mem (by omega) mm
   exact ⟨q,q1,by omega,by rw [e,eq];rfl⟩
  ·obtain ⟨q,q1,q2,eq⟩:=ext_mem (by omega) mm
   exact ⟨q,by omega,q2,by rw [e,eq];rfl⟩
 have d1:∀i,sa≤i→i<sa+aM→vA key arr i≤vA key arr sb:=fun i a b=>by
  have:=c1 (i-sa) (by omega)
  rwa [show sa+(i-sa)=i by omega] at this
 have d2:∀j,sb+bf≤j→j<sb+nb→vA key arr (sb-1)≤vA key arr j:=fun j a b=>by
  have:=c2 (j-sb) (by omega) (by omega)
  rwa [show sb+(j-sb)=j by omega] at this
 refine ⟨rl,fun i j h1 h2 h3=>?_⟩
 by_cases i1:i<sa+aM
 ·rw [vo i (.inl i1)]
  by_cases j1:j<sa+aM
  ·rw [vo j (.inl j1)]
   exact s1 i j h1 h2 (by omega)
  ·by_cases j2:j<sb+bf
   ·obtain ⟨q,q1,q2,e⟩:=vq j (by omega) j2
    rw [e]
    by_cases q3:q<sb
    ·exact s1 i q h1 (by omega) q3
    ·exact Int.le_trans (d1 i h1 i1) (s2 sb q (Nat.le_refl _) (by omega) (by omega))
   ·rw [vo j (.inr (by omega))]
    exact Int.le_trans (d1 i h1 i1) (s2 sb j (Nat.le_refl _) (by omega) h3)
 ·by_cases i2:i<sb+bf
  ·by_cases j2:j<sb+bf
   ·obtain ⟨x1,e1⟩:=vm i (by omega) i2
    obtain ⟨x2,e2⟩:=vm j (by omega) j2
    rw [e1,e2]
    by_cases z:i=j
    ·subst z;exact Int.le_refl _
    ·exact List.pairwise_iff_getElem.mp sm _ _ x1 x2 (by omega)
   ·obtain ⟨q,q1,q2,e⟩:=vq i (by omega) i2
    rw [e,vo j (.inr (by omega))]
    by_cases q3:q<sb
    ·exact Int.le_trans (s1 q (sb-1) (by omega) (by omega) (by omega)) (d2 j (by omega) h3)
    ·exact s2 q j (by omega) (by omega) h3
  ·rw [vo i (.inr (by omega)),vo j (.inr (by omega))]
   exact s2 i j (by omega) h2 h3
theorem EC(h:eU prog w A s κ key Ok)(ok:cM Ok arr){i sa na pw nb gH:Nat}(e1:pend[i]?=some (sa,na,pw))(e2:pend[i+1]?=some (sa+na,nb,gH))(EB:1≤na)(x_:1≤nb)(hz:sa+na+nb≤arr.size)
  (s1:bF key arr sa (sa+na)) (s2:bF key arr (sa+na) (sa+na+nb)) {Q:Bool→SortSt→Prop}
  (k:∀aC g',Rl arr aC sa (sa+na+nb)→bF key aC sa (sa+na+nb)→Q true (aH κ aC ((pend.setIfInBounds i (sa,na+nb,pw)).eraseIdxIfInBounds (i+1)) g')):wpS (model prog w) A E s (mergeAt' i) Q (aH κ arr pend g):=by
 rw [Ex]
 refine wpS_bind (wpS_get ?_)
 have jc:(pendingOf (aH κ arr pend g))[i]?=some (sa,na,pw):=e1
 have ED:(pendingOf (aH κ arr pend g))[i+1]?=some (sa+na,nb,gH):=e2
 rw [jc,ED]
 dsimp only
 refine wpS_bind (Ez ?_)
 refine wpS_bind (aP (by show sa+na<arr.size;omega) ?_)
 refine wpS_bind (dW (f:=fun j=>bB false (vA key arr (sa+na)) (vA key arr (sa+j))) (fun j hj Q q=>dU (κ:=κ) h (by show sa+j<arr.size;omega) ok (ok _ (by omega)) rfl q) (by omega) ?_ fun t t1 t2 t3=>?_)
 ·intro i j h1 h2 h3
  have:vA key arr (sa+i)≤vA key arr (sa+na):=Int.le_trans (s1 _ _ (by omega) (by omega) (by omega)) (gc h3)
  show (!decide (vA key arr (sa+na)<vA key arr (sa+i)))=true
  simpa using this
 dsimp only
 by_cases z1:(na-t == 0)=true
 ·rw [if_pos z1]
  have tz:t=na:=by
   have:=eq_of_beq z1
   omega
  subst tz
  refine wpS_pure (k arr g (Rl.refl ..) fun i j h1 h2 h3=>?_)
  by_cases i1:i<sa+t
  ·by_cases j1:j<sa+t
   ·exact s1 i j h1 h2 j1
   ·have:=gc (t2 (i-sa) (by omega))
    rw [show sa+(i-sa)=i by omega] at this
    exact Int.le_trans this (s2 _ _ (Nat.le_refl _) (by omega) (by omega))
  ·exact s2 i j (by omega) h2 (by omega)
 rw [if_neg z1]
 have tn:t<na:=by
  have:na-t≠0:=fun e=>z1 (by simp [e])
  omega
 refine wpS_bind (aP (by show sa+t+(na-t)-1<arr.size;omega) ?_)
 have el:sa+t+(na-t)-1=sa+na-1:=by omega
 rw [el]
 refine wpS_bind (dW (f:=fun j=>bB true (vA key arr (sa+na-1)) (vA key arr (sa+na+j))) (fun j hj Q q=>dU (κ:=κ) h (by show sa+na+j<arr.size;omega) ok (ok _ (by omega)) rfl q) (by omega) ?_ fun u u1 u2 u3=>?_)
 ·intro i j h1 h2 h3
  exact decide_eq_true (Int.lt_of_le_of_lt (s2 _ _ (by omega) (by omega) (by omega)) (dz h3))
 dsimp only
 have EE:=ig (t3 (na-1) (by omega) (by omega))
 rw [show sa+(na-1)=sa+na-1 by omega] at EE
 by_cases z2:(u == 0)=true
 ·exfalso
  have:=dX (u3 0 (by have:=eq_of_beq z2;omega) (by omega))
  rw [Nat.add_zero] at this
  omega
 rw [if_neg z2]
 have un:1≤u:=by
  have:u≠0:=fun e=>z2 (by simp [e])
  omega
 have ox:=x9 ok (lo:=sa+t) (hi:=sa+na) (by omega)
 have oy:=x9 ok (lo:=sa+na) (hi:=sa+na+u) (by omega)
 have sx:aK key (arr.extract (sa+t) (sa+na)).toList:=x8 (fun i j h1 h2 h3=>s1 i j (by omega) h2 h3) (by omega)
 have sy:aK key (arr.extract (sa+na) (sa+na+u)).toList:=x8 (fun i j h1 h2 h3=>s2 i j h1 h2 (by omega)) (by omega)
 have zx:(arr.extract (sa+t) (sa+na)).size=na-t:=by simp;omega
 have zy:(arr.extract (sa+na) (sa+na+u)).size=u:=by simp;omega
 have h0:∀x∈(arr.extract (sa+t) (sa+na)).toList,key ((arr.extract (sa+na) (sa+na+u)).getD 0 nn)≤key x:=fun x hx=>by
  obtain ⟨j,j1,j2,rfl⟩:=ext_mem (by omega) hx
  rw [tP (by omega) (by omega),Nat.add_zero]
  have:=ig (t3 (j-sa) (by omega) (by omega))
  rw [show sa+(j-sa)=j by omega] at this
  exact Int.le_of_lt this
 have hl:∀y∈(arr.extract (sa+na) (sa+na+u)).toList,key y≤key ((arr.extract (sa+t) (sa+na)).getD ((arr.extract (sa+t) (sa+na)).size-1) nn):=fun y hy=>by
  obtain ⟨j,j1,j2,rfl⟩:=ext_mem (by omega) hy
  rw [zx,tP (by omega) (by omega),show sa+t+(na-t-1)=sa+na-1 by omega]
  have:=dz (u2 (j-(sa+na)) (by omega))
  rw [show sa+na+(j-(sa+na))=j by omega] at this
  exact Int.le_of_lt this
 have fin:∀(m:Array Keyed) (g':Nat),m.toList.Perm ((arr.extract (sa+t) (sa+na)).toList++(arr.extract (sa+na) (sa+na+u)).toList)→aK key m.toList→Q true (aH κ (putL m.toList (sa+t) arr 0) ((pend.setIfInBounds i (sa,na+nb,pw)).eraseIdxIfInBounds (i+1)) g'):=fun m g' pm sm=>by
  obtain ⟨rl,sg⟩:=EA (sb:=sa+na) hz rfl (Nat.le_of_lt tn) u1 pm sm s1 s2 tn x_ (fun i hi=>gc (t2 i hi)) (fun i h1 h2=>dX (u3 i h1 h2))
  exact k _ g' rl sg
 refine cq (fun _=>?_) (fun _=>?_)
 ·refine wpS_bind (Ek (κ:=κ) h ox oy sx sy (by omega) (by omega) h0 hl rfl fun m g' pm sm=>?_)
  exact wpS_bind (wpS_modify (wpS_bind (wpS_get (wpS_pure (fin m g' pm sm)))))
 ·refine wpS_bind (Eo (κ:=κ) h ox oy sx sy (by omega) (by omega) h0 hl rfl fun m g' pm sm=>?_)
  exact wpS_bind (wpS_modify (wpS_bind (wpS_get (wpS_pure (fin m g' pm sm)))))
end
def bE(key:Keyed→Int)(arr:Array Keyed):List (Nat×Nat×Nat)→Nat→Nat→Prop
 | [],lo,hi=>lo=hi
 | p::r,lo,hi=>p.1=lo∧1≤p.2.1∧bF key arr lo (lo+p.2.1)∧bE key arr r (lo+p.2.1) hi
section
variable {key:Keyed→Int} {arr aC:Array Keyed}
theorem bE.le:∀{l:List (Nat×Nat×Nat)} {lo hi:Nat},bE key arr l lo hi→lo+l.length≤hi
 | [],lo,hi,h=>by
  have:lo=hi:=h
  simp
  omega
 | p::r,lo,hi,h=>by
  have:=bE.le h.2.2.2
  have:=h.2.1
  simp only [List.length_cons]
  omega
theorem bF.bb{lo hi a b:Nat}(h:bF key arr lo hi)(rl:Rl arr aC a b)(d:hi≤a∨b≤lo):bF key aC lo hi:=fun i j h1 h2 h3=>by
 rw [rl.v (by omega),rl.v (by omega)]
 exact h i j h1 h2 h3
theorem bE.bb:∀{l:List (Nat×Nat×Nat)} {lo hi a b:Nat},bE key arr l lo hi→Rl arr aC a b→hi≤a∨b≤lo→bE key aC l lo hi
 | [],lo,hi,a,b,h,_,_=>h
 | p::r,lo,hi,a,b,h,rl,d=>by
  have:=h.2.2.2.le
  refine ⟨h.1,h.2.1,h.2.2.1.bb rl (by omega),h.2.2.2.bb rl (by omega)⟩
theorem bE.snoc:∀{l:List (Nat×Nat×Nat)} {lo hi n pw:Nat},bE key arr l lo hi→1≤n→bF key arr hi (hi+n)→bE key arr (l++[(hi,n,pw)]) lo (hi+n)
 | [],lo,hi,n,pw,h,n1,s=>by
  obtain rfl:lo=hi:=h
  exact ⟨rfl,n1,s,rfl⟩
 | p::r,lo,hi,n,pw,h,n1,s=>⟨h.1,h.2.1,h.2.2.1,h.2.2.2.snoc n1 s⟩
theorem bE.two:∀{l:List (Nat×Nat×Nat)} {lo hi i:Nat},bE key arr l lo hi→i+1<l.length→∃sa na pw nb gH,l[i]?=some (sa,na,pw)∧l[i+1]?=some (sa+na,nb,gH)∧1≤na∧1≤nb∧lo≤sa∧sa+na+nb≤hi∧bF key arr sa (sa+na)∧bF key arr (sa+na) (sa+na+nb) ∧
  ∀aC,Rl arr aC sa (sa+na+nb)→bF key aC sa (sa+na+nb)→bE key aC ((l.set i (sa,na+nb,pw)).eraseIdx (i+1)) lo hi
 | [],lo,hi,i,h,aR=>by simp at aR
 | [p],lo,hi,i,h,aR=>by simp at aR
 | p::q::r,lo,hi,0,h,_=>by
  obtain ⟨p1,p2,pw⟩:=p
  obtain ⟨q1,q2,gH⟩:=q
  obtain ⟨e1,n1,s1,e2,n2,s2,c⟩:=h
  dsimp only at e1 n1 s1 e2 n2 s2 c
  subst e1
  subst e2
  have:=c.le
  refine ⟨p1,p2,pw,q2,gH,rfl,rfl,n1,n2,Nat.le_refl _,by omega,s1,s2,fun aC rl sg=>?_⟩
  show bE key aC ((p1,p2+q2,pw)::r) p1 hi
  refine ⟨rfl,by show 1≤p2+q2;omega,by show bF key aC p1 (p1+(p2+q2));rw [←Nat.add_assoc];exact sg,?_⟩
  show bE key aC r (p1+(p2+q2)) hi
  rw [←Nat.add_assoc]
  exact c.bb rl (.inr (Nat.le_refl _))
 | p::q::r,lo,hi,i+1,h,aR=>by
  obtain ⟨sa,na,pw,nb,gH,e1,e2,n1,n2,l1,l2,s1,s2,k⟩:=h.2.2.2.two (i:=i) (by simpa using aR)
  refine ⟨sa,na,pw,nb,gH,e1,e2,n1,n2,by omega,l2,s1,s2,fun aC rl sg=>?_⟩
  exact ⟨h.1,h.2.1,h.2.2.1.bb rl (.inl l1),k aC rl sg⟩
theorem bE.last:∀{l:List (Nat×Nat×Nat)} {lo hi pw:Nat},bE key arr l lo hi→bE key arr (l.modify (l.length-1) fun x=>(x.1,x.2.1,pw)) lo hi
 | [],lo,hi,pw,h=>h
 | [p],lo,hi,pw,h=>h
 | p::q::r,lo,hi,pw,h=>⟨h.1,h.2.1,h.2.2.1,h.2.2.2.last⟩
theorem bE.one{l:List (Nat×Nat×Nat)}{hi:Nat}(h:bE key arr l 0 hi)(hl:l.length≤1):bF key arr 0 hi:=by
 match l,h,hl with
 | [],h,_=>
  have:0=hi:=h
  exact fun i j h1 h2 h3=>by omega
 | [p],h,_=>
  have:=h.2.2.1
  have e:0+p.2.1=hi:=h.2.2.2
  rw [←e]
  exact this
 | p::q::r,_,hl=>simp at hl
end
section
variable {prog:Program} {w:World} {A:Around} {E:Value→Shared→Prop} {s:Shared} {κ:SortKind} {key:Keyed→Int} {Ok:Keyed→Prop} {arr:Array Keyed} {pend:Array (Nat×Nat×Nat)} {g:Nat}
theorem tQ(h:eU prog w A s κ key Ok)(ok:cM Ok arr){i hi:Nat}(c:bE key arr pend.toList 0 hi)(hz:hi≤arr.size)(aR:i+1<pend.size){Q:Bool→SortSt→Prop}
  (k:∀aC tR g',Rl arr aC 0 hi→bE key aC tR.toList 0 hi→tR.size+1=pend.size→Q true (aH κ aC tR g')):wpS (model prog w) A E s (mergeAt' i) Q (aH κ arr pend g):=by
 obtain ⟨sa,na,pw,nb,gH,e1,e2,n1,n2,l1,l2,s1,s2,kk⟩:=c.two (i:=i) (by simpa using aR)
 refine EC h ok (by simpa using e1) (by simpa using e2) n1 n2 (by omega) s1 s2 fun aC g' rl sg=>?_
 refine k _ _ _ (rl.wide (Nat.zero_le _) l2) ?_ ?_
 ·have:=kk aC rl sg
  simpa using this
 ·rw [←Array.length_toList,Array.toList_eraseIdxIfInBounds,List.length_eraseIdx,if_pos (by simpa using aR)]
  simp
  omega
theorem EF(h:eU prog w A s κ key Ok)(ok:cM Ok arr){Q:Unit→SortSt→Prop}
  (k:∀aC ak,aC.Perm arr→bF key aC 0 arr.size→arrOf ak=aC→failedOf ak=none→Q () ak):wpS (model prog w) A E s sortRuns' Q (aH κ arr #[] g):=by
 rw [sortRuns'_eq]
 refine wpS_bind (wpS_get ?_)
 dsimp only
 have es:(arrOf (aH κ arr #[] g)).size=arr.size:=rfl
 rw [es]
 refine wpS_bind (wpS_mono (wpS_forRange (I:=fun x c ak=>∃(au:Array Keyed) (cg:Array (Nat×Nat×Nat)) (g2 lo:Nat),ak=aH κ au cg g2∧c=(none,lo)∧au.Perm arr∧bE key au cg.toList 0 lo∧lo≤arr.size∧x≤lo)
  (Q:=fun c ak=>∃(au:Array Keyed) (cg:Array (Nat×Nat×Nat)) (g2:Nat),ak=aH κ au cg g2∧c=(none,arr.size)∧au.Perm arr∧bE key au cg.toList 0 arr.size) ?_ ?_ ⟨arr,#[],g,0,rfl,rfl,Array.Perm.refl _,rfl,Nat.zero_le _,Nat.le_refl _⟩) ?_)
 ·rintro x c ak _ hx ⟨au,cg,g2,lo,rfl,rfl,il,ji,l1,l2⟩
  have eZ:=kI ok il
  have z2:=il.size_eq
  dsimp only
  by_cases z:lo≥arr.size
  ·rw [if_pos z]
   obtain rfl:lo=arr.size:=by omega
   exact wpS_pure ⟨au,cg,g2,rfl,rfl,il,ji⟩
  rw [if_neg z]
  refine wpS_bind (Er h eZ (by omega) (by omega) fun n bC n1 nn fF sg=>?_)
  have cj:=fF.pm.trans il
  have ya:=kI ok cj
  have z3:=cj.size_eq
  have dY:=ji.bb fF (.inl (Nat.le_refl _))
  dsimp only
  by_cases y:n<minRun' arr.size arr.size 0
  ·rw [if_pos y]
   refine wpS_bind (wpS_lift (wpAny_rule ⟨rfl,?_⟩))
   refine wpS_bind (Ew h ya (n:=min (arr.size-lo) (minRun' arr.size arr.size 0)) (by omega) n1 (by omega) sg fun aF aZ cW=>?_)
   rw [if_neg (by simp)]
   have cX:=dY.bb aZ (.inl (Nat.le_refl _))
   have tS:=aZ.pm.trans cj
   clear dY cj ya z3 sg fF aZ
   have f1:1≤min (arr.size-lo) (minRun' arr.size arr.size 0):=by omega
   have f2:lo+min (arr.size-lo) (minRun' arr.size arr.size 0)≤arr.size:=by omega
   generalize min (arr.size-lo) (minRun' arr.size arr.size 0)=fo at cW f1 f2 ⊢
   revert cX tS cW
   generalize aF=bC
   intro dY cj cW
   refine wpS_bind (wpS_get ?_)
   have eb:(pendingOf (aH κ bC cg g2)).back?=cg.back?:=rfl
   rw [eb]
   cases cg.back? with
   | none=>
    dsimp only
    exact wpS_bind (wpS_modify (wpS_pure ⟨bC,cg.push (lo,fo,0),g2,lo+fo,rfl,rfl,cj,by rw [Array.toList_push];exact dY.snoc f1 cW,f2,by have:=f1;omega⟩))
   | some p=>
    obtain ⟨EG,pO,EH⟩:=p
    dsimp only
    have z3:=cj.size_eq
    refine wpS_bind (wpS_mono (wpS_forRange (I:=fun y c ak=>∃(aF:Array Keyed) (aW:Array (Nat×Nat×Nat)) (g4:Nat),ak=aH κ aF aW g4∧c=(none,())∧Rl bC aF 0 lo∧bE key aF aW.toList 0 lo)
     (Q:=fun c ak=>∃(aF:Array Keyed) (aW:Array (Nat×Nat×Nat)) (g4:Nat),ak=aH κ aF aW g4∧c=(none,())∧Rl bC aF 0 lo∧bE key aF aW.toList 0 lo) ?_ (fun c ak hh=>hh) ⟨bC,cg,g2,rfl,rfl,Rl.refl ..,dY⟩) ?_)
    ·rintro y c ak _ hy ⟨aF,aW,g4,rfl,rfl,aZ,cX⟩
     have z4:=aZ.size
     refine wpS_bind (wpS_get ?_)
     have hx:∀o,o=(if (pendingOf (aH κ aF aW g4)).size>1 then (pendingOf (aH κ aF aW g4))[(pendingOf (aH κ aF aW g4)).size-2]? else none)→o.isSome=true→aW.size>1:=fun o ho hs=>by
      by_cases z:aW.size>1
      ·exact z
      ·rw [if_neg z] at ho
       rw [ho] at hs
       cases hs
     generalize eo:(if (pendingOf (aH κ aF aW g4)).size>1 then (pendingOf (aH κ aF aW g4))[(pendingOf (aH κ aF aW g4)).size-2]? else none)=o
     cases o with
     | none=>exact wpS_pure ⟨aF,aW,g4,rfl,rfl,aZ,cX⟩
     | some p=>
      have gt:=hx _ eo.symm rfl
      obtain ⟨q1,q2,EI⟩:=p
      dsimp only
      refine cq (fun _=>wpS_pure ⟨aF,aW,g4,rfl,rfl,aZ,cX⟩) (fun _=>?_)
      refine wpS_bind (tQ h (kI ok (aZ.pm.trans cj)) cX (by omega) (show aW.size-2+1<aW.size by omega) fun tT tU g5 tV tW _=>?_)
      rw [if_neg (by simp)]
      exact wpS_pure ⟨tT,tU,g5,rfl,rfl,aZ.trans tV,tW⟩
    ·rintro c ak ⟨aF,aW,g4,rfl,rfl,aZ,cX⟩
     dsimp only
     refine wpS_bind (wpS_modify (wpS_bind (wpS_modify (wpS_pure ⟨aF,_,g4,lo+fo,rfl,rfl,aZ.pm.trans cj,?_,f2,by have:=f1;omega⟩))))
     rw [Array.toList_push]
     refine bE.snoc ?_ f1 (bF.bb cW aZ (.inr (Nat.le_refl _)))
     rw [Array.toList_modify]
     exact cX.last
  ·rw [if_neg y]
   have f2:lo+n≤arr.size:=by omega
   refine wpS_bind (wpS_get ?_)
   have eb:(pendingOf (aH κ bC cg g2)).back?=cg.back?:=rfl
   rw [eb]
   cases cg.back? with
   | none=>
    dsimp only
    exact wpS_bind (wpS_modify (wpS_pure ⟨bC,cg.push (lo,n,0),g2,lo+n,rfl,rfl,cj,by rw [Array.toList_push];exact dY.snoc n1 sg,f2,by have:=n1;omega⟩))
   | some p=>
    obtain ⟨EG,pO,EH⟩:=p
    dsimp only
    have z3:=cj.size_eq
    refine wpS_bind (wpS_mono (wpS_forRange (I:=fun y c ak=>∃(aF:Array Keyed) (aW:Array (Nat×Nat×Nat)) (g4:Nat),ak=aH κ aF aW g4∧c=(none,())∧Rl bC aF 0 lo∧bE key aF aW.toList 0 lo)
     (Q:=fun c ak=>∃(aF:Array Keyed) (aW:Array (Nat×Nat×Nat)) (g4:Nat),ak=aH κ aF aW g4∧c=(none,())∧Rl bC aF 0 lo∧bE key aF aW.toList 0 lo) ?_ (fun c ak hh=>hh) ⟨bC,cg,g2,rfl,rfl,Rl.refl ..,dY⟩) ?_)
    ·rintro y c ak _ hy ⟨aF,aW,g4,rfl,rfl,aZ,cX⟩
     have z4:=aZ.size
     refine wpS_bind (wpS_get ?_)
     have hx:∀o,o=(if (pendingOf (aH κ aF aW g4)).size>1 then (pendingOf (aH κ aF aW g4))[(pendingOf (aH κ aF aW g4)).size-2]? else none)→o.isSome=true→aW.size>1:=fun o ho hs=>by
      by_cases z:aW.size>1
      ·exact z
      ·rw [if_neg z] at ho
       rw [ho] at hs
       cases hs
     generalize eo:(if (pendingOf (aH κ aF aW g4)).size>1 then (pendingOf (aH κ aF aW g4))[(pendingOf (aH κ aF aW g4)).size-2]? else none)=o
     cases o with
     | none=>exact wpS_pure ⟨aF,aW,g4,rfl,rfl,aZ,cX⟩
     | some p=>
      have gt:=hx _ eo.symm rfl
      obtain ⟨q1,q2,EI⟩:=p
      dsimp only
      refine cq (fun _=>wpS_pure ⟨aF,aW,g4,rfl,rfl,aZ,cX⟩) (fun _=>?_)
      refine wpS_bind (tQ h (kI ok (aZ.pm.trans cj)) cX (by omega) (show aW.size-2+1<aW.size by omega) fun tT tU g5 tV tW _=>?_)
      rw [if_neg (by simp)]
      exact wpS_pure ⟨tT,tU,g5,rfl,rfl,aZ.trans tV,tW⟩
    ·rintro c ak ⟨aF,aW,g4,rfl,rfl,aZ,cX⟩
     dsimp only
     refine wpS_bind (wpS_modify (wpS_bind (wpS_modify (wpS_pure ⟨aF,_,g4,lo+n,rfl,rfl,aZ.pm.trans cj,?_,f2,by have:=n1;omega⟩))))
     rw [Array.toList_push]
     refine bE.snoc ?_ n1 (bF.bb sg aZ (.inr (Nat.le_refl _)))
     rw [Array.toList_modify]
     exact cX.last
 ·rintro c ak ⟨au,cg,g2,lo,rfl,rfl,il,ji,l1,l2⟩
  obtain rfl:lo=arr.size:=by omega
  exact ⟨au,cg,g2,rfl,rfl,il,ji⟩
 ·rintro c ak ⟨au,cg,g2,rfl,rfl,il,ji⟩
  dsimp only
  have pz:=ji.le
  refine wpS_bind (wpS_mono (wpS_forRange (I:=fun x c ak=>∃(bC:Array Keyed) (ck:Array (Nat×Nat×Nat)) (g3:Nat),ak=aH κ bC ck g3∧c=(none,())∧bC.Perm arr∧bE key bC ck.toList 0 arr.size∧ck.size+x≤arr.size)
   (Q:=fun c ak=>∃(bC:Array Keyed) (ck:Array (Nat×Nat×Nat)) (g3:Nat),ak=aH κ bC ck g3∧c=(none,())∧bC.Perm arr∧bE key bC ck.toList 0 arr.size∧ck.size≤1) ?_ ?_ ⟨au,cg,g2,rfl,rfl,il,ji,show cg.size+0≤arr.size by simpa using pz⟩) ?_)
  ·rintro x c ak _ hx ⟨bC,ck,g3,rfl,rfl,cj,dY,l3⟩
   have z3:=cj.size_eq
   refine wpS_bind (wpS_get ?_)
   by_cases z:(pendingOf (aH κ bC ck g3)).size≤1
   ·rw [if_pos z]
    exact wpS_pure ⟨bC,ck,g3,rfl,rfl,cj,dY,z⟩
   ·rw [if_neg z]
    have z':1<ck.size:=Nat.lt_of_not_le z
    have go:∀i,i+1<ck.size→wpS (model prog w) A E s (mergeAt' i) (fun b ak=>b=true∧∃(aF:Array Keyed) (aW:Array (Nat×Nat×Nat)) (g4:Nat),ak=aH κ aF aW g4∧aF.Perm arr∧bE key aF aW.toList 0 arr.size∧aW.size+(x+1)≤arr.size) (aH κ bC ck g3):=fun i hi=>by
     refine tQ h (kI ok cj) dY (by omega) hi fun aF aW g4 aZ cX sz=>⟨rfl,aF,aW,g4,rfl,aZ.pm.trans cj,cX,by omega⟩
    refine wpS_bind (wpS_mono (go _ ?_) ?_)
    ·show (if _ then _ else _)+1<ck.size
     have e:(pendingOf (aH κ bC ck g3)).size=ck.size:=rfl
     rw [e]
     have:∀c:Bool,(if c=true then ck.size-2-1 else ck.size-2)+1<ck.size:=fun c=>by cases c <;> simp <;> omega
     exact this _
    ·rintro b ak ⟨rfl,aF,aW,g4,rfl,tS,cX,l4⟩
     rw [if_neg (by simp)]
     exact wpS_pure ⟨aF,aW,g4,rfl,rfl,tS,cX,l4⟩
  ·rintro c ak ⟨bC,ck,g3,rfl,rfl,cj,dY,l3⟩
   exact ⟨bC,ck,g3,rfl,rfl,cj,dY,by omega⟩
  ·rintro c ak ⟨bC,ck,g3,rfl,rfl,cj,dY,l3⟩
   exact wpS_pure (k bC _ cj (dY.one (by simpa using l3)) rfl rfl)
end
end Tm
namespace My
open PySem PySem.W PyProof.Rows Tm
section
variable {prog:Program} {w:World} {A:Around} {E:Value→Shared→Prop} {s:Shared}
def cE(h:Heap)(v:Value)(x y:Int):Prop:=∃a o t u e,v=.ref a∧h.get? a=some o∧o.cls=.type "tuple"∧o.data=.seq #[.int x t,.int y u] e
theorem EJ{v v':Value}{x y x' y':Int}(h1:cE s.heap v x y)(h2:cE s.heap v' x' y'){Q:Bool→Shared→Prop}(h:Q (decide (x<x'∨x=x'∧y<y')) s):wpAny (model prog w) A (keyLt' (tuples' true) v v') Q E s:=by
 obtain ⟨a,o,t,u,e,rfl,g,_,d⟩:=h1
 obtain ⟨a',o',t',u',e',rfl,g',_,d'⟩:=h2
 refine kat_lt g d g' d' ?_
 show KatLex prog w A true (decide (2<2)) Q [(.int x t,.int x' t'),(.int y u,.int y' u')] 0 s
 refine kat_cons (wpAny_eqBool_int ?_)
 by_cases z:x=x'
 ·subst z
  rw [show (x == x)=true by simp]
  refine kat_yes (kat_cons (wpAny_eqBool_int ?_))
  by_cases z2:y=y'
  ·subst z2
   rw [show (y == y)=true by simp]
   refine kat_yes (kat_nil ?_)
   rw [decide_eq_false (by omega)] at h
   exact h
  ·rw [show (y == y')=false by simp [z2]]
   refine kat_no ?_
   show wpAny (model prog w) A (oneLt' false (.int y u) (.int y' u')) Q _ s
   refine kat_one _ _ (lt_int ?_)
   show Q (decide (y<y')) s
   rw [show decide (y<y')=decide (x<x∨x=x∧y<y') from decide_eq_decide.mpr (by omega)]
   exact h
 ·rw [show (x == x')=false by simp [z]]
  refine kat_no ?_
  show wpAny (model prog w) A (oneLt' true (.int x t) (.int x' t')) Q _ s
  refine oneLt_int ?_
  rw [show decide (x<x')=decide (x<x'∨x=x'∧y<y') from decide_eq_decide.mpr (by omega)]
  exact h
theorem yb{h:Heap}:∀{vs:List Value},(∀v∈vs,∃x y,cE h v x y)→∃fs:List Value,KatTups h vs fs∧fs.length=vs.length∧∀f∈fs,∃n t,f=.int n t
 | [],_=>⟨[],.nil,rfl,fun f hf=>by cases hf⟩
 | v::vs,hv=>by
  obtain ⟨fs,k,l,i⟩:=yb (vs:=vs) fun v h=>hv v (List.mem_cons_of_mem _ h)
  obtain ⟨x,y,a,o,t,u,e,rfl,g,c,d⟩:=hv v List.mem_cons_self
  refine ⟨.int x t::fs,.cons g c d rfl k,by rw [List.length_cons,List.length_cons,l],fun f hf=>?_⟩
  rcases List.mem_cons.mp hf with rfl | hf
  ·exact ⟨x,t,rfl⟩
  ·exact i f hf
theorem perm_back{α β:Type}{f:α→β}{l m:List β}(h:l.Perm m):∀q:List α,m=q.map f→∃p:List α,p.Perm q∧l=p.map f:=by
 induction h with
 | nil=>
  intro q e
  exact ⟨q,List.Perm.refl _,e⟩
 | cons x _ ih=>
  intro q e
  match q,e with
  | a::q,e=>
   obtain ⟨rfl,e'⟩:=List.cons.inj e
   obtain ⟨p,hp,rfl⟩:=ih q e'
   exact ⟨a::p,hp.cons a,rfl⟩
 | swap x y _=>
  intro q e
  match q,e with
  | a::b::q,e=>
   obtain ⟨rfl,e'⟩:=List.cons.inj e
   obtain ⟨rfl,rfl⟩:=List.cons.inj e'
   exact ⟨b::a::q,List.Perm.swap ..,rfl⟩
 | trans _ _ EK EL=>
  intro q e
  obtain ⟨p,hp,e1⟩:=EL q e
  obtain ⟨p',EM,e2⟩:=EK p e1
  exact ⟨p',EM.trans hp,e2⟩
theorem cE.uniq{h:Heap}{v:Value}{x y x' y':Int}(h1:cE h v x y)(h2:cE h v x' y'):x=x'∧y=y':=by
 obtain ⟨a,o,t,u,e,rfl,g,_,d⟩:=h1
 obtain ⟨a',o',t',u',e',ev,g',_,d'⟩:=h2
 cases ev
 rw [g] at g'
 cases g'
 rw [d] at d'
 simp at d'
 exact ⟨d'.1.1.1,d'.1.2.1⟩
open Classical in
noncomputable def tX (h:Heap) (k:Keyed):Int:=if e:∃z:Int×Int,cE h k.1 z.1 z.2 then (choose e).1*1000+(choose e).2 else 0
theorem pP{h:Heap}{v u:Value}{x y:Int}(p:cE h v x y):tX h (v,u)=x*1000+y:=by
 have e:∃z:Int×Int,cE h (v,u).1 z.1 z.2:=⟨(x,y),p⟩
 unfold tX
 rw [dif_pos e]
 obtain ⟨a,b⟩:=(Classical.choose_spec e).uniq p
 rw [a,b]
theorem EN{vs:List Value}{x y:Nat→Int}(h2:2≤vs.length)(hv:∀i v,vs[i]?=some v→cE s.heap v (x i) (y i)∧0≤y i∧y i<1000){Q:SortSt→Shared→Prop}
  (hQ:∀(p:Array Nat) (st:SortSt),f_ vs.length p→ic (fun i=>x i*1000+y i) p vs.length→(arrOf st).map (·.2)=List.toArray (p.toList.map fun i=>vs.getD i Value.none)→failedOf st=none→Q st s) :
  wpAny (model prog w) A (sortRuns'.run (SortSt.mk' (tuples' true) (vs.toArray.zip vs.toArray) #[] 7 none)) (fun r s'=>Q r.2 s') E s:=by
 have az:(vs.toArray.zip vs.toArray).size=vs.length:=by simp
 have ag:∀i,i<vs.length→(vs.toArray.zip vs.toArray).getD i nn=(vs.getD i Value.none,vs.getD i Value.none):=fun i hi=>by
  simp [Array.getD,hi]
 have ga:∀i (hi:i<vs.length),cE s.heap (vs.getD i Value.none) (x i) (y i)∧0≤y i∧y i<1000:=fun i hi=>by
  refine hv i _ ?_
  simp [hi]
 have lt:eU prog w A s (tuples' true) (tX s.heap) (fun k=>∃a b,cE s.heap k.1 a b∧0≤b∧b<1000):=by
  rintro ⟨u,u'⟩ ⟨v,v'⟩ ⟨a,b,p1,b0,b1⟩ ⟨c,d,p2,d0,d1⟩ C hC
  refine EJ p1 p2 ?_
  rw [pP p1,pP p2] at hC
  rw [show decide (a<c∨a=c∧b<d)=decide (a*1000+b<c*1000+d) from decide_eq_decide.mpr (by omega)]
  exact hC
 have ok:cM (fun k=>∃a b,cE s.heap k.1 a b∧0≤b∧b<1000) (vs.toArray.zip vs.toArray):=fun i hi=>by
  rw [az] at hi
  rw [ag i hi]
  exact ⟨_,_,ga i hi⟩
 refine wpAny_mono (EF (E:=E) (Q:=fun _ st=>Q st s) (g:=7) lt ok fun aC st pm sg ha hf=>?_) (fun r s' h'=>by obtain ⟨rfl,h'⟩:=h';exact h') fun _ _ e=>e
 have el:(vs.toArray.zip vs.toArray).toList=(List.range vs.length).map fun i=>(vs.getD i Value.none,vs.getD i Value.none):=by
  refine List.ext_getElem (by simp) fun i h1 h2=>?_
  have hi:i<vs.length:=by simpa using h2
  simp [hi]
 obtain ⟨p,hp,ep⟩:=perm_back (Array.perm_iff_toList_perm.mp pm) _ el
 have pl:p.length=vs.length:=by rw [hp.length_eq,List.length_range]
 have EO:∀i∈p,i<vs.length:=fun i hi=>List.mem_range.mp (hp.mem_iff.mp hi)
 have hsz:aC.size=vs.length:=by rw [pm.size_eq,az]
 have gd:∀i,i<vs.length→aC.getD i nn=(vs.getD (p.toArray.getD i 0) Value.none,vs.getD (p.toArray.getD i 0) Value.none)∧p.toArray.getD i 0<vs.length:=fun i hi=>by
  have e1:aC.getD i nn=aC.toList[i]'(by simp;omega):=by simp [Array.getD,show i<aC.size by omega]
  have e2:p.toArray.getD i 0=p[i]'(by omega):=by simp [Array.getD,show i<p.length by omega]
  rw [e1,e2]
  refine ⟨?_,EO _ (List.getElem_mem _)⟩
  simp [ep]
 refine hQ p.toArray st (Array.perm_iff_toList_perm.mpr (by simpa using hp)) (fun i j h1 h3=>?_) ?_ hf
 ·have:=sg i j (Nat.zero_le _) h1 (by rw [az];exact h3)
  unfold vA at this
  obtain ⟨e1,l1⟩:=gd i (by omega)
  obtain ⟨e2,l2⟩:=gd j h3
  rw [e1,e2,pP (ga _ l1).1,pP (ga _ l2).1] at this
  exact this
 ·rw [ha]
  apply Array.toList_inj.mp
  rw [Array.toList_map,ep,List.map_map]
  rfl
theorem ER{vs:List Value}{Q:SortKind→Shared→Prop}(h1:1≤vs.length)(hv:∀v∈vs,∃x y,cE s.heap v x y)(h:Q (tuples' true) s):wpAny (model prog w) A (keyKind' vs.toArray) Q E s:=by
 obtain ⟨fs,k,l,i⟩:=yb hv
 refine kat_kind (T:=Value.type "int") k (by omega) (fun v hv=>?_) rfl h
 obtain ⟨n,t,rfl⟩:=i v hv
 exact .now
theorem cE.mono{h h':Heap}{v:Value}{x y:Int}(k:∀b o,h.get? b=some o→h'.get? b=some o)(p:cE h v x y):cE h' v x y:=by
 obtain ⟨a,o,t,u,e,rfl,g,c,d⟩:=p
 exact ⟨a,o,t,u,e,rfl,k _ _ g,c,d⟩
theorem ES{a:Addr}{vs:List Value}{n:Nat}{x y:Nat→Int}{P:PySem.Fin→Shared→Prop}(ho:s.heap.get? a=some (seqObj "list" vs.toArray n))(pQ:vs.length<1000)(hv:∀i v,vs[i]?=some v→cE s.heap v (x i) (y i)∧0≤y i∧y i<1000)
  (h:∀(p:Array Nat),f_ vs.length p→ic (fun i=>x i*1000+y i) p vs.length→P (.done (.ret .none)) {s with heap:=sortedHeap s.heap a vs (List.toArray (p.toList.map fun i=>vs.getD i Value.none))}) :
  wpAny (model prog w) A (Builtin.«list.sort» ⟨[.ref a],[]⟩) P E s:=by
 have sl:vs.length≤sizeLine:=by rw [sizeLine_eq];omega
 have lt:=Heap.lt_size ho
 obtain ⟨e1,g1⟩:∃e,(s.heap.update a (Obj.mapSeq fun _=>#[])).get? a=some (seqObj "list" #[] e):=⟨_,get?_update_seq ho fun _=>#[]⟩
 have z1:(s.heap.update a (Obj.mapSeq fun _=>#[])).objs.size=s.heap.objs.size:=Heap.size_update _ _ _
 have up:∀b u,b<s.heap.objs.size→(s.heap.update a (Obj.mapSeq fun _=>#[])).get? b=some u→(((s.heap.update a (Obj.mapSeq fun _=>#[])).push (seqObj "tuple" vs.toArray 0)).push (seqObj "list" #[] 0)).get? b=some u:=fun b u hb hu=>by
  rw [Heap.get?_push_ne _ _ _ (Nat.ne_of_lt (by rw [size_push',z1];exact Nat.lt_succ_of_lt hb)),Heap.get?_push_ne _ _ _ (Nat.ne_of_lt (by rw [z1];exact hb))]
  exact hu
 have g3:=up a _ lt g1
 have yc:∀i v,vs[i]?=some v→cE (((s.heap.update a (Obj.mapSeq fun _=>#[])).push (seqObj "tuple" vs.toArray 0)).push (seqObj "list" #[] 0)) v (x i) (y i)∧0≤y i∧y i<1000:=fun i v hi=>by
  obtain ⟨⟨b,o,t,u,e,rfl,g,cc,d⟩,y0⟩:=hv i v hi
  have nb:b≠a:=fun q=>by
   rw [q,ho] at g
   cases g
   exact absurd (Value.type.inj cc) (by decide)
  refine ⟨⟨b,o,t,u,e,rfl,up b o (Heap.lt_size g) ?_,cc,d⟩,y0⟩
  rw [Heap.get?_update_ne _ _ _ _ nb]
  exact g
 rw [list_sort_plain]
 refine wpAny_bind (listItems_at ho rfl (wpAny_bind (listUpdate_at ho rfl ?_ (by rw [List.size_toArray];omega) (Nat.zero_le _))))
 refine wpAny_bind (seqEpoch_at g1 rfl (wpAny_bind (wpAny_newTuple ?_ (by show vs.length≤_;omega))))
 refine wpAny_bind (wpAny_newList (wpAny_holding ?_) (Nat.zero_le _))
 show wpAny (model prog w) A _ P E {s with heap:=((s.heap.update a (Obj.mapSeq fun _=>#[])).push (seqObj "tuple" vs.toArray 0)).push (seqObj "list" #[] 0)}
 dsimp only
 have fin:∀(st:SortSt) (p:Array Nat),f_ vs.length p→ic (fun i=>x i*1000+y i) p vs.length→(arrOf st).map (·.2)=List.toArray (p.toList.map fun i=>vs.getD i Value.none)→failedOf st=none→
   wpAny (model prog w) A (do
    let touched:=(←seqEpoch a) != e1
    Builtin.List.listUpdate (.ref a) fun _=>(arrOf st).map (·.2)
    if let some e:=failedOf st then rule "list.sort.comparison-raised";throw e
    if touched then rule "list.sort.modified";raiseError "ValueError" "list modified during sort"
    ret .none) P E {s with heap:=((s.heap.update a (Obj.mapSeq fun _=>#[])).push (seqObj "tuple" vs.toArray 0)).push (seqObj "list" #[] 0)}:=fun st p hp hu ha hf=>by
  refine wpAny_bind (seqEpoch_at g3 rfl (wpAny_bind (listUpdate_at g3 rfl ?_ (Nat.zero_le _) ?_)))
  ·rw [hf,ha]
   simp only [bne_self_eq_false,Bool.false_eq_true,if_false]
   exact wpAny_pure (h p hp hu)
  ·rw [ha,List.size_toArray,List.length_map,Array.length_toList,hp.size]
   omega
 by_cases z:vs.toArray.size<2
 ·rw [if_pos z,if_pos z]
  refine wpAny_bind (wpAny_pure ?_)
  rw [StateT.run_pure]
  refine wpAny_bind (wpAny_pure ?_)
  have len:vs.length<2:=by simpa using z
  refine fin _ (List.toArray (List.range vs.length)) (Array.Perm.refl _) (fun a b h1 h2=>by
   obtain rfl:a=b:=by omega
   exact Int.le_refl _) ?_ rfl
  match vs,len with
  | [],_=>
   show Array.map (·.2) ((#[]:Array Value).zip #[])=_
   simp
  | [v],_=>
   show Array.map (·.2) (#[v].zip #[v])=_
   simp
 ·rw [if_neg z,if_neg z]
  have len:2≤vs.length:=by simpa using z
  refine wpAny_bind (ER (by omega) (fun v hm=>?_) ?_)
  ·obtain ⟨i,hi,rfl⟩:=List.getElem_of_mem hm
   exact ⟨_,_,(yc i _ (by simp [hi])).1⟩
  ·refine wpAny_bind (wpAny_mono (EN (Q:=fun st s'=>s'={s with heap:=((s.heap.update a (Obj.mapSeq fun _=>#[])).push (seqObj "tuple" vs.toArray 0)).push (seqObj "list" #[] 0)}∧∃p,f_ vs.length p∧ic (fun i=>x i*1000+y i) p vs.length∧(arrOf st).map (·.2)=List.toArray (p.toList.map fun i=>vs.getD i Value.none)∧failedOf st=none) len yc fun p st a1 a2 a3 a4=>⟨rfl,p,a1,a2,a3,a4⟩) ?_ fun _ _ e=>e)
   rintro ⟨⟨⟩,st⟩ s' ⟨rfl,p,a1,a2,a3,a4⟩
   exact fin st p a1 a2 a3 a4
end
open PySem PySem.W PyProof.Rows
section
variable {prog:Program} {w:World} {A:Around} {E:Value→Shared→Prop} {s:Shared}
theorem ET{l:Addr}{vs:List Value}{x y:Nat→Int}{Q:Value→Shared→Prop}(hl:s.heap.IsList l vs.toArray)(pQ:vs.length<1000)(hv:∀i v,vs[i]?=some v→cE s.heap v (x i) (y i)∧0≤y i∧y i<1000)
  (h:∀(p:Array Nat) (h':Heap) (c:Nat),f_ vs.length p→ic (fun i=>x i*1000+y i) p vs.length→(∀b o,s.heap.get? b=some o→h'.get? b=some o)→h'.get? (s.heap.objs.size+1)=some (seqObj "list" (List.toArray (p.toList.map fun i=>vs.getD i Value.none)) c)→Q (.ref (s.heap.objs.size+1)) {s with heap:=h'}) :
  wpAny (model prog w) A (call (.builtin "sorted") [.ref l]) Q E s:=by
 have sl:vs.length≤sizeLine:=by rw [sizeLine_eq];omega
 refine Calls.call_function_entry kind_sorted plain_sorted entry_sorted (args_sorted1 _) ?_
 unfold Builtin.«sorted»
 refine wpAny_bind (m:=checkCount "sorted" 1 1 _) (wpAny_pure (wpAny_bind (collect_list hl (wpAny_bind (wpAny_newList ?_ sl)) sl)))
 have zz:((s.heap.push (seqObj "list" #[] 0)).update s.heap.objs.size (Obj.mapSeq (·++vs.toArray))).objs.size=s.heap.objs.size+1:=by rw [Heap.size_update,size_push']
 have kp:∀b o,s.heap.get? b=some o→(((s.heap.push (seqObj "list" #[] 0)).update s.heap.objs.size (Obj.mapSeq (·++vs.toArray))).push (seqObj "list" vs.toArray 0)).get? b=some o:=fun b o g=>by
  have lt:=Heap.lt_size g
  rw [Heap.get?_push_ne _ _ _ (Nat.ne_of_lt (by rw [zz];exact Nat.lt_succ_of_lt lt)),Heap.get?_update_ne _ _ _ _ (Nat.ne_of_lt lt),Heap.get?_push_ne _ _ _ (Nat.ne_of_lt lt)]
  exact g
 have gL:(((s.heap.push (seqObj "list" #[] 0)).update s.heap.objs.size (Obj.mapSeq (·++vs.toArray))).push (seqObj "list" vs.toArray 0)).get? (s.heap.objs.size+1)=some (seqObj "list" vs.toArray 0):=by
  rw [←zz]
  exact Heap.get?_push_size _ rfl
 show wpAny _ _ _ _ _ {s with heap:=((s.heap.push (seqObj "list" #[] 0)).update s.heap.objs.size (Obj.mapSeq (·++vs.toArray))).push (seqObj "list" vs.toArray 0)}
 rw [zz]
 generalize ((s.heap.push (seqObj "list" #[] 0)).update s.heap.objs.size (Obj.mapSeq (·++vs.toArray))).push (seqObj "list" vs.toArray 0)=h1 at kp gL
 refine wpAny_bind (wpAny_holding (wpAny_call_entry slot_list_sort ⟨_,gL,rfl⟩ entry_list_sort (ES (s:={s with heap:=h1}) gL pQ (fun i v hi=>⟨(hv i v hi).1.mono kp,(hv i v hi).2⟩) fun p hp hu=>⟨_,rfl,?_⟩) (args_list_sort _)))
 have EU:=Heap.lt_size gL
 have z1:(h1.update (s.heap.objs.size+1) (Obj.mapSeq fun _=>#[])).objs.size=h1.objs.size:=Heap.size_update _ _ _
 obtain ⟨e1,g1⟩:∃e,(h1.update (s.heap.objs.size+1) (Obj.mapSeq fun _=>#[])).get? (s.heap.objs.size+1)=some (seqObj "list" #[] e):=⟨_,get?_update_seq gL fun _=>#[]⟩
 have up:∀b u,b<h1.objs.size→(h1.update (s.heap.objs.size+1) (Obj.mapSeq fun _=>#[])).get? b=some u→(((h1.update (s.heap.objs.size+1) (Obj.mapSeq fun _=>#[])).push (seqObj "tuple" vs.toArray 0)).push (seqObj "list" #[] 0)).get? b=some u:=fun b u hb hu=>by
  rw [Heap.get?_push_ne _ _ _ (Nat.ne_of_lt (by rw [size_push',z1];exact Nat.lt_succ_of_lt hb)),Heap.get?_push_ne _ _ _ (Nat.ne_of_lt (by rw [z1];exact hb))]
  exact hu
 have g3:=up _ _ EU g1
 refine wpAny_pure ⟨_,rfl,h p _ _ hp hu (fun b o g=>?_) (get?_update_seq g3 fun _=>List.toArray (p.toList.map fun i=>vs.getD i Value.none))⟩
 have g':=kp b o g
 have ne:b≠s.heap.objs.size+1:=Nat.ne_of_lt (Nat.lt_succ_of_lt (Heap.lt_size g))
 show (Heap.update _ _ _).get? b=some o
 rw [Heap.get?_update_ne _ _ _ _ ne]
 refine up b o (Heap.lt_size g') ?_
 rw [Heap.get?_update_ne _ _ _ _ ne]
 exact g'
end
end My
namespace L2
open PySem PySem.W PyProof.Rows My
def yd:List V→Hp→VK→Prop:=fun xs H Q=>∃(a:Addr) (vs:List V) (x y:Nat→Int),xs=[.ref a]∧H a=some (.lst vs)∧vs.length<1000∧(∀(i:Nat) (v:V),vs[i]?=some v→(∃b,v=.ref b∧H b=some (.tup [.int (x i),.int (y i)]))∧0≤y i∧y i<1000) ∧
 ∀(p:Array Nat) (l:Addr),f_ vs.length p→ic (fun i=>x i*1000+y i) p vs.length→H l=none→Q (.ref l) (upd H l (.lst (p.toList.map fun i=>vs.getD i .aG)))
theorem ye{xs:List V}{us:List Value}(r:Vals xs us):∀(ns:List Nat),(∀i∈ns,i<xs.length)→Vals (ns.map fun i=>xs.getD i .aG) (ns.map fun i=>us.getD i Value.none)
 | [],_=>.nil
 | i::ns,h=>by
  have hi:=h i List.mem_cons_self
  obtain ⟨u,e,ru⟩:=r.get (i:=i) (x:=xs[i]) (by simp [hi])
  refine .cons ?_ (ye r ns fun j hj=>h j (List.mem_cons_of_mem _ hj))
  dsimp only
  rw [show xs.getD i .aG=xs[i] by simp [hi],show us.getD i Value.none=u by rw [List.getD_eq_getElem?_getD,e];rfl]
  exact ru
theorem tY{X:Cx}:ei X (.builtin "sorted") yd:=by
 intro pins s σ H xs us Q I r h
 obtain ⟨a,vs,x,y,rfl,ha,pQ,hv,k⟩:=h
 obtain ⟨u,rfl,ru⟩:=vals1 r
 cases ru
 obtain ⟨aa,rv,pl,hz⟩:=I.list (.of ha)
 have hl:=rv.length
 refine ET (x:=x) (y:=y) pl.isList (by omega) (fun i v hi=>?_) fun p h' c hp hu kp g=>?_
 ·have aR:i<vs.length:=by
   have:=(List.getElem?_eq_some_iff.mp hi).1
   omega
  have gi:vs[i]?=some vs[i]:=by simp [aR]
  obtain ⟨⟨b,eb,hb⟩,EV⟩:=hv i _ gi
  obtain ⟨u,eu,ru⟩:=rv.get gi
  rw [hi] at eu
  cases eu
  rw [eb] at ru
  cases ru
  obtain ⟨_,fX,r2,o,g,cl,e,d⟩:=(show a7 X.prog X.w H s.heap b (.tup [.int (x i),.int (y i)]) from I.aq b _ hb)
  obtain ⟨u1,u2,rfl,q1,q2⟩:=vals2 r2
  obtain ⟨t1,rfl⟩:=q1
  obtain ⟨t2,rfl⟩:=q2
  exact ⟨⟨b,o,t1,t2,e,rfl,g,cl,d⟩,EV⟩
 ·rw [←hl] at hp hu
  have sz:=hp.size
  refine ⟨.ref (s.heap.objs.size+1),_,I.laid (t':=s.toks) (o:=.lst (p.toList.map fun i=>vs.getD i .aG)) kp (Nat.le_succ _) ⟨?_,p.toList.map fun i=>aa.getD i Value.none,c,?_,g⟩,rfl,k p _ hp hu (I.aq.fresh (Nat.le_succ _))⟩
  ·rw [List.length_map,Array.length_toList,sz]
   exact hz
  ·refine ye rv _ fun i hi=>?_
   have m:i∈List.toArray (List.range vs.length):=(Array.Perm.mem_iff hp).mp (Array.mem_toList_iff.mp hi)
   simpa using m
end L2
namespace My
open PySem L2
def EW(K:PySem.W.Frag):R2:=fun x y H Q=>∃a b xs,x=.ref a∧y=.ref b∧aX K H a xs∧H b=some (.lst [])∧Q (.bl (!xs.isEmpty)) H
theorem yf{X:Cx}(hu:X.A.units+64<cLine):bI X (compareOp .NotEq) (EW X.K):=by
 intro pins s σ H x y v u Q I rx ry h
 obtain ⟨a,b,xs,rfl,rfl,h1,h2,q⟩:=h
 cases rx
 cases ry
 obtain ⟨us,r1,t1,_⟩:=I.list h1
 obtain ⟨vs,r2,t2,_⟩:=I.list (aX.of h2)
 have l1:=r1.length
 have l2:=r2.length
 cases xs with
 | nil=>
  refine SeqAt.RcNeAt.lists (e:=fun _=>true) t1.isList t2.isList (by simp at l1 l2 ⊢;omega) (by omega) (fun j z1 z2=>?_) _ _ _ _ ?_
  ·simp at l1
   have:us=[]:=List.length_eq_zero_iff.mp l1.symm
   subst this
   simp at z1
  ·rw [all_range]
   exact ⟨.bl false,H,I,rfl,q⟩
 | cons w ws=>
  refine SeqAt.RcNeAt.lists_lengths t1.isList t2.isList ?_ (by omega) _ _ _ _ ⟨.bl true,H,I,rfl,q⟩
  simp at l1 l2 ⊢
  omega
theorem yg{c:TT}{t u:TS}{D:Ends}{σ:St}{H:Hp}(M:St→Hp→Prop)(hM:∀σ H,M σ H→D.nx σ H)(k:∀R:St→Hp→Prop,(∀σ H,M σ H→R σ H)→rH c t u {D with nx:=R} σ H):rH c t u D σ H:=k D.nx hM
def EX(K:PySem.W.Frag):Sp:=fun vs H Q _=>∃(P a l:Addr) (ns:List Int) (xs:List V),vs=[.ref P,.ref l]∧bo H P a∧aX K (er P H) a (ns.map V.int)∧l≠P∧H l=some (.lst xs)∧xs.length≤100 ∧
 ∀(r:Addr) (ys:List V) (H':Hp),ay P H H'→bo H' P a→er P H r=none→r≠P→H' r=some (.lst ys)→ys.Perm xs→Q (.ref r) H'
def EY(K:PySem.W.Frag):Sp:=fun vs H Q _=>∃(P a:Addr) (ns:List Int) (way size wide i j:Int),vs=[.ref P,.int way,.int size,.int wide,.int i,.int j]∧bo H P a∧aX K (er P H) a (ns.map V.int) ∧
 ∀(b:Bool) (H':Hp),ay P H H'→bo H' P a→Q (.bl b) H'
theorem yh{α:Type}:∀(zs:List α) (k:Nat) (h:k<zs.length),(zs[k]::zs.eraseIdx k).Perm zs
 | _::_,0,_=>.refl _
 | z::zs,k+1,h=>(List.Perm.swap _ _ _).trans ((yh zs k (by simpa using h)).cons z)
def aN(H:Hp)(vs:List V)(L:List (Int×Int)):Prop:=vs.length=L.length∧∀(k:Nat) (v:V) (p:Int×Int),vs[k]?=some v→L[k]?=some p→∃b,v=.ref b∧H b=some (.tup [.int p.1,.int p.2])
theorem aN.nil(H:Hp):aN H [] []:=⟨rfl,fun k v p h=>by simp at h⟩
theorem aN.mono{H H':Hp}{vs:List V}{L:List (Int×Int)}(h:aN H vs L)(s:aj H H'):aN H' vs L:=⟨h.1,fun k v p h1 h2=>by
 obtain ⟨b,e,g⟩:=h.2 k v p h1 h2
 exact ⟨b,e,s _ _ g⟩⟩
theorem aN.bb{H H':Hp}{vs:List V}{L:List (Int×Int)}{r:Addr}{xs:List V}(h:aN H vs L)(e:H r=some (.lst xs))(k:∀b o,b≠r→H b=some o→H' b=some o):aN H' vs L:=⟨h.1,fun i v p h1 h2=>by
 obtain ⟨b,eb,g⟩:=h.2 i v p h1 h2
 refine ⟨b,eb,k b _ (fun z=>?_) g⟩
 rw [z,e] at g
 cases g⟩
theorem aN.push{H:Hp}{vs:List V}{L:List (Int×Int)}{b:Addr}{p:Int×Int}(h:aN H vs L)(e:H b=some (.tup [.int p.1,.int p.2])):aN H (vs++[.ref b]) (L++[p]):=⟨by simp [h.1],fun k v q h1 h2=>by
 have hl:=h.1
 by_cases z:k<vs.length
 ·rw [List.getElem?_append_left z] at h1
  rw [List.getElem?_append_left (by omega)] at h2
  exact h.2 k v q h1 h2
 ·have hk:=(List.getElem?_eq_some_iff.mp h1).1
  rw [List.length_append,List.length_singleton] at hk
  obtain rfl:k=vs.length:=by omega
  rw [List.getElem?_append_right (Nat.le_refl _),Nat.sub_self] at h1
  rw [List.getElem?_append_right (by omega),show vs.length-L.length=0 by omega] at h2
  cases h1
  cases h2
  exact ⟨b,rfl,e⟩⟩
structure e8 (n:Nat) (L:List (Int×Int)):Prop where
 nd:L.Nodup
 lt:∀p∈L,0≤p.1∧p.1<p.2∧p.2<n
 b3:L.length≤n*n / 2
def lexLt(p q:Int×Int):Prop:=p.1<q.1∨p.1=q.1∧p.2<q.2
theorem EZ{M:List (Int×Int)}{p:Array Nat}(P:f_ M.length p)(U:ic (fun i=>(M.getD i (0,0)).1*1000+(M.getD i (0,0)).2) p M.length)(nd:M.Nodup)(b:∀q∈M,0≤q.2∧q.2<1000) :
  (p.toList.map fun i=>M.getD i (0,0)).Perm M∧(p.toList.map fun i=>M.getD i (0,0)).Pairwise lexLt:=by
 have pm:p.toList.Perm (List.range M.length):=Array.perm_iff_toList_perm.mp P
 have pn:p.toList.Nodup:=pm.nodup_iff.mpr List.nodup_range
 have lt:∀i∈p.toList,i<M.length:=fun i hi=>List.mem_range.mp (pm.mem_iff.mp hi)
 refine ⟨?_,?_⟩
 ·have e:((List.range M.length).map fun i=>M.getD i (0,0))=M:=by
   refine List.ext_getElem (by simp) fun i h1 h2=>?_
   rw [List.getElem_map,List.getElem_range,getD_at h2]
  have:=pm.map fun i=>M.getD i (0,0)
  rw [e] at this
  exact this
 ·rw [List.pairwise_iff_getElem]
  intro i j hi hj tK
  rw [List.length_map] at hi hj
  rw [List.getElem_map,List.getElem_map]
  have sz:=P.size
  have li:p.toList[i]<M.length:=lt _ (List.getElem_mem _)
  have lj:p.toList[j]<M.length:=lt _ (List.getElem_mem _)
  have u:=U i j (by omega) (by rw [←sz,←Array.length_toList];exact hj)
  unfold vN at u
  have gi:p.getD i 0=p.toList[i]:=by
   have:i<p.size:=by rw [←Array.length_toList];exact hi
   simp [Array.getD,this]
  have gj:p.getD j 0=p.toList[j]:=by
   have:j<p.size:=by rw [←Array.length_toList];exact hj
   simp [Array.getD,this]
  rw [gi,gj] at u
  dsimp only at u
  rw [getD_at li,getD_at lj] at u
  rw [getD_at li,getD_at lj]
  have ne:M[p.toList[i]]≠M[p.toList[j]]:=fun e=>by
   have e1:=(List.getElem_inj nd).mp e
   have e2:=(List.getElem_inj pn).mp e1
   omega
  have b1:=b _ (List.getElem_mem li)
  have b2:=b _ (List.getElem_mem lj)
  generalize M[p.toList[i]]=x at u ne b1
  generalize M[p.toList[j]]=y at u ne b2
  obtain ⟨x1,x2⟩:=x
  obtain ⟨y1,y2⟩:=y
  unfold lexLt
  dsimp only at u b1 b2 ⊢
  by_cases z:x1<y1
  ·exact .inl z
  ·right
   have e1:x1=y1:=by omega
   subst e1
   refine ⟨rfl,?_⟩
   by_cases y:x2=y2
   ·subst y
    exact absurd rfl ne
   ·omega
theorem nq{α β:Type}{f:α→β}:∀{L:List α},L.Nodup→(∀p q,p∈L→q∈L→f p=f q→p=q)→(L.map f).Nodup
 | [],_,_=>List.nodup_nil
 | x::L,h,k=>by
  obtain ⟨h1,h2⟩:=List.nodup_cons.mp h
  refine List.nodup_cons.mpr ⟨fun m=>?_,nq h2 fun p q hp hq=>k p q (List.mem_cons_of_mem _ hp) (List.mem_cons_of_mem _ hq)⟩
  obtain ⟨y,hy,e⟩:=List.mem_map.mp m
  have:=k y x (List.mem_cons_of_mem _ hy) List.mem_cons_self e
  rw [this] at hy
  exact h1 hy
def dF(nm:Nat→Int)(p:Int×Int):Int×Int:=(min (nm p.1.toNat) (nm p.2.toNat),max (nm p.1.toNat) (nm p.2.toNat))
structure tZ (n:Nat) (nm:Nat→Int):Prop where
 lt:∀i,i<n→0≤nm i∧nm i<n
 inj:∀i j,i<n→j<n→nm i=nm j→i=j
theorem E1{n:Nat}{nm:Nat→Int}{L:List (Int×Int)}(h:e8 n L)(N:tZ n nm):e8 n (L.map (dF nm)) where
 nd:=by
  refine nq h.nd fun p q hp hq e=>?_
  have a:=h.lt p hp
  have b:=h.lt q hq
  obtain ⟨p1,p2⟩:=p
  obtain ⟨q1,q2⟩:=q
  obtain ⟨i,rfl⟩:=Int.eq_ofNat_of_zero_le (show 0≤p1 by dsimp only at a;omega)
  obtain ⟨j,rfl⟩:=Int.eq_ofNat_of_zero_le (show 0≤p2 by dsimp only at a;omega)
  obtain ⟨k,rfl⟩:=Int.eq_ofNat_of_zero_le (show 0≤q1 by dsimp only at b;omega)
  obtain ⟨l,rfl⟩:=Int.eq_ofNat_of_zero_le (show 0≤q2 by dsimp only at b;omega)
  dsimp only at a b
  have e1:=congrArg Prod.fst e
  have e2:=congrArg Prod.snd e
  unfold dF at e1 e2
  simp only [Int.toNat_natCast] at e1 e2
  have ij:nm i≠nm j:=fun z=>by have:=N.inj i j (by omega) (by omega) z;omega
  have kl:nm k≠nm l:=fun z=>by have:=N.inj k l (by omega) (by omega) z;omega
  by_cases z:nm i=nm k
  ·have e3:nm j=nm l:=by omega
   have i1:=N.inj i k (by omega) (by omega) z
   have i2:=N.inj j l (by omega) (by omega) e3
   rw [i1,i2]
  ·have e3:nm i=nm l:=by omega
   have e4:nm j=nm k:=by omega
   have i1:=N.inj i l (by omega) (by omega) e3
   have i2:=N.inj j k (by omega) (by omega) e4
   omega
 lt:=fun p hp=>by
  obtain ⟨q,hq,rfl⟩:=List.mem_map.mp hp
  have a:=h.lt q hq
  have n1:=N.lt q.1.toNat (by omega)
  have n2:=N.lt q.2.toNat (by omega)
  have ne:nm q.1.toNat≠nm q.2.toNat:=fun z=>by have:=N.inj _ _ (by omega) (by omega) z;omega
  unfold dF
  dsimp only
  omega
 b3:=by rw [List.length_map];exact h.b3
theorem e8.perm{n:Nat}{L L':List (Int×Int)}(h:e8 n L)(p:L'.Perm L):e8 n L':=⟨p.nodup_iff.mpr h.nd,fun q hq=>h.lt q (p.mem_iff.mp hq),by rw [p.length_eq];exact h.b3⟩
def cF(H:Hp)(t:Addr)(n:Nat)(L:List (Int×Int)):Prop:=∃(lt:Addr) (us:List V),H t=some (.tup [.int (n:Int),.ref lt])∧H lt=some (.tup us)∧aN H us L
def E2:Sp:=fun vs H Q _=>∃(l r:Addr) (n:Nat) (us ws:List V) (L:List (Int×Int)) (nm:Nat→Int),vs=[.int (n:Int),.ref l,.ref r]∧H l=some (.lst us)∧aN H us L∧e8 n L∧n≤30∧H r=some (.lst ws)∧ws.length=n∧(∀i,i<n→ws[i]?=some (.int (nm i)))∧tZ n nm ∧
 ∀(t:Addr) (L':List (Int×Int)) (H':Hp),aj H H'→H t=none→cF H' t n L'→e8 n L'→L'.Pairwise lexLt→L'.Perm (L.map (dF nm))→Q (.ref t) H'
theorem aN.pick{H:Hp}{us:List V}{M:List (Int×Int)}(h:aN H us M)(ns:List Nat)(hn:∀i∈ns,i<M.length):aN H (ns.map fun i=>us.getD i .aG) (ns.map fun i=>M.getD i (0,0)):=⟨by simp,fun k v p h1 h2=>by
 have hl:=h.1
 have hk:k<ns.length:=by
  have:=(List.getElem?_eq_some_iff.mp h1).1
  simpa using this
 have hi:=hn ns[k] (List.getElem_mem hk)
 rw [List.getElem?_map,List.getElem?_eq_getElem hk] at h1 h2
 cases h1
 cases h2
 dsimp only
 have aR:ns[k]<us.length:=by omega
 rw [getD_at hi]
 have e:us.getD ns[k] .aG=us[ns[k]]:=by simp [aR]
 rw [e]
 exact h.2 ns[k] _ _ (by simp [aR]) (by simp [hi])⟩
theorem E3{K:PySem.W.Frag}{wi:TI}{ρ:St→St}{tt:TT}{te:TE}{σ:St}{H:Hp}{Q:VK}{P a l:Addr}{xs:List V}(hn:xs.length<sizeLine)(nl:l≠P)(el:H l=some (.lst xs))(pc:bo H P a)
  (cZ:∀R:It→Hp→Prop,R (iX K l) H→wi σ H R)
  (test:∀(i:Nat) (x:V),xs[i]?=some x→∀(Hc:Hp) (R:Bool→Hp→Prop),ay P H Hc→bo Hc P a→(∀b H3,ay P Hc H3→bo H3 P a→R b H3)→tt (some x::ρ σ) Hc R)
  (elem:∀(x:V) (Hc:Hp) (R:VK),R x Hc→te (some x::ρ σ) Hc R)
  (fin:∀(D:Addr) (ys:List V) (Hc:Hp),D≠P→er P H D=none→ay P H Hc→bo Hc P a→ys.Sublist xs→Hc D=some (.lst ys)→Q (.ref D) Hc):fq wi ρ tt te σ H Q:=by
 refine cZ _ fun D nD=>?_
 have nP:=pc.ne nD
 have lD:l≠D:=fun e=>by rw [e,nD] at el;cases el
 refine ⟨fun i m ys Hc=>m=xs.length-i∧i≤xs.length∧Hc D=some (.lst ys)∧ay P H Hc∧bo Hc P a∧ys.Sublist (xs.take i),⟨_,rfl,Nat.zero_le _,ar,(ay.refl H).but nD,pc.upd nP,by simp⟩,?_⟩
 rintro i m ys Hc ⟨rfl,hi,eD,sH,yi,sub⟩
 refine ⟨eD,?_⟩
 have jj:=sH.at nl el
 by_cases a8:i<xs.length
 ·refine .inr ⟨⟨xs,xs[i],.of jj,by simp [a8]⟩,fun x H' hy=>?_⟩
  obtain ⟨rfl,hx⟩:=hy
  have ex:=hx xs (.of jj)
  refine test i x ex _ _ sH yi fun b H3 s3 p3=>?_
  have tk:xs.take (i+1)=xs.take i++[x]:=by rw [List.take_succ,ex];rfl
  have e3:=s3.at nP eD
  cases b with
  | true=>
   rw [if_pos rfl]
   refine elem x H3 _ ⟨e3,?_,xs.length-(i+1),by omega,rfl,a8,ar,(sH.trans s3).but nD,p3.upd nP,?_⟩
   ·have:=sub.length_le
    rw [List.length_take] at this
    omega
   ·rw [tk]
    exact sub.append (List.Sublist.refl _)
  | false=>
   rw [if_neg (by simp)]
   refine ⟨xs.length-(i+1),by omega,rfl,a8,e3,sH.trans s3,p3,?_⟩
   rw [tk]
   exact sub.trans (List.sublist_append_left _ _)
 ·have e:i=xs.length:=by omega
  subst e
  rw [List.take_length] at sub
  exact .inl ⟨⟨xs,.of jj,by omega⟩,fin D ys Hc nP (by rw [cL nP];exact nD) sH yi sub eD⟩
def cS(k:Nat)(d:List Nat):Prop:=d.Pairwise (fun a b=>b<a)∧∀x∈d,x<k
theorem cS.len:∀{d:List Nat} {k:Nat},cS k d→d.length≤k
 | [],_,_=>Nat.zero_le _
 | x::d,k,h=>by
  obtain ⟨h1,h2⟩:=List.pairwise_cons.mp h.1
  have:=cS.len (k:=x) ⟨h2,fun y hy=>h1 y hy⟩
  have:=h.2 x List.mem_cons_self
  rw [List.length_cons]
  omega
theorem cS.nil(k:Nat):cS k []:=⟨List.Pairwise.nil,fun x hx=>by cases hx⟩
theorem cS.sub{k:Nat}{d e:List Nat}(h:cS k d)(s:e.Sublist d):cS k e:=⟨h.1.sublist s,fun x hx=>h.2 x (s.subset hx)⟩
theorem cS.put{j k:Nat}{d:List Nat}(h:cS k d)(hk:k<j):cS j (k::d):=⟨List.pairwise_cons.mpr ⟨h.2,h.1⟩,fun x hx=>by
 rcases List.mem_cons.mp hx with rfl | hx
 ·exact hk
 ·have:=h.2 x hx
  omega⟩
theorem cS.nd{k:Nat}{d:List Nat}(h:cS k d):d.Nodup:=h.1.imp fun h=>by omega
def cG(d:List Nat):List V:=d.map fun(x:Nat)=>V.int (x:Int)
theorem t4:∀{d:List Nat} {ys:List V},ys.Sublist (cG d)→∃e:List Nat,e.Sublist d∧ys=cG e
 | [],ys,h=>⟨[],List.Sublist.refl _,by
  have h:ys.Sublist []:=h
  rw [List.sublist_nil.mp h]
  rfl⟩
 | x::d,ys,h=>by
  have h:ys.Sublist (V.int (x:Int)::cG d):=h
  cases h with
  | cons _ h=>
   obtain ⟨e,h1,h2⟩:=t4 h
   exact ⟨e,h1.cons _,h2⟩
  | cons_cons _ h=>
   obtain ⟨e,h1,h2⟩:=t4 h
   exact ⟨x::e,.cons_cons _ h1,by rw [h2];rfl⟩
structure gI (j:Nat) (L:List (Int×Int)):Prop where
 nd:L.Nodup
 lt:∀p∈L,0≤p.1∧p.1<p.2∧p.2<j
 b3:2*L.length≤j*(j-1)
theorem gI.nil:gI 1 []:=⟨List.nodup_nil,(fun p hp=>by cases hp),by simp⟩
theorem gI.ok{n:Nat}{L:List (Int×Int)}(h:gI n L):e8 n L:=⟨h.nd,h.lt,by
 have:=h.b3
 have:n*(n-1)≤n*n:=Nat.mul_le_mul_left _ (by omega)
 omega⟩
theorem gI.more{j:Nat}{L:List (Int×Int)}{d:List Nat}(h:gI j L)(hd:cS j d):gI (j+1) (L++d.map fun(x:Nat)=>((x:Int),(j:Int))) where
 nd:=by
  refine List.nodup_append.mpr ⟨h.nd,nq hd.nd fun p q _ _ e=>by
   have:=congrArg Prod.fst e
   dsimp only at this
   omega,fun p hp q hq e=>?_⟩
  obtain ⟨x,_,rfl⟩:=List.mem_map.mp hq
  have:=h.lt p hp
  rw [e] at this
  dsimp only at this
  omega
 lt:=fun p hp=>by
  rcases List.mem_append.mp hp with hp | hp
  ·have:=h.lt p hp
   omega
  ·obtain ⟨x,hx,rfl⟩:=List.mem_map.mp hp
   have:=hd.2 x hx
   dsimp only
   omega
 b3:=by
  have a:=h.b3
  have b:=hd.len
  rw [List.length_append,List.length_map,Nat.add_sub_cancel]
  cases j with
  | zero=>
   rw [Nat.zero_mul] at a
   rw [Nat.mul_zero]
   omega
  | succ j=>
   rw [Nat.add_sub_cancel] at a
   have e:(j+1+1)*(j+1)=(j+1)*j+2*(j+1):=by grind
   rw [e]
   omega
def E4(K:PySem.W.Frag):Sp:=fun vs H Q _=>∃(P a:Addr) (ns:List Int) (n:Nat),vs=[.ref P,.int (n:Int)]∧bo H P a∧aX K (er P H) a (ns.map V.int)∧1≤n∧n≤30 ∧
 ∀(r:Addr) (us:List V) (L:List (Int×Int)) (H':Hp),ay P H H'→bo H' P a→er P H r=none→r≠P→H' r=some (.lst us)→aN (er P H') us L→e8 n L→Q (.ref r) H'
def E5(H:Hp)(vs:List V)(j:Nat)(D:Nat→List Nat):Prop:=vs.length=j∧∀k,k<j→cS k (D k)∧∃b,vs[k]?=some (.ref b)∧H b=some (.lst (cG (D k)))
theorem t7{P r:Addr}{H:Hp}{o:HO}:∀b o',b≠r→er P H b=some o'→er P (upd H r o) b=some o':=fun b o' nb e=>by
 by_cases z:b=P
 ·subst z
  unfold er at e
  rw [if_pos rfl] at e
  cases e
 ·rw [cL z] at e ⊢
  rw [aA nb]
  exact e
theorem aN.cat{H:Hp}{us zs:List V}{L M:List (Int×Int)}(h:aN H us L)(g:aN H zs M):aN H (us++zs) (L++M):=⟨by simp [h.1,g.1],fun k v p h1 h2=>by
 have hl:=h.1
 by_cases z:k<us.length
 ·rw [List.getElem?_append_left z] at h1
  rw [List.getElem?_append_left (by omega)] at h2
  exact h.2 k v p h1 h2
 ·rw [List.getElem?_append_right (by omega)] at h1
  rw [List.getElem?_append_right (by omega),show k-L.length=k-us.length by omega] at h2
  exact g.2 _ v p h1 h2⟩
theorem E6{d:List Nat}{i:Nat}{x:V}(h:(cG d)[i]?=some x):∃y,d[i]?=some y∧x=.int (y:Int):=by
 unfold cG at h
 rw [List.getElem?_map] at h
 cases e:d[i]? with
 | none=>rw [e] at h;cases h
 | some y=>rw [e] at h;cases h;exact ⟨y,rfl,rfl⟩
theorem nu{P a b:Addr}{H:Hp}{xs:List V}(p:bo H P a)(e:H b=some (.tup xs)):er P H b=some (.tup xs):=by
 refine tE (fun z=>?_) e
 obtain ⟨x,y,eP,_⟩:=p
 rw [z,eP] at e
 cases e
structure dh (j i:Nat) (L:List (Int×Int)):Prop where
 nd:L.Nodup
 lt:∀p∈L,0≤p.1∧p.1<p.2∧(p.2<j∨p.2=j∧p.1<i)
 b3:2*L.length≤j*(j-1)+2*i
theorem dh.start:dh 0 0 []:=⟨List.nodup_nil,(fun p hp=>by cases hp),by simp⟩
theorem dh.skip{j i:Nat}{L:List (Int×Int)}(h:dh j i L):dh j (i+1) L:=⟨h.nd,fun p hp=>by
 have:=h.lt p hp
 omega,by
 have:=h.b3
 omega⟩
theorem dh.push{j i:Nat}{L:List (Int×Int)}(h:dh j i L)(hi:i<j):dh j (i+1) (L++[((i:Int),(j:Int))]) where
 nd:=by
  refine List.nodup_append.mpr ⟨h.nd,by simp,fun p hp q hq e=>?_⟩
  rw [List.mem_singleton.mp hq] at e
  have:=h.lt p hp
  rw [e] at this
  dsimp only at this
  omega
 lt:=fun p hp=>by
  rcases List.mem_append.mp hp with hp | hp
  ·have:=h.lt p hp
   omega
  ·rw [List.mem_singleton.mp hp]
   dsimp only
   omega
 b3:=by
  have:=h.b3
  rw [List.length_append,List.length_singleton]
  omega
theorem dh.next{j:Nat}{L:List (Int×Int)}(h:dh j j L):dh (j+1) 0 L:=⟨h.nd,fun p hp=>by
 have:=h.lt p hp
 omega,by
 have a:=h.b3
 rw [Nat.add_sub_cancel]
 cases j with
 | zero=>omega
 | succ j=>
  rw [Nat.add_sub_cancel] at a
  have e:(j+1+1)*(j+1)=(j+1)*j+2*(j+1):=by grind
  rw [e]
  omega⟩
theorem dh.ok{n:Nat}{L:List (Int×Int)}(h:dh n 0 L):e8 n L:=⟨h.nd,fun p hp=>by
 have:=h.lt p hp
 omega,by
 have:=h.b3
 have:n*(n-1)≤n*n:=Nat.mul_le_mul_left _ (by omega)
 omega⟩
theorem E7(n:Nat):(bW n).Nodup:=nq List.nodup_range fun p q _ _ e=>by
 have:=V.int.inj e
 omega
theorem E8{n:Nat}{ys:List V}(h:ys.Perm (bW n)):∃nm:Nat→Int,ys.length=n∧(∀i,i<n→ys[i]?=some (.int (nm i)))∧tZ n nm:=by
 have ln:ys.length=n:=by rw [h.length_eq];unfold bW;simp
 have nd:ys.Nodup:=h.nodup_iff.mpr (E7 n)
 have each:∀i,∃x:Int,i<n→ys[i]?=some (.int x)∧0≤x∧x<n:=fun i=>by
  by_cases hi:i<n
  ·have aR:i<ys.length:=by omega
   have m:ys[i]∈bW n:=h.mem_iff.mp (List.getElem_mem aR)
   obtain ⟨k,hk,e⟩:=List.mem_map.mp m
   have:=List.mem_range.mp hk
   exact ⟨(k:Int),fun _=>⟨by rw [e];simp [aR],by omega,by omega⟩⟩
  ·exact ⟨0,fun z=>absurd z hi⟩
 obtain ⟨nm,hn⟩:=Classical.axiomOfChoice each
 refine ⟨nm,ln,fun i hi=>(hn i hi).1,fun i hi=>(hn i hi).2,fun i j hi hj e=>?_⟩
 have a:=(hn i hi).1
 have b:=(hn j hj).1
 rw [e] at a
 have aR:i<ys.length:=by omega
 have cC:j<ys.length:=by omega
 rw [List.getElem?_eq_getElem aR] at a
 rw [List.getElem?_eq_getElem cC] at b
 exact (List.getElem_inj nd).mp ((Option.some.inj a).trans (Option.some.inj b).symm)
def E9(K:PySem.W.Frag):Sp:=fun vs H Q _=>∃(P a:Addr) (ns:List Int) (most:Nat),vs=[.ref P,.int (most:Int)]∧bo H P a∧aX K (er P H) a (ns.map V.int)∧1≤most∧most≤30 ∧
 ∀(t:Addr) (n:Nat) (L:List (Int×Int)) (H':Hp),ay P H H'→bo H' P a→er P H t=none→t≠P→cF (er P H') t n L→e8 n L→L.Pairwise lexLt→1≤n→n≤most→Q (.ref t) H'
theorem aN.er{P a:Addr}{H:Hp}{us:List V}{L:List (Int×Int)}(h:aN H us L)(p:bo H P a):aN (er P H) us L:=⟨h.1,fun k v q h1 h2=>by
 obtain ⟨b,e,g⟩:=h.2 k v q h1 h2
 exact ⟨b,e,nu p g⟩⟩
theorem cF.er{P a t:Addr}{H:Hp}{n:Nat}{L:List (Int×Int)}(h:cF H t n L)(p:bo H P a):cF (er P H) t n L:=by
 obtain ⟨lt,us,h1,h2,h3⟩:=h
 exact ⟨lt,us,nu p h1,nu p h2,h3.er p⟩
theorem cF.mono{t:Addr}{H H':Hp}{n:Nat}{L:List (Int×Int)}(h:cF H t n L)(s:aj H H'):cF H' t n L:=by
 obtain ⟨lt,us,h1,h2,h3⟩:=h
 exact ⟨lt,us,s _ _ h1,s _ _ h2,h3.mono s⟩
theorem E_{wi:TI}{ρ:St→St}{tt:TT}{te:TE}{σ:St}{H:Hp}{Q:VK}{xs:List V}(pr:Nat→Bool)(cZ:∀R:It→Hp→Prop,(∀J,h9 J xs H→R J H)→wi σ H R)(hn:xs.length<sizeLine)
  (P:Addr→Nat→V→Hp→Prop) (mono:∀D i y H H' ys,P D i y H→H D=some (.lst ys)→(∀b o,b≠D→H b=some o→H' b=some o)→P D i y H')
  (test:∀(i:Nat) (x:V),xs[i]?=some x→∀(Hc:Hp) (R:Bool→Hp→Prop),aj H Hc→R (pr i) Hc→tt (some x::ρ σ) Hc R)
  (step:∀D (i:Nat) (x:V),xs[i]?=some x→∀(Hc:Hp) (R:VK),aj H Hc→(∃ys,Hc D=some (.lst ys))→(∀y H3,aj Hc H3→P D i y H3→R y H3)→te (some x::ρ σ) Hc R)
  (fin:∀D ys Hc,H D=none→aj H Hc→ys.length=((List.range xs.length).filter pr).length→(∀(k i:Nat) (y:V),ys[k]?=some y→((List.range xs.length).filter pr)[k]?=some i→P D i y Hc)→Hc D=some (.lst ys)→Q (.ref D) Hc):fq wi ρ tt te σ H Q:=by
 refine cZ _ fun J js=>?_
 intro D nD
 refine ⟨fun i m ys Hc=>m=xs.length-i∧i≤xs.length∧Hc D=some (.lst ys)∧aj H Hc∧ys.length=((List.range i).filter pr).length∧∀(k i':Nat) (y:V),ys[k]?=some y→((List.range i).filter pr)[k]?=some i'→P D i' y Hc,⟨_,rfl,Nat.zero_le _,ar,cV (aj.refl H) nD,rfl,fun k i y h=>by simp at h⟩,?_⟩
 rintro i m ys Hc ⟨rfl,hi,eD,sH,ly,hP⟩
 refine ⟨eD,?_⟩
 by_cases a8:i<xs.length
 ·refine .inr ⟨js.go i Hc sH a8,fun x H' hy=>?_⟩
  obtain ⟨rfl,hx⟩:=js.cn i Hc x H' sH hy
  refine test i x (hx a8) _ _ sH ?_
  have fs:(List.range (i+1)).filter pr=(List.range i).filter pr++(if pr i=true then [i] else []):=by
   rw [List.range_succ,List.filter_append]
   congr 1
   cases e:pr i <;> simp [e]
  have fl:((List.range i).filter pr).length≤i:=Nat.le_trans (List.length_filter_le _ _) (by simp)
  cases e:pr i with
  | true=>
   rw [if_pos rfl]
   refine step D i x (hx a8) _ _ sH ⟨_,eD⟩ fun y H3 s3 hp=>?_
   have e3:=s3 _ _ eD
   have bb:∀b o,b≠D→H3 b=some o→upd H3 D (.lst (ys++[y])) b=some o:=fun b o nb e=>by rw [aA nb];exact e
   refine ⟨e3,by omega,xs.length-(i+1),by omega,rfl,a8,ar,cV (sH.trans s3) nD,?_,fun k i' y' h1 h2=>?_⟩
   ·rw [fs,e,if_pos rfl,List.length_append,List.length_append,ly]
    rfl
   ·rw [fs,e,if_pos rfl] at h2
    by_cases z:k<ys.length
    ·rw [List.getElem?_append_left z] at h1
     rw [List.getElem?_append_left (by omega)] at h2
     refine mono D i' y' H' _ ys (hP k i' y' h1 h2) eD fun b o nb e=>bb b o nb (s3 _ _ e)
    ·have hk:=(List.getElem?_eq_some_iff.mp h1).1
     rw [List.length_append,List.length_singleton] at hk
     obtain rfl:k=ys.length:=by omega
     rw [List.getElem?_append_right (Nat.le_refl _),Nat.sub_self] at h1
     rw [List.getElem?_append_right (by omega),show ys.length-((List.range i).filter pr).length=0 by omega] at h2
     cases h1
     cases h2
     exact mono D _ _ H3 _ ys hp e3 bb
  | false=>
   rw [if_neg (by simp)]
   refine ⟨xs.length-(i+1),by omega,rfl,a8,eD,sH,?_,fun k i' y' h1 h2=>?_⟩
   ·rw [fs,e,if_neg (by simp),List.append_nil]
    exact ly
   ·rw [fs,e,if_neg (by simp),List.append_nil] at h2
    exact hP k i' y' h1 h2
 ·have e:i=xs.length:=by omega
  subst e
  exact .inl ⟨js.stop _ Hc sH (Nat.le_refl _),fin D ys Hc nD sH ly hP eD⟩
theorem t8{p:Int×Int}:¬lexLt p p:=fun h=>by
 unfold lexLt at h
 omega
theorem Fb{p q:Int×Int}(h1:lexLt p q)(h2:lexLt q p):False:=by
 unfold lexLt at h1 h2
 omega
theorem yj:∀{A B:List (Int×Int)},A.Pairwise lexLt→B.Pairwise lexLt→(∀p,p∈A↔p∈B)→A=B
 | [],[],_,_,_=>rfl
 | [],b::B,_,_,h=>absurd ((h b).mpr List.mem_cons_self) (by simp)
 | a::A,[],_,_,h=>absurd ((h a).mp List.mem_cons_self) (by simp)
 | a::A,b::B,ha,hb,h=>by
  obtain ⟨a1,a2⟩:=List.pairwise_cons.mp ha
  obtain ⟨b1,b2⟩:=List.pairwise_cons.mp hb
  have e:a=b:=by
   rcases List.mem_cons.mp ((h a).mp List.mem_cons_self) with z | z
   ·exact z
   ·rcases List.mem_cons.mp ((h b).mpr List.mem_cons_self) with y | y
    ·exact y.symm
    ·exact (Fb (b1 a z) (a1 b y)).elim
  subst e
  rw [yj a2 b2 fun p=>⟨fun m=>?_,fun m=>?_⟩]
  ·rcases List.mem_cons.mp ((h p).mp (List.mem_cons_of_mem _ m)) with z | z
   ·subst z
    exact (t8 (a1 _ m)).elim
   ·exact z
  ·rcases List.mem_cons.mp ((h p).mpr (List.mem_cons_of_mem _ m)) with z | z
   ·subst z
    exact (t8 (b1 _ m)).elim
   ·exact z
end My
namespace L2
open PySem PySem.Spec PyProof.Rows
end L2
namespace My
open PySem L2
def t9(n:Nat)(L:List (Int×Int)):Tr:=.tp [.fl (.int (n:Int)),.tp (L.map fun p=>.tp [.fl (.int p.1),.fl (.int p.2)])]
theorem yk{H:Hp}{t:Addr}{n:Nat}{L:List (Int×Int)}(h:cF H t n L):fA H (t9 n L) (.ref t):=by
 obtain ⟨lt,us,e1,e2,h3⟩:=h
 refine .tp e1 rfl fun i v tr h1 h2=>?_
 match i,h1,h2 with
 | 0,h1,h2=>cases h1;cases h2;exact .fl rfl
 | 1,h1,h2=>
  cases h1
  cases h2
  refine .tp e2 (by rw [List.length_map];exact h3.1) fun k v tr g1 g2=>?_
  have hk:k<L.length:=by
   have:=(List.getElem?_eq_some_iff.mp g2).1
   simpa using this
  rw [List.getElem?_map,List.getElem?_eq_getElem hk] at g2
  cases g2
  obtain ⟨b,rfl,eb⟩:=h3.2 k v L[k] g1 (by simp [hk])
  refine .tp eb rfl fun m v tr f1 f2=>?_
  match m,f1,f2 with
  | 0,f1,f2=>cases f1;cases f2;exact .fl rfl
  | 1,f1,f2=>cases f1;cases f2;exact .fl rfl
  | m+2,f1,_=>cases f1
 | i+2,h1,_=>cases h1
theorem Fc(n:Nat)(L:List (Int×Int)):(t9 n L).In 3:=fun t ht=>by
 rcases List.mem_cons.mp ht with rfl | ht
 ·trivial
 ·rw [List.mem_singleton.mp ht]
  intro u hu
  obtain ⟨p,_,rfl⟩:=List.mem_map.mp hu
  intro w hw
  rcases List.mem_cons.mp hw with rfl | hw
  ·trivial
  ·rw [List.mem_singleton.mp hw];trivial
end My
namespace L2
open PySem PySem.Spec PyProof.Rows
section
variable (P:Program) (w:World)
end
section
variable {P:Program} {w:World} {H H':Hp} {h h':Heap} {a:Addr} {o:HO}
end
section
variable {P:Program} {w:World} {H:Hp} {h h':Heap} {x e:Addr} {o':HO}
end
section
variable {fs gT ex d9:List Addr} {H H1 H2:Hp} {h h1 h2 h':Heap} {a x e:Addr} {o:HO}
end
section
variable {X:Cx} {pins:List (Addr×Obj)} {σ:List (Option V)} {H H':Hp} {s:Shared} {h':Heap}
end
section
variable {X:Cx}
variable {a b:Expr} {ta tb:TE} {pos:Pos}
variable {tA rF:TT} {rest:List Expr}
end
section
variable {X:Cx} {pins:List (Addr×Obj)} {σ:St} {H:Hp} {s:Shared} {a:Addr} {xs ys:List V}
end
section
variable {X:Cx} {pins:List (Addr×Obj)} {σ:St} {H:Hp} {s:Shared} {E:Value→Shared→Prop}
end
section
variable {X:Cx} {st:Stmt} {rest:List Stmt} {t u:TS} {e:Expr} {te:TE} {pos:Pos}
end
section
variable {X:Cx} {pos:Pos}
end
section
variable {X:Cx} {pos:Pos}
end
section
variable {X:Cx} {tg:Expr}
end
section
variable {X:Cx} {a b c:Expr} {ta tb tc:TE} {pos:Pos}
end
section
variable {X:Cx} {a b c:Expr} {ta tb tc:TE} {pos:Pos}
end
section
variable {prog:Program} {w:World} {A:Around} {E:Value→Shared→Prop} {s:Shared} {K:PySem.W.Frag} {x dx C f:Addr} {mA:Str→Option Value} {name:Str} {v:Value}
end
section
variable {P:Program} {w:World} {H H':Hp} {h h':Heap} {a C dx:Addr} {fs gT:List (Str×V)}
end
section
variable {X:Cx} {pins:List (Addr×Obj)} {σ:St} {H:Hp} {s:Shared} {a C dx:Addr} {fs:List (Str×V)} {f:Str} {v:V} {A:Around} {E:Value→Shared→Prop}
end
section
variable {X:Cx} {o e value:Expr} {f:Str} {pos pos' kf:Pos} {ta tv:TE}
end
section
variable {X:Cx} {pins:List (Addr×Obj)} {σ:St} {H:Hp} {s:Shared} {A:Around} {E:Value→Shared→Prop} {Q:Value→Shared→Prop} {c:Value} {b:Bool}
end
section
variable {X:Cx} {e:Expr} {es:List Expr} {te:TE} {t:TA} {pos:Pos}
end
section
variable {X:Cx} {pins:List (Addr×Obj)} {σ:St} {H:Hp} {s s':Shared}
end
section
variable {X:Cx} {CX:dw} {k:Nat} {f C:Addr} {fd:FuncData} {ps:List Str} {sp:Sp} {fS:List V} {ds:List Value} {E:XK} {x m:Str} {p pos apos:Pos} {e o:Expr} {es:List Expr} {ta:TE} {t:TA}
end
section
variable {X:Cx} {CX:dw} {k:Nat} {f C:Addr} {fd:FuncData} {ps ks:List Str} {sp:Sp} {E:XK} {x m:Str} {p pos apos wD:Pos} {e o:Expr} {es:List Expr} {Cd:List Keyword} {te ta:TE} {t tk:TA} {nm:Option Str}
variable {g:List Value→List Value→List Value} {gV:List V→List V→List V}
end
section
variable {X:Cx} {x:Str} {p pos:Pos} {e:Expr} {es:List Expr} {t:TA} {id T:String} {r:List V→Hp→VK→Prop}
end
section
variable {κ:Type} [DecidableEq κ]
def eF(ai:List (κ×V))(k:κ):Option V:=(ai.find? fun kv=>decide (kv.1=k)).map (·.2)
def putK(ai:List (κ×V))(k:κ)(v:V):List (κ×V):=
 if (ai.any fun kv=>decide (kv.1=k))=true then ai.map (fun kv=>if kv.1=k then (kv.1,v) else kv) else ai++[(k,v)]
theorem pR{p:κ×V}{r:List (κ×V)}{k:κ}(e:p.1=k):eF (p::r) k=some p.2:=by simp [eF,List.find?_cons,e]
theorem pS{p:κ×V}{r:List (κ×V)}{k:κ}(e:¬p.1=k):eF (p::r) k=eF r k:=by simp [eF,List.find?_cons,e]
theorem yl(k:κ):∀ai:List (κ×V),(ai.any fun kv=>decide (kv.1=k))=(eF ai k).isSome
 | []=>rfl
 | p::r=>by
  rw [List.any_cons]
  by_cases e:p.1=k
  ·simp only [pR e,decide_eq_true e,Bool.true_or,Option.isSome_some]
  ·rw [pS e,decide_eq_false e,Bool.false_or];exact yl k r
theorem t_(ai:List (κ×V))(k:κ)(v:V):(putK ai k v).length≤ai.length+1:=by
 unfold putK
 split
 ·rw [List.length_map];omega
 ·rw [List.length_append,List.length_cons,List.length_nil];omega
theorem iK.nz{o:Option V}{u:Option Value}(r:iK o u):o.isSome=u.isSome:=by
 cases o with
 | none=>cases u with
  | none=>rfl
  | some _=>exact (show False from r).elim
 | some _=>cases u with
  | none=>exact (show False from r).elim
  | some _=>rfl
theorem KV.val{ai:List (κ×V)}{vs:List (κ×Value)}(r:KV ai vs)(k:κ):iK (eF ai k) (valueAt vs k):=by
 unfold KV at r
 induction r with
 | nil=>exact True.intro
 | @cons p q ps qs h t ih=>
  obtain ⟨h1,h2⟩:=h
  by_cases e:p.1=k
  ·have e':q.1=k:=h1.symm.trans e
   have b:valueAt (q::qs) k=some q.2:=by simp [valueAt,List.find?_cons,e']
   rw [pR e,b];exact h2
  ·have e':¬q.1=k:=fun z=>e (h1.trans z)
   have b:valueAt (q::qs) k=valueAt qs k:=by simp [valueAt,List.find?_cons,e']
   rw [pS e,b];exact ih
theorem KV.any{ai:List (κ×V)}{vs:List (κ×Value)}(r:KV ai vs)(k:κ):(ai.any fun kv=>decide (kv.1=k))=vs.any fun kv=>decide (kv.1=k):=by
 unfold KV at r
 induction r with
 | nil=>rfl
 | cons h t ih=>rw [List.any_cons,List.any_cons,ih,h.1]
theorem KV.ua{ai:List (κ×V)}{vs:List (κ×Value)}(r:KV ai vs)(k:κ){y:V}{u:Value}(ry:RelV y u) :
  KV (ai.map fun kv=>if kv.1=k then (kv.1,y) else kv) (vs.map fun kv=>if kv.1=k then (kv.1,u) else kv):=by
 unfold KV at r ⊢
 induction r with
 | nil=>exact .nil
 | @cons p q ps qs h t ih=>
  rw [List.map_cons,List.map_cons]
  refine .cons ?_ ih
  obtain ⟨h1,h2⟩:=h
  by_cases e:p.1=k
  ·rw [if_pos e,if_pos (h1.symm.trans e)];exact ⟨h1,ry⟩
  ·rw [if_neg e,if_neg (fun z=>e (h1.trans z))];exact ⟨h1,h2⟩
theorem KV.put{ai:List (κ×V)}{vs:List (κ×Value)}(r:KV ai vs)(k:κ){y:V}{u:Value}(ry:RelV y u):KV (putK ai k y) (stored vs k u):=by
 unfold putK stored
 rw [r.any k]
 by_cases e:(vs.any fun kv=>decide (kv.1=k))=true
 ·rw [if_pos e,if_pos e];exact r.ua k ry
 ·rw [if_neg e,if_neg e];exact Paired.snoc r ⟨rfl,ry⟩
theorem KV.length{ai:List (κ×V)}{vs:List (κ×Value)}(r:KV ai vs):ai.length=vs.length:=Paired.length r
end
theorem nC{P:Program}{w:World}{k:Key}{u:Value}(r:RelV (kV k) u):(cN P w).is k u=true:=by
 cases k with
 | inl i=>obtain ⟨t,e⟩:=(show ∃t,u=Value.int i t from r);subst e;exact Bf P w i t
 | inr x=>obtain ⟨t,e⟩:=(show ∃t,u=Value.str x t from r);subst e;exact Bg P w x t
theorem ym{P:Program}{w:World}:∀{ks:List Key} {us:List Value},Vals (ks.map kV) us→ItemsAre (cN P w) ks us
 | [],_,r=>by rw [List.map_nil] at r;cases r;exact .nil
 | k::ks,_,r=>by
  rw [List.map_cons] at r
  cases r with
  | cons h t=>exact .cons (nC h) (ym t)
abbrev KT (H:Hp):List (List Key×V)→List (List Key×Addr×Value)→Prop:=Paired fun p q=>p.1=q.1∧H q.2.1=some (.tup (p.1.map kV))∧RelV p.2 q.2.2
theorem KT.val{H:Hp}{ai:List (List Key×V)}{xs:List (List Key×Addr×Value)}(r:KT H ai xs)(k:List Key):iK (eF ai k) ((atKey xs k).map (·.2)):=by
 induction r with
 | nil=>exact True.intro
 | @cons p q ps qs h t ih=>
  obtain ⟨h1,_,h2⟩:=h
  by_cases e:p.1=k
  ·have e':q.1=k:=h1.symm.trans e
   have b:atKey (q::qs) k=some q.2:=by simp [atKey,List.find?_cons,e']
   rw [pR e,b];exact h2
  ·have e':¬q.1=k:=fun z=>e (h1.trans z)
   have b:atKey (q::qs) k=atKey qs k:=by simp [atKey,List.find?_cons,e']
   rw [pS e,b];exact ih
theorem KT.ua{H:Hp}{ai:List (List Key×V)}{xs:List (List Key×Addr×Value)}(r:KT H ai xs)(k:List Key){y:V}{u:Value}(ry:RelV y u) :
  KT H (ai.map fun kv=>if kv.1=k then (kv.1,y) else kv) (xs.map (putAt k u)):=by
 induction r with
 | nil=>exact .nil
 | @cons p q ps qs h t ih=>
  rw [List.map_cons,List.map_cons]
  refine .cons ?_ ih
  obtain ⟨h1,h2,h3⟩:=h
  unfold putAt
  by_cases e:p.1=k
  ·rw [if_pos e,if_pos (h1.symm.trans e)];exact ⟨h1,h2,ry⟩
  ·rw [if_neg e,if_neg (fun z=>e (h1.trans z))];exact ⟨h1,h2,h3⟩
theorem KT.put{H:Hp}{ai:List (List Key×V)}{xs:List (List Key×Addr×Value)}(r:KT H ai xs)(k:List Key){b:Addr}{y:V}{u:Value}(hb:H b=some (.tup (k.map kV)))(ry:RelV y u) :
  KT H (putK ai k y) (storedH xs k b u):=by
 have e:(ai.any fun kv=>decide (kv.1=k))=(atKey xs k).isSome:=by
  rw [yl,(r.val k).nz,Option.isSome_map]
 unfold putK storedH
 rw [e]
 by_cases q:(atKey xs k).isSome=true
 ·rw [if_pos q,if_pos q];exact r.ua k ry
 ·rw [if_neg q,if_neg q];exact Paired.snoc r ⟨rfl,hb,ry⟩
theorem KT.keeps{H H':Hp}{ai:List (List Key×V)}{xs:List (List Key×Addr×Value)}(r:KT H ai xs)(ht:∀b ys,H b=some (.tup ys)→H' b=some (.tup ys)):KT H' ai xs:=
 Paired.rB r fun _ _ z=>⟨z.1,ht _ _ z.2.1,z.2.2⟩
section
variable {P:Program} {w:World} {H:Hp} {h:Heap} {a:Addr}
theorem yn{u:HO}(ok:a9 P w H h)(e:Rd H a u):a7 P w H h a u:=e.ok ok
theorem ub{ai:List (Key×V)}(ok:a9 P w H h)(e:Rd H a (.dK ai)):ai.length≤sizeLine∧(a == sysModules)=false∧∃vs,KV ai vs∧h.DictOf (cN P w) a vs:=
 show a7 P w H h a (.dK ai) from yn ok e
theorem yo{ai:List (Key×V)}(ok:a9 P w H h)(e:H a=some (.dK ai)):ai.length≤sizeLine∧(a == sysModules)=false∧∃vs,KV ai vs∧h.DictOf (cN P w) a vs:=ub ok (.inl e)
theorem pU{ks:List Key}(ok:a9 P w H h)(e:H a=some (.tup (ks.map kV))):(tupleKind (cN P w)).is h ks a:=by
 obtain ⟨_,aa,r,o,h1,h2,n,h3⟩:=(show a7 P w H h a (.tup (ks.map kV)) from ok a _ e)
 exact ⟨o,aa.toArray,n,h1,h2,h3,by simpa using ym r⟩
theorem uc{ai:List (List Key×V)}(ok:a9 P w H h)(e:Rd H a (.dT ai)):ai.length≤sizeLine∧(a == sysModules)=false ∧
  ∃xs,KT H ai xs∧h.DictOfH (tupleKind (cN P w)) a xs:=by
 obtain ⟨z,y,xs,r,o,es,ep,h1,h2,h3,h4,h5⟩:=(show a7 P w H h a (.dT ai) from yn ok e)
 refine ⟨z,y,xs,r,o,es,ep,h1,h2,h3,h4,fun x hx=>?_,h5⟩
 have all:∀{l:List (List Key×V)} {m:List (List Key×Addr×Value)},KT H l m→∀x∈m,(tupleKind (cN P w)).is h x.1 x.2.1:=by
  intro l m q
  induction q with
  | nil=>intro x hx;exact nomatch hx
  | @cons p q ps qs hq t ih=>
   intro x hx
   rcases List.mem_cons.mp hx with e | hx
   ·subst e
    exact pU ok (by rw [←hq.1];exact hq.2.1)
   ·exact ih x hx
 exact all r x hx
theorem Fd{ai:List (List Key×V)}(ok:a9 P w H h)(e:H a=some (.dT ai)):ai.length≤sizeLine∧(a == sysModules)=false ∧
  ∃xs,KT H ai xs∧h.DictOfH (tupleKind (cN P w)) a xs:=uc ok (.inl e)
end
def pV(H:Hp)(a:Addr)(y:V)(r:Option V):Prop:=
 (∃ai k,Rd H a (.dK ai)∧y=kV k∧r=eF ai k)∨∃ai k b,Rd H a (.dT ai)∧y=.ref b∧H b=some (.tup (k.map kV))∧r=eF ai k
def ud(H:Hp)(a:Addr)(y v:V)(H':Hp):Prop:=
 (∃ai k,H a=some (.dK ai)∧y=kV k∧ai.length<sizeLine∧H'=upd H a (.dK (putK ai k v))) ∨
 ∃ai k b,H a=some (.dT ai)∧y=.ref b∧H b=some (.tup (k.map kV))∧ai.length<sizeLine∧H'=upd H a (.dT (putK ai k v))
section
variable {X:Cx} {pins:List (Addr×Obj)} {σ:St} {H:Hp} {s:Shared} {a:Addr} {y v:V} {u r:Value} {o:Option V} {A:Around} {E:Value→Shared→Prop}
theorem Inv.big(I:Inv X pins σ H s):sysModules<s.heap.objs.size:=by
 have h:mainGlobals<s.heap.objs.size:=(I.mod.glob.keeps I.bk).lt
 exact Nat.lt_trans (by decide) h
theorem Fe{Q:Value→Shared→Prop}(hu:A.units+1<cLine)(I:Inv X pins σ H s)(g:pV H a y o)(ry:RelV y u)(h:∀s',Inv X pins σ H s'→Q (.bool o.isSome) s') :
  wpAny (model X.prog X.w) A (compareOp .In u (.ref a)) Q E s:=by
 rcases g with ⟨ai,k,e,ey,l⟩ | ⟨ai,k,b,e,ey,eb,l⟩
 ·subst ey
  obtain ⟨z,hd,vs,rel,dd⟩:=ub I.aq e
  refine wpAny_in_of (nC ry) hd dd.mapOf ?_
  rw [←(rel.val k).nz,←l]
  exact h _ (I.tok _)
 ·subst ey
  cases (show u=Value.ref b from ry)
  obtain ⟨z,hd,xs,rel,dd⟩:=uc I.aq e
  refine wpAny_in_heap (tupleKind_room_in1 hu) (pU I.aq eb) hd dd ?_
  have q:=(rel.val k).nz
  rw [Option.isSome_map] at q
  rw [←q,←l]
  exact h _ (I.tok _)
theorem Ff{Q:Value→Shared→Prop}(hu:A.units+1<cLine)(I:Inv X pins σ H s)(g:pV H a y o)(ry:RelV y u)(h:∀s',Inv X pins σ H s'→Q (.bool (!o.isSome)) s') :
  wpAny (model X.prog X.w) A (compareOp .NotIn u (.ref a)) Q E s:=by
 rcases g with ⟨ai,k,e,ey,l⟩ | ⟨ai,k,b,e,ey,eb,l⟩
 ·subst ey
  obtain ⟨z,hd,vs,rel,dd⟩:=ub I.aq e
  refine wpAny_notIn_of (nC ry) hd dd.mapOf ?_
  rw [←(rel.val k).nz,←l]
  exact h _ (I.tok _)
 ·subst ey
  cases (show u=Value.ref b from ry)
  obtain ⟨z,hd,xs,rel,dd⟩:=uc I.aq e
  refine wpAny_notIn_heap (tupleKind_room_in1 hu) (pU I.aq eb) hd dd ?_
  have q:=(rel.val k).nz
  rw [Option.isSome_map] at q
  rw [←q,←l]
  exact h _ (I.tok _)
theorem ue{h':Heap}{t':Nat}{ob:HO}(I:Inv X pins σ H s)(mu:mx (H a))(hs:Heap.SameBut a s.heap h')(he:∃q,h'.get? a=some q)(new:a7 X.prog X.w (upd H a ob) h' a ob) :
  Inv X pins σ (upd H a ob) {s with heap:=h',toks:=t'}:=
 I.write (x:=a) (e:=a) mu (.inl rfl) (fun b q hb z=>(hs.2 b hb).trans z) he new
theorem yp{P:Program}{w:World}{H':Hp}{h':Heap}{ai:List (Key×V)}{vs:List (Key×Value)}(z:ai.length≤sizeLine)(hd:(a == sysModules)=false)(rel:KV ai vs)(dd:h'.DictOf (cN P w) a vs) :
  a7 P w H' h' a (.dK ai):=⟨z,hd,vs,rel,dd⟩
theorem Fg{H':Hp}{Q:Unit→Shared→Prop}(hu:A.units+1<cLine)(I:Inv X pins σ H s)(g:ud H a y v H')(ry:RelV y u)(rv:RelV v r)(h:∀s',Inv X pins σ H' s'→Q () s') :
  wpAny (model X.prog X.w) A (setItem (.ref a) u r) Q E s:=by
 rcases g with ⟨ai,k,e,ey,l,eH⟩ | ⟨ai,k,b,e,ey,eb,l,eH⟩
 ·subst ey eH
  obtain ⟨z,hd,vs,rel,dd⟩:=yo I.aq e
  have hz:vs.length≤sizeLine:=by rw [←rel.length];exact z
  have hl:(putK ai k v).length≤sizeLine:=by have:=t_ ai k v;omega
  refine wpAny_setItem_pairs (hsz:=hz) (nC ry) dd fun h' hG hs=>h _ ?_
  have he:∃q,h'.get? a=some q:=let ⟨q,_,_,hq,_⟩:=hG;⟨q,hq⟩
  exact ue I (by rw [e];exact True.intro) hs he (yp hl hd (rel.put k rv) hG)
 ·subst ey eH
  cases (show u=Value.ref b from ry)
  obtain ⟨z,hd,xs,rel,dd⟩:=Fd I.aq e
  have hz:xs.length≤sizeLine:=by rw [←Paired.length rel];exact z
  have hl:(putK ai k v).length≤sizeLine:=by have:=t_ ai k v;omega
  refine wpAny_setItem_heap (hsz:=hz) (tupleKind_room_in1 hu) (pU I.aq eb) dd fun h' hG hs=>h _ ?_
  obtain ⟨q,es,ep,hq,h2,h3,h4,_,h5⟩:=hG
  refine ue I (by rw [e];exact True.intro) hs ⟨q,hq⟩ ⟨hl,hd,_,(rel.put k eb rv).keeps fun c ys ec=>?_,q,es,ep,hq,h2,h3,h4,h5⟩
  rw [aA (Bh ec e (fun z=>nomatch z))]
  exact ec
end
section
variable {X:Cx} {pins:List (Addr×Obj)} {σ:St} {H:Hp} {s:Shared} {a:Addr} {ai:List (Key×V)} {k:Key} {u:Value} {A:Around} {E:Value→Shared→Prop}
end
def Fh(ty td:TE):TE:=fun σ H Q=>ty σ H fun y H1=>td σ H1 fun x H2=>∃a o,x=.ref a∧pV H2 a y o∧Q (.bl o.isSome) H2
def Fi(ty td:TE):TE:=fun σ H Q=>ty σ H fun y H1=>td σ H1 fun x H2=>∃a o,x=.ref a∧pV H2 a y o∧Q (.bl (!o.isSome)) H2
def Fj(td ty tv:TE):TS:=fun D σ H=>tv σ H fun v H1=>td σ H1 fun x H2=>ty σ H2 fun y H3=>∃a H4,x=.ref a∧ud H3 a y v H4∧D.nx σ H4
section
variable {X:Cx} {o i e value:Expr} {pos pos' kf:Pos} {td ty tv:TE}
theorem Fl(hu:X.A.units+1<cLine)(hi:PE X i ty)(ho:PE X o td):PC X .In i o (Fh ty td):=by
 intro pins s σ H Q I h
 refine aw (hi pins s σ H _ I h) fun iv s1 ⟨y,H1,I1,ry,q1⟩=>aw (ho pins s1 σ H1 _ I1 q1) fun u s2 ⟨x,H2,I2,rx,a,ov,ex,g,q2⟩=>?_
 subst ex
 obtain rfl:u=Value.ref a:=rx
 exact Fe hu I2 g ry fun s3 I3=>⟨.bl ov.isSome,H2,I3,rfl,q2⟩
theorem Fm(hu:X.A.units+1<cLine)(hi:PE X i ty)(ho:PE X o td):PC X .NotIn i o (Fi ty td):=by
 intro pins s σ H Q I h
 refine aw (hi pins s σ H _ I h) fun iv s1 ⟨y,H1,I1,ry,q1⟩=>aw (ho pins s1 σ H1 _ I1 q1) fun u s2 ⟨x,H2,I2,rx,a,ov,ex,g,q2⟩=>?_
 subst ex
 obtain rfl:u=Value.ref a:=rx
 exact Ff hu I2 g ry fun s3 I3=>⟨.bl (!ov.isSome),H2,I3,rfl,q2⟩
theorem pW(hu:X.A.units+1<cLine)(ho:PE X o td)(hi:PE X i ty)(hv:PE X value tv)(hs:swapsWith value (some (.Subscript o i pos')) pos.line X.env=pure false) :
  PS X (.Assign [.Subscript o i pos'] value pos) (Fj td ty tv):=by
 intro pins s σ H D I h
 refine wpAny_Assign_Subscript (aw (hv pins s σ H _ I h) fun r s1 ⟨v,H1,I1,rv,q1⟩=>aw (ho pins s1 σ H1 _ I1 q1) fun u s2 ⟨x,H2,I2,rx,q2⟩=>aw (hi pins s2 σ H2 _ I2 q2) fun iv s3 ⟨y,H3,I3,ry,a,H4,ex,g,q3⟩=>?_) hs
 subst ex
 obtain rfl:u=Value.ref a:=rx
 exact Fg hu I3 g ry rv fun s4 I4=>⟨σ,H4,I4,q3⟩
end
theorem yq{P:Program}{w:World}{H:Hp}(h:Heap)(hb:sysModules<h.objs.size):a7 P w H (h.push {cls:=.type "dict",data:=.dict #[]}) h.objs.size (.dK []):=
 ⟨Nat.zero_le _,beq_eq_false_iff_ne.mpr (Ne.symm (Nat.ne_of_lt hb)),[],.nil,Heap.DictOf.new h⟩
def Fn:TE:=fun _ H Q=>∀p,H p=none→Q (.ref p) (upd H p (.dK []))
section
variable {X:Cx} {pos:Pos}
theorem Fo:PE X (.Dict [] [] pos) Fn:=fun pins s σ H Q I h=>
 wpAny_Dict_empty ⟨.ref s.heap.objs.size,_,I.laid (a:=s.heap.objs.size) (o:=.dK []) (t':=s.toks) (fun _ _ q=>Heap.get?_push_of_some _ q) (Nat.le_refl _) (yq s.heap I.big),rfl,h _ (I.aq.fresh (Nat.le_refl _))⟩
end
def uf:List (TE×TE)→St→Hp→(List (V×V)→Hp→Prop)→Prop
 | [],_,H,Q=>Q [] H
 | (tk,tv)::r,σ,H,Q=>tk σ H fun x H1=>tv σ H1 fun y H2=>uf r σ H2 fun ps H3=>Q ((x,y)::ps) H3
abbrev VV:List (V×V)→List (Value×Value)→Prop:=Paired fun p q=>RelV p.1 q.1∧RelV p.2 q.2
def pX(X:Cx)(pos:Pos)(keys:List (Option Expr))(values:List Expr)(gJ:List (TE×TE)):Prop:=
 ∀(pins:List (Addr×Obj)) (s:Shared) (σ:St) (H:Hp) (Q:List (V×V)→Hp→Prop),Inv X pins σ H s→uf gJ σ H Q→
  wpAny (model X.prog X.w) X.A (evalPairs (pairTrees keys values X.env pos)) (fun vs s'=>∃ps H',Inv X pins σ H' s'∧VV ps vs∧Q ps H') X.xe s
theorem Fp{X:Cx}{pos:Pos}:pX X pos [] [] []:=fun pins s σ H Q I h=>pairTrees_nil_walk ⟨[],H,I,.nil,h⟩
theorem Fq{X:Cx}{pos:Pos}{k v:Expr}{ks:List (Option Expr)}{vs:List Expr}{tk tv:TE}{gJ:List (TE×TE)}(hk:PE X k tk)(hv:PE X v tv)(hr:pX X pos ks vs gJ) :
  pX X pos (some k::ks) (v::vs) ((tk,tv)::gJ):=fun pins s σ H Q I h=>
 pairTrees_cons_walk (aw (hk pins s σ H _ I h) fun u s1 ⟨x,H1,I1,rx,q1⟩=>aw (hv pins s1 σ H1 _ I1 q1) fun w2 s2 ⟨y,H2,I2,ry,q2⟩=>
  aw (hr pins s2 σ H2 _ I2 q2) fun ws s3 ⟨ps,H3,I3,rel,q3⟩=>⟨(x,y)::ps,H3,I3,.cons ⟨rx,ry⟩ rel,q3⟩)
def ir(ai more:List (Key×V)):List (Key×V):=more.foldl (fun acc kv=>putK acc kv.1 kv.2) ai
theorem KV.merge:∀{more:List (Key×V)} {rs:List (Key×Value)} {ai:List (Key×V)} {vs:List (Key×Value)},KV more rs→KV ai vs→KV (ir ai more) (merged vs rs):=by
 intro more rs ai vs r
 unfold KV at r
 induction r generalizing ai vs with
 | nil=>intro q;exact q
 | @cons p q ps qs h t ih=>
  intro r0
  have e:KV (putK ai p.1 p.2) (stored vs q.1 q.2):=by
   have:=r0.put p.1 h.2
   rw [←h.1];exact this
  exact ih e
theorem yr:∀(more ai:List (Key×V)),(ir ai more).length≤ai.length+more.length
 | [],ai=>by show ai.length≤ai.length+0;omega
 | p::r,ai=>by
  have h1:=yr r (putK ai p.1 p.2)
  have h2:=t_ ai p.1 p.2
  show (ir (putK ai p.1 p.2) r).length≤_
  rw [List.length_cons];omega
theorem yt{P:Program}{w:World}:∀{ai:List (Key×V)} {ws:List (Value×Value)},VV (ai.map fun kv=>(kV kv.1,kv.2)) ws→∃rs,Carries (cN P w) ws rs∧KV ai rs
 | [],_,r=>by rw [List.map_nil] at r;cases r;exact ⟨[],True.intro,.nil⟩
 | p::ai,_,r=>by
  rw [List.map_cons] at r
  cases r with
  | @cons a b as bs h t=>
   obtain ⟨rs,c,q⟩:=yt (P:=P) (w:=w) t
   obtain ⟨b1,b2⟩:=b
   exact ⟨(p.1,b2)::rs,⟨nC h.1,rfl,c⟩,.cons ⟨rfl,h.2⟩ q⟩
def Fs(gJ:List (TE×TE)):TE:=fun σ H Q=>∀p,H p=none→uf gJ σ (upd H p (.dK [])) fun ps H2=>H2 p=some (.dK [])∧∃ai:List (Key×V),ps=ai.map (fun kv=>(kV kv.1,kv.2))∧ai.length≤15∧Q (.ref p) (upd H2 p (.dK (ir [] ai)))
theorem Ft{X:Cx}{pos:Pos}{keys:List (Option Expr)}{values:List Expr}{gJ:List (TE×TE)}(h:pX X pos keys values gJ)(sO:keys.all (·.isSome)=true)(hl:keys.length=values.length)(h0:keys≠[])
  (Fu:keys.length≤15):PE X (.Dict keys values pos) (Fs gJ):=by
 intro pins s σ H Q I q
 have hn:=I.aq.fresh (Nat.le_refl s.heap.objs.size)
 have I1:=I.laid (a:=s.heap.objs.size) (o:=.dK []) (h':=s.heap.push {cls:=.type "dict",data:=.dict #[]}) (t':=s.toks) (fun _ _ q=>Heap.get?_push_of_some _ q) (Nat.le_refl _) (yq s.heap I.big)
 refine wpAny_Dict_walk (knd:=cN X.prog X.w) sO hl h0 Fu (aw (h pins _ σ _ _ I1 (q _ hn)) fun ws s2 ⟨ps,H2,I2,rel,e,ai,ep,lk,q2⟩=>?_)
 subst ep
 obtain ⟨rs,c,rk⟩:=yt (P:=X.prog) (w:=X.w) rel
 obtain ⟨z,hd,Mr,r0,dd⟩:=yo I2.aq e
 cases r0
 refine ⟨rs,c,dd,fun h' hG hs=>⟨.ref s.heap.objs.size,_,?_,rfl,q2⟩⟩
 have hz:(ir [] ai).length≤sizeLine:=by
  have h1:=yr ai []
  rw [List.length_nil] at h1
  rw [sizeLine_eq];omega
 have he:∃q,h'.get? s.heap.objs.size=some q:=let ⟨q,_,_,hq,_⟩:=hG;⟨q,hq⟩
 exact ue I2 (by rw [e];exact True.intro) hs he (yp hz hd (rk.merge .nil) hG)
section
variable {X:Cx} {pins:List (Addr×Obj)} {σ:St} {H:Hp} {s:Shared} {a:Addr} {y d:V} {u r:Value} {o:Option V} {A:Around} {E:Value→Shared→Prop}
end
section
variable {X:Cx} {o e f:Expr} {apos dy:Pos} {td ty tx:TE}
end
section
variable {X:Cx} {pins:List (Addr×Obj)} {σ:St} {H:Hp} {s:Shared} {a:Addr} {ai:List (Key×V)} {A:Around} {E:Value→Shared→Prop}
end
section
variable {X:Cx} {pins:List (Addr×Obj)} {σ:St} {H:Hp} {s:Shared} {a:Addr} {y:V} {u:Value} {A:Around} {E:Value→Shared→Prop}
end
end L2
namespace oO
open PySem PySem.W PySem.Calls PyProof.Rows
section
variable {prog:Program} {w:World} {A:Around} {E:Value→Shared→Prop} {s:Shared} {K:Frag}
end
end oO
namespace L2
open PySem PySem.Spec PyProof.Rows
section
variable {P:Program} {w:World} {K:PySem.W.Frag} {mg:Str→Option Value} {base:Heap}
end
section
variable {X:Cx}
end
section
variable {κ:Type} [DecidableEq κ]
end
def ug(o:Obj):Nat:=match o.data with
 | .dict _ ep=>ep
 | _=>0
def kJ(a:Addr)(o:Obj)(ai:List (Key×V)):It:=
 ⟨fun i H=>H a=some (.bj o (.dK ai))∧i<ai.length,fun i H x H'=>H'=H∧∃kv,ai[i]?=some kv∧x=kV kv.1,fun i H=>H a=some (.bj o (.dK ai))∧ai.length≤i⟩
theorem Fv{k:Key}{v:Value}(h:iJ k v=true):RelV (kV k) v:=by
 rcases fL h with ⟨i,t,rfl,rfl⟩ | ⟨x,t,rfl,rfl⟩
 ·exact ⟨t,rfl⟩
 ·exact ⟨t,rfl⟩
theorem yu{ai:List (Key×V)}{vs:List (Key×Value)}:∀{i:Nat} {kv:Key×V},KV ai vs→ai[i]?=some kv→∃v,vs[i]?=some (kv.1,v)
 | _,_,.nil,h=>by simp at h
 | 0,kv,.cons (b:=b) r _,h=>by
  simp at h
  subst h
  obtain ⟨k,v⟩:=b
  have e:_=k:=r.1
  exact ⟨v,by rw [e];rfl⟩
 | i+1,kv,.cons _ t,h=>by
  simp at h
  obtain ⟨v,e⟩:=yu t h
  exact ⟨v,by simpa using e⟩
section
variable {X:Cx} {pins:List (Addr×Obj)} {σ:St} {H:Hp} {s:Shared}
theorem Inv.uh{a:Addr}{o:Obj}{ai:List (Key×V)}(I:Inv X pins σ H s)(h:H a=some (.bj o (.dK ai))):∃vs,KV ai vs∧s.heap.DictAt (cN X.prog X.w) a vs (ug o):=by
 obtain ⟨g,_,_,vs,r,o',es,ep,g',c,d,rest⟩:=(show a7 X.prog X.w H s.heap a (.bj o (.dK ai)) from I.aq a _ h)
 rw [g] at g'
 cases g'
 refine ⟨vs,r,o,es,g,c,?_,rest⟩
 rw [d]
 unfold ug
 rw [d]
end
theorem Fw{P:Program}{w:World}{K:PySem.W.Frag}{tg:Expr}(a it:Addr)(o:Obj)(ai:List (Key×V)):Turn P w K tg (kJ a o ai) [it] it (fun i h=>h.IsKeyIter it a i ai.length (ug o)) where
 mem:=by simp
 obj:=fun i h st b hb=>by
  have e:b=it:=by simpa using hb
  subst e
  obtain ⟨o,e,c,d⟩:=st
  exact ⟨o,e,fun v z=>by rw [d] at z;cases z⟩
 keep:=fun i h h' st k=>by
  obtain ⟨o,e,c,d⟩:=st
  exact ⟨o,k it (by simp) o e,c,d⟩
 item:=by
  intro X hP hw hK hc i pins s σ H E I hf st hg
  subst hP hw hK
  obtain ⟨eH,hi⟩:=hg
  obtain ⟨vs,r,hm⟩:=I.uh eH
  have lr:ai.length=vs.length:=Paired.length r
  have ek:ai[i]?=some ai[i]:=by simp [hi]
  obtain ⟨v,ev⟩:=yu r ek
  obtain ⟨f0,f1,f2,f3,f4,f5⟩:=hf it (by simp)
  rw [lr] at st
  refine wpAny_pyNext_dict_item st hm ev fun key h' hk ak sb=>?_
  have I1:Inv X pins σ H {s with heap:=h'}:=I.turned (t':=s.toks) (fun b o hb e=>(sb.2 b hb).trans e) f0 f1 f3 f4 f5
  obtain ⟨o',e,c,d⟩:=id ak
  rw [←lr] at ak
  exact ⟨key,rfl,om (s:={s with heap:=h'}) e c d (by decide) ⟨kV ai[i].1,H,I1,Fv hk,⟨rfl,_,ek,rfl⟩,ak,fun b hb=>(hf b hb).1⟩⟩
 done:=by
  intro X hP hw hK hc i pins s σ H E I hf st hg
  subst hP hw hK
  obtain ⟨eH,hi⟩:=hg
  obtain ⟨vs,r,hm⟩:=I.uh eH
  have lr:ai.length=vs.length:=Paired.length r
  obtain ⟨f0,f1,f2,f3,f4,f5⟩:=hf it (by simp)
  rw [lr] at st
  exact wpAny_pyNext_dict_end (I.ok.hd hc) st hm (by simp;omega) fun h' eb=>⟨rfl,I.turned (t':=s.toks) (fun b o hb e=>eb b o hb e) f0 f1 f3 f4 f5⟩
 self:=fun _ _ _ _ _ st h=>wpAny_pyIter_keyiter st h
section
variable {X:Cx} {tg:Expr}
def Fx(tl:TE):TI:=fun σ H R=>tl σ H fun x H1=>∃a ai,x=.ref a∧((H1 a=some (.dK ai)∧∀o,R (kJ a o ai) (upd H1 a (.bj o (.dK ai))))∨∃o,H1 a=some (.bj o (.dK ai))∧R (kJ a o ai) H1)
theorem Fy{l:Expr}{tl:TE}(hl:PE X l tl):PI X tg l (Fx tl):=by
 intro pins s σ H R I h
 refine aw (hl pins s σ H _ I h) fun v s1 ⟨x,H1,I1,r1,q1⟩=>?_
 obtain ⟨a,ai,e,q⟩:=q1
 subst e
 cases r1
 have main:∀{H2:Hp} {o:Obj},Inv X pins σ H2 s1→H2 a=some (.bj o (.dK ai))→R (kJ a o ai) H2→wpAny (model X.prog X.w) X.A (pyIter (.ref a)) (rL X pins σ tg R) X.xe s1:=fun{H2 o} I2 eH q=>by
  obtain ⟨vs,r,hm⟩:=I2.uh eH
  obtain ⟨_,_,sys,_⟩:=(show a7 X.prog X.w H2 s1.heap a (.bj o (.dK ai)) from I2.aq a _ eH)
  have lr:ai.length=vs.length:=Paired.length r
  refine wpAny_pyIter_dict sys hm ?_
  refine ⟨s1.heap.objs.size,[s1.heap.objs.size],_,_,H2,rfl,I2.kept (t':=s1.toks) fun b o e=>Heap.get?_push_of_some _ e,Fw a _ o ai,⟨_,Heap.get?_push_size _ rfl,rfl,by rw [lr];rfl⟩,fun b hb=>?_,q⟩
  have e:b=s1.heap.objs.size:=by simpa using hb
  subst e
  exact I2.j_ (Nat.le_refl _) (I2.aq.fresh (Nat.le_refl _))
 rcases q with ⟨eH,q⟩ | ⟨o,eH,q⟩
 ·obtain ⟨hz,sys,vs,r,o,es,ep,g,c,d,rest⟩:=(show a7 X.prog X.w H1 s1.heap a (.dK ai) from I1.aq a _ eH)
  refine main (H2:=upd H1 a (.bj o (.dK ai))) ?_ ar (q o)
  exact I1.write (t':=s1.toks) (x:=a) (e:=a) (by rw [eH];exact trivial) (.inl rfl) (fun b u _ e=>e) ⟨o,g⟩ ⟨g,hz,sys,vs,r,o,es,ep,g,c,d,rest⟩
 ·exact main I1 eH q
end
theorem yv:∀{us:List Value} {ns:List Int},IntsAre us ns→Vals (ns.map V.int) us
 | _,_,.nil=>.nil
 | _,_,.cons a u r=>.cons ⟨u,rfl⟩ (yv r)
def Fz:List V→Hp→VK→Prop:=fun xs H Q=>∃(a:Addr) (zs:List Int),xs=[.ref a]∧H a=some (.lst (zs.map V.int))∧zs.length<64∧∀(ws:List Int) (D:Addr),ws.Perm zs→ws.Pairwise (·≤·)→H D=none→Q (.ref D) (upd H D (.lst (ws.map V.int)))
theorem uj{X:Cx}:ei X (.builtin "sorted") Fz:=by
 intro pins s σ H xs us Q I r h
 obtain ⟨a,zs,rfl,ha,pQ,k⟩:=h
 obtain ⟨u,rfl,ru⟩:=vals1 r
 cases ru
 obtain ⟨aa,rv,pl,hz⟩:=I.list (.of ha)
 have hl:=rv.length
 rw [List.length_map] at hl
 refine sorted_ints pl.isList (intsAre_of rv) (by omega) fun out gy a1 a2 a3=>?_
 obtain ⟨e,he⟩:=sortedAll_at s.heap aa out
 refine ⟨.ref (s.heap.objs.size+1),_,I.laid (t':=s.toks) (o:=.lst (gy.map .int)) (fun _ _=>sortedAll_old) (Nat.le_succ _) ⟨?_,out.toList,e,yv a1,?_⟩,rfl,k gy _ a2 a3 (I.aq.fresh (Nat.le_succ _))⟩
 ·rw [List.length_map,a2.length_eq]
  rw [sizeLine_eq];omega
 ·simpa using he
end L2
namespace My
open PySem L2
def dk(ks:List Nat):List (Key×V):=ks.map fun k:Nat=>((Sum.inl (k:Int):Key),V.bl true)
def bG(ks:List Nat)(k:Nat):List Nat:=if k∈ks then ks else ks++[k]
theorem yw{a b:Nat}:((Sum.inl (a:Int):Key)=Sum.inl (b:Int))↔a=b:=by
 constructor
 ·intro h
  have:=Sum.inl.inj h
  omega
 ·rintro rfl;rfl
theorem yx(ks:List Nat):(dk ks).length=ks.length:=List.length_map _
theorem FA(ks:List Nat)(k:Nat):((dk ks).any fun kv=>decide (kv.1=(Sum.inl (k:Int):Key)))=decide (k∈ks):=by
 rw [Bool.eq_iff_iff,List.any_eq_true,decide_eq_true_iff]
 constructor
 ·rintro ⟨kv,h1,h2⟩
  obtain ⟨j,hj,rfl⟩:=List.mem_map.mp h1
  have:=yw.mp (of_decide_eq_true h2)
  subst this
  exact hj
 ·intro h
  exact ⟨_,List.mem_map.mpr ⟨k,h,rfl⟩,decide_eq_true rfl⟩
theorem yy(ks:List Nat)(k:Nat):putK (dk ks) (Sum.inl (k:Int):Key) (V.bl true)=dk (bG ks k):=by
 unfold putK bG
 rw [FA]
 by_cases h:k∈ks
 ·rw [if_pos (decide_eq_true h),if_pos h]
  unfold dk
  rw [List.map_map]
  refine List.map_congr_left fun j _=>?_
  show (if _ then _ else _)=_
  split <;> rfl
 ·rw [if_neg (by rw [decide_eq_true_iff];exact h),if_neg h]
  unfold dk
  rw [List.map_append]
  rfl
theorem yz(ks:List Nat)(k:Nat):eF (dk ks) (Sum.inl (k:Int):Key)=if k∈ks then some (V.bl true) else none:=by
 induction ks with
 | nil=>simp [dk,eF]
 | cons j r ih=>
  by_cases h:j=k
  ·subst h
   rw [if_pos (List.mem_cons_self ..)]
   exact pR rfl
  ·show eF ((Sum.inl (j:Int),V.bl true)::dk r) _=_
   rw [pS (fun e=>h (yw.mp e)),ih]
   by_cases m:k∈r
   ·rw [if_pos m,if_pos (List.mem_cons_of_mem _ m)]
   ·rw [if_neg m,if_neg (fun x=>by rcases List.mem_cons.mp x with e | e;exact h e.symm;exact m e)]
theorem dZ{ks:List Nat}{k j:Nat}:j∈bG ks k↔j∈ks∨j=k:=by
 unfold bG
 by_cases h:k∈ks
 ·rw [if_pos h]
  constructor
  ·exact .inl
  ·rintro (e | rfl)
   ·exact e
   ·exact h
 ·rw [if_neg h,List.mem_append,List.mem_singleton]
theorem FC{ks:List Nat}{k:Nat}(h:ks.Nodup):(bG ks k).Nodup:=by
 unfold bG
 by_cases m:k∈ks
 ·rw [if_pos m];exact h
 ·rw [if_neg m]
  refine List.nodup_append.mpr ⟨h,(by simp),fun a ha b hb=>?_⟩
  rw [List.mem_singleton] at hb
  subst hb
  rintro rfl
  exact m ha
def e9(n:Nat)(ks:List Nat):Prop:=ks.Nodup∧∀k∈ks,k<n
theorem e9.nil(n:Nat):e9 n []:=⟨List.nodup_nil,fun _ h=>by cases h⟩
theorem e9.add{n k:Nat}{ks:List Nat}(h:e9 n ks)(hk:k<n):e9 n (bG ks k):=⟨FC h.1,fun j hj=>by
 rcases dZ.mp hj with e | rfl
 ·exact h.2 j e
 ·exact hk⟩
theorem pY:∀{n:Nat} {ks:List Nat},ks.Nodup→(∀k∈ks,k<n)→ks.length≤n
 | 0,ks,_,h=>by
  cases ks with
  | nil=>exact Nat.le_refl _
  | cons a r=>exact absurd (h a (List.mem_cons_self ..)) (Nat.not_lt_zero _)
 | n+1,ks,nd,h=>by
  have e:=pY (n:=n) (ks:=ks.erase n) (nd.erase n) (fun k hk=>by
   have m:=(List.Nodup.mem_erase_iff nd).mp hk
   have:=h k m.2
   have:=m.1
   omega)
  by_cases hm:n∈ks
  ·have:=List.length_erase_of_mem hm
   omega
  ·rw [List.erase_of_not_mem hm] at e
   omega
theorem e9.len{n:Nat}{ks:List Nat}(h:e9 n ks):ks.length≤n:=pY h.1 h.2
structure b6 (H:Hp) (D:Addr) (n:Nat) (ds:Nat→Addr) (un:Nat→Prop) (f:Nat→List Nat):Prop where
 lst:H D=some (.lst ((List.range n).map fun i=>V.ref (ds i)))
 inj:∀i j,i<n→j<n→ds i=ds j→i=j
 ne:∀i,i<n→ds i≠D
 at':∀i,i<n→un i→H (ds i)=some (.dK (dk (f i)))
 pl:∀i,i<n→e9 n (f i)
def b4(f:Nat→List Nat)(i:Nat)(ks:List Nat):Nat→List Nat:=fun j=>if j=i then ks else f j
theorem b6.put{H:Hp}{D:Addr}{n:Nat}{ds:Nat→Addr}{un:Nat→Prop}{f:Nat→List Nat}(h:b6 H D n ds un f){i j:Nat}(hi:i<n)(hj:j<n)(ui:un i)(hn:n≤1000) :
  ud H (ds i) (.int (j:Int)) (.bl true) (upd H (ds i) (.dK (dk (bG (f i) j))))∧b6 (upd H (ds i) (.dK (dk (bG (f i) j)))) D n ds un (b4 f i (bG (f i) j)):=by
 refine ⟨.inl ⟨dk (f i),Sum.inl (j:Int),h.at' i hi ui,rfl,?_,by rw [yy]⟩,?_,h.inj,h.ne,fun k hk uk=>?_,fun k hk=>?_⟩
 ·rw [yx]
  have:=(h.pl i hi).len
  exact Nat.lt_of_le_of_lt this (Nat.lt_of_le_of_lt hn (by rw [sizeLine_eq];decide))
 ·rw [aA (Ne.symm (h.ne i hi))]
  exact h.lst
 ·unfold b4
  by_cases e:k=i
  ·subst e
   rw [if_pos rfl,ar]
  ·rw [if_neg e,aA (fun z=>e (h.inj k i hk hi z))]
   exact h.at' k hk uk
 ·unfold b4
  by_cases e:k=i
  ·rw [if_pos e];exact (h.pl i hi).add hj
  ·rw [if_neg e];exact h.pl k hk
theorem b6.ix{H:Hp}{D:Addr}{n:Nat}{ds:Nat→Addr}{un:Nat→Prop}{f:Nat→List Nat}(h:b6 H D n ds un f){i:Nat}(hi:i<n):eA ((List.range n).map fun i=>V.ref (ds i)) (i:Int)=some (V.ref (ds i)):=
 i6 (by rw [List.getElem?_map,List.getElem?_range hi];rfl)
def jk(n:Nat)(L:List (Int×Int)):Prop:=∀p∈L,0≤p.1∧p.1<(n:Int)∧0≤p.2∧p.2<(n:Int)
def di(n:Nat)(L:List (Int×Int))(f:Nat→List Nat):Prop:=∀i j:Nat,i<n→(j∈f i↔((i:Int),(j:Int))∈L∨((j:Int),(i:Int))∈L)
theorem di.nil(n:Nat):di n [] (fun _=>[]):=fun i j _=>by simp
theorem di.more{n:Nat}{L:List (Int×Int)}{f:Nat→List Nat}(h:di n L f){i j:Nat}(hi:i<n)(hj:j<n):di n (L++[((i:Int),(j:Int))]) (b4 (b4 f i (bG (f i) j)) j (bG (b4 f i (bG (f i) j) j) i)):=fun a b ha=>by
 have e1:∀x y:Nat,y∈b4 f i (bG (f i) j) x↔y∈f x∨(x=i∧y=j):=fun x y=>by
  unfold b4
  by_cases e:x=i
  ·subst e
   rw [if_pos rfl,dZ]
   simp
  ·rw [if_neg e]
   simp [e]
 have e2:b∈b4 (b4 f i (bG (f i) j)) j (bG (b4 f i (bG (f i) j) j) i) a↔b∈b4 f i (bG (f i) j) a∨(a=j∧b=i):=by
  unfold b4
  by_cases e:a=j
  ·subst e
   rw [if_pos rfl,dZ]
   simp
  ·rw [if_neg e]
   simp [e]
 rw [e2,e1,h a b ha]
 simp only [List.mem_append,List.mem_singleton,Prod.mk.injEq]
 constructor
 ·rintro ((e | e) | ⟨rfl,rfl⟩)
  ·rcases e with e | e
   ·exact .inl (.inl e)
   ·exact .inr (.inl e)
  ·exact .inl (.inr ⟨by omega,by omega⟩)
  ·exact .inr (.inr ⟨rfl,rfl⟩)
 ·rintro ((e | ⟨e1,e2⟩) | (e | ⟨e1,e2⟩))
  ·exact .inl (.inl (.inl e))
  ·exact .inl (.inr ⟨by omega,by omega⟩)
  ·exact .inl (.inl (.inr e))
  ·exact .inr ⟨by omega,by omega⟩
def FD:Sp:=fun vs H Q _=>∃(t:Addr) (n:Nat) (L:List (Int×Int)),vs=[.ref t]∧cF H t n L∧jk n L∧n≤1000 ∧
 ∀(H':Hp) (D:Addr) (ds:Nat→Addr) (f:Nat→List Nat),aj H H'→H D=none→(∀i,i<n→H (ds i)=none)→b6 H' D n ds (fun _=>True) f→di n L f→Q (.ref D) H'
end My
namespace L2
open PySem PySem.Spec PyProof.Rows
def FE(K:PySem.W.Frag):R2:=fun x y H Q=>∃(a b:Addr) (xs ys:List Int),x=.ref a∧y=.ref b∧aX K H a (xs.map V.int)∧aX K H b (ys.map V.int)∧Q (.bl (decide (xs=ys))) H
theorem FF{X:Cx}(hu:X.A.units+64<cLine):bI X (compareOp .Eq) (FE X.K):=by
 intro pins s σ H x y v u Q I rx ry h
 obtain ⟨a,b,xs,ys,rfl,rfl,h1,h2,q⟩:=h
 cases rx
 cases ry
 obtain ⟨us,r1,t1,_⟩:=I.list h1
 obtain ⟨vs,r2,t2,_⟩:=I.list h2
 have l1:=r1.length
 have l2:=r2.length
 rw [List.length_map] at l1 l2
 by_cases hl:xs.length=ys.length
 ·refine SeqAt.RcAt.lists (e:=fun j=>eR (.int (xs.getD j 0)) (.int (ys.getD j 0))) t1.isList t2.isList (by simp;omega) (by omega) (fun j z1 z2=>?_) _ _ _ _ ?_
  ·have h_:j<us.length:=by simpa using z1
   have o9:j<vs.length:=by simpa using z2
   have ex:(xs.map V.int)[j]?=some (.int (xs.getD j 0)):=by
    rw [List.getElem?_map,List.getD_eq_getElem?_getD]
    simp [show j<xs.length by omega]
   have ey:(ys.map V.int)[j]?=some (.int (ys.getD j 0)):=by
    rw [List.getElem?_map,List.getD_eq_getElem?_getD]
    simp [show j<ys.length by omega]
   obtain ⟨x',d9,rx⟩:=r1.get ex
   obtain ⟨y',fw,ry⟩:=r2.get ey
   have e1:us.toArray[j]=x':=by simpa using (List.getElem?_eq_some_iff.mp d9).2
   have e2:vs.toArray[j]=y':=by simpa using (List.getElem?_eq_some_iff.mp fw).2
   rw [e1,e2]
   exact ki rx ry rfl rfl
  ·rw [show us.toArray.size=xs.length by simp;omega,Ec hl]
   exact ⟨.bl (decide (xs=ys)),H,I,rfl,q⟩
 ·rw [decide_eq_false (fun e=>hl (by rw [e]))] at q
  refine SeqAt.RcAt.lists_lengths t1.isList t2.isList ?_ (by omega) _ _ _ _ ⟨.bl false,H,I,rfl,q⟩
  simp
  omega
end L2
namespace My
open PySem L2
def iN(k:Nat):Int:=(k:Int)
def gh(zs:List Int)(n:Nat):Prop:=zs.Perm ((List.range n).map iN)
instance (zs:List Int) (n:Nat):Decidable (gh zs n):=by unfold gh;exact inferInstance
theorem FG(n:Nat):((List.range n).map iN).Pairwise (·≤·):=by
 rw [List.pairwise_map]
 exact List.Pairwise.imp (fun h=>by unfold iN;omega) List.pairwise_lt_range
theorem FH{ws zs:List Int}{n:Nat}(p:ws.Perm zs)(o:ws.Pairwise (·≤·)):decide (ws=(List.range n).map iN)=decide (gh zs n):=by
 by_cases h:gh zs n
 ·rw [decide_eq_true h]
  refine decide_eq_true ?_
  exact (p.trans h).eq_of_pairwise (fun a b _ _ h1 h2=>by omega) o (FG n)
 ·rw [decide_eq_false h]
  refine decide_eq_false fun e=>h ?_
  subst e
  exact p.symm
def FI:Sp:=fun vs H Q _=>∃(a:Addr) (zs:List Int) (n:Nat),vs=[.ref a,.int (n:Int)]∧H a=some (.lst (zs.map V.int))∧zs.length<64∧n≤1000∧(∀H',aj H H'→Q (.bl (decide (gh zs n))) H')
def FJ(N:Addr):Sp:=fun vs H Q E=>∃(a:Addr) (zs:List Int) (n:Nat),vs=[.ref a,.int (n:Int)]∧H a=some (.lst (zs.map V.int))∧zs.length<64∧n≤1000 ∧
 (¬gh zs n→∀H',aj H H'→E (.ref N) none H')∧(gh zs n→∀H',aj H H'→Q .aG H')
def FK(H:Hp)(a:Addr)(n:Nat)(o:List Nat):Prop:=H a=some (.lst (o.map fun k:Nat=>V.int (k:Int)))∧o.Perm (List.range n)
def FL:Sp:=fun vs H Q _=>∃(a:Addr) (n:Nat) (o:List Nat),vs=[.ref a]∧FK H a n o∧n≤1000 ∧
 ∀(r:Addr) (H':Hp),aj H H'→H r=none→H' r=some (.lst ((List.range n).map fun p=>V.int (o.idxOf p:Int)))→Q (.ref r) H'
theorem FN{H H1:Hp}(s:aj H H1){D:Addr}(e:H1 D=none):H D=none:=by
 cases z:H D with
 | none=>rfl
 | some o=>rw [s _ _ z] at e;cases e
theorem pZ{H H1:Hp}(s:aj H H1){D:Addr}{o:HO}(e:H1 D=none):aj H (upd H1 D o):=cV s (FN s e)
theorem yA{n k:Nat}(h:k<n):fm n (k:Int)=some k:=by
 unfold fm
 rw [if_pos (by omega),if_pos (by omega),Int.toNat_natCast]
def e_(o:List Nat)(k p:Nat):Int:=if o.idxOf p<k then (o.idxOf p:Int) else 0
theorem nE{n:Nat}{o:List Nat}(h:o.Perm (List.range n)):o.Nodup:=h.nodup_iff.mpr List.nodup_range
theorem gK{n:Nat}{o:List Nat}(h:o.Perm (List.range n)):o.length=n:=by rw [h.length_eq,List.length_range]
theorem d5{n:Nat}{o:List Nat}(h:o.Perm (List.range n)){p:Nat}:p∈o↔p<n:=by rw [h.mem_iff,List.mem_range]
theorem nF{o:List Nat}(nd:o.Nodup){k:Nat}(hk:k<o.length):o.idxOf o[k]=k:=nd.idxOf_getElem k hk
theorem gM{o:List Nat}{p:Nat}(h:p∈o):∃hk:o.idxOf p<o.length,o[o.idxOf p]=p:=⟨List.idxOf_lt_length_of_mem h,List.getElem_idxOf _⟩
theorem FO{n:Nat}{o:List Nat}(h:o.Perm (List.range n)){k:Nat}(hk:k<o.length):((List.range n).map fun p=>V.int (e_ o k p)).set o[k] (.int (k:Int))=(List.range n).map fun p=>V.int (e_ o (k+1) p):=by
 have nd:=nE h
 refine List.ext_getElem (by simp) fun q h1 h2=>?_
 have hq:q<n:=by simpa using h2
 rw [List.getElem_set]
 by_cases e:o[k]=q
 ·rw [if_pos e]
  simp only [List.getElem_map,List.getElem_range]
  unfold e_
  rw [←e,nF nd hk,if_pos (Nat.lt_succ_self k)]
 ·rw [if_neg e]
  simp only [List.getElem_map,List.getElem_range]
  unfold e_
  have ne:o.idxOf q≠k:=fun z=>by
   obtain ⟨hz,ez⟩:=gM ((d5 h).mpr hq)
   subst z
   exact e ez
  by_cases z:o.idxOf q<k
  ·rw [if_pos z,if_pos (by omega)]
  ·rw [if_neg z,if_neg (by omega)]
theorem FP(n:Nat)(o:List Nat):(List.replicate n [V.int 0]).flatten=(List.range n).map fun p=>V.int (e_ o 0 p):=by
 have e:∀n:Nat,(List.replicate n [V.int 0]).flatten=List.replicate n (V.int 0):=fun n=>by
  induction n with
  | zero=>rfl
  | succ n ih=>rw [List.replicate_succ,List.flatten_cons,ih];rfl
 rw [e]
 refine List.ext_getElem (by simp) fun q h1 h2=>?_
 simp [e_]
theorem FQ{n:Nat}{o:List Nat}(h:o.Perm (List.range n)):(List.range n).map (fun p=>V.int (e_ o o.length p))=(List.range n).map fun p=>V.int (o.idxOf p:Int):=by
 refine List.map_congr_left fun p hp=>?_
 unfold e_
 rw [if_pos (List.idxOf_lt_length_of_mem ((d5 h).mpr (List.mem_range.mp hp)))]
def iu(n:Nat)(ds:Nat→Addr)(un:Nat→Prop)(H H':Hp):Prop:=∀b o,H b=some o→(∀i,i<n→un i→b≠ds i)→H' b=some o
theorem iu.refl{n:Nat}{ds:Nat→Addr}{un:Nat→Prop}{H:Hp}:iu n ds un H H:=fun _ _ h _=>h
theorem iu.put{n:Nat}{ds:Nat→Addr}{un:Nat→Prop}{H H1:Hp}(h:iu n ds un H H1){i:Nat}(hi:i<n)(ui:un i){o:HO}:iu n ds un H (upd H1 (ds i) o):=fun b u e k=>by
 rw [aA (k i hi ui)]
 exact h b u e k
theorem take_snoc{α:Type}{xs:List α}{i:Nat}{x:α}(h:xs[i]?=some x):xs.take (i+1)=xs.take i++[x]:=by rw [List.take_succ,h];rfl
def dj(n:Nat)(f:Nat→List Nat)(ps:List Nat)(i j:Nat)(g:Nat→List Nat):Prop:=∀a b:Nat,a<n→(b∈g a↔b∈f a∨(a≠b∧(a∈ps.take i∧b∈ps∨ps[i]?=some a∧b∈ps.take j)))
theorem dj.start(n:Nat)(f:Nat→List Nat)(ps:List Nat):dj n f ps 0 0 f:=fun a b _=>by simp
theorem dj.row{n:Nat}{f g:Nat→List Nat}{ps:List Nat}{i:Nat}(h:dj n f ps i ps.length g):dj n f ps (i+1) 0 g:=fun a b ha=>by
 rw [h a b ha,List.take_length]
 cases e:ps[i]? with
 | none=>
  have:ps.length≤i:=List.getElem?_eq_none_iff.mp e
  rw [List.take_of_length_le this,List.take_of_length_le (by omega)]
  simp
 | some x=>
  rw [take_snoc e]
  simp only [List.mem_append,List.mem_singleton,Option.some.injEq,List.take_zero,List.not_mem_nil,and_false,or_false]
  constructor
  ·rintro (z | ⟨z,z1 | z1⟩)
   ·exact .inl z
   ·exact .inr ⟨z,.inl z1.1,z1.2⟩
   ·exact .inr ⟨z,.inr z1.1.symm,z1.2⟩
  ·rintro (z | ⟨z,z1 | z1,z2⟩)
   ·exact .inl z
   ·exact .inr ⟨z,.inl ⟨z1,z2⟩⟩
   ·exact .inr ⟨z,.inr ⟨z1.symm,z2⟩⟩
theorem dj.same{n:Nat}{f g:Nat→List Nat}{ps:List Nat}{i j x:Nat}(h:dj n f ps i j g)(hi:ps[i]?=some x)(hj:ps[j]?=some x):dj n f ps i (j+1) g:=fun a b ha=>by
 rw [h a b ha,take_snoc hj]
 simp only [List.mem_append,List.mem_singleton,hi,Option.some.injEq]
 constructor
 ·rintro (z | ⟨z,z1 | z1⟩)
  ·exact .inl z
  ·exact .inr ⟨z,.inl z1⟩
  ·exact .inr ⟨z,.inr ⟨z1.1,.inl z1.2⟩⟩
 ·rintro (z | ⟨z,z1 | ⟨z1,z2 | z2⟩⟩)
  ·exact .inl z
  ·exact .inr ⟨z,.inl z1⟩
  ·exact .inr ⟨z,.inr ⟨z1,z2⟩⟩
  ·exact absurd (z1.symm.trans z2.symm) z
theorem dj.put{n:Nat}{f g:Nat→List Nat}{ps:List Nat}{i j x y:Nat}(h:dj n f ps i j g)(hi:ps[i]?=some x)(hj:ps[j]?=some y)(ne:x≠y):dj n f ps i (j+1) (b4 g x (bG (g x) y)):=fun a b ha=>by
 have e1:b∈b4 g x (bG (g x) y) a↔b∈g a∨(a=x∧b=y):=by
  unfold b4
  by_cases e:a=x
  ·subst e
   rw [if_pos rfl,dZ]
   simp
  ·rw [if_neg e]
   simp [e]
 rw [e1,h a b ha,take_snoc hj]
 simp only [List.mem_append,List.mem_singleton,hi,Option.some.injEq]
 constructor
 ·rintro ((z | ⟨z,z1 | z1⟩) | ⟨rfl,rfl⟩)
  ·exact .inl z
  ·exact .inr ⟨z,.inl z1⟩
  ·exact .inr ⟨z,.inr ⟨z1.1,.inl z1.2⟩⟩
  ·exact .inr ⟨ne,.inr ⟨rfl,.inr rfl⟩⟩
 ·rintro (z | ⟨z,z1 | ⟨z1,z2 | z2⟩⟩)
  ·exact .inl (.inl z)
  ·exact .inl (.inr ⟨z,.inl z1⟩)
  ·exact .inl (.inr ⟨z,.inr ⟨z1,z2⟩⟩)
  ·exact .inr ⟨z1.symm,z2⟩
theorem dj.done{n:Nat}{f g:Nat→List Nat}{ps:List Nat}(h:dj n f ps ps.length 0 g):∀a b:Nat,a<n→(b∈g a↔b∈f a∨(a≠b∧a∈ps∧b∈ps)):=fun a b ha=>by
 rw [h a b ha,List.take_length]
 simp
def FR:Sp:=fun vs H Q _=>∃(D pl:Addr) (n:Nat) (ds:Nat→Addr) (un:Nat→Prop) (f:Nat→List Nat) (ps:List Nat),vs=[.ref D,.ref pl]∧b6 H D n ds un f∧H pl=some (.lst (ps.map fun k:Nat=>V.int (k:Int)))∧(∀p∈ps,p<n∧un p)∧n≤1000 ∧
 ∀(H':Hp) (g:Nat→List Nat),iu n ds un H H'→b6 H' D n ds un g→(∀a b:Nat,a<n→(b∈g a↔b∈f a∨(a≠b∧a∈ps∧b∈ps)))→Q .aG H'
theorem b6.mono{H H':Hp}{D:Addr}{n:Nat}{ds:Nat→Addr}{un:Nat→Prop}{f:Nat→List Nat}(h:b6 H D n ds un f)(s:aj H H'):b6 H' D n ds un f:=⟨s _ _ h.lst,h.inj,h.ne,fun i hi ui=>s _ _ (h.at' i hi ui),h.pl⟩
theorem b6.less{H:Hp}{D:Addr}{n:Nat}{ds:Nat→Addr}{un yB:Nat→Prop}{f:Nat→List Nat}(h:b6 H D n ds un f)(k:∀i,i<n→yB i→un i):b6 H D n ds yB f:=⟨h.lst,h.inj,h.ne,fun i hi ui=>h.at' i hi (k i hi ui),h.pl⟩
theorem b6.upd{H:Hp}{D:Addr}{n:Nat}{ds:Nat→Addr}{un:Nat→Prop}{f:Nat→List Nat}(h:b6 H D n ds un f){x:Addr}{o:HO}(n1:x≠D)(n2:∀i,i<n→un i→ds i≠x):b6 (upd H x o) D n ds un f:=⟨by rw [aA (Ne.symm n1)];exact h.lst,h.inj,h.ne,fun i hi ui=>by rw [aA (n2 i hi ui)];exact h.at' i hi ui,h.pl⟩
theorem FT{a:Addr}{o:Obj}{ai:List (Key×V)}{H1:Hp}(h:H1 a=some (.bj o (.dK ai))):h9 (kJ a o ai) (ai.map fun kv=>kV kv.1) H1 where
 go:=fun i Hc s hi=>⟨s _ _ h,by simpa using hi⟩
 cn:=fun i Hc x H' s y=>⟨y.1,fun _=>by
  obtain ⟨kv,e,rfl⟩:=y.2
  rw [List.getElem?_map,e]
  rfl⟩
 stop:=fun i Hc s hi=>⟨s _ _ h,by simpa using hi⟩
theorem FU(ks:List Nat):(dk ks).map (fun kv=>kV kv.1)=ks.map fun k:Nat=>V.int (k:Int):=by
 unfold dk
 rw [List.map_map]
 rfl
theorem FV(ks:List Nat):(List.range ks.length).map (fun i=>ks.getD i 0)=ks:=by
 refine List.ext_getElem (by simp) fun i h1 h2=>?_
 simp [List.getD_eq_getElem?_getD,h2]
theorem FW(ks:List Nat)(pr:Nat→Bool):((List.range ks.length).filter fun i=>pr (ks.getD i 0)).map (fun i=>ks.getD i 0)=ks.filter pr:=by
 have e:=List.filter_map (f:=fun i=>ks.getD i 0) (l:=List.range ks.length) (p:=pr)
 rw [FV] at e
 exact e.symm
theorem FX{ρ:St→St}{tt:TT}{te:TE}{σ:St}{H:Hp}{Q:VK}{ks:List Nat}{a:Addr}{ob:Obj}(h:H a=some (.bj ob (.dK (dk ks))))(pr:Nat→Bool)(hl:ks.length<sizeLine)
  (test:∀k∈ks,∀(Hc:Hp) (R:Bool→Hp→Prop),aj H Hc→R (pr k) Hc→tt (some (.int (k:Int))::ρ σ) Hc R)
  (step:∀k∈ks,∀(Hc:Hp) (R:VK),R (.int (k:Int)) Hc→te (some (.int (k:Int))::ρ σ) Hc R)
  (fin:∀D Hc,H D=none→aj H Hc→Hc D=some (.lst ((ks.filter pr).map fun k:Nat=>V.int (k:Int)))→Q (.ref D) Hc):fq (fun _ H R=>R (kJ a ob (dk ks)) H) ρ tt te σ H Q:=by
 have at':∀{i:Nat} {x:V},(ks.map fun k:Nat=>V.int (k:Int))[i]?=some x→i<ks.length∧x=.int ((ks.getD i 0:Nat):Int)∧ks.getD i 0∈ks:=fun{i x} hx=>by
  have hi:i<ks.length:=by
   have:=(List.getElem?_eq_some_iff.mp hx).1
   simpa using this
  rw [List.getElem?_map] at hx
  simp [hi] at hx
  rw [getD_at hi]
  exact ⟨hi,hx.symm,List.getElem_mem hi⟩
 refine E_ (xs:=ks.map fun k:Nat=>V.int (k:Int)) (fun i=>pr (ks.getD i 0)) (fun R k=>k _ (by rw [←FU];exact FT h)) (by rw [List.length_map];exact hl) (fun _ i y _=>y=.int ((ks.getD i 0:Nat):Int)) (fun _ _ _ _ _ _ h _ _=>h) ?_ ?_ ?_
 ·intro i x hx Hc R sc hR
  obtain ⟨_,rfl,m⟩:=at' hx
  exact test _ m Hc R sc hR
 ·intro D i x hx Hc R sc _ kc
  obtain ⟨_,rfl,m⟩:=at' hx
  exact step _ m Hc R (kc _ Hc (aj.refl _) rfl)
 ·intro D ys Hc nD sc ly hP eD
  refine fin D Hc nD sc ?_
  rw [eD,←FW ks pr,List.map_map]
  rw [List.length_map] at ly hP
  congr 2
  refine List.ext_getElem (by simpa using ly) fun k h1 h2=>?_
  have h3:k<((List.range ks.length).filter fun i=>pr (ks.getD i 0)).length:=by simpa using h2
  rw [List.getElem_map]
  exact hP k _ _ (List.getElem?_eq_getElem h1) (List.getElem?_eq_getElem h3)
theorem um{ws:List Int}{ks:List Nat}(p:ws.Perm (ks.map iN)):∃ms:List Nat,ws=ms.map iN∧ms.Perm ks:=by
 refine ⟨ws.map Int.toNat,?_,?_⟩
 ·rw [List.map_map]
  conv=>lhs;rw [←List.map_id ws]
  refine List.map_congr_left fun z hz=>?_
  obtain ⟨k,_,rfl⟩:=List.mem_map.mp (p.mem_iff.mp hz)
  show iN k=iN (Int.toNat (iN k))
  unfold iN
  rw [Int.toNat_natCast]
 ·have:=p.map Int.toNat
  rw [List.map_map] at this
  have e:ks.map (Int.toNat ∘ iN)=ks:=by
   conv=>rhs;rw [←List.map_id ks]
   exact List.map_congr_left fun k _=>Int.toNat_natCast k
  rw [e] at this
  exact this
structure iw (n:Nat) (o:List Nat) (p:Nat) (ms:List Nat):Prop where
 up:ms.Pairwise (· < ·)
 lt:∀q∈ms,q<n
 la:∀q∈ms,o.idxOf p<o.idxOf q
theorem FY{n:Nat}{o:List Nat}{p:Nat}{ks ms:List Nat}(hk:e9 n ks)(h:ms.Perm (ks.filter fun q=>decide (o.idxOf p<o.idxOf q)))(s:(ms.map iN).Pairwise (·≤·)):iw n o p ms:=by
 have m:∀q∈ms,q∈ks∧o.idxOf p<o.idxOf q:=fun q hq=>by
  have:=List.mem_filter.mp (h.mem_iff.mp hq)
  exact ⟨this.1,by simpa using this.2⟩
 refine ⟨?_,fun q hq=>hk.2 q (m q hq).1,fun q hq=>(m q hq).2⟩
 have nd:ms.Nodup:=h.nodup_iff.mpr (hk.1.filter _)
 rw [List.pairwise_map] at s
 refine List.Pairwise.imp₂ (fun a b h1 h2=>?_) s nd
 have h1:(a:Int)≤(b:Int):=h1
 have h2:a≠b:=h2
 omega
def uo(H:Hp)(D:Addr)(n:Nat)(rs:Nat→Addr)(g:Nat→List Nat):Prop:=H D=some (.lst ((List.range n).map fun p=>V.ref (rs p)))∧∀p,p<n→H (rs p)=some (.lst ((g p).map fun k:Nat=>V.int (k:Int)))
theorem FZ{zs:List Int}{n:Nat}(h:gh zs n):∃o:List Nat,zs=o.map iN∧o.Perm (List.range n):=um h
def fb(rs:Nat→Addr)(p:Nat)(x:Addr):Nat→Addr:=fun q=>if q=p then x else rs q
theorem F0(n:Nat)(rs:Nat→Addr)(p:Nat)(x:Addr):((List.range n).map fun q=>V.ref (rs q)).set p (.ref x)=(List.range n).map fun q=>V.ref (fb rs p x q):=by
 refine List.ext_getElem (by simp) fun q h1 h2=>?_
 rw [List.getElem_set,List.getElem_map,List.getElem_range,List.getElem_map,List.getElem_range]
 unfold fb
 by_cases e:p=q
 ·subst e
  rw [if_pos rfl,if_pos rfl]
 ·rw [if_neg e,if_neg (Ne.symm e)]
theorem yC{rs:Nat→Addr}{p:Nat}{x:Addr}:fb rs p x p=x:=if_pos rfl
theorem F1{rs:Nat→Addr}{p q:Nat}{x:Addr}(h:q≠p):fb rs p x q=rs q:=if_neg h
theorem F2{f:Nat→List Nat}{p:Nat}{x:List Nat}:b4 f p x p=x:=if_pos rfl
theorem F3{f:Nat→List Nat}{p q:Nat}{x:List Nat}(h:q≠p):b4 f p x q=f q:=if_neg h
theorem gN{n:Nat}{g:Nat→V}{p:Nat}(h:p<n):eA ((List.range n).map g) (p:Int)=some (g p):=i6 (by rw [List.getElem?_map,List.getElem?_range h];rfl)
theorem F4(o ks:List Nat)(p:Nat):(ks.filter fun q=>decide ((o.idxOf p:Int)<(o.idxOf q:Int)))=ks.filter fun q=>decide (o.idxOf p<o.idxOf q):=by
 refine List.filter_congr fun q _=>?_
 rw [Bool.eq_iff_iff,decide_eq_true_iff,decide_eq_true_iff]
 omega
theorem iy{n:Nat}{o:List Nat}(h:o.Perm (List.range n)){p q:Nat}(hp:p<n)(hq:q<n)(ne:p≠q):o.idxOf p≠o.idxOf q:=fun z=>by
 obtain ⟨h1,e1⟩:=gM ((d5 h).mpr hp)
 obtain ⟨h2,e2⟩:=gM ((d5 h).mpr hq)
 refine ne ?_
 rw [←e1,←e2]
 congr 1
theorem F5{wi:TI}{ρ:St→St}{tt:TT}{te:TE}{σ:St}{H:Hp}{Q:VK}(h:wi σ H fun J H1=>fq (fun _ H R=>R J H) ρ tt te σ H1 Q):fq wi ρ tt te σ H Q:=h
end My
namespace L2
open PySem PySem.Spec PyProof.Rows
section
variable {X:Cx} {pins:List (Addr×Obj)} {σ:St} {H:Hp} {s:Shared}
end
end L2
namespace My
open PySem L2
theorem ur{n:Nat}{o:List Nat}(h:o.Perm (List.range n)){p:Nat}{ms:List Nat}(k:iw n o p ms):ms.length≤n-1-o.idxOf p:=by
 have nd:(ms.map fun q=>o.idxOf q-(o.idxOf p+1)).Nodup:=by
  rw [List.nodup_iff_pairwise_ne,List.pairwise_map]
  refine List.Pairwise.imp_of_mem (fun{a b} ha hb lt=>?_) k.up
  have h1:=k.la a ha
  have h2:=k.la b hb
  have ne:=iy h (k.lt a ha) (k.lt b hb) (Nat.ne_of_lt lt)
  omega
 have:=pY (n:=n-1-o.idxOf p) nd (fun x hx=>by
  obtain ⟨q,hq,rfl⟩:=List.mem_map.mp hx
  have h1:=k.la q hq
  have h2:=(gM ((d5 h).mpr (k.lt q hq))).1
  rw [gK h] at h2
  omega)
 rwa [List.length_map] at this
theorem yE{f g:Nat→Nat}:∀{l:List Nat},(∀p∈l,f p≤g p)→(l.map f).sum≤(l.map g).sum
 | [],_=>Nat.le_refl _
 | a::r,h=>by
  have h1:=h a (List.mem_cons_self ..)
  have h2:=yE (l:=r) fun p hp=>h p (List.mem_cons_of_mem _ hp)
  simp only [List.map_cons,List.sum_cons]
  omega
def bO(p q:Nat):Int×Int:=(if (q:Int)<(p:Int) then (q:Int) else (p:Int),if (q:Int)>(p:Int) then (q:Int) else (p:Int))
theorem uu{n p q:Nat}(hp:p<n)(hq:q<n):0≤(bO p q).2∧(bO p q).2<(n:Int):=by
 unfold bO
 dsimp only
 split <;> omega
theorem aN.app{H:Hp}{xs ys:List V}{M N:List (Int×Int)}(h:aN H xs M)(h':aN H ys N):aN H (xs++ys) (M++N):=by
 have l1:=h.1
 have l2:=h'.1
 refine ⟨by simp [l1,l2],fun k v p h1 h2=>?_⟩
 by_cases e:k<xs.length
 ·rw [List.getElem?_append_left e] at h1
  rw [List.getElem?_append_left (by omega)] at h2
  exact h.2 k v p h1 h2
 ·rw [List.getElem?_append_right (by omega)] at h1
  rw [List.getElem?_append_right (by omega),←l1] at h2
  exact h'.2 _ v p h1 h2
theorem F6{g:Nat→Nat}{n k:Nat}(h:k≤n):((List.range k).map g).sum≤((List.range n).map g).sum:=by
 induction n with
 | zero=>rw [Nat.le_zero.mp h];exact Nat.le_refl _
 | succ n ih=>
  by_cases e:k=n+1
  ·subst e;exact Nat.le_refl _
  ·have:=ih (by omega)
   rw [List.range_succ,List.map_append,List.sum_append]
   omega
end My
namespace L2
open PySem PySem.Spec PyProof.Rows
theorem F7{X:Cx}{E:XK}(L:mR X E):PassesOwn (model X.prog X.w) X.A X.env X.xe:=by
 rw [L.xe]
 exact PassesOwn.leaving
end L2
namespace My
open PySem L2
end My
namespace L2
open PySem PySem.Spec PyProof.Rows
end L2
namespace My
open PySem L2
end My
namespace L2
open PySem PySem.Spec PyProof.Rows
end L2
namespace My
open PySem L2
end My
namespace L2
open PySem PySem.Spec PyProof.Rows
end L2
namespace My
open PySem L2
def uv:V→Nat
 | .int i=>i.toNat
 | _=>0
theorem F8{ys:List V}{n:Nat}(p:ys.Perm (bW n)):∃o:List Nat,ys=o.map (fun k:Nat=>V.int (k:Int))∧o.Perm (List.range n):=by
 refine ⟨ys.map uv,?_,?_⟩
 ·rw [List.map_map]
  conv=>lhs;rw [←List.map_id ys]
  refine List.map_congr_left fun y hy=>?_
  obtain ⟨k,_,rfl⟩:=List.mem_map.mp (p.mem_iff.mp hy)
  show V.int (k:Int)=V.int (((k:Int).toNat:Nat):Int)
  rw [Int.toNat_natCast]
 ·have:=p.map uv
  unfold bW at this
  rw [List.map_map] at this
  have e:(List.range n).map (uv ∘ fun i:Nat=>V.int (i:Int))=List.range n:=by
   conv=>rhs;rw [←List.map_id (List.range n)]
   exact List.map_congr_left fun k _=>Int.toNat_natCast k
  rw [e] at this
  exact this
theorem Ms(xs:List V)(k:Nat)(h:k≤xs.length):cy xs none (some (k:Int))=xs.take k:=by
 unfold cy HT.aD
 simp only
 rw [if_neg (by omega),Int.toNat_natCast,Nat.min_eq_left h,Nat.sub_zero]
 rfl
theorem F9(xs:List V)(k:Nat)(h:k≤xs.length):cy xs (some (k:Int)) none=xs.drop k:=by
 unfold cy HT.aD
 simp only
 rw [if_neg (by omega),Int.toNat_natCast,Nat.min_eq_left h]
 exact List.take_of_length_le (by rw [List.length_drop];exact Nat.le_refl _)
inductive iz (aV:Nat→Nat→Prop) (aS:Nat→Prop) (s:Nat):Nat→Prop where
 | start:iz aV aS s s
 | step {a b:Nat}:iz aV aS s a→(a=s∨aS a)→aV a b→iz aV aS s b
structure cu (n:Nat) (aV:Nat→Nat→Prop) (aS:Nat→Prop) (s:Nat) (here:Option Nat) (dn:Nat→Prop) (ks ws:List Nat):Prop where
 pl:e9 n ks
 st:s∈ks
 rc:∀k∈ks,iz aV aS s k
 wt:∀w∈ws,w∈ks∧(w=s∨aS w)
 cl:∀k∈ks,(k=s∨aS k)→k∈ws∨∀b,aV k b→b∈ks∨(here=some k∧¬dn b)
variable {n:Nat} {aV:Nat→Nat→Prop} {aS:Nat→Prop} {s:Nat}
theorem cu.start(hs:s<n){dn:Nat→Prop}:cu n aV aS s none dn [s] [s]:=
 ⟨⟨by simp,fun k hk=>by rw [List.mem_singleton.mp hk];exact hs⟩,List.mem_singleton.mpr rfl,fun k hk=>by rw [List.mem_singleton.mp hk];exact .start,fun w hw=>⟨hw,.inl (List.mem_singleton.mp hw)⟩,fun k hk _=>.inl hk⟩
theorem cu.pop{dn:Nat→Prop}{ks ws:List Nat}{h:Nat}(k:cu n aV aS s none dn ks (ws++[h])):cu n aV aS s (some h) (fun _=>False) ks ws:=
 ⟨k.pl,k.st,k.rc,fun w hw=>k.wt w (List.mem_append_left _ hw),fun x hx ox=>by
  rcases k.cl x hx ox with e | e
  ·rcases List.mem_append.mp e with e | e
   ·exact .inl e
   ·exact .inr fun b _=>.inr ⟨by rw [List.mem_singleton.mp e],fun z=>z⟩
  ·exact .inr fun b hb=>.inl ((e b hb).resolve_right fun z=>by cases z.1)⟩
theorem cu.old{h b:Nat}{dn:Nat→Prop}{ks ws:List Nat}(k:cu n aV aS s (some h) dn ks ws)(hb:b∈ks):cu n aV aS s (some h) (fun x=>dn x∨x=b) ks ws:=
 ⟨k.pl,k.st,k.rc,k.wt,fun x hx ox=>by
  rcases k.cl x hx ox with e | e
  ·exact .inl e
  ·refine .inr fun c hc=>?_
   rcases e c hc with e | e
   ·exact .inl e
   ·by_cases z:c=b
    ·rw [z];exact .inl hb
    ·exact .inr ⟨e.1,fun q=>q.elim e.2 z⟩⟩
theorem cu.new{h b:Nat}{dn:Nat→Prop}{ks ws vs:List Nat}(k:cu n aV aS s (some h) dn ks ws)(hb:b∉ks)(bn:b<n)(hh:h∈ks)(oh:h=s∨aS h)(ab:aV h b)(hv:(aS b∧vs=ws++[b])∨(¬aS b∧vs=ws)):cu n aV aS s (some h) (fun x=>dn x∨x=b) (bG ks b) vs:=by
 have bs:b≠s:=fun z=>hb (z▸k.st)
 have sub:∀w∈ws,w∈vs:=fun w hw=>by
  rcases hv with ⟨_,rfl⟩ | ⟨_,rfl⟩
  ·exact List.mem_append_left _ hw
  ·exact hw
 refine ⟨k.pl.add bn,dZ.mpr (.inl k.st),fun x hx=>?_,fun w hw=>?_,fun x hx ox=>?_⟩
 ·rcases dZ.mp hx with e | rfl
  ·exact k.rc x e
  ·exact .step (k.rc h hh) oh ab
 ·rcases hv with ⟨tb,rfl⟩ | ⟨_,rfl⟩
  ·rcases List.mem_append.mp hw with e | e
   ·exact ⟨dZ.mpr (.inl (k.wt w e).1),(k.wt w e).2⟩
   ·rw [List.mem_singleton.mp e]
    exact ⟨dZ.mpr (.inr rfl),.inr tb⟩
  ·exact ⟨dZ.mpr (.inl (k.wt w hw).1),(k.wt w hw).2⟩
 ·rcases dZ.mp hx with e | rfl
  ·rcases k.cl x e ox with e | e
   ·exact .inl (sub x e)
   ·refine .inr fun c hc=>?_
    rcases e c hc with e | e
    ·exact .inl (dZ.mpr (.inl e))
    ·by_cases z:c=b
     ·exact .inl (dZ.mpr (.inr z))
     ·exact .inr ⟨e.1,fun q=>q.elim e.2 z⟩
  ·rcases hv with ⟨tb,rfl⟩ | ⟨tb,rfl⟩
   ·exact .inl (List.mem_append_right _ (List.mem_singleton.mpr rfl))
   ·exact absurd ox (fun z=>z.elim bs tb)
theorem cu.next{h:Nat}{dn F_:Nat→Prop}{ks ws:List Nat}(k:cu n aV aS s (some h) dn ks ws)(all:∀b,aV h b→dn b):cu n aV aS s none F_ ks ws:=
 ⟨k.pl,k.st,k.rc,k.wt,fun x hx ox=>by
  rcases k.cl x hx ox with e | e
  ·exact .inl e
  ·refine .inr fun c hc=>.inl ?_
   rcases e c hc with e | ⟨e,e2⟩
   ·exact e
   ·cases e
    exact absurd (all c hc) e2⟩
theorem cu.done{dn:Nat→Prop}{ks:List Nat}(k:cu n aV aS s none dn ks [])(x:Nat):x∈ks↔iz aV aS s x:=by
 refine ⟨k.rc x,fun h=>?_⟩
 induction h with
 | start=>exact k.st
 | step _ o ab ih=>
  rcases k.cl _ ih o with e | e
  ·cases e
  ·exact (e _ ab).resolve_right fun z=>by cases z.1
theorem Ga{ks:List Nat}{b:Nat}(h:b∉ks):(bG ks b).length=ks.length+1:=by
 unfold bG
 rw [if_neg h,List.length_append]
 rfl
end My
namespace L2
open PySem PySem.Spec PyProof.Rows
end L2
namespace My
open PySem L2
def iA(n:Nat)(f:Nat→List Nat)(a b:Nat):Prop:=a<n∧b∈f a
theorem yF(done:List Nat)(k:Nat):kj (.int (k:Int)) (done.map fun k:Nat=>V.int (k:Int))=decide (k∈done):=by
 unfold kj
 rw [Bool.eq_iff_iff,List.any_eq_true,decide_eq_true_iff]
 constructor
 ·rintro ⟨y,hy,e⟩
  obtain ⟨j,hj,rfl⟩:=List.mem_map.mp hy
  have e:((j:Int) == (k:Int))=true:=e
  rw [beq_iff_eq] at e
  have:j=k:=by omega
  subst this
  exact hj
 ·intro h
  exact ⟨_,List.mem_map.mpr ⟨k,h,rfl⟩,kD rfl⟩
theorem Gb(done:List Nat):(done.map fun k:Nat=>V.int (k:Int)).all dJ=true:=by
 rw [List.all_eq_true]
 intro x hx
 obtain ⟨j,_,rfl⟩:=List.mem_map.mp hx
 rfl
def fg(g:Nat→List Nat)(i j:Nat):Nat→List Nat:=b4 g i (g i++[j])
theorem yG{g:Nat→List Nat}{i j a b:Nat}:b∈fg g i j a↔b∈g a∨(a=i∧b=j):=by
 unfold fg b4
 by_cases e:a=i
 ·subst e
  rw [if_pos rfl,List.mem_append,List.mem_singleton]
  simp
 ·rw [if_neg e]
  simp [e]
theorem nG{g:Nat→List Nat}{i j a:Nat}:(fg g i j a).length≤(g a).length+1:=by
 unfold fg b4
 by_cases e:a=i
 ·subst e
  rw [if_pos rfl,List.length_append]
  exact Nat.le_refl _
 ·rw [if_neg e];omega
theorem di.snoc{n:Nat}{L:List (Int×Int)}{g:Nat→List Nat}(h:di n L g){i j:Nat}:di n (L++[((i:Int),(j:Int))]) (fg (fg g i j) j i):=fun a b ha=>by
 rw [yG,yG,h a b ha]
 simp only [List.mem_append,List.mem_singleton,Prod.mk.injEq]
 constructor
 ·rintro (((e | e) | ⟨rfl,rfl⟩) | ⟨rfl,rfl⟩)
  ·exact .inl (.inl e)
  ·exact .inr (.inl e)
  ·exact .inl (.inr ⟨rfl,rfl⟩)
  ·exact .inr (.inr ⟨rfl,rfl⟩)
 ·rintro ((e | ⟨e1,e2⟩) | (e | ⟨e1,e2⟩))
  ·exact .inl (.inl (.inl e))
  ·exact .inl (.inr ⟨by omega,by omega⟩)
  ·exact .inl (.inl (.inr e))
  ·exact .inr ⟨by omega,by omega⟩
structure eG (H:Hp) (D:Addr) (n:Nat) (rs:Nat→Addr) (g:Nat→List Nat):Prop where
 lst:H D=some (.lst ((List.range n).map fun i=>V.ref (rs i)))
 inj:∀i j,i<n→j<n→rs i=rs j→i=j
 ne:∀i,i<n→rs i≠D
 at':∀i,i<n→H (rs i)=some (.lst ((g i).map fun k:Nat=>V.int (k:Int)))
theorem eG.snoc{H:Hp}{D:Addr}{n:Nat}{rs:Nat→Addr}{g:Nat→List Nat}(h:eG H D n rs g){i:Nat}(j:Nat)(hi:i<n):eG (upd H (rs i) (.lst (((g i).map fun k:Nat=>V.int (k:Int))++[V.int (j:Int)]))) D n rs (fg g i j):=by
 refine ⟨by rw [aA (Ne.symm (h.ne i hi))];exact h.lst,h.inj,h.ne,fun a ha=>?_⟩
 unfold fg b4
 by_cases e:a=i
 ·subst e
  rw [if_pos rfl,ar,List.map_append]
  rfl
 ·rw [if_neg e,aA (fun z=>e (h.inj a i ha hi z))]
  exact h.at' a ha
def Gd:Sp:=fun vs H Q _=>∃(D d:Addr) (n:Nat) (rs:Nat→Addr) (g:Nat→List Nat) (done:List Nat) (p:Nat),vs=[.ref D,.ref d,.int (p:Int)]∧eG H D n rs g∧(∀i,i<n→∀j∈g i,j<n)∧H d=some (.lst (done.map fun k:Nat=>V.int (k:Int)))∧done.length≤1000∧p<n∧n≤60 ∧
 ∀(H':Hp) (mt:Addr) (ks:List Nat),aj H H'→H mt=none→H' mt=some (.dK (dk ks))→e9 n ks→(∀x,x∈ks↔iz (iA n g) (·∈done) p x)→Q (.ref mt) H'
end My
namespace L2
open PySem PySem.Spec PyProof.Rows
end L2
namespace My
open PySem L2
def Ge:Sp:=fun vs H Q _=>∃(z:Int) (n:Nat),vs=[.int z,.int (n:Int)]∧Q (.bl (decide (0≤z∧z<n))) H
end My
namespace L2
open PySem PySem.Spec PyProof.Rows My
end L2
namespace My
open PySem L2
def nH(p q:Int×Int):Prop:=p.1*1000+p.2≤q.1*1000+q.2
theorem Gf{M:List (Int×Int)}{p:Array Nat}(P:f_ M.length p)(U:ic (fun i=>(M.getD i (0,0)).1*1000+(M.getD i (0,0)).2) p M.length) :
  (p.toList.map fun i=>M.getD i (0,0)).Perm M∧(p.toList.map fun i=>M.getD i (0,0)).Pairwise nH:=by
 have pm:p.toList.Perm (List.range M.length):=Array.perm_iff_toList_perm.mp P
 have lt:∀i∈p.toList,i<M.length:=fun i hi=>List.mem_range.mp (pm.mem_iff.mp hi)
 refine ⟨?_,?_⟩
 ·have e:((List.range M.length).map fun i=>M.getD i (0,0))=M:=by
   refine List.ext_getElem (by simp) fun i h1 h2=>?_
   rw [List.getElem_map,List.getElem_range,getD_at h2]
  have:=pm.map fun i=>M.getD i (0,0)
  rw [e] at this
  exact this
 ·rw [List.pairwise_iff_getElem]
  intro i j hi hj tK
  rw [List.length_map] at hi hj
  rw [List.getElem_map,List.getElem_map]
  have sz:=P.size
  have u:=U i j (by omega) (by rw [←sz,←Array.length_toList];exact hj)
  unfold vN at u
  have gi:p.getD i 0=p.toList[i]:=by
   have:i<p.size:=by rw [←Array.length_toList];exact hi
   simp [Array.getD,this]
  have gj:p.getD j 0=p.toList[j]:=by
   have:j<p.size:=by rw [←Array.length_toList];exact hj
   simp [Array.getD,this]
  rw [gi,gj] at u
  exact u
theorem yH{H:Hp}{l:Addr}{us:List V}{M:List (Int×Int)}{Q:VK}(el:H l=some (.lst us))(hM:aN H us M)(Mt:M.length<1000)(b:∀q∈M,0≤q.2∧q.2<1000)
  (k:∀(l':Addr) (ws:List V) (N:List (Int×Int)) (H':Hp),aj H H'→H l'=none→H' l'=some (.lst ws)→aN H' ws N→N.Perm M→N.Pairwise nH→Q (.ref l') H'):yd [.ref l] H Q:=by
 have lX:=hM.1
 refine ⟨l,us,fun i=>(M.getD i (0,0)).1,fun i=>(M.getD i (0,0)).2,rfl,el,by omega,fun i v hv=>?_,fun p l' hp hu jl=>?_⟩
 ·have hi:i<M.length:=by
   rw [←lX]
   exact (List.getElem?_eq_some_iff.mp hv).1
  obtain ⟨c,rfl,ec⟩:=hM.2 i v M[i] hv (by simp [hi])
  dsimp only
  rw [getD_at hi]
  exact ⟨⟨c,rfl,ec⟩,b _ (List.getElem_mem hi)⟩
 ·rw [lX] at hp hu
  obtain ⟨pm,pw⟩:=Gf hp hu
  have hP:aN H (p.toList.map fun i=>us.getD i .aG) (p.toList.map fun i=>M.getD i (0,0)):=hM.pick _ fun i hi=>by
   have:p.toList.Perm (List.range M.length):=Array.perm_iff_toList_perm.mp hp
   exact List.mem_range.mp (this.mem_iff.mp hi)
  exact k l' _ _ _ (aU jl) jl ar (hP.mono (aU jl)) pm pw
end My
namespace L2
open PySem PySem.Spec PyProof.Rows My
end L2
namespace My
open PySem L2
def Gg:Sp:=fun vs H Q _=>∃(t:Addr) (n:Nat) (L:List (Int×Int)),vs=[.ref t]∧cF H t n L∧jk n L∧n≤60∧L.length≤200 ∧
 ∀(H':Hp) (D:Addr) (rs:Nat→Addr) (g:Nat→List Nat),aj H H'→H D=none→(∀i,i<n→H (rs i)=none)→eG H' D n rs g→di n L g→(∀i,(g i).length≤2*L.length)→Q (.ref D) H'
inductive Wk (aV:Nat→Nat→Prop) (aS:Nat→Prop) (s:Nat):Nat→Prop where
 | one {b:Nat}:aV s b→Wk aV aS s b
 | more {a b:Nat}:Wk aV aS s a→aS a→aV a b→Wk aV aS s b
section
variable {aV:Nat→Nat→Prop} {aS nI:Nat→Prop} {s t:Nat}
theorem Gh(t:Nat):iz aV aS s t↔t=s∨Wk aV aS s t:=by
 constructor
 ·intro h
  induction h with
  | start=>exact .inl rfl
  | step _ o ab ih=>
   rcases ih with rfl | w
   ·exact .inr (.one ab)
   ·rcases o with rfl | o
    ·exact .inr (.one ab)
    ·exact .inr (.more w o ab)
 ·rintro (rfl | h)
  ·exact .start
  ·induction h with
   | one ab=>exact .step .start (.inl rfl) ab
   | more _ o ab ih=>exact .step ih (.inr o) ab
theorem Wk.mono(h:Wk aV aS s t)(k:∀x,aS x→nI x):Wk aV nI s t:=by
 induction h with
 | one ab=>exact .one ab
 | more _ o ab ih=>exact .more ih (k _ o) ab
theorem Wk.imp{yI:Nat→Nat→Prop}(h:Wk aV aS s t)(k:∀a b,aV a b→yI a b):Wk yI aS s t:=by
 induction h with
 | one ab=>exact .one (k _ _ ab)
 | more _ o ab ih=>exact .more ih o (k _ _ ab)
theorem Wk.cons{a:Nat}(ab:aV s a)(ta:aS a)(h:Wk aV aS a t):Wk aV aS s t:=by
 induction h with
 | one e=>exact .more (.one ab) ta e
 | more _ o e ih=>exact .more ih o e
theorem Wk.symm(sy:∀a b,aV a b→aV b a)(h:Wk aV aS s t):Wk aV aS t s:=by
 induction h with
 | one ab=>exact .one (sy _ _ ab)
 | more _ o ab ih=>exact ih.cons (sy _ _ ab) o
theorem Wk.trans{p:Nat}(h:Wk aV aS s p)(tp:aS p)(h':Wk aV aS p t):Wk aV aS s t:=by
 induction h' with
 | one ab=>exact .more h tp ab
 | more _ o ab ih=>exact .more ih o ab
theorem Wk.step{p:Nat}(k:∀x,nI x↔aS x∨x=p):Wk aV nI s t↔Wk aV aS s t∨(Wk aV aS s p∧Wk aV aS p t):=by
 constructor
 ·intro h
  induction h with
  | one ab=>exact .inl (.one ab)
  | more _ o ab ih=>
   rcases (k _).mp o with o | rfl
   ·rcases ih with ih | ⟨i1,i2⟩
    ·exact .inl (.more ih o ab)
    ·exact .inr ⟨i1,.more i2 o ab⟩
   ·rcases ih with ih | ⟨i1,_⟩
    ·exact .inr ⟨ih,.one ab⟩
    ·exact .inr ⟨i1,.one ab⟩
 ·have m:∀x,aS x→nI x:=fun x h=>(k x).mpr (.inl h)
  rintro (h | ⟨h,h'⟩)
  ·exact h.mono m
  ·exact (h.mono m).trans ((k p).mpr (.inr rfl)) (h'.mono m)
end
def aL(n:Nat)(L:List (Int×Int))(a b:Nat):Prop:=a<n∧b<n∧(((a:Int),(b:Int))∈L∨((b:Int),(a:Int))∈L)
theorem yJ{n:Nat}{L:List (Int×Int)}(a b:Nat)(h:aL n L a b):aL n L b a:=⟨h.2.1,h.1,h.2.2.symm⟩
def p9(L:List (Int×Int)):Prop:=∀p∈L,p.1≠p.2
def d6(n:Nat)(o:List Nat)(k x:Nat):Prop:=x<n∧o.idxOf x<k
def jm(n:Nat)(L:List (Int×Int))(o:List Nat)(k:Nat)(f:Nat→List Nat):Prop:=∀a b:Nat,a<n→b<n→k≤o.idxOf a→k≤o.idxOf b→(b∈f a↔a≠b∧Wk (aL n L) (d6 n o k) a b)
theorem jm.start{n:Nat}{L:List (Int×Int)}{o:List Nat}{f:Nat→List Nat}(nb:di n L f)(ns:p9 L):jm n L o 0 f:=fun a b ha hb _ _=>by
 rw [nb a b ha]
 constructor
 ·intro h
  refine ⟨fun e=>?_,.one ⟨ha,hb,h⟩⟩
  subst e
  rcases h with h | h <;> exact ns _ h rfl
 ·rintro ⟨_,h⟩
  cases h with
  | one ab=>exact ab.2.2
  | more _ o _=>exact absurd o.2 (Nat.not_lt_zero _)
theorem jm.step{n:Nat}{L:List (Int×Int)}{o:List Nat}(ho:o.Perm (List.range n)){k p:Nat}{f g:Nat→List Nat}{ms:List Nat}(h:jm n L o k f)(hp:p<n)(ip:o.idxOf p=k)(hm:∀q,q∈ms↔q∈f p∧k<o.idxOf q)(ml:∀q∈ms,q<n)
  (con:∀a b:Nat,a<n→(b∈g a↔b∈f a∨(a≠b∧a∈ms∧b∈ms))):jm n L o (k+1) g:=fun a b ha hb ka kb=>by
 have th:∀x,d6 n o (k+1) x↔d6 n o k x∨x=p:=fun x=>by
  unfold d6
  constructor
  ·rintro ⟨h1,h2⟩
   by_cases e:o.idxOf x=k
   ·right
    by_cases z:x=p
    ·exact z
    ·exact absurd (e.trans ip.symm) (iy ho h1 hp z)
   ·exact .inl ⟨h1,by omega⟩
  ·rintro (⟨h1,h2⟩ | rfl)
   ·exact ⟨h1,by omega⟩
   ·exact ⟨hp,by omega⟩
 have ap:a≠p:=fun e=>by subst e;omega
 have bp:b≠p:=fun e=>by subst e;omega
 have ea:=h p a hp ha (by omega) (by omega)
 have eb:=h p b hp hb (by omega) (by omega)
 rw [con a b ha,h a b ha hb (by omega) (by omega),hm a,hm b,ea,eb,Wk.step th]
 constructor
 ·rintro (⟨h1,h2⟩ | ⟨h1,⟨⟨_,h2⟩,_⟩,⟨_,h3⟩,_⟩)
  ·exact ⟨h1,.inl h2⟩
  ·exact ⟨h1,.inr ⟨h2.symm yJ,h3⟩⟩
 ·rintro ⟨h1,h2 | ⟨h2,h3⟩⟩
  ·exact .inl ⟨h1,h2⟩
  ·exact .inr ⟨h1,⟨⟨Ne.symm ap,h2.symm yJ⟩,by omega⟩,⟨Ne.symm bp,h3⟩,by omega⟩
def jn(n:Nat)(L:List (Int×Int))(o:List Nat)(p:Nat)(ms:List Nat):Prop:=∀q,q∈ms↔q<n∧o.idxOf p<o.idxOf q∧Wk (aL n L) (d6 n o (o.idxOf p)) p q
def Gi(N:Addr):Sp:=fun vs H Q E=>∃(t a:Addr) (n:Nat) (L:List (Int×Int)) (zs:List Int),vs=[.ref t,.ref a]∧cF H t n L∧jk n L∧p9 L∧n≤60∧H a=some (.lst (zs.map V.int))∧zs.length<64 ∧
 (¬gh zs n→∀H',aj H H'→E (.ref N) none H') ∧
 ∀o:List Nat,zs=o.map iN→o.Perm (List.range n)→∀(H':Hp) (D:Addr) (rs:Nat→Addr) (g:Nat→List Nat),aj H H'→H D=none→(∀p,p<n→H (rs p)=none)→uo H' D n rs g→(∀p,p<n→iw n o p (g p)∧jn n L o p (g p))→Q (.ref D) H'
theorem kK{p q p' q':Nat}(h:bO p q=bO p' q'):(p=p'∧q=q')∨(p=q'∧q=p'):=by
 unfold bO at h
 have h1:=congrArg Prod.fst h
 have h2:=congrArg Prod.snd h
 dsimp only at h1 h2
 split at h1 <;> split at h1 <;> split at h2 <;> split at h2 <;> omega
def gm(n:Nat)(L:List (Int×Int))(o:List Nat)(M:List (Int×Int)):Prop:=M.Pairwise lexLt∧∀z,z∈M↔∃p q:Nat,p<n∧q<n∧o.idxOf p<o.idxOf q∧Wk (aL n L) (d6 n o (o.idxOf p)) p q∧z=bO p q
theorem gm.uniq{n:Nat}{L:List (Int×Int)}{o:List Nat}{M N:List (Int×Int)}(h:gm n L o M)(h':gm n L o N):M=N:=yj h.1 h'.1 fun z=>by rw [h.2 z,h'.2 z]
theorem gm.lt{n:Nat}{L:List (Int×Int)}{o:List Nat}{M:List (Int×Int)}(h:gm n L o M):∀z∈M,0≤z.1∧z.1<z.2∧z.2<(n:Int):=fun z hz=>by
 obtain ⟨p,q,hp,hq,hi,_,rfl⟩:=(h.2 z).mp hz
 have ne:p≠q:=fun e=>by subst e;omega
 unfold bO
 dsimp only
 split <;> split <;> omega
theorem yK{N:List (Int×Int)}(h:N.Pairwise nH)(nd:N.Nodup)(b:∀q∈N,0≤q.2∧q.2<1000):N.Pairwise lexLt:=by
 have:=List.Pairwise.and h nd
 refine List.Pairwise.imp_of_mem (fun{x y} hx hy uw=>?_) this
 obtain ⟨h1,h2⟩:=uw
 have b1:=b x hx
 have b2:=b y hy
 obtain ⟨x1,x2⟩:=x
 obtain ⟨y1,y2⟩:=y
 unfold nH at h1
 unfold lexLt
 dsimp only at *
 by_cases z:x1<y1
 ·exact .inl z
 ·right
  have e1:x1=y1:=by omega
  subst e1
  refine ⟨rfl,?_⟩
  by_cases y:x2=y2
  ·subst y
   exact absurd rfl h2
  ·omega
theorem Gj{n:Nat}{o:List Nat}(h:o.Perm (List.range n))(n9:n≤30){g:Nat→List Nat}(k:∀p,p<n→iw n o p (g p)):((List.range n).map fun p=>(g p).length).sum≤435:=by
 have a:=yE (l:=List.range n) (f:=fun p=>(g p).length) (g:=fun p=>n-1-o.idxOf p) fun p hp=>ur h (k p (List.mem_range.mp hp))
 have b:((List.range n).map fun p=>n-1-o.idxOf p).sum=(o.map fun p=>n-1-o.idxOf p).sum:=((h.map _).symm).sum_nat
 have c:(o.map fun p=>n-1-o.idxOf p)=(List.range n).map fun k=>n-1-k:=by
  have nd:=nE h
  refine List.ext_getElem (by simp [gK h]) fun i h1 h2=>?_
  rw [List.getElem_map,List.getElem_map,List.getElem_range,nF nd (by simpa using h1)]
 have d:∀n:Nat,n≤30→((List.range n).map fun k=>n-1-k).sum≤435:=by decide
 rw [c] at b
 have:=d n n9
 omega
structure p_ (H:Hp) (g:Nat→List Nat) (k:Nat) (xs:List V) (M:List (Int×Int)):Prop where
 at':aN H xs M
 len:M.length=((List.range k).map fun p=>(g p).length).sum
 mem:∀z,z∈M↔∃p q:Nat,p<k∧q∈g p∧z=bO p q
 nd:M.Nodup
theorem p_.more{H H':Hp}{n:Nat}{o:List Nat}{g:Nat→List Nat}{k:Nat}{xs ys:List V}{M:List (Int×Int)}(h:p_ H g k xs M)(s:aN H xs M→aN H' xs M)(hk:k<n)(hg:∀p,p<n→iw n o p (g p))(hy:aN H' ys ((g k).map (bO k))):p_ H' g (k+1) (xs++ys) (M++(g k).map (bO k)):=by
 have gk:=hg k hk
 refine ⟨(s h.at').app hy,by rw [List.length_append,h.len,List.length_map,List.range_succ,List.map_append,List.sum_append];simp,fun z=>?_,?_⟩
 ·rw [List.mem_append,h.mem,List.mem_map]
  constructor
  ·rintro (⟨p,q,h1,h2,h3⟩ | ⟨q,h1,rfl⟩)
   ·exact ⟨p,q,by omega,h2,h3⟩
   ·exact ⟨k,q,by omega,h1,rfl⟩
  ·rintro ⟨p,q,h1,h2,rfl⟩
   by_cases e:p=k
   ·subst e
    exact .inr ⟨q,h2,rfl⟩
   ·exact .inl ⟨p,q,by omega,h2,rfl⟩
 ·refine List.nodup_append.mpr ⟨h.nd,?_,fun a ha b hb e=>?_⟩
  ·refine nq (List.Pairwise.imp (fun h=>Nat.ne_of_lt h) gk.up) fun q q' hq oX e=>?_
   rcases kK e with ⟨_,e⟩ | ⟨e1,e2⟩
   ·exact e
   ·omega
  ·subst e
   obtain ⟨p,q,h1,h2,rfl⟩:=(h.mem a).mp ha
   obtain ⟨q',oX,e⟩:=List.mem_map.mp hb
   rcases kK e with ⟨e1,e2⟩ | ⟨e1,e2⟩
   ·omega
   ·have l1:=(hg p (by omega)).la q h2
    have l2:=gk.la q' oX
    subst e1
    subst e2
    omega
def Gk(N:Addr):Sp:=fun vs H Q E=>∃(t a:Addr) (n:Nat) (L:List (Int×Int)) (zs:List Int),vs=[.ref t,.ref a]∧cF H t n L∧jk n L∧p9 L∧n≤30∧H a=some (.lst (zs.map V.int))∧zs.length<64 ∧
 (¬gh zs n→∀H',aj H H'→E (.ref N) none H') ∧
 ∀o:List Nat,zs=o.map iN→o.Perm (List.range n)→∀(H':Hp) (t':Addr) (M:List (Int×Int)),aj H H'→H t'=none→cF H' t' n M→gm n L o M→M.length≤435→Q (.ref t') H'
def Gm:Sp:=fun vs H Q _=>∃(t a:Addr) (n:Nat) (L:List (Int×Int)) (o:List Nat),vs=[.ref t,.ref a]∧cF H t n L∧jk n L∧n≤30∧L.length≤200∧H a=some (.lst (o.map fun k:Nat=>V.int (k:Int)))∧o.Perm (List.range n) ∧
 ∀(H':Hp) (t':Addr) (M:List (Int×Int)),aj H H'→cF H' t' n M→gm n L o M→Q (.ref t') H'
structure cT (n:Nat) (L:List (Int×Int)) (o:List Nat) (k j:Nat) (M:List (Int×Int)):Prop where
 mem:∀z,z∈M↔∃p q:Nat,p<n∧q<n∧o.idxOf p<o.idxOf q∧Wk (aL n L) (d6 n o (o.idxOf p)) p q∧z=bO p q∧(o.idxOf p<k∨(o.idxOf p=k∧o.idxOf q<k+1+j))
 nd:M.Nodup
theorem cT.start(n:Nat)(L:List (Int×Int))(o:List Nat):cT n L o 0 0 []:=⟨fun z=>⟨(fun h=>by cases h),fun⟨p,q,_,_,h,_,_,h'⟩=>by omega⟩,List.nodup_nil⟩
theorem cT.row{n:Nat}{L:List (Int×Int)}{o:List Nat}{k j:Nat}{M:List (Int×Int)}(h:cT n L o k j M)(ho:o.Perm (List.range n))(hj:n≤k+1+j):cT n L o (k+1) 0 M:=⟨fun z=>by
 rw [h.mem]
 constructor
 ·rintro ⟨p,q,h1,h2,h3,h4,h5,h6⟩
  exact ⟨p,q,h1,h2,h3,h4,h5,.inl (by omega)⟩
 ·rintro ⟨p,q,h1,h2,h3,h4,h5,h6⟩
  have:=(gM ((d5 ho).mpr h2)).1
  rw [gK ho] at this
  refine ⟨p,q,h1,h2,h3,h4,h5,?_⟩
  by_cases e:o.idxOf p<k
  ·exact .inl e
  ·exact .inr ⟨by omega,by omega⟩,h.nd⟩
theorem cT.skip{n:Nat}{L:List (Int×Int)}{o:List Nat}{k j p q:Nat}{M:List (Int×Int)}(h:cT n L o k j M)(ho:o.Perm (List.range n))(hp:p<n)(hq:q<n)(ip:o.idxOf p=k)(iq:o.idxOf q=k+1+j)(nw:¬Wk (aL n L) (d6 n o k) p q):cT n L o k (j+1) M:=⟨fun z=>by
 rw [h.mem]
 constructor
 ·rintro ⟨p,q,h1,h2,h3,h4,h5,h6⟩
  exact ⟨p,q,h1,h2,h3,h4,h5,by omega⟩
 ·rintro ⟨p',q',h1,h2,h3,h4,h5,h6⟩
  refine ⟨p',q',h1,h2,h3,h4,h5,?_⟩
  rcases h6 with h6 | ⟨h6,h7⟩
  ·exact .inl h6
  ·refine .inr ⟨h6,?_⟩
   by_cases e:o.idxOf q'=k+1+j
   ·have e1:p'=p:=by
     by_cases z:p'=p
     ·exact z
     ·exact absurd (h6.trans ip.symm) (iy ho h1 hp z)
    have e2:q'=q:=by
     by_cases z:q'=q
     ·exact z
     ·exact absurd (e.trans iq.symm) (iy ho h2 hq z)
    subst e1
    subst e2
    rw [ip] at h4
    exact absurd h4 nw
   ·omega,h.nd⟩
theorem cT.put{n:Nat}{L:List (Int×Int)}{o:List Nat}{k j p q:Nat}{M:List (Int×Int)}(h:cT n L o k j M)(ho:o.Perm (List.range n))(hp:p<n)(hq:q<n)(ip:o.idxOf p=k)(iq:o.idxOf q=k+1+j)(w:Wk (aL n L) (d6 n o k) p q):cT n L o k (j+1) (M++[bO p q]):=by
 refine ⟨fun z=>?_,List.nodup_append.mpr ⟨h.nd,by simp,fun a ha b hb e=>?_⟩⟩
 ·rw [List.mem_append,List.mem_singleton,h.mem]
  constructor
  ·rintro (⟨p,q,h1,h2,h3,h4,h5,h6⟩ | rfl)
   ·exact ⟨p,q,h1,h2,h3,h4,h5,by omega⟩
   ·exact ⟨p,q,hp,hq,by omega,by rw [ip];exact w,rfl,.inr ⟨ip,by omega⟩⟩
  ·rintro ⟨p',q',h1,h2,h3,h4,h5,h6⟩
   by_cases e:o.idxOf p'=k∧o.idxOf q'=k+1+j
   ·right
    have e1:p'=p:=by
     by_cases z:p'=p
     ·exact z
     ·exact absurd (e.1.trans ip.symm) (iy ho h1 hp z)
    have e2:q'=q:=by
     by_cases z:q'=q
     ·exact z
     ·exact absurd (e.2.trans iq.symm) (iy ho h2 hq z)
    rw [h5,e1,e2]
   ·exact .inl ⟨p',q',h1,h2,h3,h4,h5,by omega⟩
 ·subst e
  rw [List.mem_singleton] at hb
  obtain ⟨p',q',h1,h2,h3,h4,h5,h6⟩:=(h.mem a).mp ha
  rw [hb] at h5
  rcases kK h5 with ⟨rfl,rfl⟩ | ⟨rfl,rfl⟩
  ·omega
  ·omega
theorem cT.done{n:Nat}{L:List (Int×Int)}{o:List Nat}{M N:List (Int×Int)}(h:cT n L o n 0 M)(ho:o.Perm (List.range n))(p:N.Perm M)(so:N.Pairwise nH)(n1:n≤1000):gm n L o N:=by
 have mem:∀z,z∈N↔∃p q:Nat,p<n∧q<n∧o.idxOf p<o.idxOf q∧Wk (aL n L) (d6 n o (o.idxOf p)) p q∧z=bO p q:=fun z=>by
  rw [p.mem_iff,h.mem]
  constructor
  ·rintro ⟨p,q,h1,h2,h3,h4,h5,h6⟩
   exact ⟨p,q,h1,h2,h3,h4,h5⟩
  ·rintro ⟨p,q,h1,h2,h3,h4,h5⟩
   have:=(gM ((d5 ho).mpr h1)).1
   rw [gK ho] at this
   exact ⟨p,q,h1,h2,h3,h4,h5,.inl this⟩
 refine ⟨yK so (p.nodup_iff.mpr h.nd) fun z hz=>?_,mem⟩
 obtain ⟨p,q,h1,h2,_,_,rfl⟩:=(mem z).mp hz
 have:=uu h1 h2
 omega
theorem cT.bd{n:Nat}{L:List (Int×Int)}{o:List Nat}{k j:Nat}{M:List (Int×Int)}(h:cT n L o k j M)(n1:n≤1000):∀z∈M,0≤z.2∧z.2<1000:=fun z hz=>by
 obtain ⟨p,q,h1,h2,_,_,rfl,_⟩:=(h.mem z).mp hz
 have:=uu h1 h2
 omega
theorem Gn{n:Nat}{L:List (Int×Int)}{o:List Nat}{g:Nat→List Nat}(ho:o.Perm (List.range n))(nb:di n L g)(fH:jk n L){k p q:Nat}(hk:k≤n)(ne:q≠p):iz (iA n g) (·∈o.take k) p q↔Wk (aL n L) (d6 n o k) p q:=by
 have ad:∀a b,iA n g a b↔aL n L a b:=fun a b=>by
  unfold iA aL
  constructor
  ·rintro ⟨h1,h2⟩
   have h3:=(nb a b h1).mp h2
   refine ⟨h1,?_,h3⟩
   rcases h3 with e | e
   ·have:=fH _ e
    omega
   ·have:=fH _ e
    omega
  ·rintro ⟨h1,_,h3⟩
   exact ⟨h1,(nb a b h1).mpr h3⟩
 have th:∀x,x∈o.take k↔d6 n o k x:=fun x=>by
  unfold d6
  have nd:=nE ho
  constructor
  ·intro h
   obtain ⟨i,hi,e⟩:=List.mem_take_iff_getElem.mp h
   have aR:i<o.length:=by omega
   refine ⟨(d5 ho).mp (List.mem_of_mem_take h),?_⟩
   rw [←e,nF nd aR]
   omega
  ·rintro ⟨h1,h2⟩
   obtain ⟨cR,e⟩:=gM ((d5 ho).mpr h1)
   rw [List.mem_take_iff_getElem]
   exact ⟨o.idxOf x,by omega,e⟩
 rw [Gh]
 constructor
 ·rintro (e | h)
  ·exact absurd e ne
  ·exact (h.imp fun a b=>(ad a b).mp).mono fun x=>(th x).mp
 ·intro h
  exact .inr ((h.imp fun a b=>(ad a b).mpr).mono fun x=>(th x).mpr)
end My
namespace L2
open PySem PySem.Spec PyProof.Rows
section
variable {X:Cx} {a b:Expr} {rest:List Expr} {pos:Pos} {ta tb:TE}
end
end L2
namespace My
open PySem L2
theorem yL:∀{zs:List Nat} {j m:Nat},m<zs.idxOf j→zs[m]?≠some j
 | [],_,_,h=>by simp at h
 | z::zs,j,m,h=>by
  by_cases e:z=j
  ·subst e
   simp [List.idxOf_cons_self] at h
  ·rw [List.idxOf_cons,show (z == j)=false by simpa using e] at h
   dsimp only [cond_false] at h
   cases m with
   | zero=>simpa using e
   | succ m=>
    rw [List.getElem?_cons_succ]
    exact yL (by omega)
theorem Gp(xs:List V)(k:Nat):cy xs (some (k:Int)) none=xs.drop k:=by
 unfold cy
 rw [HT.wQ,HT.wO]
 by_cases h:k≤xs.length
 ·rw [Nat.min_eq_left h]
  exact List.take_of_length_le (by rw [List.length_drop];omega)
 ·rw [Nat.min_eq_right (by omega),List.drop_of_length_le (Nat.le_refl _),List.drop_of_length_le (by omega),List.take_nil]
end My
namespace L2
open PySem PySem.Spec PyProof.Rows
section
variable {prog:Program} {w:World} {A:Around} {E:Value→Shared→Prop} {s:Shared}
theorem yM{j t:Addr}{k:Nat}{aa:Array Value}{Q:Value→Shared→Prop}(g:s.heap.IsTupleIter j t k)(b:s.heap.IsTuple t aa)
  (ok:∀x,aa[k]?=some x→∀h',h'.IsTupleIter j t (k+1)→Heap.SameBut j s.heap h'→Q x {s with heap:=h'})
  (no:aa[k]?=none→A.handled=none∧∀h' e,Heap.ExtBut j s.heap h'→(∃o,h'.get? e=some o∧o.cls=.type "StopIteration")→E (.ref e) {s with heap:=h'}):wpAny (model prog w) A (Builtin.SmallTypes.nextOf (.ref j)) Q E s:=by
 obtain ⟨o,a1,a2,a3⟩:=id g;obtain ⟨p,b1,_,m,b2⟩:=b
 unfold Builtin.SmallTypes.nextOf
 refine wpAny_bind (wpAny_callSpecial?_slot (name:=Str.ofString "__next__") g.typeIs F.slot_tuple_iterator_next (wpAny_call_entry F.slot_tuple_iterator_next g.typeIs F.entry_tuple_iterator_next ?_ (F.args_tuple_iterator_next_1 _)))
 show wpAny _ _ (field (.ref j) 0 >>= _) _ _ s;refine wpAny_bind (wpAny_field a1 a3 (x:=.ref t) rfl ?_)
 show wpAny _ _ (if (Value.ref t == Value.none)=true then _ else _) _ _ s;rw [if_neg (show ¬((Value.ref t == Value.none)=true) from Bool.false_ne_true)]
 show wpAny _ _ (field (.ref j) 1 >>= _) _ _ s;refine wpAny_bind (wpAny_field a1 a3 (x:=.int k 0) rfl ?_)
 show wpAny _ _ (seqItems? (.ref t) >>= _) _ _ s;refine wpAny_bind (wpAny_seqItems b1 b2 ?_)
 cases z:aa[k]? with
 | some x=>
  simp only [Int.toNat_natCast,z]
  refine wpAny_bind (wpAny_setField a1 a3 (by simp) (wpAny_pure ⟨x,rfl,wpAny_pure (ok x z _ ⟨_,Heap.get?_update_self _ a1 (Obj.isFreed_of_fields (Obj.data_mapFields a3 _)),(Obj.cls_mapFields ..).trans a2,by rw [Obj.data_mapFields a3];simp [rawInt]⟩ (Heap.SameBut.update ..))⟩))
 | none=>
  obtain ⟨hh,fin⟩:=no z
  simp only [Int.toNat_natCast,z]
  refine wpAny_bind (wpAny_rule (wpAny_bind (wpAny_setField a1 a3 (by simp) ?_)))
  show wpAny _ _ (newExc (.type "StopIteration") [] >>= _) _ _ _;refine wpAny_bind ?_;simp only [newExc,newTuple]
  refine wpAny_bind (wpAny_newObj_type (wpAny_bind (m:=firstArgMember _ _) (wpAny_of_eq (a:=Value.none) (by first | rfl | (simp only [firstArgMember];rfl)) (wpAny_newObj_type ?_ (by size_fits)))) (by size_fits))
  simp only [raiseNew];refine wpAny_bind (wpAny_handled ?_)
  first | rw [show A.in1.handled=none from hh] | rw [hh]
  exact wpAny_bind (wpAny_pure (wpAny_throw (fin _ _ (((Heap.SameBut.update ..).extBut.push _).push _) ⟨_,Heap.get?_push_size _ rfl,rfl⟩)))
theorem yN{z TI TO i1 i2 l1 l2:Addr}{k:Nat}{xs ys:Array Value}{a b:Value}{Q:Value→Shared→Prop}(D:ZipApart z TI TO i1 i2 l1 l2)
  (hz:IsZip s.heap z TI TO .none) (hI:IsPair s.heap TI (.ref i1) (.ref i2)) (hO:IsPair s.heap TO a b) (g1:s.heap.IsTupleIter i1 l1 k) (g2:s.heap.IsTupleIter i2 l2 k) (t1:s.heap.IsTuple l1 xs) (t2:s.heap.IsTuple l2 ys)
  (ok:∀x y,xs[k]?=some x→ys[k]?=some y→∀h',IsZip h' z TI TO (rawInt s.heap.objs.size)→IsPair h' TO x y→h'.IsTupleIter i1 l1 (k+1)→h'.IsTupleIter i2 l2 (k+1)→IsPair h' s.heap.objs.size x y→
   (∀c o,c≠z→c≠TO→c≠i1→c≠i2→s.heap.get? c=some o→h'.get? c=some o)→Q (.ref s.heap.objs.size) {s with heap:=h'})
  (no:xs[k]?=none∨ys[k]?=none→A.handled=none∧∀h' e,(∀c o,c≠z→c≠TO→c≠i1→c≠i2→s.heap.get? c=some o→h'.get? c=some o)→(∃o,h'.get? e=some o∧o.cls=.type "StopIteration")→E (.ref e) {s with heap:=h'}) :
  wpAny (model prog w) A (Builtin.«zip.__next__» ⟨[.ref z],[]⟩) (fun fin s'=>∃v,fin=.done (.ret v)∧Q v s') E s:=by
 show wpAny _ _ (field (.ref z) 2 >>= _) _ _ _;refine wpAny_bind (wpAny_field hz rfl (x:=.bool false) rfl ?_)
 show wpAny _ _ (field (.ref z) 3 >>= _) _ _ _;refine wpAny_bind (wpAny_field hz rfl (x:=.ref TI) rfl (wpAny_bind (wpAny_seqItems hI rfl ?_)))
 show wpAny _ _ (Builtin.SmallTypes.ownedTupleIsFree (.ref z) >>= _) _ _ _;refine wpAny_bind ?_;unfold Builtin.SmallTypes.ownedTupleIsFree
 refine wpAny_bind (wpAny_field hz rfl (x:=.none) rfl (wpAny_pure ?_));simp only [if_true]
 refine wpAny_bind (wpAny_rule (wpAny_bind (wpAny_field hz rfl (x:=.ref TO) rfl (wpAny_bind (wpAny_setField_rec hz (by simp) fun ha za sa=>?_)))))
 replace za:IsZip ha z TI TO .ellipsis:=za
 refine wpAny_bind ?_;simp only [List.zipIdx_cons,List.zipIdx_nil,List.forIn_cons,List.forIn_nil]
 refine wpAny_bind (wpAny_bind (wpAny_onRaise ?_));show wpAny _ _ (Builtin.SmallTypes.nextOf (.ref i1) >>= _) _ _ _
 refine wpAny_bind (yM (g1.extBut sa.extBut D.i1z) (t1.extBut sa.extBut D.l1z) (fun x hx hb gb sb=>wpAny_pure ?_) fun hx=>⟨(no (.inl hx)).1,fun hb e eb ⟨oe,e1,e2⟩=>?_⟩)
 ·have Ob:IsPair hb TO a b:=sb.extBut _ _ D.TOi1 (sa.extBut _ _ D.TOz hO)
  refine wpAny_bind (wpAny_seqItems Ob rfl (wpAny_bind (wpAny_updateSeq_pair Ob fun hc Oc sc=>?_)))
  replace Oc:IsPair hc TO x b:=Oc
  refine wpAny_bind (wpAny_letGo (wpAny_pure ?_));refine wpAny_bind (wpAny_bind (wpAny_onRaise ?_));show wpAny _ _ (Builtin.SmallTypes.nextOf (.ref i2) >>= _) _ _ _
  refine wpAny_bind (yM (((g2.extBut sa.extBut D.i2z).extBut sb.extBut D.i12.symm).extBut sc.extBut D.TOi2.symm) (((t2.extBut sa.extBut D.l2z).extBut sb.extBut D.l2i1).extBut sc.extBut D.l2TO) (fun y hy hd gd sd=>wpAny_pure ?_) fun hy=>⟨(no (.inr hy)).1,fun hd e ed ⟨oe,e1,e2⟩=>?_⟩)
  ·have Od:IsPair hd TO x b:=sd.extBut _ _ D.TOi2 Oc
   refine wpAny_bind (wpAny_seqItems Od rfl (wpAny_bind (wpAny_updateSeq_pair Od fun he Oe se=>?_)))
   replace Oe:IsPair he TO x y:=Oe
   refine wpAny_bind (wpAny_letGo (wpAny_pure (wpAny_pure (wpAny_bind (wpAny_seqItems Oe rfl (wpAny_bind (wpAny_newTuple ?_)))))))
   have sz:he.objs.size=s.heap.objs.size:=by rw [se.1,sd.1,sc.1,sb.1,sa.1]
   have ze:IsZip he z TI TO .ellipsis:=se.extBut _ _ D.TOz.symm (sd.extBut _ _ D.i2z.symm (sc.extBut _ _ D.TOz.symm (sb.extBut _ _ D.i1z.symm za)))
   have kp:∀c o,c≠z→c≠TO→c≠i1→c≠i2→s.heap.get? c=some o→he.get? c=some o:=fun c o c1 c2 c3 c4 e=>se.extBut _ _ c2 (sd.extBut _ _ c4 (sc.extBut _ _ c2 (sb.extBut _ _ c3 (sa.extBut _ _ c1 e))))
   have ge1:he.IsTupleIter i1 l1 (k+1):=((gb.extBut sc.extBut D.TOi1.symm).extBut sd.extBut D.i12).extBut se.extBut D.TOi1.symm
   have Gq:he.IsTupleIter i2 l2 (k+1):=gd.extBut se.extBut D.TOi2.symm
   have zl:z<he.objs.size:=Heap.lt_size ze
   show wpAny _ _ (Builtin.SmallTypes.ownedTupleHandOut (.ref z) (.ref he.objs.size) >>= _) _ _ _;refine wpAny_bind ?_;unfold Builtin.SmallTypes.ownedTupleHandOut
   have zf:IsZip (he.push {cls:=.type "tuple",data:=.seq #[x,y]}) z TI TO .ellipsis:=Heap.get?_push_of_some _ ze
   refine wpAny_bind (wpAny_setField_rec zf (by simp) fun hg zg sg=>?_)
   replace zg:IsZip hg z TI TO (rawInt he.objs.size):=zg
   refine wpAny_setField_rec zg (by simp) fun hm zm sm=>?_
   replace zm:IsZip hm z TI TO (rawInt he.objs.size):=zm
   have up:∀c o,c≠z→he.get? c=some o→hm.get? c=some o:=fun c o c1 e=>sm.extBut _ _ c1 (sg.extBut _ _ c1 (Heap.get?_push_of_some _ e))
   have Tm:IsPair hm he.objs.size x y:=sm.extBut _ _ (Nat.ne_of_gt zl) (sg.extBut _ _ (Nat.ne_of_gt zl) (Heap.get?_push_size _ rfl))
   rw [sz] at zm Tm
   refine wpAny_pure ⟨_,rfl,?_⟩
   show Q (.ref he.objs.size) _
   rw [sz]
   exact ok x y hx hy hm zm (up _ _ D.TOz Oe) (ge1.extBut (fun c o c1 e=>up c o c1 e) D.i1z) (Gq.extBut (fun c o c1 e=>up c o c1 e) D.i2z) Tm fun c o c1 c2 c3 c4 e=>up c o c1 (kp c o c1 c2 c3 c4 e)
  ·have zd:IsZip hd z TI TO .ellipsis:=ed _ _ D.i2z.symm (sc.extBut _ _ D.TOz.symm (sb.extBut _ _ D.i1z.symm za))
   have ez:e≠z:=fun q=>by subst q;rw [zd] at e1;cases e1;simp at e2
   exact wpAny_setField_rec zd (by simp) fun he _ se=>(no (.inr hy)).2 he e (fun c o c1 c2 c3 c4 q=>se.extBut _ _ c1 (ed _ _ c4 (sc.extBut _ _ c2 (sb.extBut _ _ c3 (sa.extBut _ _ c1 q))))) ⟨oe,se.extBut _ _ ez e1,e2⟩
 ·have zb:IsZip hb z TI TO .ellipsis:=eb _ _ D.i1z.symm za
  have ez:e≠z:=fun q=>by subst q;rw [zb] at e1;cases e1;simp at e2
  exact wpAny_setField_rec zb (by simp) fun hc _ sc=>(no (.inl hx)).2 hc e (fun c o c1 _ c3 _ q=>sc.extBut _ _ c1 (eb _ _ c3 (sa.extBut _ _ c1 q))) ⟨oe,sc.extBut _ _ ez e1,e2⟩
end
abbrev cH (h:Heap) (l:Addr):Heap:=h.push {cls:=.type "tuple_iterator",data:=.fields #[.ref l,.int 0 0]}
abbrev qa (h:Heap) (l m:Addr):Heap:=((cH (cH h l) m).push {cls:=.type "tuple",data:=.seq #[.ref h.objs.size,.ref (cH h l).objs.size]}).push {cls:=.type "tuple",data:=.seq #[.none,.none]}
abbrev kL (h:Heap) (l m:Addr):Heap:=(qa h l m).push {cls:=.type "zip",data:=.fields #[.none,.bool false,.bool false,.ref (cH (cH h l) m).objs.size,.ref ((cH (cH h l) m).push {cls:=.type "tuple",data:=.seq #[.ref h.objs.size,.ref (cH h l).objs.size]}).objs.size]}
theorem Gr(l m:Addr)(xs ys:Array Value):Meets (Builtin.«zip.__new__» ⟨[.type "zip",.ref l,.ref m],[]⟩) (fun _ R s=>s.heap.IsTuple l xs∧s.heap.IsTuple m ys∧R (.ok (.ret (.ref (qa s.heap l m).objs.size))) {s with heap:=kL s.heap l m}):=
 .of_wp fun prog w A R s h=>by
  obtain ⟨hp,g,d,tk,os⟩:=s;obtain ⟨a1,a2,h⟩:=h
  have Mu:=sub_zip
  have b1:Heap.IsTuple (Shared.heap ⟨hp,g,d,tk,os⟩) l xs:=a1
  have b2:Heap.IsTuple (Shared.heap ⟨hp.push {cls:=.type "tuple_iterator",data:=.fields #[.ref l,.int 0 0]},g,d,tk,os⟩) m ys:=Heap.IsTuple.push a2 _
  wp_walk using wpAny_pyIter_tuple b1,wpAny_pyIter_tuple b2
  exact ⟨_,rfl,h⟩
section
variable {prog:Program} {w:World} {A:Around} {E:Value→Shared→Prop} {s:Shared}
theorem Gs{l m:Addr}{xs ys:Array Value}{Q:Value→Shared→Prop}(a1:s.heap.IsTuple l xs)(a2:s.heap.IsTuple m ys)
  (k:∀h',IsZip h' (s.heap.objs.size+4) (s.heap.objs.size+2) (s.heap.objs.size+3) .none→IsPair h' (s.heap.objs.size+2) (.ref s.heap.objs.size) (.ref (s.heap.objs.size+1))→IsPair h' (s.heap.objs.size+3) .none .none→
   h'.IsTupleIter s.heap.objs.size l 0→h'.IsTupleIter (s.heap.objs.size+1) m 0→(∀c o,s.heap.get? c=some o→h'.get? c=some o)→Q (.ref (s.heap.objs.size+4)) {s with heap:=h'}) :
  wpAny (model prog w) A (call (.type "zip") [.ref l,.ref m]) Q E s:=by
 refine callType_new F.called_zip (by decide) (F.typeCall_zip_2 _ _) (F.newCall_zip_2 _ _) (fun obj=>F.args_object_init_3 obj _ _) F.entry_zip_new (Gr l m xs ys) ⟨a1,a2,?_⟩
 have z1:(cH s.heap l).objs.size=s.heap.objs.size+1:=Heap.size_push ..
 have z2:(cH (cH s.heap l) m).objs.size=s.heap.objs.size+2:=by rw [Heap.size_push,z1]
 have z3:((cH (cH s.heap l) m).push {cls:=.type "tuple",data:=.seq #[.ref s.heap.objs.size,.ref (cH s.heap l).objs.size]}).objs.size=s.heap.objs.size+3:=by rw [Heap.size_push,z2]
 have z4:(qa s.heap l m).objs.size=s.heap.objs.size+4:=by rw [Heap.size_push,z3]
 have f5:(kL s.heap l m).get? (qa s.heap l m).objs.size=some _:=Heap.get?_push_size _ rfl
 have f4:(kL s.heap l m).get? ((cH (cH s.heap l) m).push {cls:=.type "tuple",data:=.seq #[.ref s.heap.objs.size,.ref (cH s.heap l).objs.size]}).objs.size=some _:=Heap.get?_push_of_some _ (Heap.get?_push_size _ rfl)
 have f3:(kL s.heap l m).get? (cH (cH s.heap l) m).objs.size=some _:=Heap.get?_push_of_some _ (Heap.get?_push_of_some _ (Heap.get?_push_size _ rfl))
 have f2:(kL s.heap l m).get? (cH s.heap l).objs.size=some _:=Heap.get?_push_of_some _ (Heap.get?_push_of_some _ (Heap.get?_push_of_some _ (Heap.get?_push_size _ rfl)))
 have f1:(kL s.heap l m).get? s.heap.objs.size=some _:=Heap.get?_push_of_some _ (Heap.get?_push_of_some _ (Heap.get?_push_of_some _ (Heap.get?_push_of_some _ (Heap.get?_push_size _ rfl))))
 show _∧_
 rw [z2,z3,z4] at f5
 rw [z1,z2] at f3
 rw [z3] at f4
 rw [z1] at f2
 rw [z4]
 exact ⟨⟨_,f5,rfl⟩,k _ f5 f3 f4 ⟨_,f1,rfl,rfl⟩ ⟨_,f2,rfl,rfl⟩ fun c o x=>Heap.get?_push_of_some _ (Heap.get?_push_of_some _ (Heap.get?_push_of_some _ (Heap.get?_push_of_some _ (Heap.get?_push_of_some _ x))))⟩
end
def ux(K:PySem.W.Frag)(l1 l2:Addr):It:=
  ⟨fun i H=>∃xs ys x y,bH K H l1 xs∧bH K H l2 ys∧xs[i]?=some x∧ys[i]?=some y,
   fun i H v H'=>∃T x y,H T=none∧v=.ref T∧H'=upd H T (.tup [x,y])∧∀xs ys,bH K H l1 xs→bH K H l2 ys→xs[i]?=some x∧ys[i]?=some y,
   fun i H=>∃xs ys,bH K H l1 xs∧bH K H l2 ys∧(xs.length≤i∨ys.length≤i)⟩
theorem Gu{P:Program}{w:World}{K:PySem.W.Frag}{elts:List Expr}{k:Nat}{pos:Pos}{z TI TO i1 i2 l1 l2:Addr}(D:ZipApart z TI TO i1 i2 l1 l2):Turn P w K (.Tuple elts k pos) (ux K l1 l2) [z,TI,TO,i1,i2] z
  (fun i h=>IsZip h z TI TO .none∧IsPair h TI (.ref i1) (.ref i2)∧(∃a b,IsPair h TO a b)∧h.IsTupleIter i1 l1 i∧h.IsTupleIter i2 l2 i) where
 mem:=by simp
 obj:=fun i h st b hb=>by
  obtain ⟨hz,gO,⟨a,c,iB⟩,h1,h2⟩:=st
  simp only [List.mem_cons,List.not_mem_nil,or_false] at hb
  rcases hb with rfl | rfl | rfl | rfl | rfl
  ·exact ⟨_,hz,fun v z=>by cases z⟩
  ·exact ⟨_,gO,fun v z=>by cases z⟩
  ·exact ⟨_,iB,fun v z=>by cases z⟩
  ·obtain ⟨o,e,c,d⟩:=h1
   exact ⟨o,e,fun v z=>by rw [d] at z;cases z⟩
  ·obtain ⟨o,e,c,d⟩:=h2
   exact ⟨o,e,fun v z=>by rw [d] at z;cases z⟩
 keep:=fun i h h' st k=>by
  obtain ⟨hz,gO,⟨a,c,iB⟩,h1,h2⟩:=st
  exact ⟨k _ (by simp) _ hz,k _ (by simp) _ gO,⟨a,c,k _ (by simp) _ iB⟩,h1.at fun o e=>k _ (by simp) o e,h2.at fun o e=>k _ (by simp) o e⟩
 item:=by
  intro X hP hw hK hc i pins s σ H E I hf st hg
  subst hP hw hK
  obtain ⟨hz,gO,⟨a,c,iB⟩,h1,h2⟩:=st
  obtain ⟨xs,ys,x,y,eB,gD,hx,hy⟩:=hg
  obtain ⟨aa,rv,p,_⟩:=I.tuple eB
  obtain ⟨kM,qb,p',_⟩:=I.tuple gD
  obtain ⟨u,hu,ru⟩:=rv.get hx
  obtain ⟨u',Gv,Gw⟩:=qb.get hy
  have yO:aa.toArray[i]?=some u:=by simpa using hu
  have yP:kM.toArray[i]?=some u':=by simpa using Gv
  have hT:s.TypeIs (.ref z) "zip":=⟨_,hz,rfl⟩
  unfold pyNext
  refine wpAny_bind (wpAny_attempt (wpAny_callSpecial?_slot (name:=Str.ofString "__next__") hT F.slot_zip_next (wpAny_call_entry F.slot_zip_next hT F.entry_zip_next (yN D hz gO iB h1 h2 (show s.heap.IsTuple l1 aa.toArray from p) (show s.heap.IsTuple l2 kM.toArray from p') (fun w1 w2 e1 e2 h' g1 g2 g3 g4 g5 g7=>wpAny_pure ⟨_,rfl,?_⟩) fun q=>?_) (F.args_zip_next_1 _))))
  ·rw [yO] at e1
   rw [yP] at e2
   cases e1
   cases e2
   refine wpAny_letOwnedTupleGo_zip g1 fun f9 q1 sb=>?_
   have m6:H s.heap.objs.size=none:=I.aq.fresh (Nat.le_refl _)
   have lt:∀b o,s.heap.get? b=some o→b≠s.heap.objs.size:=fun b o e=>Nat.ne_of_lt (Heap.lt_size e)
   have keep:∀b o,b∉[z,TI,TO,i1,i2]→s.heap.get? b=some o→f9.get? b=some o:=fun b o nb e=>by
    simp only [List.mem_cons,List.not_mem_nil,or_false,not_or] at nb
    exact sb.extBut _ _ nb.1 (g7 b o nb.1 nb.2.2.1 nb.2.2.2.1 nb.2.2.2.2 e)
   have Gx:z≠s.heap.objs.size:=lt _ _ hz
   have pT:IsPair f9 s.heap.objs.size u u':=sb.extBut _ _ Gx.symm g5
   have fz:∀{b:Addr} {o:HO} (e:H b=some o),upd H s.heap.objs.size (.tup [x,y]) b=some o:=fun e=>by rw [aA (eL e m6)];exact e
   have aq:a9 X.prog X.w (upd H s.heap.objs.size (.tup [x,y])) f9:=fun b o e=>by
    by_cases hb:b=s.heap.objs.size
    ·subst hb
     rw [ar] at e
     cases e
     exact ⟨by show 2≤sizeLine;decide,[u,u'],.cons ru (.cons Gw .nil),⟨_,pT,rfl,_,rfl⟩⟩
    ·rw [aA hb] at e
     refine (I.aq b o e).d8 (fun c v b_ q=>keep c v (fun m=>?_) q) (fun c q=>fz q) fun c xs q=>fz q
     have nn:=(hf c m).1
     rcases b_ with rfl | b_
     ·rw [nn] at e;cases e
     ·rw [nn] at b_;cases b_
   have u1:Un (bu X.stack) [z,TI,TO,i1,i2] H (upd H s.heap.objs.size (.tup [x,y])) s.heap f9:=
    ⟨fun b o e n _ hx=>keep b o hx e,fun b o e n _ hx=>⟨o.slots,keep b o hx e⟩,fun b o e n hx=>by rw [aA (lt b o e)];exact n,fun b o e hx=>⟨o,keep b o hx e⟩,fun b xs e=>fz e,fun b o u e=>fz e,fun b ps e=>⟨#[],by rw [fz e];simp⟩⟩
   refine ⟨.ref s.heap.objs.size,upd H s.heap.objs.size (.tup [x,y]),I.gW (s':={s with heap:=f9}) (ch:=[z,TI,TO,i1,i2]) rfl u1 aq I.bare (fun b hb=>?_),rfl,⟨_,x,y,m6,rfl,rfl,fun as bs ha hb=>⟨by rw [I.rG ha eB];exact hx,by rw [I.rG hb gD];exact hy⟩⟩,?_,fun b hb=>?_⟩
   ·obtain ⟨f0,f1,f2,f3,f4,f5⟩:=hf b hb
    exact ⟨f3,f1,f4,f5⟩
   ·exact ⟨q1,sb.extBut _ _ D.TIz (g7 _ _ D.TIz D.TITO D.TIi1 D.TIi2 gO),⟨_,_,sb.extBut _ _ D.TOz g2⟩,g3.extBut sb.extBut D.i1z,g4.extBut sb.extBut D.i2z⟩
   ·have nb:b≠s.heap.objs.size:=by
     simp only [List.mem_cons,List.not_mem_nil,or_false] at hb
     rcases hb with rfl | rfl | rfl | rfl | rfl
     ·exact lt _ _ hz
     ·exact lt _ _ gO
     ·exact lt _ _ iB
     ·obtain ⟨o,e,_⟩:=h1;exact lt _ _ e
     ·obtain ⟨o,e,_⟩:=h2;exact lt _ _ e
    rw [aA nb]
    exact (hf b hb).1
  ·exfalso
   rcases q with q | q
   ·rw [yO] at q;cases q
   ·rw [yP] at q;cases q
 done:=by
  intro X hP hw hK hc i pins s σ H E I hf st hg
  subst hP hw hK
  obtain ⟨hz,gO,⟨a,c,iB⟩,h1,h2⟩:=st
  obtain ⟨xs,ys,eB,gD,hx⟩:=hg
  obtain ⟨aa,rv,p,_⟩:=I.tuple eB
  obtain ⟨kM,qb,p',_⟩:=I.tuple gD
  have hl:=rv.length
  have Mv:=qb.length
  have hT:s.TypeIs (.ref z) "zip":=⟨_,hz,rfl⟩
  unfold pyNext
  refine wpAny_bind (wpAny_attempt (wpAny_callSpecial?_slot (name:=Str.ofString "__next__") hT F.slot_zip_next (wpAny_call_entry F.slot_zip_next hT F.entry_zip_next (yN D hz gO iB h1 h2 (show s.heap.IsTuple l1 aa.toArray from p) (show s.heap.IsTuple l2 kM.toArray from p') (fun w1 w2 e1 e2=>?_) fun q=>⟨I.ok.hd hc,fun h' e g ⟨oe,ho,Gy⟩=>?_⟩) (F.args_zip_next_1 _))))
  ·exfalso
   have q1:=(Array.getElem?_eq_some_iff.mp e1).1
   have q2:=(Array.getElem?_eq_some_iff.mp e2).1
   rw [List.size_toArray] at q1 q2
   omega
  refine wpAny_bind (wpAny_isInstance (T:="StopIteration") (b:=true) ⟨oe,ho,Gy⟩ isSubtype_stop (wpAny_pure ⟨rfl,?_⟩))
  have keep:∀b o,b∉[z,TI,TO,i1,i2]→s.heap.get? b=some o→h'.get? b=some o:=fun b o nb e=>by
   simp only [List.mem_cons,List.not_mem_nil,or_false,not_or] at nb
   exact g b o nb.1 nb.2.2.1 nb.2.2.2.1 nb.2.2.2.2 e
  have aq:a9 X.prog X.w H h':=fun b o e=>by
   refine (I.aq b o e).d8 (fun c v b_ q=>keep c v (fun m=>?_) q) (fun c q=>q) fun c xs q=>q
   have nn:=(hf c m).1
   rcases b_ with rfl | b_
   ·rw [nn] at e;cases e
   ·rw [nn] at b_;cases b_
  have u1:Un (bu X.stack) [z,TI,TO,i1,i2] H H s.heap h':=
   ⟨fun b o e n _ hx=>keep b o hx e,fun b o e n _ hx=>⟨o.slots,keep b o hx e⟩,fun b o e n hx=>n,fun b o e hx=>⟨o,keep b o hx e⟩,fun b xs e=>e,fun b o u e=>e,fun b ps e=>⟨#[],by rw [e];simp⟩⟩
  refine I.gW (s':={s with heap:=h'}) (ch:=[z,TI,TO,i1,i2]) rfl u1 aq I.bare fun b hb=>?_
  obtain ⟨f0,f1,f2,f3,f4,f5⟩:=hf b hb
  exact ⟨f3,f1,f4,f5⟩
 self:=fun _ _ _ _ _ st h=>wpAny_pyIter_zip st.1 h
def Gz(K:PySem.W.Frag)(ta:TA):TI:=fun σ H R=>ta σ H fun vs H1=>∃l1 l2,vs=[.ref l1,.ref l2]∧(∃xs,bH K H1 l1 xs)∧(∃ys,bH K H1 l2 ys)∧R (ux K l1 l2) H1
section
variable {X:Cx}
theorem GA{elts:List Expr}{k:Nat}{kf:Pos}{a b:Expr}{ta:TA}{p pos:Pos}(hg:Gl X "zip")(hm:X.mg "zip" = none)(ha:PA X [a,b] ta)(hs:starEach [a,b] X.env=[(false,eval a X.env),(false,eval b X.env)]:=by rfl)(iY:starEach [b] X.env=[(false,eval b X.env)]:=by rfl) :
  PI X (.Tuple elts k kf) (.Call (.Name "zip" p) [a,b] [] pos) (Gz X.K ta):=by
 intro pins s σ H R I h
 refine Call_ (iR I hg hm boot_zip (PyProof.Rows.callWith_type1 (aw (ha pos pins s σ H _ I h) fun us s1 ⟨vs,H1,I1,r1,q1⟩=>?_) (by rw [hs,iY]) (by rw [iY];rfl)))
 obtain ⟨l1,l2,e,⟨xs,eB⟩,⟨ys,gD⟩,q⟩:=q1
 subst e
 cases r1 with
 | cons r rr=>
  cases rr with
  | cons r' rr=>
   cases rr
   cases r
   cases r'
   obtain ⟨aa,rv,p1,_⟩:=I1.tuple eB
   obtain ⟨kM,qb,p2,_⟩:=I1.tuple gD
   have b1:l1<s1.heap.objs.size:=p1.lt
   have b2:l2<s1.heap.objs.size:=p2.lt
   refine Gs (show s1.heap.IsTuple l1 aa.toArray from p1) (show s1.heap.IsTuple l2 kM.toArray from p2) fun h' z1 z2 z3 z4 z5 z7=>?_
   refine wpAny_pyIter_zip (s:={s1 with heap:=h'}) z1 ?_
   refine ⟨_,_,_,_,H1,rfl,I1.kept (t':=s1.toks) z7,Gu (zipApart_new b1 b2),⟨z1,z2,⟨_,_,z3⟩,z4,z5⟩,fun b hb=>?_,q⟩
   have le:s1.heap.objs.size≤b:=by
    simp only [List.mem_cons,List.not_mem_nil,or_false] at hb
    rcases hb with rfl | rfl | rfl | rfl | rfl
    ·exact Nat.le_add_right ..
    ·exact Nat.le_add_right ..
    ·exact Nat.le_add_right ..
    ·exact Nat.le_refl _
    ·exact Nat.le_add_right ..
   exact I1.j_ le (I1.aq.fresh le)
end
section
variable {prog:Program} {w:World} {A:Around} {E:Value→Shared→Prop} {s:Shared}
theorem GB{t sl:Addr}{aa:Array Value}{vl vu:Value}{lo hi:Option Int}{Q:Value→Shared→Prop}(ht:IsTup s.heap t aa)(hs:s.heap.IsSliceOf sl vl vu .none)(pl:IsPart vl lo)(pu:IsPart vu hi)
  (hw:HT.aD aa.size 0 lo=0∧HT.aD aa.size aa.size hi=aa.size) (q:Q (.ref t) s):wpAny (model prog w) A (getItem (.ref t) (.ref sl)) Q E s:=by
 obtain ⟨os,b1,b2,_⟩:=id hs
 have ty:s.TypeIs (.ref sl) "slice":=⟨os,b1,b2⟩
 unfold getItem
 try with_reducible refine wpAny_holding ?_
 first | refine wpAny_bind (wpAny_pure ?_) | skip
 refine wpAny_bind (wpAny_sequenceKey ht.typeIs (by decide) (wpAny_bind (wpAny_callSpecial?_slot (name:=Str.ofString "__getitem__") ht.typeIs PyProof.Rows.slot_tuple_getitem (wpAny_call_entry PyProof.Rows.slot_tuple_getitem ht.typeIs entry_tuple_getitem ?_ (args_tuple_getitem _ _)))))
 show wpAny _ _ (Builtin.Tuple.tupleItemsOf (.ref t) >>= _) _ _ s;refine wpAny_bind (tupleItemsOf_ ht (wpAny_bind (wpAny_typeOf ty ?_)))
 rw [if_pos (by decide)]
 refine wpAny_bind (HT.wV hs pl pu ?_)
 have yes:((((HT.aD aa.size 0 lo:Nat):Int) == 0 && (1:Int) == 1 && (HT.aD aa.size aa.size hi-HT.aD aa.size 0 lo) == aa.size)=true):=by
  rw [hw.1,hw.2]
  simp
 show wpAny _ _ (if (((HT.aD aa.size 0 lo:Nat):Int) == 0 && (1:Int) == 1 && (HT.aD aa.size aa.size hi-HT.aD aa.size 0 lo) == aa.size)=true then _ else _) _ _ s
 rw [if_pos yes]
 refine wpAny_bind ?_
 unfold Builtin.Tuple.tupleIsExact
 refine wpAny_bind (wpAny_typeOf ht.typeIs (wpAny_pure ?_))
 rw [if_pos (by decide)]
 exact wpAny_bind (wpAny_rule (wpAny_pure ⟨_,rfl,wpAny_pure q⟩))
end
def GC(K:PySem.W.Frag):V→Option Int→Option Int→Hp→VK→Prop:=fun x lo hi H Q=>∃a xs,x=.ref a∧bH K H a xs∧∀p H',(H'=H∧p=a∧cy xs lo hi=xs)∨(H p=none∧H'=upd H p (.tup (cy xs lo hi)))→Q (.ref p) H'
theorem GD{X:Cx}:oI X (GC X.K):=by
 intro pins s σ H x v vl vu lo hi sl Q I rx hs pl pu h
 obtain ⟨a,xs,rfl,hx,q⟩:=h
 by_cases hw:HT.aD xs.length 0 lo=0∧HT.aD xs.length xs.length hi=xs.length
 ·cases rx
  obtain ⟨aa,r,ht,hz⟩:=I.tuple hx
  have hlen:aa.toArray.size=xs.length:=by rw [List.size_toArray];exact r.length.symm
  refine ⟨"tuple",_,PyProof.Rows.slot_tuple_getitem.lookup,ht.typeIs,?_⟩
  refine GB ht hs pl pu (by rw [hlen];exact hw) ⟨.ref a,H,I,rfl,q a H (.inl ⟨rfl,rfl,?_⟩)⟩
  unfold cy
  rw [hw.1,hw.2,List.drop_zero,Nat.sub_zero]
  exact List.take_length
 ·exact CI pins s σ H (.ref a) v vl vu lo hi sl Q I rx hs pl pu ⟨a,xs,rfl,hx,hw,fun p np=>q p _ (.inr ⟨np,rfl⟩)⟩
end L2
namespace My
open PySem L2
theorem GF{X:Cx}{K:PySem.W.Frag}(hu:X.A.units<cLine)(hk:X.K=K:=by rfl):bI X (compareOp .Lt) (wY K):=by
 subst hk
 exact CJ hu
def GG:Sp:=fun vs H Q _=>∃(b:Addr) (x y:Int) (n:Nat),vs=[.ref b,.int (n:Int)]∧H b=some (.tup [.int x,.int y])∧Q (.bl (decide (0≤x∧x<n) && (decide (0≤y∧y<n) && decide (x<y)))) H
def GH:Sp:=fun vs H Q _=>∃(lt:Addr) (us:List V) (L:List (Int×Int)),vs=[.ref lt]∧H lt=some (.tup us)∧aN H us L∧L.length≤1000∧L.Pairwise lexLt∧∀H',aj H H'→Q (.bl true) H'
def GI:Sp:=fun vs H Q _=>∃(lt:Addr) (n:Nat) (us:List V) (L:List (Int×Int)),vs=[.ref lt,.int (n:Int)]∧H lt=some (.tup us)∧aN H us L∧L.length≤1000∧L.Pairwise lexLt∧(∀z∈L,0≤z.1∧z.1<z.2∧z.2<(n:Int))∧∀H',aj H H'→Q (.bl true) H'
def GJ:Sp:=fun vs H Q _=>∃(t:Addr) (n:Nat) (L:List (Int×Int)),vs=[.ref t]∧cF H t n L∧L.length≤1000∧L.Pairwise lexLt∧(∀z∈L,0≤z.1∧z.1<z.2∧z.2<(n:Int))∧1≤n∧n≤60∧∀H',aj H H'→Q (.bl true) H'
end My
namespace L2
open PySem PySem.Spec PyProof.Rows
theorem yQ{K:PySem.W.Frag}{a b:Addr}{xs ys:List V}{H1:Hp}(h1:H1 a=some (.tup xs))(h2:H1 b=some (.tup ys)):xJ (ux K a b) (xs.zip ys) H1 where
 go:=fun i Hc s hi=>by
  have hi:i<min xs.length ys.length:=by simpa using hi
  exact ⟨xs,ys,xs[i],ys[i],.of (s _ _ h1),.of (s _ _ h2),by simp [show i<xs.length by omega],by simp [show i<ys.length by omega]⟩
 cn:=fun i Hc v H' s y=>by
  obtain ⟨T,x,y,nT,ev,eH,hx⟩:=y
  obtain ⟨e1,e2⟩:=hx xs ys (.of (s _ _ h1)) (.of (s _ _ h2))
  exact ⟨T,x,y,ev,nT,eH,fun _=>by rw [List.getElem?_zip_eq_some];exact ⟨e1,e2⟩⟩
 stop:=fun i Hc s hi=>by
  have hi:min xs.length ys.length≤i:=by simpa using hi
  exact ⟨xs,ys,.of (s _ _ h1),.of (s _ _ h2),by omega⟩
end L2
namespace My
open PySem L2
theorem GK{p q:Int×Int}(h:lexLt p q):HT.lexLt [p.1,p.2] [q.1,q.2]=true:=by
 unfold lexLt at h
 rw [HT.r_]
 by_cases e:p.1=q.1
 ·rw [if_pos e,HT.r_,if_neg (by omega)]
  exact decide_eq_true (by omega)
 ·rw [if_neg e]
  exact decide_eq_true (by omega)
theorem GL(xs:List V):cy xs (some 1) none=xs.drop 1:=Gp xs 1
end My
namespace L2
open PySem PySem.Spec PyProof.Rows
section
variable {X:Cx}
def GN:V→List V→Hp→VK→Prop:=fun x vs H Q=>∃(l:Addr) (zs:List Int) (j:Nat) (z:Int),x=.ref l∧vs=[.int z]∧H l=some (.lst (zs.map V.int))∧zs.length≤1000∧zs[j]?=some z∧(∀m,m<j→zs[m]?≠some z)∧Q (.int (j:Int)) H
theorem yR:mO X "list.index" GN:=by
 intro pins s σ H x vs v us Q I rx rv h
 obtain ⟨l,zs,j,z,rfl,rfl,hH,l1,hj,sq,q⟩:=h
 cases rx
 obtain ⟨u,rfl,ru⟩:=rv.one
 obtain ⟨t,rfl⟩:=ru
 obtain ⟨sz,aa,n,r,hl,e⟩:=I.gB hH
 have Mw:j<zs.length:=(List.getElem?_eq_some_iff.mp hj).1
 rw [List.length_map] at hl sz
 have at':∀m (hm:m<aa.toArray.size),∃t',aa.toArray[m]=.int (zs.getD m 0) t':=fun m hm=>by
  have da:m<zs.length:=by simp at hm;omega
  obtain ⟨w,hw,i7⟩:=r.get (i:=m) (x:=.int (zs.getD m 0)) (by rw [List.getElem?_map,List.getD_eq_getElem?_getD,List.getElem?_eq_getElem da];rfl)
  obtain ⟨t',rfl⟩:=i7
  exact ⟨t',by simpa using (List.getElem?_eq_some_iff.mp hw).2⟩
 have zj:zs.getD j 0=z:=by rw [List.getD_eq_getElem?_getD,hj];rfl
 refine call_meets F.slot_list_index ⟨_,e,rfl⟩ F.entry_list_index (F.args_list_index_2 _ _) (MeetsSeq.list_index l aa.toArray n (.int z t) (fun v=>numOf v == z) (fun y hy=>?_) j (by rw [List.size_toArray];omega) (by omega) ?_ (fun m hm GO=>?_)) ⟨e,?_⟩
 ·obtain ⟨m,hm,rfl⟩:=Array.getElem_of_mem hy
  obtain ⟨t',e'⟩:=at' m hm
  rw [e']
  exact MeetsSeq.EqGives.int _ _ _ _
 ·obtain ⟨t',e'⟩:=at' j (by rw [List.size_toArray];omega)
  rw [e',zj]
  exact beq_self_eq_true z
 ·obtain ⟨t',e'⟩:=at' m hm
  rw [e']
  have da:m<zs.length:=by simp at hm;omega
  have:=sq m GO
  rw [List.getElem?_eq_getElem da] at this
  have ne:zs.getD m 0≠z:=fun q=>this (by rw [←q,List.getD_eq_getElem?_getD,List.getElem?_eq_getElem da];rfl)
  show (zs.getD m 0 == z)=false
  simpa using ne
 ·exact ⟨.int (j:Int),H,I.tok _,⟨_,rfl⟩,q⟩
end
end L2
namespace My
open PySem L2
theorem GP:∀{A B:List Nat},A.Pairwise (· < ·)→B.Pairwise (· < ·)→(∀p,p∈A↔p∈B)→A=B:=fun{A B} h1 h2 e=>by
 have nA:A.Nodup:=List.Pairwise.imp (fun h=>Nat.ne_of_lt h) h1
 have nB:B.Nodup:=List.Pairwise.imp (fun h=>Nat.ne_of_lt h) h2
 exact ((List.perm_ext_iff_of_nodup nA nB).mpr e).eq_of_pairwise (fun a b _ _ h h'=>by omega) h1 h2
theorem GQ{A B:List Nat}(p:A.Perm B)(nd:B.Nodup)(s:(A.map iN).Pairwise (·≤·)):A.Pairwise (· < ·):=by
 rw [List.pairwise_map] at s
 refine List.Pairwise.imp₂ (fun a b h1 h2=>?_) s (p.nodup_iff.mpr nd)
 have h1:(a:Int)≤(b:Int):=h1
 have h2:a≠b:=h2
 omega
structure gP (n:Nat) (o:List Nat) (M:List (Int×Int)) (k:Nat) (g:Nat→List Nat):Prop where
 mem:∀p q:Nat,p<n→(q∈g p↔q<n∧o.idxOf p<o.idxOf q∧bO p q∈M.take k)
 nd:∀p,p<n→(g p).Nodup
theorem gP.start(n:Nat)(o:List Nat)(M:List (Int×Int)):gP n o M 0 (fun _=>[]):=⟨fun p q _=>by simp,fun p _=>List.nodup_nil⟩
theorem gP.step{n:Nat}{o:List Nat}{M:List (Int×Int)}{k:Nat}{g:Nat→List Nat}(h:gP n o M k g)(qc:M.Nodup){p q:Nat}(hp:p<n)(hq:q<n)(hi:o.idxOf p<o.idxOf q)(hk:M[k]?=some (bO p q)):gP n o M (k+1) (fg g p q):=by
 have tk:=take_snoc hk
 have GR:bO p q∉M.take k:=fun m=>by
  have:(M.take (k+1)).Nodup:=List.Nodup.sublist (List.take_sublist _ _) qc
  rw [tk,List.nodup_append] at this
  exact this.2.2 _ m _ (List.mem_singleton.mpr rfl) rfl
 refine ⟨fun a b ha=>?_,fun a ha=>?_⟩
 ·rw [tk,List.mem_append,List.mem_singleton]
  unfold fg b4
  by_cases e:a=p
  ·subst e
   rw [if_pos rfl,List.mem_append,List.mem_singleton,h.mem a b ha]
   constructor
   ·rintro (⟨h1,h2,h3⟩ | rfl)
    ·exact ⟨h1,h2,.inl h3⟩
    ·exact ⟨hq,hi,.inr rfl⟩
   ·rintro ⟨h1,h2,h3 | h3⟩
    ·exact .inl ⟨h1,h2,h3⟩
    ·rcases kK h3 with ⟨_,e⟩ | ⟨e1,e2⟩
     ·exact .inr e
     ·subst e1;omega
  ·rw [if_neg e,h.mem a b ha]
   constructor
   ·rintro ⟨h1,h2,h3⟩
    exact ⟨h1,h2,.inl h3⟩
   ·rintro ⟨h1,h2,h3 | h3⟩
    ·exact ⟨h1,h2,h3⟩
    ·rcases kK h3 with ⟨e1,_⟩ | ⟨e1,e2⟩
     ·exact absurd e1 e
     ·subst e1;subst e2;omega
 ·unfold fg b4
  by_cases e:a=p
  ·subst e
   rw [if_pos rfl,List.nodup_append]
   refine ⟨h.nd a ha,by simp,fun x hx y hy e=>?_⟩
   rw [List.mem_singleton] at hy
   subst e
   rw [hy] at hx
   exact GR ((h.mem a q ha).mp hx).2.2
  ·rw [if_neg e]
   exact h.nd a ha
theorem gP.GS{n:Nat}{L:List (Int×Int)}{o:List Nat}{M:List (Int×Int)}{g:Nat→List Nat}(h:gP n o M M.length g)(f:gm n L o M){p:Nat}(hp:p<n):jn n L o p (g p):=fun q=>by
 rw [h.mem p q hp,List.take_length,f.2]
 constructor
 ·rintro ⟨h1,h2,p',q',_,_,h3,h4,h5⟩
  rcases kK h5 with ⟨rfl,rfl⟩ | ⟨rfl,rfl⟩
  ·exact ⟨h1,h2,h4⟩
  ·omega
 ·rintro ⟨h1,h2,h3⟩
  exact ⟨h1,h2,p,q,hp,h1,h2,h3,rfl⟩
def GU:Sp:=fun vs H Q _=>∃(t a:Addr) (n:Nat) (L M:List (Int×Int)) (o:List Nat),vs=[.ref t,.ref a]∧cF H t n M∧gm n L o M∧M.length≤500∧n≤30∧H a=some (.lst (o.map fun k:Nat=>V.int (k:Int)))∧o.Perm (List.range n) ∧
 ∀(H':Hp) (D:Addr) (rs:Nat→Addr) (g:Nat→List Nat),aj H H'→uo H' D n rs g→(∀p,p<n→(g p).Pairwise (· < ·)∧jn n L o p (g p))→Q (.ref D) H'
end My
set_option maxRecDepth 100000
set_option maxHeartbeats 4000000
namespace My
open PySem L2
def top(i:Nat):Stmt:=PySem.Challenge.pw_bandwright_k17_filled_by_walks.main.body.getD i (.Pass ⟨0,0,0,0⟩)
abbrev qd:Stmt:=top 4
abbrev qe:Stmt:=top 5
abbrev qf:Stmt:=top 8
abbrev qg:Stmt:=top 9
abbrev qh:Stmt:=top 10
abbrev qi:Stmt:=top 11
abbrev qj:Stmt:=top 12
abbrev ql:Stmt:=top 14
abbrev qm:Stmt:=top 15
abbrev qo:Stmt:=top 16
abbrev qp:Stmt:=top 17
abbrev qq:Stmt:=top 18
abbrev qr:Stmt:=top 19
abbrev qt:Stmt:=top 21
abbrev qu:Stmt:=top 22
abbrev qv:Stmt:=top 23
abbrev qw:Stmt:=top 24
abbrev qx:Stmt:=top 25
abbrev qy:Stmt:=top 26
abbrev qz:Stmt:=top 27
abbrev qA:Stmt:=top 28
abbrev qB:Stmt:=top 29
abbrev qC:Stmt:=top 30
abbrev qD:Stmt:=top 31
abbrev qE:Stmt:=top 32
structure uy where
 jo:Addr
 kN:FuncData
 jq:Addr
 kO:FuncData
 jr:Addr
 kP:FuncData
 ju:Addr
 kS:FuncData
 jv:Addr
 kT:FuncData
 jw:Addr
 kU:FuncData
 jx:Addr
 kW:FuncData
 jy:Addr
 kX:FuncData
 jz:Addr
 kY:FuncData
 jA:Addr
 kZ:FuncData
 jB:Addr
 k4:FuncData
 jC:Addr
 k6:FuncData
 jD:Addr
 k8:FuncData
 jE:Addr
 k_:FuncData
 jF:Addr
 lb:FuncData
 jG:Addr
 lh:FuncData
 jH:Addr
 lp:FuncData
 jI:Addr
 lq:FuncData
 jJ:Addr
 lA:FuncData
 jK:Addr
 lB:FuncData
 jL:Addr
 lC:FuncData
 jM:Addr
 lE:FuncData
 jN:Addr
 lF:FuncData
 jO:Addr
 lG:FuncData
 iC:Addr
 jP:FuncData
 gQ:Addr
structure Txt (K:PySem.W.Frag) (mg:Str→Option Value) (t:uy):Prop where
 iD:aI K "is_whole" "is_whole" qd t.jo t.kN
 qF:Binds K t.kN ["thing"] []
 qG:mg "is_whole" = some (.ref t.jo)
 lH:aI K "is_rising" "is_rising" qe t.jq t.kO
 yS:Binds K t.kO ["things"] []
 yT:mg "is_rising" = some (.ref t.jq)
 jQ:aI K "is_place" "is_place" qf t.jr t.kP
 uz:Binds K t.kP ["thing","n"] []
 uA:mg "is_place" = some (.ref t.jr)
 lI:aI K "is_link" "is_link" qg t.ju t.kS
 yU:Binds K t.kS ["thing","n"] []
 yV:mg "is_link" = some (.ref t.ju)
 lJ:aI K "are_links" "are_links" qh t.jv t.kT
 yW:Binds K t.kT ["thing","n"] []
 yX:mg "are_links" = some (.ref t.jv)
 lK:aI K "is_shape" "is_shape" qi t.jw t.kU
 yY:Binds K t.kU ["thing"] []
 yZ:mg "is_shape" = some (.ref t.jw)
 lN:aI K "neighbours" "neighbours" qj t.jx t.kW
 y3:Binds K t.kW ["shape"] []
 y4:mg "neighbours" = some (.ref t.jx)
 lO:aI K "is_order" "is_order" ql t.jy t.kX
 y6:Binds K t.kX ["thing","n"] []
 y7:mg "is_order" = some (.ref t.jy)
 lQ:aI K "check_order" "check_order" qm t.jz t.kY
 y8:Binds K t.kY ["order","n"] []
 y9:mg "check_order" = some (.ref t.jz)
 lR:aI K "turns_of" "turns_of" qo t.jA t.kZ
 y_:Binds K t.kZ ["order"] []
 zc:mg "turns_of" = some (.ref t.jA)
 lS:aI K "link_all" "link_all" qp t.jB t.k4
 zh:Binds K t.k4 ["linked","places"] []
 zi:mg "link_all" = some (.ref t.jB)
 jR:aI K "later" "later" qq t.jC t.k6
 uB:Binds K t.k6 ["shape","order"] []
 uC:mg "later" = some (.ref t.jC)
 lT:aI K "filled" "filled" qr t.jD t.k8
 zo:Binds K t.k8 ["shape","order"] []
 zp:mg "filled" = some (.ref t.jD)
 lW:aI K "_law_fill" "_law_fill" qt t.jE t.k_
 zq:Binds K t.k_ ["_law_cell","_law_at"] []
 zr:mg "_law_fill" = some (.ref t.jE)
 dG:aI K "_law_next" "_law_next" qu t.jF t.lb
 fI:Binds K t.lb ["_law_pen","_law_many"] []
 fJ:mg "_law_next" = some (.ref t.jF)
 jS:aI K "_law_turned" "_law_turned" qv t.jG t.lh
 uD:Binds K t.lh ["_law_pen","_law_some"] []
 uE:mg "_law_turned" = some (.ref t.jG)
 lY:aI K "_law_tied_by" "_law_tied_by" qw t.jH t.lp
 zt:Binds K t.lp ["_law_pen","_law_way","_law_size","_law_wide","_law_i","_law_j"] []
 zu:mg "_law_tied_by" = some (.ref t.jH)
 lZ:aI K "_law_grown_links" "_law_grown_links" qx t.jI t.lq
 zv:Binds K t.lq ["_law_pen","_law_size"] []
 zw:mg "_law_grown_links" = some (.ref t.jI)
 l5:aI K "_law_drawn" "_law_drawn" qy t.jJ t.lA
 zA:Binds K t.lA ["_law_pen","_law_most"] []
 zB:mg "_law_drawn" = some (.ref t.jJ)
 l6:aI K "_law_named" "_law_named" qz t.jK t.lB
 zC:Binds K t.lB ["_law_size","_law_links","_law_names"] []
 zD:mg "_law_named" = some (.ref t.jK)
 l7:aI K "_law_beside" "_law_beside" qA t.jL t.lC
 zE:Binds K t.lC ["_law_shape"] []
 zF:mg "_law_beside" = some (.ref t.jL)
 l8:aI K "_law_walks" "_law_walks" qB t.jM t.lE
 zG:Binds K t.lE ["_law_beside_here","_law_through","_law_start"] []
 zH:mg "_law_walks" = some (.ref t.jM)
 l9:aI K "_law_filled" "_law_filled" qC t.jN t.lF
 zI:Binds K t.lF ["_law_shape","_law_order"] []
 zJ:mg "_law_filled" = some (.ref t.jN)
 l_:aI K "_law_later" "_law_later" qD t.jO t.lG
 zK:Binds K t.lG ["_law_due","_law_order"] []
 zL:mg "_law_later" = some (.ref t.jO)
 ma:aI K "law" "law" qE t.iC t.jP
 GV:Binds K t.jP ["script"] []
 zM:mg "law" = some (.ref t.iC)
 zN:mg "NoOrder" = some (.ref t.gQ)
 iE:mg "len" = none
 iF:mg "isinstance" = none
 zO:mg "int" = none
 zP:mg "bool" = none
 jT:mg "tuple" = none
 iG:mg "list" = none
 eI:mg "range" = none
 qH:mg "all" = none
 uF:mg "enumerate" = none
 qI:mg "min" = none
 qJ:mg "max" = none
 jU:mg "sorted" = none
 zQ:mg "zip" = none
 GW:mg "ValueError" = none
 zR:∃u,mg "MOST" = some u∧RelV (.int 60) u
 zS:PySem.W.excIn K t.gQ [.type "ValueError",.type "Exception",.type "BaseException",.type "object"] "ValueError.__new__" = true
section
variable {P:Program} {w:World} {K:PySem.W.Frag} {mg:Str→Option Value} {base:Heap} {t:uy}
theorem GX:bQ ["thing"] ["thing"] (bg qd):=⟨rfl,rfl,rfl,by decide +kernel,rfl,by decide +kernel,by decide +kernel⟩
theorem uG(T:Txt K mg t):bx P w K mg base bT 1 t.jo t.kN ["thing"] DW:=by
 have S:=GX
 refine T.iD.ok S (fun vs H Q E h=>?_) (fun aJ A outer s H vs Q E hr h=>?_)
 ·obtain ⟨v,rfl,_⟩:=h
  rfl
 ·obtain ⟨v,rfl,ha,k⟩:=h
  refine ⟨_,(@aB _ _ _ (@bD _ _ _ _ (@gX _ _ _ _ _ _ _ (bR (ja (K:=K)) rfl T.iF boot_isinstance (@ae _ _ _ _ _ (by rfl) (pv 0) (@ae _ _ _ _ _ (by rfl) (iS (v:=.ty "int") rfl T.zO boot_int rfl) ao))) (@j7 _ _ _ _ _ (@BC _ _ _ _ (bR (ja (K:=K)) rfl T.iF boot_isinstance (@ae _ _ _ _ _ (by rfl) (pv 0) (@ae _ _ _ _ _ (by rfl) (iS (v:=.ty "bool") rfl T.zP boot_bool rfl) ao)))))))),?_⟩
  obtain ⟨Ty,ty,k1,k2,_⟩:=ha.sU (K:=K)
  refine ⟨_,rfl,_,_,_,_,rfl,rfl,ty,k1,_,rfl,cp (fun h1=>?_) (fun h1=>?_)⟩
  ·refine ⟨_,rfl,_,_,_,_,rfl,rfl,ty,k2,_,rfl,?_⟩
   have e:(!kA v)=ky v:=by
    cases h2:kA v with
    | true=>rw [DV h2];rfl
    | false=>rw [h2,Bool.or_false] at h1;rw [h1];rfl
   show Q (.bl (!kA v)) H
   rw [e]
   exact k
  ·have e:ky v=false:=by
    cases h2:ky v with
    | true=>rw [h2] at h1;exact absurd rfl h1
    | false=>rfl
   rw [e] at k
   exact k
theorem GY:bQ ["thing","n"] ["thing","n"] (bg qf):=⟨rfl,rfl,rfl,by decide +kernel,rfl,by decide +kernel,by decide +kernel⟩
theorem GZ(T:Txt K mg t):bx P w K mg base bT 2 t.jr t.kP ["thing","n"] Ge:=by
 have S:=GY
 have nJ:=uG (P:=P) (w:=w) (base:=base) T
 refine T.jQ.ok S (fun vs H Q E h=>?_) (fun aJ A outer s H vs Q E hr h=>?_)
 ·obtain ⟨z,n,rfl,_⟩:=h
  rfl
 ·obtain ⟨z,n,rfl,k⟩:=h
  refine ⟨_,(@aB _ _ _ (@bD _ _ _ _ (@gX _ _ _ _ _ _ _ (a_ nJ (hr.mono (by decide)) rfl T.qG T.iD.kp T.qF .nil bA (@ae _ _ _ _ _ (by rfl) (pv 0) ao)) (@j7 _ _ _ _ _ (wA oB mI av (pv 0) (pv 1)))))),?_⟩
  refine ⟨_,rfl,.int z,rfl,.int z,true,rfl,gC ?_⟩
  refine ⟨_,rfl,0,z,rfl,rfl,_,rfl,cp (fun h1=>?_) (fun h1=>?_)⟩
  ·refine ⟨_,rfl,z,(n:Int),rfl,rfl,?_⟩
   have uH:=of_decide_eq_true h1
   rw [show decide (0≤z∧z<(n:Int))=decide (z<(n:Int)) by simp [uH]] at k
   exact k
  ·have uH:¬(0≤z):=fun e=>h1 (decide_eq_true e)
   rw [show decide (0≤z∧z<(n:Int))=false by simp [uH]] at k
   exact k
theorem G0:bQ ["things"] ["things"] (bg qe):=⟨rfl,rfl,rfl,by decide +kernel,rfl,by decide +kernel,by decide +kernel⟩
theorem G1(T:Txt K mg t):bx P w K mg base bT 1 t.jq t.kO ["things"] GH:=by
 have S:=G0
 refine T.lH.ok S (fun vs H Q E h=>?_) (fun aJ A outer s H vs Q E hr h=>?_)
 ·obtain ⟨lt,us,L,rfl,_⟩:=h
  rfl
 ·obtain ⟨lt,us,L,rfl,elt,hL,l1,pw,k⟩:=h
  have G2:=hr.wC
  refine ⟨_,(@aB _ _ _ (@bD _ _ _ _ (bR (sW (K:=K) rfl) rfl T.qH boot_all (@ae _ _ _ _ _ (by rfl) (D6 (N:=["one","other"]) (ρ:=(fun σ=>[])) ⟨rfl,rfl,by decide +kernel,by decide +kernel,(List.forall_mem_nil _),eS (by rfl),rfl,rfl,by decide +kernel,rfl,rfl,(fun σ j v h=>match j,h with | j,h=>by cases h),(fun _ _=>rfl)⟩ rfl (GA rfl T.zQ (@ae _ _ _ _ _ (by rfl) (pv 0) (@ae _ _ _ _ _ (by rfl) (@sC _ _ _ _ _ _ _ _ _ _ GD (pv 0) (su av) sr) ao))) (fun s₃ H₃ fp=>.nil) (fun s₃ H₃ fp=>(@gx _ _ _ _ _ _ _ _ (GF (K:=K) G2) (pv 0) (pv 1) (bK _)))) ao)))),?_⟩
  refine xN (o_ (D8 (zs:=us.zip (us.drop 1)) (fun R h=>?_) (b5 (by rw [List.length_zip,hL.1];omega)) (fun _ v=>v=.bl true) ?_ ?_))
  ·refine ⟨_,rfl,_,rfl,1,rfl,lt,us,rfl,.of elt,fun p H' hp=>?_⟩
   rw [GL] at hp
   rcases hp with ⟨rfl,rfl,e⟩ | ⟨np,rfl⟩
   ·refine ⟨p,p,rfl,⟨_,.of elt⟩,⟨_,.of elt⟩,h _ _ (aj.refl _) ?_⟩
    rw [e]
    exact yQ elt elt
   ·have el:=aU np (o:=.tup (us.drop 1)) _ _ elt
    exact ⟨lt,p,rfl,⟨_,.of el⟩,⟨_,.of ar⟩,h _ _ (aU np) (yQ el ar)⟩
  ·intro i x y uw Hc R sc kR
   obtain ⟨hx,hy⟩:=List.getElem?_zip_eq_some.mp uw
   rw [List.getElem?_drop] at hy
   have oM:us[i+1]?=some y:=by rw [Nat.add_comm];exact hy
   have i1:i+1<L.length:=by rw [←hL.1];exact (List.getElem?_eq_some_iff.mp oM).1
   obtain ⟨a,rfl,ea⟩:=hL.2 i x L[i] hx (by simp [show i<L.length by omega])
   obtain ⟨b,rfl,eb⟩:=hL.2 (i+1) y L[i+1] oM (by simp [i1])
   have lx:lexLt L[i] L[i+1]:=List.pairwise_iff_getElem.mp pw i (i+1) (by omega) i1 (by omega)
   refine ⟨_,rfl,_,rfl,a,b,[L[i].1,L[i].2],[L[i+1].1,L[i+1].2],rfl,rfl,.of (sc _ _ ea),.of (sc _ _ eb),kR _ _ (aj.refl _) ?_⟩
   rw [GK lx]
  ·intro D vs Hc sc lv hP eD
   refine ⟨D,List.replicate vs.length true,rfl,.of (by rw [eD];exact congrArg _ (congrArg _ (tw hP))),?_⟩
   rw [tD]
   exact k _ sc
theorem G3:bQ ["thing","n"] ["thing","n"] (bg qg):=⟨rfl,rfl,rfl,by decide +kernel,rfl,by decide +kernel,by decide +kernel⟩
theorem G4(T:Txt K mg t):bx P w K mg base bT 3 t.ju t.kS ["thing","n"] GG:=by
 have S:=G3
 have zT:=GZ (P:=P) (w:=w) (base:=base) T
 refine T.lI.ok S (fun vs H Q E h=>?_) (fun aJ A outer s H vs Q E hr h=>?_)
 ·obtain ⟨b,x,y,n,rfl,_⟩:=h
  rfl
 ·obtain ⟨b,x,y,n,rfl,eb,k⟩:=h
  refine ⟨_,(@ax _ _ _ _ _ (@cf _ _ _ _ _ _ _ _ (PW.pt (@pw_or _ _ _ _ _ _ _ (@j6 _ _ _ _ (iT (bR (ja (K:=K)) rfl T.iF boot_isinstance (@ae _ _ _ _ _ (by rfl) (pv 0) (@ae _ _ _ _ _ (by rfl) (iS (v:=.ty "tuple") rfl T.jT boot_tuple rfl) ao))))) (@pw_or1 _ _ _ _ (@b7 _ _ _ _ _ _ _ _ oA (bR i8 rfl T.iE boot_len (@ae _ _ _ _ _ (by rfl) (pv 0) ao)) av (bK _))))) (@aB _ _ _ (@bD _ _ _ _ eQ)) cw)
   (@aB _ _ _ (@bD _ _ _ _ (@gX _ _ _ _ _ _ _ (a_ zT (hr.mono (by decide)) rfl T.uA T.jQ.kp T.uz .nil bA (@ae _ _ _ _ _ (by rfl) (@aQ _ _ _ _ _ _ _ cP (pv 0) av (fun _ _=>rfl)) (@ae _ _ _ _ _ (by rfl) (pv 1) ao))) (@gX _ _ _ _ _ _ _ (a_ zT (hr.mono (by decide)) rfl T.uA T.jQ.kp T.uz .nil bA (@ae _ _ _ _ _ (by rfl) (@aQ _ _ _ _ _ _ _ cP (pv 0) av (fun _ _=>rfl)) (@ae _ _ _ _ _ (by rfl) (pv 1) ao))) (@j7 _ _ _ _ _ (@gx _ _ _ _ _ _ _ _ mI (@aQ _ _ _ _ _ _ _ cP (pv 0) av (fun _ _=>rfl)) (@aQ _ _ _ _ _ _ _ cP (pv 0) av (fun _ _=>rfl)) (bK _)))))))),?_⟩
  refine bU ⟨_,rfl,_,_,_,true,rfl,rfl,.of (.tup eb),mZ,true,rfl,dN ?_⟩
  refine ⟨_,rfl,b,_,rfl,.inr (.of eb),rfl,false,rfl,dN ?_⟩
  dsimp only [fj]
  refine ⟨_,rfl,b,_,_,_,rfl,rfl,.of eb,rfl,_,rfl,x,n,rfl,_,rfl,cp (fun h1=>?_) (fun h1=>?_)⟩
  ·rw [h1,Bool.true_and] at k
   refine ⟨_,rfl,b,_,_,_,rfl,rfl,.of eb,rfl,_,rfl,y,n,rfl,_,rfl,cp (fun h2=>?_) (fun h2=>?_)⟩
   ·rw [h2,Bool.true_and] at k
    exact ⟨_,rfl,b,_,_,_,rfl,rfl,.of eb,rfl,_,rfl,b,_,_,_,rfl,rfl,.of eb,rfl,x,y,rfl,rfl,k⟩
   ·rw [Bool.eq_false_iff.mpr h2,Bool.false_and] at k
    exact k
  ·rw [Bool.eq_false_iff.mpr h1,Bool.false_and] at k
   exact k
theorem G5:bQ ["thing","n"] ["thing","n"] (bg qh):=⟨rfl,rfl,rfl,by decide +kernel,rfl,by decide +kernel,by decide +kernel⟩
theorem G6(T:Txt K mg t):bx P w K mg base bT 4 t.jv t.kT ["thing","n"] GI:=by
 have S:=G5
 have G7:=G4 (P:=P) (w:=w) (base:=base) T
 have G8:=G1 (P:=P) (w:=w) (base:=base) T
 refine T.lJ.ok S (fun vs H Q E h=>?_) (fun aJ A outer s H vs Q E hr h=>?_)
 ·obtain ⟨lt,n,us,L,rfl,_⟩:=h
  rfl
 ·obtain ⟨lt,n,us,L,rfl,elt,hL,l1,pw,ok,k⟩:=h
  refine ⟨_,(@aB _ _ _ (@bD _ _ _ _ (@gX _ _ _ _ _ _ _ (bR (ja (K:=K)) rfl T.iF boot_isinstance (@ae _ _ _ _ _ (by rfl) (pv 0) (@ae _ _ _ _ _ (by rfl) (iS (v:=.ty "tuple") rfl T.jT boot_tuple rfl) ao))) (@gX _ _ _ _ _ _ _ (bR (sW (K:=K) rfl) rfl T.qH boot_all (@ae _ _ _ _ _ (by rfl) (jb (N:=["each","n"]) (ρ:=(fun σ=>[σ[1]?.join])) ⟨rfl,rfl,by decide +kernel,by decide +kernel,(List.forall_mem_cons.mpr ⟨rfl,(List.forall_mem_nil _)⟩),eS (by rfl),rfl,by decide +kernel,rfl,(fun σ j v h=>match j,h with | 0,h=>⟨1,_,rfl,rfl,join_some h,Or.inr (Or.inl rfl),.inl rfl,.inl rfl⟩ | j+1,h=>by cases h),(fun _ _=>rfl)⟩ rfl (oo (pv 0)) (fun s₃ H₃ fp=>.nil) (fun s₃ H₃ fp=>(a_ G7 (hr.mono (by decide)) rfl T.yV T.lI.kp T.yU .nil bA (@ae _ _ _ _ _ (by rfl) (pv 0) (@ae _ _ _ _ _ (by rfl) (pv 1) ao))))) ao)) (@j7 _ _ _ _ _ (a_ G8 (hr.mono (by decide)) rfl T.yT T.lH.kp T.yS .nil bA (@ae _ _ _ _ _ (by rfl) (pv 0) ao))))))),?_⟩
  refine ⟨_,rfl,_,_,_,true,rfl,rfl,.of (.tup elt),mZ,true,rfl,gC ?_⟩
  refine o_ (xE (xs:=us) (fun R h=>⟨_,rfl,lt,rfl,⟨_,.of elt⟩,h _ _ (aj.refl _) ⟨fun i Hc s hi=>⟨us,us[i],.of (s _ _ elt),by simp [hi]⟩,fun i Hc x H' s y=>⟨y.1,fun _=>y.2 us (.of (s _ _ elt))⟩,fun i Hc s hi=>⟨us,.of (s _ _ elt),hi⟩⟩⟩) (b5 (by rw [hL.1];omega)) (fun _ i y _=>y=.bl true) (fun _ _ _ _ _ _ h _ _=>h) ?_ ?_)
  ·intro D i v hi Hc R sc _ kc
   have i1:i<L.length:=by rw [←hL.1];exact (List.getElem?_eq_some_iff.mp hi).1
   obtain ⟨b,rfl,eb⟩:=hL.2 i v L[i] hi (by simp [i1])
   have o:=ok L[i] (List.getElem_mem _)
   refine ⟨_,rfl,_,rfl,b,L[i].1,L[i].2,n,rfl,sc _ _ eb,kc _ Hc (aj.refl _) ?_⟩
   rw [decide_eq_true (show 0≤L[i].1∧L[i].1<(n:Int) by omega),decide_eq_true (show 0≤L[i].2∧L[i].2<(n:Int) by omega),decide_eq_true o.2.1]
   rfl
  ·intro D ys Hc sc uI hP eD
   refine ⟨D,List.replicate ys.length true,rfl,.of (by rw [eD];exact congrArg _ (congrArg _ (tw hP))),?_⟩
   rw [tD]
   refine ⟨true,rfl,gC ?_⟩
   exact ⟨_,rfl,lt,us,L,rfl,sc _ _ elt,hL.mono sc,l1,pw,fun H' s'=>k _ (sc.trans s')⟩
theorem G9:bQ ["thing"] ["thing"] (bg qi):=⟨rfl,rfl,rfl,by decide +kernel,rfl,by decide +kernel,by decide +kernel⟩
theorem G_(T:Txt K mg t):bx P w K mg base bT 5 t.jw t.kU ["thing"] GJ:=by
 have S:=G9
 have nJ:=uG (P:=P) (w:=w) (base:=base) T
 have Hi:=G6 (P:=P) (w:=w) (base:=base) T
 obtain ⟨uM,hM,rM⟩:=T.zR
 refine T.lK.ok S (fun vs H Q E h=>?_) (fun aJ A outer s H vs Q E hr h=>?_)
 ·obtain ⟨tp,n,L,rfl,_⟩:=h
  rfl
 ·obtain ⟨tp,n,L,rfl,⟨lt,us,bX,elt,hL⟩,l1,pw,ok,n1,zU,k⟩:=h
  refine ⟨_,(@ax _ _ _ _ _ (@cf _ _ _ _ _ _ _ _ (PW.pt (@pw_or _ _ _ _ _ _ _ (@j6 _ _ _ _ (iT (bR (ja (K:=K)) rfl T.iF boot_isinstance (@ae _ _ _ _ _ (by rfl) (pv 0) (@ae _ _ _ _ _ (by rfl) (iS (v:=.ty "tuple") rfl T.jT boot_tuple rfl) ao))))) (@pw_or1 _ _ _ _ (@b7 _ _ _ _ _ _ _ _ oA (bR i8 rfl T.iE boot_len (@ae _ _ _ _ _ (by rfl) (pv 0) ao)) av (bK _))))) (@aB _ _ _ (@bD _ _ _ _ eQ)) cw)
   (@aB _ _ _ (@bD _ _ _ _ (@gX _ _ _ _ _ _ _ (a_ nJ (hr.mono (by decide)) rfl T.qG T.iD.kp T.qF .nil bA (@ae _ _ _ _ _ (by rfl) (@aQ _ _ _ _ _ _ _ cP (pv 0) av (fun _ _=>rfl)) ao)) (@gX _ _ _ _ _ _ _ (wA oB oB av (@aQ _ _ _ _ _ _ _ cP (pv 0) av (fun _ _=>rfl)) (Bw (v:=.int 60) rfl hM rM)) (@j7 _ _ _ _ _ (a_ Hi (hr.mono (by decide)) rfl T.yX T.lJ.kp T.yW .nil bA (@ae _ _ _ _ _ (by rfl) (@aQ _ _ _ _ _ _ _ cP (pv 0) av (fun _ _=>rfl)) (@ae _ _ _ _ _ (by rfl) (@aQ _ _ _ _ _ _ _ cP (pv 0) av (fun _ _=>rfl)) ao))))))))),?_⟩
  refine bU ⟨_,rfl,_,_,_,true,rfl,rfl,.of (.tup bX),mZ,true,rfl,dN ?_⟩
  refine ⟨_,rfl,tp,_,rfl,.inr (.of bX),rfl,false,rfl,dN ?_⟩
  dsimp only [fj]
  refine ⟨_,rfl,tp,_,_,_,rfl,rfl,.of bX,rfl,.int (n:Int),rfl,.int _,true,rfl,gC ?_⟩
  refine ⟨_,rfl,tp,_,_,_,rfl,rfl,.of bX,rfl,1,(n:Int),rfl,rfl,true,congrArg V.bl (decide_eq_true (by omega)),gC ?_⟩
  refine ⟨(n:Int),60,rfl,rfl,true,congrArg V.bl (decide_eq_true (by omega)),gC ?_⟩
  exact ⟨_,rfl,tp,_,_,_,rfl,rfl,.of bX,rfl,_,rfl,tp,_,_,_,rfl,rfl,.of bX,rfl,lt,n,us,L,rfl,elt,hL,l1,pw,ok,k⟩
theorem Hj:bQ ["shape","linked","i","j"] ["shape"] (bg qj):=⟨rfl,rfl,rfl,by decide +kernel,rfl,by decide +kernel,by decide +kernel⟩
theorem Hk(T:Txt K mg t):bx P w K mg base bT 1 t.jx t.kW ["shape"] FD:=by
 have S:=Hj
 refine T.lN.ok S (fun vs H Q E h=>?_) (fun aJ A outer s H vs Q E hr h=>?_)
 ·obtain ⟨tp,n,L,rfl,_⟩:=h
  rfl
 ·obtain ⟨tp,n,L,rfl,⟨lt,us,bX,elt,hL⟩,ok,n9,kk⟩:=h
  have hu:=Nat.lt_of_le_of_lt (Nat.add_le_add_left (show 1≤64 by decide) _) hr.units
  have uJ:((List.range n).map fun i:Nat=>V.int (0+(i:Int))).length=n:=by rw [List.length_map,List.length_range]
  refine ⟨_,(@ax _ _ _ _ _ (o7 (i0:=1) (N:=["place"]) (ρ:=(fun σ=>[])) ⟨rfl,rfl,by decide +kernel,by decide +kernel,(List.forall_mem_nil _),eS (by rfl),rfl,by decide +kernel,rfl,(fun σ j v h=>match j,h with | j,h=>by cases h),(fun _ _=>rfl)⟩ rfl S.nd rfl (Or.inl rfl) (g6 rfl T.eI (@ae _ _ _ _ _ (by rfl) (@aQ _ _ _ _ _ _ _ cP (pv 0) av (fun _ _=>rfl)) ao)) (fun s₃ H₃ fp=>.nil) (fun s₃ H₃ fp=>Fo))
   (@ax _ _ _ _ _ (cO PassesOwn.never rfl (oo (@aQ _ _ _ _ _ _ _ cP (pv 0) av (fun _ _=>rfl))) (iW rfl (dI (bS (i:=2) S.nd rfl (Or.inl rfl)) (dI (bS (i:=3) S.nd rfl (Or.inl rfl)) iV)))
    (@ax _ _ _ _ _ (pW hu (@aQ _ _ _ _ _ _ _ bL (pv 1) (pv 2) (fun _ _=>rfl)) (pv 3) eQ rfl)
   (@aB _ _ _ (pW hu (@aQ _ _ _ _ _ _ _ bL (pv 1) (pv 3) (fun _ _=>rfl)) (pv 2) eQ rfl))))
   (@aB _ _ _ (@bD _ _ _ _ (pv 1))))),?_⟩
  refine bU (kC (m7 (xs:=(List.range n).map fun i:Nat=>V.int (0+(i:Int))) (n:=n) uJ (fun R h=>⟨_,rfl,tp,_,_,_,rfl,rfl,.of bX,rfl,(n:Int),rfl,by omega,by omega,h _ _ (aj.refl _) (by rw [Int.toNat_natCast];exact xC)⟩) (b5 (by omega)) (fun _ i y Hx=>Hx y=some (.dK (dk []))∧H y=none) ?_ ?_ ?_))
  ·intro D i y Ha Hb ys ⟨h1,h2⟩ hy e f
   exact ⟨f y _ hy h1,h2⟩
  ·intro D i x hx Hc R sc _ kc
   refine fun p np=>kc p _ (cV (aj.refl _) np) np ⟨_,ar⟩ ⟨ar,?_⟩
   cases e:H p with
   | none=>rfl
   | some o=>rw [sc _ _ e] at np;cases np
  ·intro D ds H1 nD s1 inj hA eD
   have K0:b6 H1 D n ds (fun _=>True) (fun _=>[]):=⟨eD,inj,fun i hi=>(hA i hi).2,fun i hi _=>(hA i hi).1.1,fun i _=>e9.nil n⟩
   have fr:∀i,i<n→H (ds i)=none:=fun i hi=>(hA i hi).1.2
   dsimp only [aT]
   refine bU ⟨_,rfl,tp,_,_,_,rfl,rfl,.of (s1 _ _ bX),rfl,lt,rfl,⟨_,.of (s1 _ _ elt)⟩,?_⟩
   refine rN (K:=K) (a:=lt) (xs:=us) (fun k σ Hc=>∃(f:Nat→List Nat) (v2 v3:Option V),σ=[some (.ref tp),some (.ref D),v2,v3]∧aj H Hc∧b6 Hc D n ds (fun _=>True) f∧di n (L.take k) f) ⟨_,_,_,rfl,s1,K0,di.nil n⟩ (fun k σ Hc _ ⟨_,_,_,_,sc,_⟩=>.of (sc _ _ elt)) ?_ ?_
   ·rintro k x σ Hc hx ⟨f,v2,v3,rfl,sc,KL,nb⟩
    have hk:k<L.length:=by
     rw [←hL.1]
     exact (List.getElem?_eq_some_iff.mp hx).1
    obtain ⟨b,rfl,eb⟩:=hL.2 k x L[k] hx (by simp [hk])
    have pk:=ok L[k] (List.getElem_mem hk)
    have tk:L.take (k+1)=L.take k++[L[k]]:=by rw [List.take_succ,List.getElem?_eq_getElem hk];rfl
    generalize L[k]=p at eb pk tk
    obtain ⟨p1,p2⟩:=p
    dsimp only at pk eb
    obtain ⟨i,rfl⟩:=Int.eq_ofNat_of_zero_le pk.1
    obtain ⟨j,rfl⟩:=Int.eq_ofNat_of_zero_le pk.2.2.1
    have hi:i<n:=by omega
    have hj:j<n:=by omega
    refine ⟨b,_,rfl,.of (sc _ _ eb),rfl,_,_,rfl,_,_,rfl,rfl,?_⟩
    obtain ⟨q1,K1⟩:=KL.put hi hj trivial n9
    obtain ⟨q2,K2⟩:=K1.put hj hi trivial n9
    refine ⟨_,rfl,_,rfl,D,_,_,_,rfl,rfl,.of KL.lst,KL.ix hi,_,rfl,_,_,rfl,q1,?_⟩
    refine ⟨_,rfl,_,rfl,D,_,_,_,rfl,rfl,.of K1.lst,K1.ix hj,_,rfl,_,_,rfl,q2,?_⟩
    have off:∀(Hx:Hp) (i:Nat) (o:HO),i<n→aj H Hx→aj H (upd Hx (ds i) o):=fun Hx i o hi sx a u e=>by
     rw [aA (fun z=>by rw [z,fr i hi] at e;cases e)]
     exact sx _ _ e
    exact ⟨_,_,_,rfl,off _ _ _ hj (off _ _ _ hi sc),K2,by rw [tk];exact nb.more hi hj⟩
   ·rintro σ Hc ⟨f,v2,v3,rfl,sc,KL,nb⟩
    rw [hL.1,List.take_length] at nb
    exact ⟨_,rfl,kk _ _ _ _ sc nD fr KL nb⟩
theorem Hl:bQ ["thing","n"] ["thing","n"] (bg ql):=⟨rfl,rfl,rfl,by decide +kernel,rfl,by decide +kernel,by decide +kernel⟩
theorem Hm(T:Txt K mg t):bx P w K mg base bT 2 t.jy t.kX ["thing","n"] FI:=by
 have S:=Hl
 have nJ:=uG (P:=P) (w:=w) (base:=base) T
 refine T.lO.ok S (fun vs H Q E h=>?_) (fun aJ A outer s H vs Q E hr h=>?_)
 ·obtain ⟨a,zs,n,rfl,_⟩:=h
  rfl
 ·obtain ⟨a,zs,n,rfl,ea,jV,n1,k⟩:=h
  have gp:=hr.units
  refine ⟨_,(@ax _ _ _ _ _ (@cf _ _ _ _ _ _ _ _ (PW.pt (@pw_or _ _ _ _ _ _ _ (@j6 _ _ _ _ (iT (bR (ja (K:=K)) rfl T.iF boot_isinstance (@ae _ _ _ _ _ (by rfl) (pv 0) (@ae _ _ _ _ _ (by rfl) (iS (v:=.ty "list") rfl T.iG boot_list rfl) ao))))) (@pw_or1 _ _ _ _ (@j6 _ _ _ _ (iT (bR (sW (K:=K) rfl) rfl T.qH boot_all (@ae _ _ _ _ _ (by rfl) (jb (N:=["place"]) (ρ:=(fun σ=>[])) ⟨rfl,rfl,by decide +kernel,by decide +kernel,(List.forall_mem_nil _),eS (by rfl),rfl,by decide +kernel,rfl,(fun σ j v h=>match j,h with | j,h=>by cases h),(fun _ _=>rfl)⟩ rfl (ee (pv 0)) (fun s₃ H₃ fp=>.nil) (fun s₃ H₃ fp=>(a_ nJ (hr.mono (by decide)) rfl T.qG T.iD.kp T.qF .nil bA (@ae _ _ _ _ _ (by rfl) (pv 0) ao)))) ao))))))) (@aB _ _ _ (@bD _ _ _ _ eQ)) cw)
   (@aB _ _ _ (@bD _ _ _ _ (@gx _ _ _ _ _ _ _ _ (FF gp) (bR uj rfl T.jU PyProof.Rows.boot_sorted (@ae _ _ _ _ _ (by rfl) (pv 0) ao)) (fk (sZ rfl) rfl T.iG boot_list (@ae _ _ _ _ _ (by rfl) (fk sY rfl T.eI s_ (@ae _ _ _ _ _ (by rfl) (pv 1) ao)) ao)) (bK _))))),?_⟩
  refine ⟨_,rfl,_,_,_,true,rfl,rfl,.of (.lst ea),mZ,true,rfl,dN ?_⟩
  unfold vW tB
  refine o_ (xE (xs:=zs.map V.int) (fun R h=>⟨_,rfl,a,rfl,⟨_,.of ea⟩,h _ _ (aj.refl _) (kB (.of ea))⟩) (by rw [List.length_map];exact b5 (by omega)) (fun _ i y _=>y=.bl true) (fun _ _ _ _ _ _ h _ _=>h) ?_ ?_)
  ·intro D i v hi Hc R sc _ kc
   obtain ⟨z,rfl⟩:∃z:Int,v=.int z:=by
    rw [List.getElem?_map] at hi
    cases e:zs[i]? with
    | none=>rw [e] at hi;cases hi
    | some z=>rw [e] at hi;exact ⟨z,(Option.some.inj hi).symm⟩
   exact ⟨_,rfl,.int z,rfl,.int z,kc _ Hc (aj.refl _) rfl⟩
  ·intro D ys Hc sc uI hP eD
   refine ⟨D,List.replicate ys.length true,rfl,.of (by rw [eD];exact congrArg _ (congrArg _ (tw hP))),?_⟩
   rw [tD]
   refine ⟨true,rfl,dN ?_⟩
   dsimp only [fj]
   have jW:=sc _ _ ea
   refine ⟨_,rfl,a,zs,rfl,jW,jV,fun ws D2 p o n2=>?_⟩
   refine ⟨_,rfl,(n:Int),rfl,fun p1 uK=>⟨p1,n,rfl,ar,by omega,fun l nl=>?_⟩⟩
   have d1:D2≠p1:=fun z=>by rw [←z,ar] at uK;cases uK
   have d2:D2≠l:=fun z=>by rw [←z,aA d1,ar] at nl;cases nl
   refine ⟨D2,l,ws,(List.range n).map iN,rfl,rfl,.of ?_,.of ?_,?_⟩
   ·rw [aA d2,aA d1,ar]
   ·rw [ar]
    unfold bW
    rw [List.map_map]
    rfl
   ·rw [FH p o]
    exact k _ (pZ (pZ (pZ sc n2) uK) nl)
theorem Ho:bQ ["order","n"] ["order","n"] (bg qm):=⟨rfl,rfl,rfl,by decide +kernel,rfl,by decide +kernel,by decide +kernel⟩
theorem Hq(T:Txt K mg t):bx P w K mg base (fY P w) 3 t.jz t.kY ["order","n"] (FJ t.gQ):=by
 have S:=Ho
 have Hr:=Hm (P:=P) (w:=w) (base:=base) T
 refine T.lQ.sS S (fun vs H Q E h=>?_) (fun aJ A outer s H vs Q E hr h L=>?_)
 ·obtain ⟨a,zs,n,rfl,_⟩:=h
  rfl
 ·obtain ⟨a,zs,n,rfl,ea,jV,n1,kE,k⟩:=h
  refine ⟨_,(@aB _ _ _ (@cf _ _ _ _ _ _ _ _ (@j6 _ _ _ _ (iT (a_ Hr (hr.mono (by decide)) rfl T.y7 T.lO.kp T.y6 .nil bA (@ae _ _ _ _ _ (by rfl) (pv 0) (@ae _ _ _ _ _ (by rfl) (pv 1) ao))))) (@aB _ _ _ (DE L rfl PySem.F.excBase_ValueError T.zS rfl T.zN (@ae _ _ _ _ _ (by rfl) Bv ao))) cw)),?_⟩
  refine ⟨_,rfl,_,rfl,a,zs,n,rfl,ea,jV,n1,fun H1 s1=>⟨_,rfl,cp (fun hb=>?_) (fun hb=>?_)⟩⟩
  ·exact ⟨by show 1≤sizeLine;decide,kE (by simpa using hb) _ s1⟩
  ·exact k (by simpa using hb) _ s1
theorem Hs:bQ ["order","turns","turn","place"] ["order"] (bg qo):=⟨rfl,rfl,rfl,by decide +kernel,rfl,by decide +kernel,by decide +kernel⟩
theorem Ht(T:Txt K mg t):bx P w K mg base bT 1 t.jA t.kZ ["order"] FL:=by
 have S:=Hs
 refine T.lR.ok S (fun vs H Q E h=>?_) (fun aJ A outer s H vs Q E hr h=>?_)
 ·obtain ⟨a,n,o,rfl,_⟩:=h
  rfl
 ·obtain ⟨a,n,o,rfl,⟨ea,ho⟩,n1,kk⟩:=h
  have lo:=gK ho
  have lm:(o.map fun k:Nat=>V.int (k:Int)).length=n:=by rw [List.length_map,lo]
  refine ⟨_,(@ax _ _ _ _ _ (@ba _ _ 1 _ _ _ _ (by rfl) (by first | exact .inl rfl | exact .inr rfl | assumption) S.nd rfl (Or.inl rfl) (@bw _ _ _ _ _ _ _ _ De (@cK _ _ _ _ (@ae _ _ _ _ _ (by rfl) av ao)) (bR i8 rfl T.iE boot_len (@ae _ _ _ _ _ (by rfl) (pv 0) ao))))
   (@ax _ _ _ _ _ (cO PassesOwn.never rfl (xQ rfl T.uF (@ae _ _ _ _ _ (by rfl) (pv 0) ao)) (iW rfl (dI (bS (i:=2) S.nd rfl (Or.inl rfl)) (dI (bS (i:=3) S.nd rfl (Or.inl rfl)) iV)))
    (@aB _ _ _ (@j9 _ _ _ _ _ _ (pv 2) (j8 (pv 1) (pv 3) set_list) (by rfl) (by rfl) (by rfl))))
   (@aB _ _ _ (@bD _ _ _ _ (pv 1))))),?_⟩
  refine ⟨by show 1≤sizeLine;decide,fun l nl=>?_⟩
  have al:a≠l:=fun z=>by rw [z,nl] at ea;cases ea
  refine ⟨_,rfl,a,_,rfl,.inl (.of (by rw [aA al];exact ea)),l,_,_,rfl,rfl,ar,by omega,by rw [lm];omega,?_,fun c nc=>?_⟩
  ·rw [lm,Int.toNat_natCast]
   show 1*n≤sizeLine
   rw [sizeLine_eq];omega
  rw [lm,Int.toNat_natCast,FP n o]
  have zV:H c=none:=none_of (aU nl) nc
  have s0:aj H (upd (upd H l (.lst [.int 0])) c (.lst ((List.range n).map fun p=>V.int (e_ o 0 p)))):=(aU nl).trans (aU nc)
  have e0:upd (upd H l (.lst [.int 0])) c (.lst ((List.range n).map fun p=>V.int (e_ o 0 p))) c=_:=ar
  generalize upd (upd H l (.lst [.int 0])) c (.lst ((List.range n).map fun p=>V.int (e_ o 0 p)))=H0 at s0 e0 ⊢
  dsimp only [aT]
  refine bU ⟨_,rfl,a,rfl,⟨_,.of (s0 _ _ ea)⟩,?_⟩
  refine xR (K:=K) (l:=a) (xs:=o.map fun k:Nat=>V.int (k:Int)) (fun i σ Hc=>aj H Hc∧∃(v2 v3:Option V),σ=[some (.ref a),some (.ref c),v2,v3]∧Hc c=some (.lst ((List.range n).map fun p=>V.int (e_ o i p))))
   ⟨s0,_,_,rfl,e0⟩ (fun i σ Hc ⟨z,_⟩=>.of (z _ _ ea)) ?_ ?_
  ·rintro i x σ Hc Tt hx ⟨sc,v2,v3,rfl,ec⟩ nT
   have hi:i<o.length:=by
    have:=(List.getElem?_eq_some_iff.mp hx).1
    simpa using this
   have ex:x=.int ((o[i]:Nat):Int):=by
    rw [List.getElem?_map] at hx
    simp [hi] at hx
    exact hx.symm
   subst ex
   have hp:o[i]<n:=(d5 ho).mp (List.getElem_mem hi)
   have sT:aj Hc (upd Hc Tt (.tup [.int (i:Int),.int ((o[i]:Nat):Int)])):=aU nT
   have eT:upd Hc Tt (.tup [.int (i:Int),.int ((o[i]:Nat):Int)]) Tt=_:=ar
   generalize upd Hc Tt (.tup [.int (i:Int),.int ((o[i]:Nat):Int)])=H1 at sT eT ⊢
   refine ⟨Tt,_,rfl,.of eT,rfl,_,_,rfl,_,_,rfl,rfl,?_⟩
   refine ⟨_,rfl,_,rfl,_,rfl,c,_,_,o[i],rfl,rfl,sT _ _ ec,by rw [List.length_map,List.length_range];exact yA hp,?_⟩
   exact ⟨cV (sc.trans sT) zV,_,_,rfl,by rw [ar,FO ho hi]⟩
  ·rintro σ Hc ⟨sc,v2,v3,rfl,ec⟩
   rw [List.length_map,FQ ho] at ec
   exact ⟨_,rfl,kk c Hc sc zV ec⟩
theorem Hu:bQ ["linked","places","one","other"] ["linked","places"] (bg qp):=⟨rfl,rfl,rfl,by decide +kernel,rfl,by decide +kernel,by decide +kernel⟩
theorem HA(T:Txt K mg t):bx P w K mg base bT 1 t.jB t.k4 ["linked","places"] FR:=by
 have S:=Hu
 refine T.lS.ok S (fun vs H Q E h=>?_) (fun aJ A outer s H vs Q E hr h=>?_)
 ·obtain ⟨D,pl,n,ds,un,f,ps,rfl,_⟩:=h
  rfl
 ·obtain ⟨D,pl,n,ds,un,f,ps,rfl,KL,md,HB,n9,kk⟩:=h
  have hu:=Nat.lt_of_le_of_lt (Nat.add_le_add_left (show 1≤64 by decide) _) hr.units
  have bb:∀i,i<n→un i→pl≠ds i:=fun i hi ui z=>by
   rw [z,KL.at' i hi ui] at md
   cases md
  have zW:∀{i:Nat} {x:V},(ps.map fun k:Nat=>V.int (k:Int))[i]?=some x→∃p:Nat,ps[i]?=some p∧x=.int (p:Int)∧p<n∧un p:=fun{i x} hx=>by
   rw [List.getElem?_map] at hx
   cases e:ps[i]? with
   | none=>rw [e] at hx;cases hx
   | some p=>
    rw [e] at hx
    exact ⟨p,rfl,(Option.some.inj hx).symm,HB p (List.mem_of_getElem? e)⟩
  refine ⟨_,(@aB _ _ _ (cO PassesOwn.never rfl (ee (pv 1)) (bS (i:=2) S.nd rfl (Or.inl rfl))
    (@aB _ _ _ (cO PassesOwn.never rfl (ee (pv 1)) (bS (i:=3) S.nd rfl (Or.inl rfl))
    (@aB _ _ _ (@cf _ _ _ _ _ _ _ _ (@b7 _ _ _ _ _ _ _ _ oA (pv 2) (pv 3) (bK _)) (@aB _ _ _ (pW hu (@aQ _ _ _ _ _ _ _ bL (pv 0) (pv 2) (fun _ _=>rfl)) (pv 3) eQ rfl)) cw)))))),?_⟩
  refine ⟨_,rfl,pl,rfl,⟨_,.of md⟩,?_⟩
  refine ke (K:=K) (a:=pl) (xs:=ps.map fun k:Nat=>V.int (k:Int)) (fun i σ Hc=>∃(g:Nat→List Nat) (v2 v3:Option V),σ=[some (.ref D),some (.ref pl),v2,v3]∧iu n ds un H Hc∧b6 Hc D n ds un g∧dj n f ps i 0 g) ⟨f,_,_,rfl,.refl,KL,dj.start n f ps⟩ (fun i σ Hc _ ⟨_,_,_,_,oc,_⟩=>.of (oc _ _ md bb)) ?_ ?_
  ·rintro i x σ Hc hx ⟨g,v2,v3,rfl,oc,Kc,la⟩
   obtain ⟨p,hp,rfl,pn,up⟩:=zW hx
   refine ⟨_,rfl,pl,rfl,⟨_,.of (oc _ _ md bb)⟩,?_⟩
   refine ke (K:=K) (a:=pl) (xs:=ps.map fun k:Nat=>V.int (k:Int)) (fun j σ Hd=>∃(g:Nat→List Nat) (v3:Option V),σ=[some (.ref D),some (.ref pl),some (.int (p:Int)),v3]∧iu n ds un H Hd∧b6 Hd D n ds un g∧dj n f ps i j g) ⟨g,_,rfl,oc,Kc,la⟩ (fun i σ Hc _ ⟨_,_,_,oc,_⟩=>.of (oc _ _ md bb)) ?_ ?_
   ·rintro j y σ Hd hy ⟨g,v3,rfl,od,Kd,la⟩
    obtain ⟨q,hq,rfl,qn,uq⟩:=zW hy
    refine ⟨_,rfl,_,rfl,rfl,_,rfl,cp (fun hb=>?_) (fun hb=>?_)⟩
    ·have ne:p≠q:=fun z=>by
      subst z
      rw [xA,decide_eq_true rfl] at hb
      cases hb
     obtain ⟨q1,K1⟩:=Kd.put pn qn up n9
     exact ⟨_,rfl,_,rfl,D,_,_,_,rfl,rfl,.of Kd.lst,Kd.ix pn,_,rfl,_,_,rfl,q1,_,_,rfl,od.put pn up,K1,la.put hp hq ne⟩
    ·have e:p=q:=by
      by_cases z:(p:Int)=(q:Int)
      ·omega
      ·exact absurd (by rw [xA,decide_eq_false z];rfl) hb
     subst e
     exact ⟨_,_,rfl,od,Kd,la.same hp hq⟩
   ·rintro σ Hd ⟨g,v3,rfl,od,Kd,la⟩
    rw [List.length_map] at la
    exact ⟨g,_,_,rfl,od,Kd,la.row⟩
  ·rintro σ Hc ⟨g,v2,v3,rfl,oc,Kc,la⟩
   rw [List.length_map] at la
   exact kk _ g oc Kc la.done
theorem HC:bQ ["shape","order","linked","turns","told","place"] ["shape","order"] (bg qq):=⟨rfl,rfl,rfl,by decide +kernel,rfl,by decide +kernel,by decide +kernel⟩
theorem zX(T:Txt K mg t):bx P w K mg base (fY P w) 4 t.jC t.k6 ["shape","order"] (Gi t.gQ):=by
 have S:=HC
 have HD:=Hq (P:=P) (w:=w) (base:=base) T
 have HE:=Hk (P:=P) (w:=w) (base:=base) T
 have HF:=Ht (P:=P) (w:=w) (base:=base) T
 have HG:=HA (P:=P) (w:=w) (base:=base) T
 refine T.jR.sS S (fun vs H Q E h=>?_) (fun aJ A outer s H vs Q E hr h L=>?_)
 ·obtain ⟨tp,a,n,L,zs,rfl,_⟩:=h
  rfl
 ·obtain ⟨tp,a,n,Lk,zs,rfl,hS,hL,ns,zU,ea,jV,kE,kk⟩:=h
  obtain ⟨lt,us,bX,elt,ko⟩:=id hS
  refine ⟨_,(@ax _ _ _ _ _ (dt (a_ HD (hr.mono (by decide)) rfl T.y9 T.lQ.kp T.y8 .nil (xp L) (@ae _ _ _ _ _ (by rfl) (pv 1) (@ae _ _ _ _ _ (by rfl) (@aQ _ _ _ _ _ _ _ cP (pv 0) av (fun _ _=>rfl)) ao))))
   (dr.mE (@ax _ _ _ _ _ (@ba _ _ 2 _ _ _ _ (by rfl) (by first | exact .inl rfl | exact .inr rfl | assumption) S.nd rfl (Or.inl rfl) (a_ HE (hr.mono (by decide)) rfl T.y4 T.lN.kp T.y3 .nil bA (@ae _ _ _ _ _ (by rfl) (pv 0) ao)))
   (@ax _ _ _ _ _ (@ba _ _ 3 _ _ _ _ (by rfl) (by first | exact .inl rfl | exact .inr rfl | assumption) S.nd rfl (Or.inr rfl) (a_ HF (hr.mono (by decide)) rfl T.zc T.lR.kp T.y_ .nil bA (@ae _ _ _ _ _ (by rfl) (pv 1) ao)))
   (@ax _ _ _ _ _ (o7 (i0:=4) (N:=["place"]) (ρ:=(fun σ=>[])) ⟨rfl,rfl,by decide +kernel,by decide +kernel,(List.forall_mem_nil _),eS (by rfl),rfl,by decide +kernel,rfl,(fun σ j v h=>match j,h with | j,h=>by cases h),(fun _ _=>rfl)⟩ rfl S.nd rfl (Or.inl rfl) (ee (pv 1)) (fun s₃ H₃ fp=>.nil) (fun s₃ H₃ fp=>(@cK _ _ _ _ ao)))
   (@ax _ _ _ _ _ (cO PassesOwn.never rfl (ee (pv 1)) (bS (i:=5) S.nd rfl (Or.inr rfl))
    (@ax _ _ _ _ _ (@j9 _ _ _ _ _ _ (bR uj rfl T.jU PyProof.Rows.boot_sorted (@ae _ _ _ _ _ (by rfl) (jb (N:=["other","turns","place"]) (ρ:=(fun σ=>[σ[3]?.join,σ[5]?.join])) ⟨rfl,rfl,by decide +kernel,by decide +kernel,(List.forall_mem_cons.mpr ⟨rfl,(List.forall_mem_cons.mpr ⟨rfl,(List.forall_mem_nil _)⟩)⟩),eS (by rfl),rfl,by decide +kernel,rfl,(fun σ j v h=>match j,h with | 0,h=>⟨3,_,rfl,rfl,join_some h,Or.inr (Or.inl rfl),.inl rfl,.inl rfl⟩ | 1,h=>⟨5,_,rfl,rfl,join_some h,Or.inr (Or.inl rfl),.inl rfl,.inl rfl⟩ | j+2,h=>by cases h),(fun _ _=>rfl)⟩ rfl (Fy (@aQ _ _ _ _ _ _ _ bL (pv 2) (pv 5) (fun _ _=>rfl))) (fun s₃ H₃ fp=>(.one (@b7 _ _ _ _ _ _ _ _ oC (@aQ _ _ _ _ _ _ _ (xM (K:=K)) (pv 1) (pv 0) (fun _ _=>rfl)) (@aQ _ _ _ _ _ _ _ (xM (K:=K)) (pv 1) (pv 2) (fun _ _=>rfl)) (bK _)))) (fun s₃ H₃ fp=>(pv 0))) ao)) (j8 (pv 4) (pv 5) set_list) (by rfl) (by rfl) (by rfl))
   (@aB _ _ _ (dt (a_ HG (hr.mono (by decide)) rfl T.zi T.lS.kp T.zh .nil bA (@ae _ _ _ _ _ (by rfl) (pv 2) (@ae _ _ _ _ _ (by rfl) (@aQ _ _ _ _ _ _ _ bL (pv 4) (pv 5) (fun _ _=>rfl)) ao)))))))
   (@aB _ _ _ (@bD _ _ _ _ (pv 4))))))))),?_⟩
  refine ⟨_,rfl,_,rfl,tp,_,_,_,rfl,rfl,.of bX,rfl,a,zs,n,rfl,ea,jV,by omega,fun no H1 s1=>kE no H1 s1,fun yes H1 s1=>?_⟩
  obtain ⟨o,rfl,ho⟩:=FZ yes
  have kk:=kk o rfl ho
  have lo:=gK ho
  have nd:=nE ho
  have nK:H a=some (.lst (o.map fun k:Nat=>V.int (k:Int))):=by rw [ea,List.map_map];rfl
  have lm:(o.map fun k:Nat=>V.int (k:Int)).length=n:=by rw [List.length_map,lo]
  refine ⟨_,rfl,tp,n,Lk,rfl,⟨lt,us,s1 _ _ bX,s1 _ _ elt,ko.mono s1⟩,hL,by omega,fun H2 D ds f s2 nD HH KL nb=>?_⟩
  have Mx:=none_of s1 nD
  have zY:∀i,i<n→H (ds i)=none:=fun i hi=>none_of s1 (HH i hi)
  have gR:=s1.trans s2
  dsimp only [aT]
  refine ⟨_,rfl,a,n,o,rfl,⟨gR _ _ nK,ho⟩,by omega,fun tr H3 s3 HI e3=>?_⟩
  have gq:=gR.trans s3
  have Mz:=none_of gR HI
  have K3:=KL.mono s3
  dsimp only [aT]
  refine bU (kC (m7 (xs:=o.map fun k:Nat=>V.int (k:Int)) (n:=n) lm (fun R h=>⟨_,rfl,a,rfl,⟨_,.of (gq _ _ nK)⟩,h _ _ (aj.refl _) (kB (.of (gq _ _ nK)))⟩) (b5 (by omega)) (fun _ i y Hx=>H3 y=none) (fun _ _ _ _ _ _ h _ _ _=>h) ?_ ?_))
  ·intro D' i x hx Hc R sc _ kc
   refine ⟨by show 0≤sizeLine;exact Nat.zero_le _,fun p np=>kc p _ (aU np) np ⟨_,ar⟩ (none_of sc np)⟩
  ·intro c HJ H4 nc s4 _ hA ec
   have qK:=gq.trans s4
   have zZ:=none_of gq nc
   have K4:=K3.mono s4
   have e4:=s4 _ _ e3
   have cD:c≠D:=fun z=>by rw [z,K3.lst] at nc;cases nc
   have HK:c≠tr:=fun z=>by rw [z,e3] at nc;cases nc
   dsimp only [aT]
   refine bU ⟨_,rfl,a,rfl,⟨_,.of (qK _ _ nK)⟩,?_⟩
   refine ke (K:=K) (a:=a) (xs:=o.map fun k:Nat=>V.int (k:Int)) (fun k σ Hc=>∃(rs:Nat→Addr) (f g:Nat→List Nat) (v5:Option V),σ=[some (.ref tp),some (.ref a),some (.ref D),some (.ref tr),some (.ref c),v5]∧aj H Hc∧b6 Hc D n ds (fun p=>k≤o.idxOf p) f∧Hc tr=some (.lst ((List.range n).map fun p=>V.int (o.idxOf p:Int)))∧Hc c=some (.lst ((List.range n).map fun p=>V.ref (rs p))) ∧
     (∀p,p<n→o.idxOf p<k→H (rs p)=none∧rs p≠c∧Hc (rs p)=some (.lst ((g p).map fun k:Nat=>V.int (k:Int)))∧iw n o p (g p)∧jn n Lk o p (g p))∧jm n Lk o k f) ⟨HJ,f,fun _=>[],_,rfl,qK,K4.less (fun _ _ _=>trivial),e4,ec,fun p _ h=>absurd h (Nat.not_lt_zero _),jm.start nb ns⟩ (fun k σ Hc _ ⟨_,_,_,_,_,sc,_⟩=>.of (sc _ _ nK)) ?_ ?_
   ·rintro k x σ Hc hx ⟨rs,f,g,v5,rfl,sc,Kc,uL,qL,done,uN⟩
    have hk:k<o.length:=by
     have:=(List.getElem?_eq_some_iff.mp hx).1
     simpa using this
    have ex:x=.int ((o[k]:Nat):Int):=by
     rw [List.getElem?_map] at hx
     simp [hk] at hx
     exact hx.symm
    subst ex
    have hp:o[k]<n:=(d5 ho).mp (List.getElem_mem hk)
    have ip:o.idxOf o[k]=k:=nF nd hk
    generalize o[k]=p at hp ip ⊢
    dsimp only [aT]
    have z6:=Kc.at' p hp (by omega)
    refine bU (kC (o_ (F5 ⟨_,rfl,_,rfl,D,_,_,_,rfl,rfl,.of Kc.lst,Kc.ix hp,ds p,dk (f p),rfl,.inl ⟨z6,fun ob=>?_⟩⟩)))
    have Kf:b6 (upd Hc (ds p) (.bj ob (.dK (dk (f p))))) D n ds (fun q=>k+1≤o.idxOf q) f:=(Kc.less (fun i hi (ui:k+1≤o.idxOf i)=>show k≤o.idxOf i by omega)).upd (Kc.ne p hp) (fun i hi (ui:k+1≤o.idxOf i) z=>by
     have:=Kc.inj i p hi hp z
     subst this
     omega)
    have uO:∀{b:Addr} {xs:List V},Hc b=some (.lst xs)→b≠ds p:=fun{b xs} e z=>by rw [z,z6] at e;cases e
    have qM:upd Hc (ds p) (.bj ob (.dK (dk (f p)))) tr=_:=(aA (uO uL)).trans uL
    have qN:upd Hc (ds p) (.bj ob (.dK (dk (f p)))) c=_:=(aA (uO qL)).trans qL
    have sf:aj H (upd Hc (ds p) (.bj ob (.dK (dk (f p))))):=fun b u e=>by
     rw [aA (fun z=>by rw [z,zY p hp] at e;cases e)]
     exact sc _ _ e
    have uP:∀q,q<n→o.idxOf q<k→H (rs q)=none∧rs q≠c∧upd Hc (ds p) (.bj ob (.dK (dk (f p)))) (rs q)=some (.lst ((g q).map fun k:Nat=>V.int (k:Int)))∧iw n o q (g q)∧jn n Lk o q (g q):=fun q hq qO=>by
     obtain ⟨d1,d2,d3,d4⟩:=done q hq qO
     exact ⟨d1,d2,(aA (uO d3)).trans d3,d4⟩
    have z8:upd Hc (ds p) (.bj ob (.dK (dk (f p)))) (ds p)=some (.bj ob (.dK (dk (f p)))):=ar
    generalize upd Hc (ds p) (.bj ob (.dK (dk (f p))))=Hf at Kf qM qN sf uP z8 ⊢
    have nM:=Kc.pl p hp
    refine FX z8 (fun q=>decide ((o.idxOf p:Int)<(o.idxOf q:Int))) (Nat.lt_of_le_of_lt nM.len (b5 (by omega))) ?_ ?_ ?_
    ·intro q hq Hx R sx hR
     have qn:=nM.2 q hq
     exact ⟨_,rfl,_,rfl,tr,_,_,_,rfl,rfl,.of (sx _ _ qM),gN qn,_,rfl,_,rfl,tr,_,_,_,rfl,rfl,.of (sx _ _ qM),gN hp,_,_,rfl,rfl,_,rfl,hR⟩
    ·intro q hq Hx R hR
     exact ⟨_,rfl,hR⟩
    ·intro D1 H1 MA z9 z_
     rw [F4] at z_
     have fl:((f p).filter fun q=>decide (o.idxOf p<o.idxOf q)).length≤n:=Nat.le_trans (List.length_filter_le _ _) nM.len
     refine ⟨D1,((f p).filter fun q=>decide (o.idxOf p<o.idxOf q)).map iN,rfl,by rw [z_,List.map_map];rfl,by rw [List.length_map];omega,fun ws D2 pw so nN=>?_⟩
     obtain ⟨ms,rfl,pm⟩:=um pw
     have qP:=FY nM pm so
     have hm:∀q,q∈ms↔q∈f p∧k<o.idxOf q:=fun q=>by
      rw [pm.mem_iff,List.mem_filter,decide_eq_true_iff,ip]
     have HL:jn n Lk o p ms:=fun q=>by
      rw [hm q,ip]
      constructor
      ·rintro ⟨h1,h2⟩
       have qn:=nM.2 q h1
       exact ⟨qn,h2,((uN p q hp qn (by omega) (by omega)).mp h1).2⟩
      ·rintro ⟨h1,h2,h3⟩
       exact ⟨(uN p q hp h1 (by omega) (by omega)).mpr ⟨fun e=>by subst e;omega,h3⟩,h2⟩
     have jX:aj Hf (upd H1 D2 (.lst ((ms.map iN).map V.int))):=pZ z9 nN
     have Aa:upd H1 D2 (.lst ((ms.map iN).map V.int)) D2=some (.lst (ms.map fun k:Nat=>V.int (k:Int))):=by rw [ar,List.map_map];rfl
     have uQ:Hf D2=none:=none_of z9 nN
     have HM:H D2=none:=none_of sf uQ
     generalize upd H1 D2 (.lst ((ms.map iN).map V.int))=Hg at jX Aa ⊢
     have Ab:D2≠c:=fun z=>by rw [z,qN] at uQ;cases uQ
     refine ⟨_,rfl,_,rfl,c,_,_,p,rfl,rfl,jX _ _ qN,by rw [List.length_map,List.length_range];exact yA hp,?_⟩
     rw [F0]
     have Kg:=Kf.mono jX
     have Kh:b6 (upd Hg c (.lst ((List.range n).map fun q=>V.ref (fb rs p D2 q)))) D n ds (fun q=>k+1≤o.idxOf q) f:=Kg.upd cD (fun i hi ui z=>by
      have:=Kg.at' i hi ui
      rw [z,jX _ _ qN] at this
      cases this)
     have sh:aj H (upd Hg c (.lst ((List.range n).map fun q=>V.ref (fb rs p D2 q)))):=cV (sf.trans jX) zZ
     have uR:upd Hg c (.lst ((List.range n).map fun q=>V.ref (fb rs p D2 q))) c=_:=ar
     have Ac:upd Hg c (.lst ((List.range n).map fun q=>V.ref (fb rs p D2 q))) tr=_:=(aA (Ne.symm HK)).trans (jX _ _ qM)
     have uS:upd Hg c (.lst ((List.range n).map fun q=>V.ref (fb rs p D2 q))) D2=_:=(aA Ab).trans Aa
     have Ad:∀q,q<n→o.idxOf q<k→upd Hg c (.lst ((List.range n).map fun q=>V.ref (fb rs p D2 q))) (rs q)=some (.lst ((g q).map fun k:Nat=>V.int (k:Int))):=fun q hq qO=>by
      obtain ⟨d1,d2,d3,d4⟩:=uP q hq qO
      exact (aA d2).trans (jX _ _ d3)
     generalize upd Hg c (.lst ((List.range n).map fun q=>V.ref (fb rs p D2 q)))=Hh at Kh sh uR Ac uS Ad ⊢
     refine ⟨_,rfl,_,rfl,_,rfl,c,_,_,_,rfl,rfl,.of uR,gN hp,?_⟩
     rw [yC]
     refine ⟨D,D2,n,ds,_,f,ms,rfl,Kh,uS,fun q hq=>⟨qP.lt q hq,by have:=qP.la q hq;omega⟩,by omega,fun H5 g5 off K5 con=>?_⟩
     have bb:∀{b:Addr} {xs:List V},Hh b=some (.lst xs)→H5 b=some (.lst xs):=fun{b xs} e=>off _ _ e fun i hi ui z=>by
      rw [z,Kh.at' i hi ui] at e
      cases e
     refine ⟨fb rs p D2,g5,b4 g p ms,_,rfl,fun b u e=>off _ _ (sh _ _ e) (fun i hi _ z=>by rw [z,zY i hi] at e;cases e),K5,bb Ac,bb uR,fun q hq qO=>?_,uN.step ho hp ip hm qP.lt con⟩
     by_cases e:q=p
     ·subst e
      rw [yC,F2]
      exact ⟨HM,Ab,bb uS,qP,HL⟩
     ·rw [F1 e,F3 e]
      have ne:=iy ho hq hp e
      have Ae:o.idxOf q<k:=by omega
      obtain ⟨d1,d2,d3,d4⟩:=uP q hq Ae
      exact ⟨d1,d2,bb (Ad q hq Ae),d4⟩
   ·rintro σ Hc ⟨rs,f,g,v5,rfl,sc,Kc,uL,qL,done,_⟩
    rw [lm] at done
    have lt:∀p,p<n→o.idxOf p<n:=fun p hp=>by
     have:=(gM ((d5 ho).mpr hp)).1
     omega
    exact ⟨_,rfl,kk Hc c rs g sc zZ (fun p hp=>(done p hp (lt p hp)).1) ⟨qL,fun p hp=>(done p hp (lt p hp)).2.2.1⟩ fun p hp=>(done p hp (lt p hp)).2.2.2⟩
theorem HN:bQ ["shape","order","links","place","others"] ["shape","order"] (bg qr):=⟨rfl,rfl,rfl,by decide +kernel,rfl,by decide +kernel,by decide +kernel⟩
theorem HP(T:Txt K mg t):bx P w K mg base (fY P w) 5 t.jD t.k8 ["shape","order"] (Gk t.gQ):=by
 have S:=HN
 have uT:=zX (P:=P) (w:=w) (base:=base) T
 refine T.lT.sS S (fun vs H Q E h=>?_) (fun aJ A outer s H vs Q E hr h L=>?_)
 ·obtain ⟨tp,a,n,L,zs,rfl,_⟩:=h
  rfl
 ·obtain ⟨tp,a,n,Lk,zs,rfl,hS,hL,ns,n9,ea,jV,kE,kk⟩:=h
  obtain ⟨lt,us,bX,elt,ko⟩:=id hS
  refine ⟨_,(@ax _ _ _ _ _ (@ba _ _ 2 _ _ _ _ (by rfl) (by first | exact .inl rfl | exact .inr rfl | assumption) S.nd rfl (Or.inl rfl) (@cK _ _ _ _ ao))
   (@ax _ _ _ _ _ (cO (F7 L) rfl (xQ rfl T.uF (@ae _ _ _ _ _ (by rfl) (a_ uT (hr.mono (by decide)) rfl T.uC T.jR.kp T.uB .nil (xp L) (@ae _ _ _ _ _ (by rfl) (pv 0) (@ae _ _ _ _ _ (by rfl) (pv 1) ao))) ao)) (iW rfl (dI (bS (i:=3) S.nd rfl (Or.inr rfl)) (dI (bS (i:=4) S.nd rfl (Or.inl rfl)) iV)))
    (@aB _ _ _ (dt (c_ PySem.F.plainAttrs_list PySem.F.slot_list_extend PySem.F.type_list_extend xi (pv 2) (@ae _ _ _ _ _ (by rfl) (jb (N:=["other","place"]) (ρ:=(fun σ=>[σ[3]?.join])) ⟨rfl,rfl,by decide +kernel,by decide +kernel,(List.forall_mem_cons.mpr ⟨rfl,(List.forall_mem_nil _)⟩),eS (by rfl),rfl,by decide +kernel,rfl,(fun σ j v h=>match j,h with | 0,h=>⟨3,_,rfl,rfl,join_some h,Or.inr (Or.inl rfl),.inl rfl,.inl rfl⟩ | j+1,h=>by cases h),(fun _ _=>rfl)⟩ rfl (ee (pv 4)) (fun s₃ H₃ fp=>.nil) (fun s₃ H₃ fp=>(@g_ _ _ _ _ _ (@ae _ _ _ _ _ (by rfl) (bR (rW rfl) rfl T.qI boot_min (@ae _ _ _ _ _ (by rfl) (pv 1) (@ae _ _ _ _ _ (by rfl) (pv 0) ao))) (@ae _ _ _ _ _ (by rfl) (bR (rV rfl) rfl T.qJ boot_max (@ae _ _ _ _ _ (by rfl) (pv 1) (@ae _ _ _ _ _ (by rfl) (pv 0) ao))) ao))))) ao)))))
   (@aB _ _ _ (@bD _ _ _ _ (@g_ _ _ _ _ _ (@ae _ _ _ _ _ (by rfl) (@aQ _ _ _ _ _ _ _ cP (pv 0) av (fun _ _=>rfl)) (@ae _ _ _ _ _ (by rfl) (fk sF rfl T.jT boot_tuple (@ae _ _ _ _ _ (by rfl) (bR tY rfl T.jU PyProof.Rows.boot_sorted (@ae _ _ _ _ _ (by rfl) (pv 2) ao)) ao)) ao))))))),?_⟩
  refine ⟨Nat.zero_le _,fun l nl=>?_⟩
  have s0:aj H (upd H l (.lst [])):=aU nl
  have el:upd H l (.lst []) l=some (.lst []):=ar
  generalize upd H l (.lst [])=H0 at s0 el ⊢
  dsimp only [aT]
  refine bU ⟨_,rfl,_,rfl,tp,a,n,Lk,zs,rfl,hS.mono s0,hL,ns,by omega,s0 _ _ ea,jV,fun no H1 s1=>kE no H1 (s0.trans s1),fun o ez ho H1 D rs g s1 nD qQ la ok=>?_⟩
  have kk:=kk o ez ho
  have eZ:∀p,p<n→jn n Lk o p (g p):=fun p hp=>(ok p hp).2
  have ok:∀p,p<n→iw n o p (g p):=fun p hp=>(ok p hp).1
  have b3:=Gj ho n9 ok
  have iH:∀p,p<n→rs p≠l:=fun p hp z=>by
   have:=qQ p hp
   rw [z,el] at this
   cases this
  have HQ:D≠l:=fun z=>by rw [z,el] at nD;cases nD
  have Af:((List.range n).map fun p=>V.ref (rs p)).length=n:=by rw [List.length_map,List.length_range]
  refine ⟨D,rfl,⟨_,.of la.1⟩,?_⟩
  refine xR (K:=K) (l:=D) (xs:=(List.range n).map fun p=>V.ref (rs p)) (fun k σ Hc=>∃(xs:List V) (M:List (Int×Int)) (v3 v4:Option V),σ=[some (.ref tp),some (.ref a),some (.ref l),v3,v4]∧aj H Hc∧uo Hc D n rs g∧Hc l=some (.lst xs)∧p_ Hc g k xs M)
   ⟨[],[],_,_,rfl,s0.trans s1,la,s1 _ _ el,⟨⟨rfl,fun k v p h=>by cases h⟩,rfl,fun z=>⟨(fun h=>by cases h),fun⟨p,q,h,_⟩=>absurd h (Nat.not_lt_zero _)⟩,List.nodup_nil⟩⟩ (fun k σ Hc ⟨_,_,_,_,_,_,z,_⟩=>.of z.1) ?_ ?_
  ·rintro k x σ Hc Tt hx ⟨xs,M,v3,v4,rfl,sc,lc,gr,so⟩ nT
   have hk:k<n:=by
    have:=(List.getElem?_eq_some_iff.mp hx).1
    rw [Af] at this
    exact this
   have ex:x=.ref (rs k):=by
    rw [List.getElem?_map,List.getElem?_range hk] at hx
    exact (Option.some.inj hx).symm
   subst ex
   have sT:aj Hc (upd Hc Tt (.tup [.int (k:Int),.ref (rs k)])):=aU nT
   have eT:upd Hc Tt (.tup [.int (k:Int),.ref (rs k)]) Tt=_:=ar
   generalize upd Hc Tt (.tup [.int (k:Int),.ref (rs k)])=H2 at sT eT ⊢
   have ek:=ok k hk
   have lg:(g k).length≤30:=Nat.le_trans (ur ho ek) (by omega)
   have e2:=sT _ _ (lc.2 k hk)
   refine ⟨Tt,_,rfl,.of eT,rfl,_,_,rfl,_,_,rfl,rfl,?_⟩
   refine ⟨_,rfl,.inl ⟨rfl,_,.of (sT _ _ gr)⟩,xK (xs:=(g k).map fun k:Nat=>V.int (k:Int)) (fun R h=>⟨_,rfl,rs k,rfl,⟨_,.of e2⟩,h _ _ (aj.refl _) (kB (.of e2))⟩) (by rw [List.length_map];exact b5 (by omega)) (fun _ i y Hz=>∃(b:Addr) (q:Nat),y=.ref b∧(g k)[i]?=some q∧Hz b=some (.tup [.int (bO k q).1,.int (bO k q).2])) (fun Dd i y Ha Hb ys ⟨b,x,h1,h2,h3⟩ e f=>⟨b,x,h1,h2,f b _ (fun z=>by rw [z,e] at h3;cases h3) h3⟩) ?_ ?_⟩
   ·intro Dd i x hx Hz R sz _ kz
    obtain ⟨q,hq,rfl⟩:∃q:Nat,(g k)[i]?=some q∧x=.int (q:Int):=by
     rw [List.getElem?_map] at hx
     cases e:(g k)[i]? with
     | none=>rw [e] at hx;cases hx
     | some q=>rw [e] at hx;exact ⟨q,rfl,(Option.some.inj hx).symm⟩
    refine ⟨_,rfl,_,rfl,_,_,rfl,_,rfl,_,rfl,_,_,rfl,by show 2≤sizeLine;decide,fun tp fK=>?_⟩
    exact kz _ _ (aU fK) ⟨tp,q,rfl,hq,ar⟩
   ·intro Dd ys H3 HR s3 Ag uI uU
    rw [List.length_map] at Ag
    have lM:M.length≤435:=by
     rw [so.len]
     exact Nat.le_trans (F6 (g:=fun p=>(g p).length) (Nat.le_of_lt hk)) b3
    have lx:=so.at'.1
    have uV:=s3 _ _ (sT _ _ gr)
    refine ⟨l,Dd,xs,ys,rfl,rfl,uV,uU,Nat.le_trans (show _≤900 by omega) (by decide),?_⟩
    have k9:∀b o,b≠l→H3 b=some o→upd H3 l (.lst (xs++ys)) b=some o:=fun b o nb e=>by rw [aA nb];exact e
    have me:=sc.trans (sT.trans s3)
    refine ⟨xs++ys,M++(g k).map (bO k),_,_,rfl,fun b u e=>k9 b u (fun z=>by rw [z,nl] at e;cases e) (me _ _ e),⟨k9 _ _ HQ (s3 _ _ (sT _ _ lc.1)),fun p hp=>k9 _ _ (iH p hp) (s3 _ _ (sT _ _ (lc.2 p hp)))⟩,ar,so.more (fun h=>((h.mono sT).mono s3).bb uV k9) hk ok ?_⟩
    refine aN.bb (H:=H3) ⟨by rw [Ag,List.length_map],fun i v p h1 h2=>?_⟩ uV k9
    obtain ⟨b,q,rfl,hq,e⟩:=uI i v h1
    rw [List.getElem?_map,hq] at h2
    cases h2
    exact ⟨b,rfl,e⟩
  ·rintro σ Hc ⟨xs,M,v3,v4,rfl,sc,lc,gr,so⟩
   rw [Af] at so
   have lM:M.length≤435:=by rw [so.len];exact b3
   have lx:=so.at'.1
   have bM:∀z∈M,0≤z.2∧z.2<1000:=fun z hz=>by
    obtain ⟨p,q,h1,h2,rfl⟩:=(so.mem z).mp hz
    have:=uu h1 ((ok p h1).lt q h2)
    omega
   refine ⟨_,rfl,tp,_,_,_,rfl,rfl,.of (sc _ _ bX),rfl,_,rfl,?_⟩
   dsimp only [oE]
   refine yH gr so.at' (by omega) bM fun l' ws N H3 s3 jl jj hN pN oN=>?_
   have s4:=sc.trans s3
   refine ⟨l',ws,rfl,.inl ⟨.of jj,fun lt nO=>?_⟩⟩
   have cU:aj H3 (upd H3 lt (.tup ws)):=aU nO
   have nQ:upd H3 lt (.tup ws) lt=some (.tup ws):=ar
   generalize upd H3 lt (.tup ws)=Hd at cU nQ ⊢
   refine ⟨by show 2≤sizeLine;decide,fun tq mf=>?_⟩
   have st:aj Hd (upd Hd tq (.tup [.int (n:Int),.ref lt])):=aU mf
   have s5:=s4.trans (cU.trans st)
   have bN:∀z∈N,0≤z.2∧z.2<1000:=fun z hz=>bM z (pN.mem_iff.mp hz)
   refine kk _ tq N s5 (none_of (s4.trans cU) mf) ⟨lt,ws,ar,st _ _ nQ,(hN.mono cU).mono st⟩ ⟨yK oN (pN.nodup_iff.mpr so.nd) bN,fun z=>?_⟩ (by rw [pN.length_eq];omega)
   rw [pN.mem_iff,so.mem]
   constructor
   ·rintro ⟨p,q,h1,h2,h3⟩
    obtain ⟨w1,w2,w3⟩:=(eZ p h1 q).mp h2
    exact ⟨p,q,h1,w1,w2,w3,h3⟩
   ·rintro ⟨p,q,h1,w1,w2,w3,h3⟩
    exact ⟨p,q,h1,(eZ p h1 q).mpr ⟨w1,w2,w3⟩,h3⟩
theorem HS:bQ ["_law_cell","_law_at","_law_x"] ["_law_cell","_law_at"] (bg qt):=⟨rfl,rfl,rfl,by decide +kernel,rfl,by decide +kernel,by decide +kernel⟩
theorem HU(T:Txt K mg t):bx P w K mg base bT 1 t.jE t.k_ ["_law_cell","_law_at"] D9:=by
 have S:=HS
 refine T.lW.ok S (fun vs H Q E h=>?_) (fun aJ A outer s H vs Q E hr h=>?_)
 ·obtain ⟨c,a,rfl,_⟩:=h
  rfl
 ·obtain ⟨c,a,rfl,ha,k⟩:=h
  refine ⟨_,(@ax _ _ _ _ _ (@cf _ _ _ _ _ _ _ _ (@b7 _ _ _ _ _ _ _ _ B0 (pv 0) (@bw _ _ _ _ _ _ _ _ BW av av) (bK _)) (@aB _ _ _ (@bD _ _ _ _ (pv 0))) cw)
   (@ax _ _ _ _ _ (@ba _ _ 2 _ _ _ _ (by rfl) (by first | exact .inl rfl | exact .inr rfl | assumption) S.nd rfl (Or.inl rfl) (@bw _ _ _ _ _ _ _ _ i5 (@bw _ _ _ _ _ _ _ _ fQ (@bw _ _ _ _ _ _ _ _ fQ (@bw _ _ _ _ _ _ _ _ gw (@bw _ _ _ _ _ _ _ _ i5 (pv 0) av) av) (@bw _ _ _ _ _ _ _ _ gw (pv 1) av)) av) av))
   (@ax _ _ _ _ _ (@ba _ _ 2 _ _ _ _ (by rfl) (by first | exact .inl rfl | exact .inr rfl | assumption) S.nd rfl (Or.inl rfl) (@bw _ _ _ _ _ _ _ _ i5 (@bw _ _ _ _ _ _ _ _ fQ (@bw _ _ _ _ _ _ _ _ fQ (@bw _ _ _ _ _ _ _ _ gw (pv 2) (pv 2)) (@bw _ _ _ _ _ _ _ _ gw av (pv 2))) (pv 1)) av))
   (@aB _ _ _ (@bD _ _ _ _ (@bw _ _ _ _ _ _ _ _ fQ (@bw _ _ _ _ _ _ _ _ gw (pv 2) av) (@bw _ _ _ _ _ _ _ _ i5 (@bw _ _ _ _ _ _ _ _ fQ (@bw _ _ _ _ _ _ _ _ gw (pv 2) (pv 2)) (@bw _ _ _ _ _ _ _ _ gw av (pv 1))) av))))))),?_⟩
  refine ⟨_,rfl,_,_,rfl,rfl,⟨by decide,by decide,by decide⟩,_,_,rfl,rfl,_,rfl,cp (fun h=>?_) (fun h=>?_)⟩
  ·have h:=of_decide_eq_true h
   exact ⟨_,rfl,k _ (Int.le_trans (by decide) h)⟩
  ·refine ⟨_,rfl,_,_,rfl,rfl,(by show (0:Int)<2147483647;decide),_,_,rfl,rfl,.inr ⟨by decide,by decide⟩,_,rfl,_,_,rfl,rfl,.inr ⟨by decide,by decide⟩,_,_,rfl,rfl,_,_,rfl,rfl,_,_,rfl,rfl,(by show (0:Int)<2147483629;decide),?_⟩
   have b0:=Int.emod_nonneg (c % 2147483647*48271+a*69621+11) (show (2147483629:Int)≠0 by decide)
   have b1:=Int.emod_lt_of_pos (c % 2147483647*48271+a*69621+11) (show (0:Int)<2147483629 by decide)
   generalize (c % 2147483647*48271+a*69621+11) % 2147483629=x at b0 b1 ⊢
   refine ⟨_,rfl,_,rfl,_,_,rfl,rfl,.inl ⟨by omega,by omega⟩,_,rfl,_,_,rfl,rfl,.inl ⟨by decide,by decide⟩,_,_,rfl,rfl,_,rfl,_,_,rfl,rfl,_,_,rfl,rfl,(by show (0:Int)<2147483587;decide),?_⟩
   have c0:=Int.emod_nonneg (x*x+48271*x+a) (show (2147483587:Int)≠0 by decide)
   have c1:=Int.emod_lt_of_pos (x*x+48271*x+a) (show (0:Int)<2147483587 by decide)
   generalize (x*x+48271*x+a) % 2147483587=y at c0 c1 ⊢
   refine ⟨_,rfl,_,_,rfl,rfl,.inr ⟨by decide,by decide⟩,_,rfl,_,rfl,_,_,rfl,rfl,.inl ⟨by omega,by omega⟩,_,rfl,_,_,rfl,rfl,.inl ⟨by decide,by decide⟩,_,_,rfl,rfl,_,_,rfl,rfl,(by show (0:Int)<2147483579;decide),_,_,rfl,rfl,k _ (Int.add_nonneg (Int.mul_nonneg (Int.emod_nonneg _ (by decide)) (by decide)) (Int.emod_nonneg _ (by decide)))⟩
theorem HV:bQ ["_law_pen","_law_many","_law_at","_law_cell","_law_found"] ["_law_pen","_law_many"] (bg qu):=⟨rfl,rfl,rfl,by decide +kernel,rfl,by decide +kernel,by decide +kernel⟩
theorem qR(T:Txt K mg t):bx P w K mg base bT 2 t.jF t.lb ["_law_pen","_law_many"] (D_ K):=by
 have S:=HV
 have HW:=HU (P:=P) (w:=w) (base:=base) T
 refine T.dG.ok S (fun vs H Q E h=>?_) (fun aJ A outer s H vs Q E hr h=>?_)
 ·obtain ⟨P0,a,ns,many,rfl,_⟩:=h
  rfl
 ·obtain ⟨P0,a,ns,many,rfl,⟨x,y,eP,hx,hy⟩,hS,m1,mm,k⟩:=h
  have gp:=hr.units
  refine ⟨_,(@ax _ _ _ _ _ (@cf _ _ _ _ _ _ _ _ (@b7 _ _ _ _ _ _ _ _ mI (@aQ _ _ _ _ _ _ _ bL (pv 0) av (fun _ _=>rfl)) (pv 1) (bK _)) (@ax _ _ _ _ _ (@ba _ _ 2 _ _ _ _ (by rfl) (by first | exact .inl rfl | exact .inr rfl | assumption) S.nd rfl (Or.inl rfl) (@aQ _ _ _ _ _ _ _ bL (pv 0) av (fun _ _=>rfl)))
   (@ax _ _ _ _ _ (@ba _ _ 3 _ _ _ _ (by rfl) (by first | exact .inl rfl | exact .inr rfl | assumption) S.nd rfl (Or.inl rfl) av)
   (@ax _ _ _ _ _ (@cf _ _ _ _ _ _ _ _ (@b7 _ _ _ _ _ _ _ _ mI (pv 2) (bR i8 rfl T.iE boot_len (@ae _ _ _ _ _ (by rfl) (@aQ _ _ _ _ _ _ _ bL (pv 0) av (fun _ _=>rfl)) ao)) (bK _)) (@aB _ _ _ (@ba _ _ 3 _ _ _ _ (by rfl) (by first | exact .inl rfl | exact .inr rfl | assumption) S.nd rfl (Or.inl rfl) (@aQ _ _ _ _ _ _ _ bL (@aQ _ _ _ _ _ _ _ bL (pv 0) av (fun _ _=>rfl)) (pv 2) (fun _ _=>rfl)))) (@aB _ _ _ (@cf _ _ _ _ _ _ _ _ (@b7 _ _ _ _ _ _ _ _ oC (bR i8 rfl T.iE boot_len (@ae _ _ _ _ _ (by rfl) (@aQ _ _ _ _ _ _ _ bL (pv 0) av (fun _ _=>rfl)) ao)) av (bK _)) (@aB _ _ _ (@ba _ _ 3 _ _ _ _ (by rfl) (by first | exact .inl rfl | exact .inr rfl | assumption) S.nd rfl (Or.inl rfl) (@bw _ _ _ _ _ _ _ _ fQ (@bw _ _ _ _ _ _ _ _ i5 (@aQ _ _ _ _ _ _ _ bL (@aQ _ _ _ _ _ _ _ bL (pv 0) av (fun _ _=>rfl)) (@bw _ _ _ _ _ _ _ _ i5 (@bw _ _ _ _ _ _ _ _ gw (pv 2) av) (bR i8 rfl T.iE boot_len (@ae _ _ _ _ _ (by rfl) (@aQ _ _ _ _ _ _ _ bL (pv 0) av (fun _ _=>rfl)) ao))) (fun _ _=>rfl)) av) (@bw _ _ _ _ _ _ _ _ gw (pv 2) av)))) cw)))
   (@ax _ _ _ _ _ (@j9 _ _ _ _ _ _ (@bw _ _ _ _ _ _ _ _ fQ (pv 2) av) (j8 (pv 0) av set_list) (by rfl) (by rfl) (by rfl))
   (@aB _ _ _ (@j9 _ _ _ _ _ _ (a_ HW (hr.mono (by decide)) rfl T.zr T.lW.kp T.zq .nil bA (@ae _ _ _ _ _ (by rfl) (pv 3) (@ae _ _ _ _ _ (by rfl) (pv 2) ao))) (j8 (pv 0) av set_list) (by rfl) (by rfl) (by rfl))))))) cw)
   (@ax _ _ _ _ _ (@ba _ _ 4 _ _ _ _ (by rfl) (by first | exact .inl rfl | exact .inr rfl | assumption) S.nd rfl (Or.inl rfl) (@bw _ _ _ _ _ _ _ _ i5 (@aQ _ _ _ _ _ _ _ bL (pv 0) av (fun _ _=>rfl)) (pv 1)))
   (@ax _ _ _ _ _ (@j9 _ _ _ _ _ _ (@bw _ _ _ _ _ _ _ _ DQ (@aQ _ _ _ _ _ _ _ bL (pv 0) av (fun _ _=>rfl)) (pv 1)) (j8 (pv 0) av set_list) (by rfl) (by rfl) (by rfl))
   (@aB _ _ _ (@bD _ _ _ _ (pv 4)))))),?_⟩
  have qS:=pb.seq hS
  refine ⟨_,rfl,P0,_,_,_,rfl,rfl,.of eP,rfl,_,rfl,_,_,rfl,rfl,_,rfl,cp (fun a8=>?_) (fun a8=>?_)⟩
  ·refine ⟨_,rfl,P0,_,_,_,rfl,rfl,.of eP,rfl,?_⟩
   refine ⟨_,rfl,_,rfl,P0,_,_,_,rfl,rfl,.of eP,rfl,a,ns.map V.int,rfl,.inl qS,_,_,rfl,rfl,_,rfl,cp (fun h1=>?_) (fun h1=>?_)⟩
   ·have h1:x<((ns.map V.int).length:Int):=of_decide_eq_true h1
    obtain ⟨v,hv,mv⟩:=xB (xs:=ns.map V.int) hx h1
    obtain ⟨c,_,rfl⟩:=List.mem_map.mp mv
    refine ⟨_,rfl,P0,_,_,_,rfl,rfl,.of eP,rfl,_,rfl,a,ns.map V.int,_,_,rfl,rfl,qS,hv,?_⟩
    refine ⟨_,rfl,_,_,rfl,rfl,_,rfl,P0,_,1,1,rfl,rfl,eP,rfl,?_⟩
    refine ⟨_,rfl,_,rfl,c,x,rfl,hx,fun r nR=>⟨_,rfl,P0,_,2,2,rfl,rfl,ar,rfl,?_⟩⟩
    have q0:=Int.emod_nonneg (r) (show many≠0 by omega)
    have q1:=Int.emod_lt_of_pos (r) (show 0<many by omega)
    have q2:=Int.ediv_nonneg (nR) (show 0≤many by omega)
    refine ⟨_,rfl,P0,_,_,_,rfl,rfl,.of ar,rfl,_,rfl,_,_,rfl,rfl,(show 0<many by omega),?_⟩
    refine ⟨_,rfl,P0,_,_,_,rfl,rfl,.of ar,rfl,_,rfl,_,_,rfl,rfl,⟨show 0<many by omega,mm⟩,_,rfl,P0,_,2,2,rfl,rfl,ar,rfl,?_⟩
    exact ⟨_,rfl,k _ _ q0 q1 (((ay.refl H).trans ay.fZ).trans (ay.fZ.trans ay.fZ)) ⟨x+1,r / many,ar,by omega,q2⟩⟩
   ·refine ⟨_,rfl,P0,_,_,_,rfl,rfl,.of eP,rfl,a,ns.map V.int,rfl,.inl qS,_,_,rfl,rfl,_,rfl,?_⟩
    have qT:=eP
    have Ah:=qS
    have sl:=aj.refl H
    refine cp (fun h2=>?_) (fun h2=>?_)
    ·have hl:0<(ns.map V.int).length:=by
      have:=of_decide_eq_true h2
      omega
     have HX:=Int.emod_nonneg (x*7) (show ((ns.map V.int).length:Int)≠0 by omega)
     have HY:=Int.emod_lt_of_pos (x*7) (show (0:Int)<((ns.map V.int).length:Int) by omega)
     obtain ⟨v,hv,mv⟩:=xB (xs:=ns.map V.int) HX HY
     obtain ⟨c,_,rfl⟩:=List.mem_map.mp mv
     refine ⟨_,rfl,P0,_,_,_,rfl,rfl,.of qT,rfl,_,rfl,_,_,rfl,rfl,.inr ⟨by decide,by decide⟩,_,rfl,P0,_,_,_,rfl,rfl,.of qT,rfl,a,ns.map V.int,rfl,.inl Ah,_,_,rfl,rfl,(show (0:Int)<((ns.map V.int).length:Int) by omega),a,ns.map V.int,_,_,rfl,rfl,Ah,hv,_,_,rfl,rfl,(show (0:Int)<1000003 by decide),_,rfl,_,_,rfl,rfl,.inr ⟨by decide,by decide⟩,_,_,rfl,rfl,?_⟩
     refine ⟨_,rfl,_,_,rfl,rfl,_,rfl,P0,_,1,1,rfl,rfl,qT,rfl,?_⟩
     refine ⟨_,rfl,_,rfl,_,x,rfl,hx,fun r nR=>⟨_,rfl,P0,_,2,2,rfl,rfl,ar,rfl,?_⟩⟩
     have q0:=Int.emod_nonneg (r) (show many≠0 by omega)
     have q1:=Int.emod_lt_of_pos (r) (show 0<many by omega)
     have q2:=Int.ediv_nonneg (nR) (show 0≤many by omega)
     refine ⟨_,rfl,P0,_,_,_,rfl,rfl,.of ar,rfl,_,rfl,_,_,rfl,rfl,(show 0<many by omega),?_⟩
     refine ⟨_,rfl,P0,_,_,_,rfl,rfl,.of ar,rfl,_,rfl,_,_,rfl,rfl,⟨show 0<many by omega,mm⟩,_,rfl,P0,_,2,2,rfl,rfl,ar,rfl,?_⟩
     exact ⟨_,rfl,k _ _ q0 q1 (((ay.of sl).trans ay.fZ).trans (ay.fZ.trans ay.fZ)) ⟨x+1,r / many,ar,by omega,q2⟩⟩
    ·
     refine ⟨_,rfl,_,_,rfl,rfl,_,rfl,P0,_,1,1,rfl,rfl,qT,rfl,?_⟩
     refine ⟨_,rfl,_,rfl,0,x,rfl,hx,fun r nR=>⟨_,rfl,P0,_,2,2,rfl,rfl,ar,rfl,?_⟩⟩
     have q0:=Int.emod_nonneg (r) (show many≠0 by omega)
     have q1:=Int.emod_lt_of_pos (r) (show 0<many by omega)
     have q2:=Int.ediv_nonneg (nR) (show 0≤many by omega)
     refine ⟨_,rfl,P0,_,_,_,rfl,rfl,.of ar,rfl,_,rfl,_,_,rfl,rfl,(show 0<many by omega),?_⟩
     refine ⟨_,rfl,P0,_,_,_,rfl,rfl,.of ar,rfl,_,rfl,_,_,rfl,rfl,⟨show 0<many by omega,mm⟩,_,rfl,P0,_,2,2,rfl,rfl,ar,rfl,?_⟩
     exact ⟨_,rfl,k _ _ q0 q1 (((ay.of sl).trans ay.fZ).trans (ay.fZ.trans ay.fZ)) ⟨x+1,r / many,ar,by omega,q2⟩⟩
  ·dsimp only [fj]
   have q0:=Int.emod_nonneg (y) (show many≠0 by omega)
   have q1:=Int.emod_lt_of_pos (y) (show 0<many by omega)
   have q2:=Int.ediv_nonneg (hy) (show 0≤many by omega)
   refine ⟨_,rfl,P0,_,_,_,rfl,rfl,.of eP,rfl,_,rfl,_,_,rfl,rfl,(show 0<many by omega),?_⟩
   refine ⟨_,rfl,P0,_,_,_,rfl,rfl,.of eP,rfl,_,rfl,_,_,rfl,rfl,⟨show 0<many by omega,mm⟩,_,rfl,P0,_,2,2,rfl,rfl,eP,rfl,?_⟩
   exact ⟨_,rfl,k _ _ q0 q1 (ay.fZ) ⟨x,y / many,ar,hx,q2⟩⟩
theorem HZ:bQ ["_law_pen","_law_some","_law_left","_law_found"] ["_law_pen","_law_some"] (bg qv):=⟨rfl,rfl,rfl,by decide +kernel,rfl,by decide +kernel,by decide +kernel⟩
theorem Ai(T:Txt K mg t):bx P w K mg base bT 3 t.jG t.lh ["_law_pen","_law_some"] (EX K):=by
 have S:=HZ
 have eJ:=qR (P:=P) (w:=w) (base:=base) T
 refine T.jS.ok S (fun vs H Q E h=>?_) (fun aJ A outer s H vs Q E hr h=>?_)
 ·obtain ⟨P0,a,l,ns,xs,rfl,_⟩:=h
  rfl
 ·obtain ⟨P0,a,l,ns,xs,rfl,pc,hS,nl,el,MB,kk⟩:=h
  have gp:=hr.units
  refine ⟨_,(@ax _ _ _ _ _ (@ba _ _ 2 _ _ _ _ (by rfl) (by first | exact .inl rfl | exact .inr rfl | assumption) S.nd rfl (Or.inl rfl) (fk xb rfl T.iG boot_list (@ae _ _ _ _ _ (by rfl) (pv 1) ao)))
   (@ax _ _ _ _ _ (@ba _ _ 3 _ _ _ _ (by rfl) (by first | exact .inl rfl | exact .inr rfl | assumption) S.nd rfl (Or.inl rfl) (@cK _ _ _ _ ao))
   (@ax _ _ _ _ _ (@wc _ _ _ _ _ _ PassesOwn.never (@b7 _ _ _ _ _ _ _ _ (yf gp) (pv 2) (@cK _ _ _ _ ao) (bK _)) (@aB _ _ _ (dt (c_ PySem.F.plainAttrs_list PySem.F.slot_list_append PySem.F.type_list_append dM (pv 3) (@ae _ _ _ _ _ (by rfl) (c_ PySem.F.plainAttrs_list PySem.F.slot_list_pop PySem.F.type_list_pop C8 (pv 2) (@ae _ _ _ _ _ (by rfl) (a_ eJ (hr.mono (by decide)) rfl T.fJ T.dG.kp T.fI .nil bA (@ae _ _ _ _ _ (by rfl) (pv 0) (@ae _ _ _ _ _ (by rfl) (bR i8 rfl T.iE boot_len (@ae _ _ _ _ _ (by rfl) (pv 2) ao)) ao))) ao)) ao)))))
   (@aB _ _ _ (@bD _ _ _ _ (pv 3)))))),?_⟩
  refine ⟨_,rfl,l,xs,rfl,.inl (.of el),fun l1 n1=>?_⟩
  have s1:aj H (upd H l1 (.lst xs)):=aU n1
  have e1:upd H l1 (.lst xs) l1=some (.lst xs):=ar
  dsimp only [aT]
  generalize upd H l1 (.lst xs)=H1 at s1 e1 ⊢
  refine ⟨by show 0≤sizeLine;decide,fun l2 n2=>?_⟩
  have s2:aj H1 (upd H1 l2 (.lst [])):=aU n2
  have e2:upd H1 l2 (.lst []) l2=some (.lst []):=ar
  dsimp only [aT]
  generalize upd H1 l2 (.lst [])=H2 at s2 e2 ⊢
  have Aj:l1≠P0:=pc.ne n1
  have qU:l2≠P0:=(pc.mono s1).ne n2
  have Ak:H l2=none:=none_of s1 n2
  have Al:l1≠l2:=fun e=>by rw [e,n2] at e1;cases e1
  refine bU ⟨fun m σ Hc=>∃zs ys:List V,σ=[some (.ref P0),some (.ref l),some (.ref l1),some (.ref l2)]∧m=zs.length∧Hc l1=some (.lst zs)∧Hc l2=some (.lst ys)∧(zs++ys).Perm xs∧ay P0 H Hc∧bo Hc P0 a,⟨_,xs,[],rfl,rfl,s2 _ _ e1,e2,by rw [List.append_nil],ay.of (s1.trans s2),(pc.mono s1).mono s2⟩,?_⟩
  rintro m σ Hc ⟨zs,ys,rfl,rfl,ez,ey,pm,sc,p1⟩
  have lz:zs.length≤100:=by
   have:=pm.length_eq
   rw [List.length_append] at this
   omega
  have ly:ys.length≤100:=by
   have:=pm.length_eq
   rw [List.length_append] at this
   omega
  refine ⟨_,rfl,by show 0≤sizeLine;decide,fun le uW=>?_⟩
  have s3:aj Hc (upd Hc le (.lst [])):=aU uW
  have e3:upd Hc le (.lst []) le=some (.lst []):=ar
  generalize upd Hc le (.lst [])=H3 at s3 e3 ⊢
  refine ⟨l1,le,zs,rfl,rfl,.of (s3 _ _ ez),e3,_,rfl,cp (fun hz=>?_) (fun hz=>?_)⟩
  ·have z0:1≤zs.length:=by
    cases zs with
    | nil=>cases hz
    | cons=>simp
   have me:=sc.trans (ay.of s3)
   refine ⟨_,fun _ _ h=>h,?_⟩
   refine ⟨_,rfl,.inl ⟨rfl,_,.of (s3 _ _ ey)⟩,_,rfl,.inl ⟨rfl,_,.of (s3 _ _ ez)⟩,_,rfl,_,rfl,l1,zs,rfl,.inl (.of (s3 _ _ ez)),P0,a,ns,(zs.length:Int),rfl,p1.mono s3,aj.seq me hS,by omega,de.of_lt (by omega) (by omega),fun c H4 c0 c1 s4 p4=>?_⟩
   obtain ⟨k,rfl⟩:=Int.eq_ofNat_of_zero_le c0
   have hk:k<zs.length:=by omega
   have H_:=s4.at Aj (s3 _ _ ez)
   have Ia:=s4.at qU (s3 _ _ ey)
   have sx:seqIndex? (k:Int) zs.length=some k:=by
    unfold seqIndex?
    simp
    omega
   refine ⟨l1,zs,(k:Int),k,zs[k],rfl,rfl,H_,by omega,by omega,sx,by simp [hk],?_⟩
   have nn:l2≠l1:=fun e=>Al e.symm
   refine ⟨l2,ys,zs[k],rfl,rfl,by rw [aA nn];exact Ia,b5 (by omega),?_⟩
   refine ⟨_,?_,zs.eraseIdx k,ys++[zs[k]],rfl,rfl,by rw [aA Al,ar],ar,?_,?_,?_⟩
   ·rw [List.length_eraseIdx_of_lt hk]
    omega
   ·refine List.Perm.trans ?_ pm
    rw [←List.append_assoc]
    refine (List.perm_append_comm).trans ?_
    show (zs[k]::(zs.eraseIdx k++ys)).Perm (zs++ys)
    exact (yh zs k hk).append_right ys
   ·exact ((me.trans s4).but n1).but Ak
   ·exact ((p4.upd Aj).upd qU)
  ·have z0:zs=[]:=by
    cases zs with
    | nil=>rfl
    | cons=>exact absurd rfl hz
   subst z0
   refine ⟨_,rfl,kk l2 ys H3 (sc.trans (ay.of s3)) (p1.mono s3) ?_ qU (s3 _ _ ey) pm⟩
   rw [cL qU]
   exact Ak
theorem Ib:bQ ["_law_pen","_law_way","_law_size","_law_wide","_law_i","_law_j"] ["_law_pen","_law_way","_law_size","_law_wide","_law_i","_law_j"] (bg qw):=⟨rfl,rfl,rfl,by decide +kernel,rfl,by decide +kernel,by decide +kernel⟩
theorem Ic(T:Txt K mg t):bx P w K mg base bT 3 t.jH t.lp ["_law_pen","_law_way","_law_size","_law_wide","_law_i","_law_j"] (EY K):=by
 have S:=Ib
 have eJ:=qR (P:=P) (w:=w) (base:=base) T
 refine T.lY.ok S (fun vs H Q E h=>?_) (fun aJ A outer s H vs Q E hr h=>?_)
 ·obtain ⟨P0,a,ns,way,size,wide,i,j,rfl,_⟩:=h
  rfl
 ·obtain ⟨P0,a,ns,way,size,wide,i,j,rfl,pc,hS,kk⟩:=h
  refine ⟨_,(@ax _ _ _ _ _ (@cf _ _ _ _ _ _ _ _ (@b7 _ _ _ _ _ _ _ _ fR (pv 1) av (bK _)) (@aB _ _ _ (@bD _ _ _ _ (@gx _ _ _ _ _ _ _ _ fR (a_ eJ (hr.mono (by decide)) rfl T.fJ T.dG.kp T.fI .nil bA (@ae _ _ _ _ _ (by rfl) (pv 0) (@ae _ _ _ _ _ (by rfl) av ao))) av (bK _)))) cw)
   (@ax _ _ _ _ _ (@cf _ _ _ _ _ _ _ _ (@b7 _ _ _ _ _ _ _ _ fR (pv 1) av (bK _)) (@aB _ _ _ (@bD _ _ _ _ (@gx _ _ _ _ _ _ _ _ fR (a_ eJ (hr.mono (by decide)) rfl T.fJ T.dG.kp T.fI .nil bA (@ae _ _ _ _ _ (by rfl) (pv 0) (@ae _ _ _ _ _ (by rfl) av ao))) av (bK _)))) cw)
   (@ax _ _ _ _ _ (@cf _ _ _ _ _ _ _ _ (@b7 _ _ _ _ _ _ _ _ fR (pv 1) av (bK _)) (@aB _ _ _ (@bD _ _ _ _ (@gx _ _ _ _ _ _ _ _ oC (a_ eJ (hr.mono (by decide)) rfl T.fJ T.dG.kp T.fI .nil bA (@ae _ _ _ _ _ (by rfl) (pv 0) (@ae _ _ _ _ _ (by rfl) av ao))) av (bK _)))) cw)
   (@ax _ _ _ _ _ (@cf _ _ _ _ _ _ _ _ (@b7 _ _ _ _ _ _ _ _ fR (pv 1) av (bK _)) (@aB _ _ _ (@bD _ _ _ _ (BB (@gx _ _ _ _ _ _ _ _ fR (@bw _ _ _ _ _ _ _ _ oz (pv 5) (pv 4)) av (bK _)) (@j7 _ _ _ _ _ (@gx _ _ _ _ _ _ _ _ fR (@bw _ _ _ _ _ _ _ _ oz (pv 5) (pv 4)) (@bw _ _ _ _ _ _ _ _ oz (pv 2) av) (bK _)))))) cw)
   (@aB _ _ _ (@bD _ _ _ _ (@gx _ _ _ _ _ _ _ _ oB (@bw _ _ _ _ _ _ _ _ oz (pv 5) (pv 4)) (pv 3) (bK _)))))))),?_⟩
  refine ⟨_,rfl,rfl,_,rfl,cp (fun _=>?_) (fun _=>?_)⟩
  ·exact ⟨_,rfl,P0,a,ns,2,rfl,pc,hS,by decide,de.of_lt (by decide) (by decide),fun c H1 _ _ s1 p1=>⟨rfl,kk _ H1 s1 p1⟩⟩
  dsimp only [fj]
  refine ⟨_,rfl,rfl,_,rfl,cp (fun _=>?_) (fun _=>?_)⟩
  ·exact ⟨_,rfl,P0,a,ns,4,rfl,pc,hS,by decide,de.of_lt (by decide) (by decide),fun c H1 _ _ s1 p1=>⟨rfl,kk _ H1 s1 p1⟩⟩
  dsimp only [fj]
  refine ⟨_,rfl,rfl,_,rfl,cp (fun _=>?_) (fun _=>?_)⟩
  ·exact ⟨_,rfl,P0,a,ns,4,rfl,pc,hS,by decide,de.of_lt (by decide) (by decide),fun c H1 _ _ s1 p1=>⟨_,_,rfl,rfl,kk _ H1 s1 p1⟩⟩
  dsimp only [fj]
  refine ⟨_,rfl,rfl,_,rfl,cp (fun _=>?_) (fun _=>?_)⟩
  ·refine ⟨_,rfl,_,rfl,_,_,rfl,rfl,rfl,_,rfl,cp (fun _=>?_) (fun _=>?_)⟩
   ·exact kk _ H (ay.refl _) pc
   ·exact ⟨_,rfl,_,rfl,_,_,rfl,rfl,_,rfl,_,_,rfl,rfl,rfl,kk _ H (ay.refl _) pc⟩
  dsimp only [fj]
  exact ⟨_,rfl,_,rfl,_,_,rfl,rfl,_,rfl,_,_,rfl,rfl,kk _ H (ay.refl _) pc⟩
theorem Ie:bQ ["_law_size","_law_links","_law_names","_law_found","_law_i","_law_j","_law_one"] ["_law_size","_law_links","_law_names"] (bg qz):=⟨rfl,rfl,rfl,by decide +kernel,rfl,by decide +kernel,by decide +kernel⟩
theorem Ig(T:Txt K mg t):bx P w K mg base bT 3 t.jK t.lB ["_law_size","_law_links","_law_names"] E2:=by
 have S:=Ie
 refine T.l6.ok S (fun vs H Q E h=>?_) (fun aJ A outer s H vs Q E hr h=>?_)
 ·obtain ⟨l,r,n,us,ws,L,nm,rfl,_⟩:=h
  rfl
 ·obtain ⟨l,r,n,us,ws,L,nm,rfl,el,hL,ok,nS,nU,lw,hw,N,kk⟩:=h
  refine ⟨_,(@ax _ _ _ _ _ (@ba _ _ 3 _ _ _ _ (by rfl) (by first | exact .inl rfl | exact .inr rfl | assumption) S.nd rfl (Or.inl rfl) (@cK _ _ _ _ ao))
   (@ax _ _ _ _ _ (cO PassesOwn.never rfl (ee (pv 1)) (iW rfl (dI (bS (i:=4) S.nd rfl (Or.inl rfl)) (dI (bS (i:=5) S.nd rfl (Or.inl rfl)) iV)))
    (@ax _ _ _ _ _ (@ba _ _ 6 _ _ _ _ (by rfl) (by first | exact .inl rfl | exact .inr rfl | assumption) S.nd rfl (Or.inl rfl) (bR (rW rfl) rfl T.qI boot_min (@ae _ _ _ _ _ (by rfl) (@aQ _ _ _ _ _ _ _ bL (pv 2) (pv 4) (fun _ _=>rfl)) (@ae _ _ _ _ _ (by rfl) (@aQ _ _ _ _ _ _ _ bL (pv 2) (pv 5) (fun _ _=>rfl)) ao))))
   (@aB _ _ _ (dt (c_ PySem.F.plainAttrs_list PySem.F.slot_list_append PySem.F.type_list_append dM (pv 3) (@ae _ _ _ _ _ (by rfl) (@g_ _ _ _ _ _ (@ae _ _ _ _ _ (by rfl) (pv 6) (@ae _ _ _ _ _ (by rfl) (bR (rV rfl) rfl T.qJ boot_max (@ae _ _ _ _ _ (by rfl) (@aQ _ _ _ _ _ _ _ bL (pv 2) (pv 4) (fun _ _=>rfl)) (@ae _ _ _ _ _ (by rfl) (@aQ _ _ _ _ _ _ _ bL (pv 2) (pv 5) (fun _ _=>rfl)) ao))) ao))) ao))))))
   (@aB _ _ _ (@bD _ _ _ _ (@g_ _ _ _ _ _ (@ae _ _ _ _ _ (by rfl) (pv 0) (@ae _ _ _ _ _ (by rfl) (fk sF rfl T.jT boot_tuple (@ae _ _ _ _ _ (by rfl) (bR tY rfl T.jU PyProof.Rows.boot_sorted (@ae _ _ _ _ _ (by rfl) (pv 3) ao)) ao)) ao))))))),?_⟩
  refine ⟨by show 0≤sizeLine;decide,fun fd cI=>?_⟩
  have s0:aj H (upd H fd (.lst [])):=aU cI
  have Am:upd H fd (.lst []) fd=some (.lst []):=ar
  dsimp only [aT]
  generalize upd H fd (.lst [])=H1 at s0 Am ⊢
  refine ⟨_,rfl,l,rfl,⟨_,.of (s0 _ _ el)⟩,?_⟩
  refine ke (K:=K) (a:=l) (xs:=us) (fun k σ Hc=>∃(xs:List V) (v4 v5 v6:Option V),σ=[some (.int (n:Int)),some (.ref l),some (.ref r),some (.ref fd),v4,v5,v6]∧aj H Hc∧Hc fd=some (.lst xs)∧aN Hc xs ((L.take k).map (dF nm))) ⟨[],_,_,_,rfl,s0,Am,aN.nil _⟩ (fun k σ Hc _ ⟨_,_,_,_,_,sc,_⟩=>.of (sc _ _ el)) ?_ ?_
  ·rintro k x σ Hc hx ⟨xs,v4,v5,v6,rfl,sc,ef,hX⟩
   have hk:k<L.length:=by
    rw [←hL.1]
    exact (List.getElem?_eq_some_iff.mp hx).1
   obtain ⟨b,rfl,eb⟩:=(hL.mono sc).2 k x L[k] hx (by simp [hk])
   have pk:=ok.lt L[k] (List.getElem_mem hk)
   have tk:(L.take (k+1)).map (dF nm)=(L.take k).map (dF nm)++[dF nm L[k]]:=by
    rw [List.take_succ,List.getElem?_eq_getElem hk,List.map_append]
    rfl
   have lX:=hX.1
   rw [List.length_map,List.length_take] at lX
   have b3:L.length≤450:=Nat.le_trans ok.b3 (by
    have:n*n≤30*30:=Nat.mul_le_mul nS nS
    omega)
   generalize L[k]=p at eb pk tk
   obtain ⟨p1,p2⟩:=p
   dsimp only at pk
   obtain ⟨i,rfl⟩:=Int.eq_ofNat_of_zero_le pk.1
   obtain ⟨j,rfl⟩:=Int.eq_ofNat_of_zero_le (show 0≤p2 by omega)
   have An:eA ws (i:Int)=some (.int (nm i)):=i6 (hw i (by omega))
   have at2:eA ws (j:Int)=some (.int (nm j)):=i6 (hw j (by omega))
   have qV:=sc _ _ nU
   refine ⟨b,_,rfl,.of eb,rfl,_,_,rfl,_,_,rfl,rfl,?_⟩
   refine ⟨_,rfl,_,rfl,r,ws,_,.int (nm i),rfl,rfl,.of qV,An,_,rfl,_,rfl,r,ws,_,.int (nm j),rfl,rfl,.of qV,at2,nm i,nm j,rfl,?_⟩
   dsimp only [aT]
   refine ⟨_,rfl,.inl ⟨rfl,_,.of ef⟩,_,rfl,_,rfl,_,rfl,r,ws,_,.int (nm i),rfl,rfl,.of qV,An,_,rfl,_,rfl,r,ws,_,.int (nm j),rfl,rfl,.of qV,at2,nm i,nm j,rfl,by show 2≤sizeLine;decide,fun tp fK=>?_⟩
   have eq:dF nm ((i:Int),(j:Int))=(if nm j<nm i then nm j else nm i,if nm j>nm i then nm j else nm i):=by
    unfold dF
    simp only [Int.toNat_natCast]
    refine Prod.ext ?_ ?_
    ·show min (nm i) (nm j)=_
     split <;> omega
    ·show max (nm i) (nm j)=_
     split <;> omega
   have st:aj Hc (upd Hc tp (.tup [.int (if nm j<nm i then nm j else nm i),.int (if nm j>nm i then nm j else nm i)])):=aU fK
   have bX:upd Hc tp (.tup [.int (if nm j<nm i then nm j else nm i),.int (if nm j>nm i then nm j else nm i)]) tp=some (.tup [.int (dF nm ((i:Int),(j:Int))).1,.int (dF nm ((i:Int),(j:Int))).2]):=by rw [ar,eq]
   generalize upd Hc tp (.tup [.int (if nm j<nm i then nm j else nm i),.int (if nm j>nm i then nm j else nm i)])=Hd at st bX ⊢
   have cm:=st _ _ ef
   refine ⟨fd,xs,_,rfl,rfl,cm,b5 (by omega),xs++[.ref tp],_,_,_,rfl,cV (sc.trans st) cI,ar,?_⟩
   rw [tk]
   exact ((hX.mono st).push bX).bb cm fun b o nb e=>by rw [aA nb];exact e
  ·rintro σ Hc ⟨xs,v4,v5,v6,rfl,sc,ef,hX⟩
   rw [hL.1,List.take_length] at hX
   have qW:=E1 ok N
   have lX:=hX.1
   have b3:L.length≤450:=Nat.le_trans ok.b3 (by
    have:n*n≤30*30:=Nat.mul_le_mul nS nS
    omega)
   have lM:(L.map (dF nm)).length=L.length:=List.length_map ..
   have small:∀q∈L.map (dF nm),0≤q.2∧q.2<1000:=fun q hq=>by
    have:=qW.lt q hq
    omega
   generalize hM:L.map (dF nm)=M at hX qW lX lM small kk
   dsimp only
   refine ⟨_,rfl,_,rfl,fd,xs,fun i=>(M.getD i (0,0)).1,fun i=>(M.getD i (0,0)).2,rfl,ef,by omega,fun i v hv=>?_,fun p l' hp hu jl=>?_⟩
   ·have hi:i<M.length:=by
     rw [←lX]
     exact (List.getElem?_eq_some_iff.mp hv).1
    obtain ⟨b,rfl,eb⟩:=hX.2 i v M[i] hv (by simp [hi])
    dsimp only
    rw [getD_at hi]
    exact ⟨⟨b,rfl,eb⟩,small _ (List.getElem_mem hi)⟩
   rw [lX] at hp hu
   obtain ⟨pm,pw⟩:=EZ hp hu qW.nd small
   have sl:aj Hc (upd Hc l' (.lst (p.toList.map fun i=>xs.getD i .aG))):=aU jl
   have hP:aN Hc (p.toList.map fun i=>xs.getD i .aG) (p.toList.map fun i=>M.getD i (0,0)):=hX.pick _ fun i hi=>by
    have:p.toList.Perm (List.range M.length):=Array.perm_iff_toList_perm.mp hp
    exact List.mem_range.mp (this.mem_iff.mp hi)
   generalize (p.toList.map fun i=>xs.getD i .aG)=zs at sl hP ⊢
   refine ⟨l',zs,rfl,.inl ⟨.of ar,fun lt nO=>?_⟩⟩
   have cU:=sl.trans (aU (o:=.tup zs) nO)
   have elt:upd (upd Hc l' (.lst zs)) lt (.tup zs) lt=some (.tup zs):=ar
   generalize upd (upd Hc l' (.lst zs)) lt (.tup zs)=Hd at cU elt ⊢
   refine ⟨by show 2≤sizeLine;decide,fun tp fK=>?_⟩
   have st:aj Hd (upd Hd tp (.tup [.int (n:Int),.ref lt])):=aU fK
   have sT:=sc.trans (cU.trans st)
   exact kk tp _ _ sT (none_of (sc.trans cU) fK) ⟨lt,zs,ar,st _ _ elt,(hP.mono cU).mono st⟩ (qW.perm pm) pw pm
theorem Ih:bQ ["_law_pen","_law_size","_law_ahead","_law_found","_law_j","_law_at","_law_some"] ["_law_pen","_law_size"] (bg qx):=⟨rfl,rfl,rfl,by decide +kernel,rfl,by decide +kernel,by decide +kernel⟩
theorem Ii(T:Txt K mg t):bx P w K mg base bT 3 t.jI t.lq ["_law_pen","_law_size"] (E4 K):=by
 have S:=Ih
 have eJ:=qR (P:=P) (w:=w) (base:=base) T
 refine T.lZ.ok S (fun vs H Q E h=>?_) (fun aJ A outer s H vs Q E hr h=>?_)
 ·obtain ⟨P0,a,ns,n,rfl,_⟩:=h
  rfl
 ·obtain ⟨P0,a,ns,n,rfl,pc,hS,n1,nS,kk⟩:=h
  refine ⟨_,(@ax _ _ _ _ _ (@ba _ _ 2 _ _ _ _ (by rfl) (by first | exact .inl rfl | exact .inr rfl | assumption) S.nd rfl (Or.inl rfl) (@cK _ _ _ _ (@ae _ _ _ _ _ (by rfl) (@cK _ _ _ _ ao) ao)))
   (@ax _ _ _ _ _ (@ba _ _ 3 _ _ _ _ (by rfl) (by first | exact .inl rfl | exact .inr rfl | assumption) S.nd rfl (Or.inl rfl) (@cK _ _ _ _ ao))
   (@ax _ _ _ _ _ (cO PassesOwn.never rfl (BQ rfl T.eI (@ae _ _ _ _ _ (by rfl) av (@ae _ _ _ _ _ (by rfl) (pv 1) ao))) (bS (i:=4) S.nd rfl (Or.inr rfl))
    (@ax _ _ _ _ _ (@ba _ _ 5 _ _ _ _ (by rfl) (by first | exact .inl rfl | exact .inr rfl | assumption) S.nd rfl (Or.inl rfl) (a_ eJ (hr.mono (by decide)) rfl T.fJ T.dG.kp T.fI .nil bA (@ae _ _ _ _ _ (by rfl) (pv 0) (@ae _ _ _ _ _ (by rfl) (pv 4) ao))))
   (@ax _ _ _ _ _ (@ba _ _ 6 _ _ _ _ (by rfl) (by first | exact .inl rfl | exact .inr rfl | assumption) S.nd rfl (Or.inl rfl) (@bw _ _ _ _ _ _ _ _ C_ (@cK _ _ _ _ (@ae _ _ _ _ _ (by rfl) (pv 5) ao)) (jb (N:=["_law_i","_law_pen"]) (ρ:=(fun σ=>[σ[0]?.join])) ⟨rfl,rfl,by decide +kernel,by decide +kernel,(List.forall_mem_cons.mpr ⟨rfl,(List.forall_mem_nil _)⟩),eS (by rfl),rfl,by decide +kernel,rfl,(fun σ j v h=>match j,h with | 0,h=>⟨0,_,rfl,rfl,join_some h,Or.inr (Or.inl rfl),.inl rfl,.inl rfl⟩ | j+1,h=>by cases h),(fun _ _=>rfl)⟩ rfl (ee (@aQ _ _ _ _ _ _ _ bL (pv 2) (pv 5) (fun _ _=>rfl))) (fun s₃ H₃ fp=>(.one (@b7 _ _ _ _ _ _ _ _ oC (a_ eJ (hr.mono (by decide)) rfl T.fJ T.dG.kp T.fI .nil bA (@ae _ _ _ _ _ (by rfl) (pv 1) (@ae _ _ _ _ _ (by rfl) av ao))) av (bK _)))) (fun s₃ H₃ fp=>(pv 0)))))
   (@ax _ _ _ _ _ (@cf _ _ _ _ _ _ _ _ (@b7 _ _ _ _ _ _ _ _ fR (a_ eJ (hr.mono (by decide)) rfl T.fJ T.dG.kp T.fI .nil bA (@ae _ _ _ _ _ (by rfl) (pv 0) (@ae _ _ _ _ _ (by rfl) av ao))) av (bK _)) (@aB _ _ _ (@ba _ _ 6 _ _ _ _ (by rfl) (by first | exact .inl rfl | exact .inr rfl | assumption) S.nd rfl (Or.inl rfl) (@cK _ _ _ _ ao))) cw)
   (@ax _ _ _ _ _ (dt (c_ PySem.F.plainAttrs_list PySem.F.slot_list_append PySem.F.type_list_append dM (pv 2) (@ae _ _ _ _ _ (by rfl) (pv 6) ao)))
   (@aB _ _ _ (dt (c_ PySem.F.plainAttrs_list PySem.F.slot_list_extend PySem.F.type_list_extend xi (pv 3) (@ae _ _ _ _ _ (by rfl) (jb (N:=["_law_i","_law_j"]) (ρ:=(fun σ=>[σ[4]?.join])) ⟨rfl,rfl,by decide +kernel,by decide +kernel,(List.forall_mem_cons.mpr ⟨rfl,(List.forall_mem_nil _)⟩),eS (by rfl),rfl,by decide +kernel,rfl,(fun σ j v h=>match j,h with | 0,h=>⟨4,_,rfl,rfl,join_some h,Or.inr (Or.inl rfl),.inl rfl,.inl rfl⟩ | j+1,h=>by cases h),(fun _ _=>rfl)⟩ rfl (ee (pv 6)) (fun s₃ H₃ fp=>.nil) (fun s₃ H₃ fp=>(@g_ _ _ _ _ _ (@ae _ _ _ _ _ (by rfl) (pv 0) (@ae _ _ _ _ _ (by rfl) (pv 1) ao))))) ao)))))))))
   (@aB _ _ _ (@bD _ _ _ _ (pv 3)))))),?_⟩
  refine ⟨by show 0≤sizeLine;decide,fun l0 iH=>⟨by show 1≤sizeLine;decide,fun la nV=>?_⟩⟩
  have s1:aj H (upd H l0 (.lst [])):=aU iH
  have e0:upd H l0 (.lst []) l0=some (.lst []):=ar
  generalize upd H l0 (.lst [])=H1 at s1 e0 nV ⊢
  have s2:aj H1 (upd H1 la (.lst [.ref l0])):=aU nV
  have ea:upd H1 la (.lst [.ref l0]) la=some (.lst [.ref l0]):=ar
  dsimp only [aT]
  generalize upd H1 la (.lst [.ref l0])=H2 at s2 ea ⊢
  refine ⟨by show 0≤sizeLine;decide,fun fd cI=>?_⟩
  have s3:aj H2 (upd H2 fd (.lst [])):=aU cI
  have ef:upd H2 fd (.lst []) fd=some (.lst []):=ar
  dsimp only [aT]
  generalize upd H2 fd (.lst [])=H3 at s3 ef ⊢
  have gq:=s1.trans (s2.trans s3)
  have nW:la≠P0:=(pc.mono s1).ne nV
  have eK:fd≠P0:=((pc.mono s1).mono s2).ne cI
  have Ij:l0≠P0:=pc.ne iH
  have Ik:H la=none:=none_of s1 nV
  have qX:H fd=none:=none_of (s1.trans s2) cI
  have af:la≠fd:=fun e=>by rw [e,cI] at ea;cases ea
  refine ⟨_,rfl,_,_,rfl,⟨by decide,by decide,by omega,by omega⟩,?_⟩
  rw [show ((n:Int)-1).toNat=n-1 by omega]
  refine i4 (fun k σ Hc=>∃(vs us:List V) (L:List (Int×Int)) (D:Nat→List Nat) (v4 v5 v6:Option V),σ=[some (.ref P0),some (.int (n:Int)),some (.ref la),some (.ref fd),v4,v5,v6]∧ay P0 H Hc∧bo Hc P0 a∧Hc la=some (.lst vs)∧E5 (er P0 Hc) vs (k+1) D∧(∀(i:Nat) (b:Addr),vs[i]?=some (V.ref b)→b≠la∧b≠fd)∧Hc fd=some (.lst us)∧aN (er P0 Hc) us L∧gI (k+1) L) ?_ ?_ ?_
  ·refine ⟨[.ref l0],[],[],fun _=>[],_,_,_,rfl,ay.of gq,pc.mono gq,s3 _ _ ea,⟨rfl,fun k hk=>⟨cS.nil k,l0,by rw [show k=0 by omega];rfl,?_⟩⟩,fun i b hb=>?_,ef,aN.nil _,gI.nil⟩
   ·rw [cL Ij]
    exact s3 _ _ (s2 _ _ e0)
   ·match i,hb with
    | 0,hb=>
     cases hb
     exact ⟨(fun e=>by rw [e,nV] at e0;cases e0),(fun e=>by rw [←e] at cI;rw [s2 _ _ e0] at cI;cases cI)⟩
    | i+1,hb=>simp at hb
  ·rintro k σ Hc hk ⟨vs,us,L,D,v4,v5,v6,rfl,sc,p1,qY,ah,ap,cm,hL,ok⟩
   refine ⟨_,rfl,_,rfl,P0,a,ns,1+(k:Int),rfl,p1,aj.seq sc hS,by omega,de.of_lt (by omega) (by omega),fun c H4 c0 c1 s4 p4=>?_⟩
   obtain ⟨c,rfl⟩:=Int.eq_ofNat_of_zero_le c0
   have hc:c<k+1:=by omega
   obtain ⟨fc,b,Il,nX⟩:=ah.2 c hc
   have Im:b≠P0:=fun z=>by
    rw [z] at nX
    unfold er at nX
    rw [if_pos rfl] at nX
    cases nX
   have Io:=ah.1
   have qZ:=sc.trans s4
   have Ip:=s4.at nW qY
   have Ao:H4 b=some (.lst (cG (D c))):=pb _ _ (s4 _ _ nX)
   dsimp only [aT]
   simp only [List.set_cons_zero,List.set_cons_succ]
   refine ⟨_,rfl,by show 1≤sizeLine;decide,fun mh pO=>?_⟩
   have s5:aj H4 (upd H4 mh (.lst [.int (c:Int)])):=aU pO
   have e5:upd H4 mh (.lst [.int (c:Int)]) mh=some (.lst [.int (c:Int)]):=ar
   have Iq:mh≠P0:=p4.ne pO
   generalize upd H4 mh (.lst [.int (c:Int)])=H5 at s5 e5 ⊢
   have lD:(D c).length≤30:=Nat.le_trans fc.len (by omega)
   have lV:(cG (D c)).length≤30:=by unfold cG;rw [List.length_map];exact lD
   have nY:=qZ.trans (ay.of s5)
   refine E3 (K:=K) (l:=b) (xs:=cG (D c)) (b5 (by omega)) Im (s5 _ _ Ao) (p4.mono s5) (fun R h=>⟨_,rfl,_,rfl,la,vs,_,.ref b,rfl,rfl,.of (s5 _ _ Ip),i6 Il,b,rfl,⟨_,.of (s5 _ _ Ao)⟩,h⟩) (fun i x hx Hx R sx px k=>⟨_,rfl,P0,a,ns,3,rfl,px,aj.seq (nY.trans sx) hS,by decide,de.of_lt (by decide) (by decide),fun c' H' _ _ s' p'=>⟨_,_,rfl,rfl,_,rfl,k _ H' s' p'⟩⟩) (fun x Hx R h=>⟨_,rfl,h⟩) fun D' ys Hx Ir MC sx px sub uX=>?_
   obtain ⟨e,xq,rfl⟩:=t4 sub
   have fe:=(fc.sub xq).put hc
   have MD:(cG e).length≤30:=Nat.le_trans sub.length_le lV
   refine ⟨mh,D',_,_,rfl,rfl,sx.at Iq e5,uX,Nat.le_trans (show _≤900 by simp;omega) (by decide),fun c2 n2=>?_⟩
   have s6:aj Hx (upd Hx c2 (.lst ([.int (c:Int)]++cG e))):=aU n2
   have e6:upd Hx c2 (.lst ([.int (c:Int)]++cG e)) c2=some (.lst (cG (c::e))):=ar
   have Ap:=(nY.trans sx).trans (ay.of s6)
   have p6:=px.mono s6
   have nZ:ay P0 H4 (upd Hx c2 (.lst ([.int (c:Int)]++cG e))):=(ay.of s5).trans (sx.trans (ay.of s6))
   have uY:c2≠P0:=px.ne n2
   have f2:er P0 Hc c2=none:=none_of (s4.trans ((ay.of s5).trans sx)) (by rw [cL uY];exact n2)
   dsimp only [aT]
   generalize upd Hx c2 (.lst ([.int (c:Int)]++cG e))=H6 at s6 e6 Ap p6 nZ ⊢
   simp only [List.set_cons_zero,List.set_cons_succ]
   refine bU (yg (fun σ Hy=>∃(lc:Addr) (d:List Nat),σ=[some (.ref P0),some (.int (n:Int)),some (.ref la),some (.ref fd),some (.int (1+(k:Int))),some (.int (c:Int)),some (.ref lc)]∧ay P0 Hc Hy∧bo Hy P0 a∧Hy lc=some (.lst (cG d))∧cS (k+1) d∧lc≠P0∧er P0 Hc lc=none) ?_ ?_)
   ·rintro σ Hy ⟨lc,d,rfl,sy,py,gr,uZ,mj,q5⟩
    have ly:lc≠la:=fun z=>by rw [z,cL nW,qY] at q5;cases q5
    have lf:lc≠fd:=fun z=>by rw [z,cL eK,cm] at q5;cases q5
    have u0:=sy.at nW qY
    have Iu:=sy.at eK cm
    have ME:d.length≤30:=Nat.le_trans uZ.len (by omega)
    dsimp only
    refine ⟨_,rfl,.inl ⟨rfl,_,.of u0⟩,_,rfl,la,vs,_,rfl,rfl,u0,b5 (by omega),?_⟩
    have e7:upd Hy la (.lst (vs++[.ref lc])) la=some (.lst (vs++[.ref lc])):=ar
    have k7:∀b o,b≠la→Hy b=some o→upd Hy la (.lst (vs++[.ref lc])) b=some o:=fun b o nb e=>by rw [aA nb];exact e
    have p7:=py.upd (o:=.lst (vs++[.ref lc])) nW
    have r7:=t7 (P:=P0) (H:=Hy) (r:=la) (o:=.lst (vs++[.ref lc]))
    have Aq:ay P0 H (upd Hy la (.lst (vs++[.ref lc]))):=(sc.trans sy).but Ik
    generalize upd Hy la (.lst (vs++[.ref lc]))=H7 at e7 k7 p7 r7 Aq ⊢
    have u4:=k7 fd _ (fun z=>af z.symm) Iu
    have u5:=k7 lc _ ly gr
    have Iv:(cG d).length=d.length:=by unfold cG;rw [List.length_map]
    refine ⟨_,rfl,.inl ⟨rfl,_,.of u4⟩,xK (xs:=cG d) (fun R h=>⟨_,rfl,lc,rfl,⟨_,.of u5⟩,h _ _ (aj.refl _) (kB (.of u5))⟩) (b5 (by omega)) (fun _ i y Hz=>∃(b:Addr) (x:Nat),y=.ref b∧d[i]?=some x∧Hz b=some (.tup [.int (x:Int),.int (1+(k:Int))])) (fun Dd i y Ha Hb ys ⟨b,x,h1,h2,h3⟩ e f=>⟨b,x,h1,h2,f b _ (fun z=>by rw [z,e] at h3;cases h3) h3⟩) ?_ ?_⟩
    ·intro Dd i x hx Hz R sz _ kz
     obtain ⟨y,hy,rfl⟩:=E6 hx
     refine ⟨_,rfl,_,rfl,by show 2≤sizeLine;decide,fun tp fK=>?_⟩
     exact kz _ _ (aU fK) ⟨tp,y,rfl,hy,ar⟩
    ·intro Dd zs H8 HR s8 Iw Iy uU
     have lL:=hL.1
     have l2:us.length≤450:=by
      have:=ok.b3
      have:(k+1)*(k+1-1)≤30*30:=Nat.mul_le_mul (by omega) (by omega)
      omega
     refine ⟨fd,Dd,us,zs,rfl,rfl,s8 _ _ u4,uU,Nat.le_trans (show _≤900 by omega) (by decide),?_⟩
     have k9:∀b o,b≠fd→H8 b=some o→upd H8 fd (.lst (us++zs)) b=some o:=fun b o nb e=>by rw [aA nb];exact e
     have p8:=p7.mono s8
     have r9:=t7 (P:=P0) (H:=H8) (r:=fd) (o:=.lst (us++zs))
     have Ar:er P0 H8 fd=some (.lst us):=by rw [cL eK];exact s8 _ _ u4
     have Iz:er P0 Hy la=some (.lst vs):=by rw [cL nW];exact u0
     refine ⟨vs++[.ref lc],us++zs,L++d.map fun(x:Nat)=>((x:Int),((k+1:Nat):Int)),fun i=>if i=k+1 then d else D i,_,_,_,rfl,(Aq.trans (ay.of s8)).but qX,p8.upd eK,k9 la _ af (s8 _ _ e7),⟨by simp [Io],fun i hi=>?_⟩,fun i b' gz=>?_,ar,?_,ok.more uZ⟩
     ·dsimp only
      by_cases z:i=k+1
      ·subst z
       rw [if_pos rfl]
       refine ⟨uZ,lc,by rw [List.getElem?_append_right (by omega),show k+1-vs.length=0 by omega];rfl,?_⟩
       exact r9 _ _ lf (by rw [cL mj];exact s8 _ _ u5)
      ·rw [if_neg z]
       obtain ⟨f1,b1,v1,h1⟩:=ah.2 i (by omega)
       obtain ⟨a1,a2⟩:=ap i b1 v1
       refine ⟨f1,b1,by rw [List.getElem?_append_left (by omega)];exact v1,?_⟩
       exact r9 _ _ a2 (ph s8 _ _ (r7 _ _ a1 (sy _ _ h1)))
     ·by_cases z:i<vs.length
      ·rw [List.getElem?_append_left z] at gz
       exact ap i b' gz
      ·have aR:=(List.getElem?_eq_some_iff.mp gz).1
       rw [List.length_append,List.length_singleton] at aR
       rw [List.getElem?_append_right (by omega),show i-vs.length=0 by omega] at gz
       cases gz
       exact ⟨ly,lf⟩
     ·refine aN.cat ?_ ?_
      ·exact (((hL.mono sy).bb Iz r7).mono (ph s8)).bb Ar r9
      ·refine aN.bb (H:=er P0 H8) ⟨by rw [Iw,Iv,List.length_map],fun i v p h1 h2=>?_⟩ Ar r9
       obtain ⟨b',x,rfl,hx,e'⟩:=Iy i v h1
       rw [List.getElem?_map,hx] at h2
       cases h2
       refine ⟨b',rfl,?_⟩
       rw [show (((k+1:Nat):Int))=1+(k:Int) by omega]
       exact nu p8 e'
   ·intro R hR
    refine ⟨_,rfl,P0,a,ns,9,rfl,p6,aj.seq Ap hS,by decide,de.of_lt (by decide) (by decide),fun c' H7 _ _ s7 p7=>⟨rfl,_,rfl,cp (fun _=>?_) (fun _=>?_)⟩⟩
    ·refine ⟨by show 0≤sizeLine;decide,fun lc mj=>?_⟩
     have nP:=p7.ne mj
     have jY:=s4.trans (nZ.trans s7)
     exact hR _ _ ⟨lc,[],rfl,jY.trans (ay.of (aU mj)),p7.mono (aU mj),ar,cS.nil _,nP,none_of jY (by rw [cL nP];exact mj)⟩
    ·exact hR _ _ ⟨c2,c::e,rfl,s4.trans (nZ.trans s7),p7,s7.at uY e6,fe,uY,f2⟩
  ·rintro σ Hc ⟨vs,us,L,D,v4,v5,v6,rfl,sc,p1,qY,ah,ap,cm,hL,ok⟩
   rw [show n-1+1=n by omega] at ok
   exact ⟨_,rfl,kk fd us L Hc sc p1 (by rw [cL eK];exact qX) eK cm hL ok.ok⟩
theorem IA:bQ ["_law_pen","_law_most","_law_size","_law_way","_law_wide","_law_links","_law_j","_law_i"] ["_law_pen","_law_most"] (bg qy):=⟨rfl,rfl,rfl,by decide +kernel,rfl,by decide +kernel,by decide +kernel⟩
theorem IC(T:Txt K mg t):bx P w K mg base bT 4 t.jJ t.lA ["_law_pen","_law_most"] (E9 K):=by
 have S:=IA
 have eJ:=qR (P:=P) (w:=w) (base:=base) T
 have ID:=Ic (P:=P) (w:=w) (base:=base) T
 have IE:=Ii (P:=P) (w:=w) (base:=base) T
 have u6:=Ai (P:=P) (w:=w) (base:=base) T
 have IF:=Ig (P:=P) (w:=w) (base:=base) T
 refine T.l5.ok S (fun vs H Q E h=>?_) (fun aJ A outer s H vs Q E hr h=>?_)
 ·obtain ⟨P0,a,ns,most,rfl,_⟩:=h
  rfl
 ·obtain ⟨P0,a,ns,most,rfl,pc,hS,m1,MF,kk⟩:=h
  refine ⟨_,(@ax _ _ _ _ _ (@ba _ _ 2 _ _ _ _ (by rfl) (by first | exact .inl rfl | exact .inr rfl | assumption) S.nd rfl (Or.inl rfl) (@bw _ _ _ _ _ _ _ _ fQ av (a_ eJ (hr.mono (by decide)) rfl T.fJ T.dG.kp T.fI .nil bA (@ae _ _ _ _ _ (by rfl) (pv 0) (@ae _ _ _ _ _ (by rfl) (pv 1) ao)))))
   (@ax _ _ _ _ _ (@ba _ _ 3 _ _ _ _ (by rfl) (by first | exact .inl rfl | exact .inr rfl | assumption) S.nd rfl (Or.inl rfl) (a_ eJ (hr.mono (by decide)) rfl T.fJ T.dG.kp T.fI .nil bA (@ae _ _ _ _ _ (by rfl) (pv 0) (@ae _ _ _ _ _ (by rfl) av ao))))
   (@ax _ _ _ _ _ (@ba _ _ 4 _ _ _ _ (by rfl) (by first | exact .inl rfl | exact .inr rfl | assumption) S.nd rfl (Or.inl rfl) (a_ eJ (hr.mono (by decide)) rfl T.fJ T.dG.kp T.fI .nil bA (@ae _ _ _ _ _ (by rfl) (pv 0) (@ae _ _ _ _ _ (by rfl) (pv 2) ao))))
   (@ax _ _ _ _ _ (@ba _ _ 5 _ _ _ _ (by rfl) (by first | exact .inl rfl | exact .inr rfl | assumption) S.nd rfl (Or.inl rfl) (@cK _ _ _ _ ao))
   (@ax _ _ _ _ _ (cO PassesOwn.never rfl (g6 rfl T.eI (@ae _ _ _ _ _ (by rfl) (pv 2) ao)) (bS (i:=6) S.nd rfl (Or.inl rfl))
    (@aB _ _ _ (cO PassesOwn.never rfl (g6 rfl T.eI (@ae _ _ _ _ _ (by rfl) (pv 6) ao)) (bS (i:=7) S.nd rfl (Or.inl rfl))
    (@aB _ _ _ (@cf _ _ _ _ _ _ _ _ (iT (a_ ID (hr.mono (by decide)) rfl T.zu T.lY.kp T.zt .nil bA (@ae _ _ _ _ _ (by rfl) (pv 0) (@ae _ _ _ _ _ (by rfl) (pv 3) (@ae _ _ _ _ _ (by rfl) (pv 2) (@ae _ _ _ _ _ (by rfl) (pv 4) (@ae _ _ _ _ _ (by rfl) (pv 7) (@ae _ _ _ _ _ (by rfl) (pv 6) ao)))))))) (@aB _ _ _ (dt (c_ PySem.F.plainAttrs_list PySem.F.slot_list_append PySem.F.type_list_append dM (pv 5) (@ae _ _ _ _ _ (by rfl) (@g_ _ _ _ _ _ (@ae _ _ _ _ _ (by rfl) (pv 7) (@ae _ _ _ _ _ (by rfl) (pv 6) ao))) ao)))) cw)))))
   (@ax _ _ _ _ _ (@cf _ _ _ _ _ _ _ _ (@b7 _ _ _ _ _ _ _ _ fR (pv 3) av (bK _)) (@aB _ _ _ (@ba _ _ 5 _ _ _ _ (by rfl) (by first | exact .inl rfl | exact .inr rfl | assumption) S.nd rfl (Or.inl rfl) (a_ IE (hr.mono (by decide)) rfl T.zw T.lZ.kp T.zv .nil bA (@ae _ _ _ _ _ (by rfl) (pv 0) (@ae _ _ _ _ _ (by rfl) (pv 2) ao))))) cw)
   (@aB _ _ _ (@bD _ _ _ _ (a_ IF (hr.mono (by decide)) rfl T.zD T.l6.kp T.zC .nil bA (@ae _ _ _ _ _ (by rfl) (pv 2) (@ae _ _ _ _ _ (by rfl) (pv 5) (@ae _ _ _ _ _ (by rfl) (a_ u6 (hr.mono (by decide)) rfl T.uE T.jS.kp T.uD .nil bA (@ae _ _ _ _ _ (by rfl) (pv 0) (@ae _ _ _ _ _ (by rfl) (fk (sZ rfl) rfl T.iG boot_list (@ae _ _ _ _ _ (by rfl) (fk sY rfl T.eI s_ (@ae _ _ _ _ _ (by rfl) (pv 2) ao)) ao)) ao))) ao)))))))))))),?_⟩
  refine ⟨_,rfl,_,rfl,P0,a,ns,(most:Int),rfl,pc,hS,by omega,de.of_lt (by omega) (by omega),fun c H1 c0 c1 s1 p1=>⟨_,_,rfl,rfl,?_⟩⟩
  obtain ⟨c,rfl⟩:=Int.eq_ofNat_of_zero_le c0
  dsimp only [aT]
  rw [show 1+(c:Int)=((c+1:Nat):Int) by omega]
  have n1:1≤c+1:=by omega
  have nm:c+1≤most:=by omega
  generalize c+1=n at n1 nm ⊢
  have q8:aX K (er P0 H1) a (ns.map V.int):=aj.seq s1 hS
  refine ⟨_,rfl,P0,a,ns,6,rfl,p1,q8,by decide,de.of_lt (by decide) (by decide),fun way H2 _ _ s2 p2=>?_⟩
  have gR:=s1.trans s2
  dsimp only [aT]
  refine ⟨_,rfl,_,rfl,P0,a,ns,(n:Int),rfl,p2,aj.seq gR hS,by omega,de.of_lt (by omega) (by omega),fun wide H3 _ _ s3 p3=>?_⟩
  have gq:=gR.trans s3
  dsimp only [aT]
  refine ⟨by show 0≤sizeLine;decide,fun fd cI=>?_⟩
  have s4:aj H3 (upd H3 fd (.lst [])):=aU cI
  have ef:upd H3 fd (.lst []) fd=some (.lst []):=ar
  dsimp only [aT]
  generalize upd H3 fd (.lst [])=H4 at s4 ef ⊢
  have qK:=gq.trans (ay.of s4)
  have p4:=p3.mono s4
  have eK:fd≠P0:=p3.ne cI
  have As:er P0 H fd=none:=none_of gq (by rw [cL eK];exact cI)
  have qX:H fd=none:=by rw [cL eK] at As;exact As
  refine ⟨_,rfl,(n:Int),rfl,by omega,by omega,?_⟩
  rw [Int.toNat_natCast]
  refine i4 (fun j σ Hc=>∃(us:List V) (L:List (Int×Int)) (v6 v7:Option V),σ=[some (.ref P0),some (.int (most:Int)),some (.int (n:Int)),some (.int way),some (.int wide),some (.ref fd),v6,v7]∧ay P0 H Hc∧bo Hc P0 a∧Hc fd=some (.lst us)∧aN (er P0 Hc) us L∧dh j 0 L) ⟨[],[],_,_,rfl,qK,p4,ef,aN.nil _,dh.start⟩ ?_ ?_
  ·rintro j σ Hc hj ⟨us,L,v6,v7,rfl,sc,p5,cm,hL,ok⟩
   dsimp only [aT]
   simp only [List.set_cons_zero,List.set_cons_succ]
   refine ⟨_,rfl,(j:Int),by rw [Int.zero_add],by omega,by omega,?_⟩
   rw [Int.toNat_natCast]
   refine i4 (fun i σ Hd=>∃(us:List V) (L:List (Int×Int)) (v7:Option V),σ=[some (.ref P0),some (.int (most:Int)),some (.int (n:Int)),some (.int way),some (.int wide),some (.ref fd),some (.int (0+(j:Int))),v7]∧ay P0 H Hd∧bo Hd P0 a∧Hd fd=some (.lst us)∧aN (er P0 Hd) us L∧dh j i L) ⟨us,L,_,rfl,sc,p5,cm,hL,ok⟩ ?_ ?_
   ·rintro i σ Hd hi ⟨us,L,v7,rfl,sd,p6,cm,hL,ok⟩
    refine ⟨_,rfl,_,rfl,_,rfl,_,rfl,_,rfl,_,rfl,P0,a,ns,way,(n:Int),wide,0+(i:Int),0+(j:Int),rfl,p6,aj.seq sd hS,fun b He se pe=>?_⟩
    have u7:=se.at eK cm
    have Au:=hL.mono se
    have lL:=hL.1
    have l2:us.length≤900:=by
     have:=ok.b3
     have:j*(j-1)≤30*30:=Nat.mul_le_mul (by omega) (by omega)
     omega
    cases b with
    | true=>
     refine ⟨true,rfl,gC ?_⟩
     refine ⟨_,rfl,.inl ⟨rfl,_,.of u7⟩,_,rfl,_,rfl,by show 2≤sizeLine;decide,fun tp fK=>?_⟩
     have st:aj He (upd He tp (.tup [.int (0+(i:Int)),.int (0+(j:Int))])):=aU fK
     have et:upd He tp (.tup [.int (0+(i:Int)),.int (0+(j:Int))]) tp=some (.tup [.int (i:Int),.int (j:Int)]):=by rw [ar,Int.zero_add,Int.zero_add]
     generalize upd He tp (.tup [.int (0+(i:Int)),.int (0+(j:Int))])=Hf at st et ⊢
     have pf:=pe.mono st
     have Av:=st _ _ u7
     refine ⟨fd,us,_,rfl,rfl,Av,b5 (by omega),us++[.ref tp],L++[((i:Int),(j:Int))],_,rfl,((sd.trans se).trans (ay.of st)).but qX,pf.upd eK,ar,?_,ok.push hi⟩
     refine aN.bb (H:=er P0 Hf) ((Au.mono (ph st)).push (nu pf et)) (by rw [cL eK];exact Av) t7
    | false=>
     exact ⟨false,rfl,dN ⟨us,L,_,rfl,sd.trans se,pe,u7,Au,ok.skip⟩⟩
   ·rintro σ Hd ⟨us,L,v7,rfl,sd,p6,cm,hL,ok⟩
    exact ⟨us,L,_,_,rfl,sd,p6,cm,hL,ok.next⟩
  ·rintro σ Hc ⟨us,L,v6,v7,rfl,sc,p5,cm,hL,ok⟩
   dsimp only
   refine bU (yg (fun σ Hy=>∃(lk:Addr) (us:List V) (L:List (Int×Int)),σ=[some (.ref P0),some (.int (most:Int)),some (.int (n:Int)),some (.int way),some (.int wide),some (.ref lk),v6,v7]∧ay P0 H Hy∧bo Hy P0 a∧lk≠P0∧Hy lk=some (.lst us)∧aN (er P0 Hy) us L∧e8 n L) ?_ ?_)
   ·rintro σ Hy ⟨lk,us,L,rfl,sy,py,IG,IH,hL,ok⟩
    dsimp only
    refine ⟨_,rfl,_,rfl,_,rfl,_,rfl,(n:Int),rfl,fun pr II=>?_⟩
    have s6:aj Hy (upd Hy pr (.d7 0 (n:Int))):=aU II
    refine ⟨pr,n,rfl,ar,by omega,fun l0 n0=>?_⟩
    have s7:=s6.trans (aU (o:=.lst (bW n)) n0)
    have e0:upd (upd Hy pr (.d7 0 (n:Int))) l0 (.lst (bW n)) l0=some (.lst (bW n)):=ar
    have iH:l0≠P0:=(py.mono s6).ne n0
    generalize upd (upd Hy pr (.d7 0 (n:Int))) l0 (.lst (bW n))=Hz at s7 e0 ⊢
    have lu:(bW n).length=n:=by unfold bW;simp
    refine ⟨P0,a,l0,ns,bW n,rfl,py.mono s7,aj.seq (sy.trans (ay.of s7)) hS,iH,e0,by omega,fun r ys Hw sw pw fr nr nU pm=>?_⟩
    obtain ⟨IJ,ly,hy,NO⟩:=E8 pm
    have q_:=(ay.of s7).trans sw
    refine ⟨lk,r,n,us,ys,L,IJ,rfl,q_.at IG IH,(hL.mono q_).mono pb,ok,by omega,nU,ly,hy,NO,fun tt L' Hv sv Aw sh u9 IK MG=>?_⟩
    have nt:tt≠P0:=pw.ne Aw
    exact kk tt n L' Hv ((sy.trans q_).trans (ay.of sv)) (pw.mono sv) (none_of (sy.trans q_) (by rw [cL nt];exact Aw)) nt (sh.er (pw.mono sv)) u9 IK n1 nm
   ·intro R hR
    refine ⟨_,rfl,rfl,_,rfl,cp (fun _=>?_) (fun _=>?_)⟩
    ·refine ⟨_,rfl,_,rfl,P0,a,ns,n,rfl,p5,aj.seq sc hS,n1,by omega,fun r Ax L' Hy sy py fr nr nU IL u9=>?_⟩
     exact hR _ _ ⟨r,Ax,L',rfl,sc.trans sy,py,nr,nU,IL,u9⟩
    ·exact hR _ _ ⟨fd,us,L,rfl,sc,p5,eK,cm,hL,ok.ok⟩
theorem IM:bQ ["_law_shape","_law_found","_law_i","_law_j"] ["_law_shape"] (bg qA):=⟨rfl,rfl,rfl,by decide +kernel,rfl,by decide +kernel,by decide +kernel⟩
theorem IP(T:Txt K mg t):bx P w K mg base bT 1 t.jL t.lC ["_law_shape"] Gg:=by
 have S:=IM
 refine T.l7.ok S (fun vs H Q E h=>?_) (fun aJ A outer s H vs Q E hr h=>?_)
 ·obtain ⟨tp,n,L,rfl,_⟩:=h
  rfl
 ·obtain ⟨tp,n,L,rfl,⟨lt,us,bX,elt,hL⟩,ok,n9,l2,kk⟩:=h
  have uJ:((List.range n).map fun i:Nat=>V.int (0+(i:Int))).length=n:=by rw [List.length_map,List.length_range]
  refine ⟨_,(@ax _ _ _ _ _ (o7 (i0:=1) (N:=["_law_k"]) (ρ:=(fun σ=>[])) ⟨rfl,rfl,by decide +kernel,by decide +kernel,(List.forall_mem_nil _),eS (by rfl),rfl,by decide +kernel,rfl,(fun σ j v h=>match j,h with | j,h=>by cases h),(fun _ _=>rfl)⟩ rfl S.nd rfl (Or.inl rfl) (g6 rfl T.eI (@ae _ _ _ _ _ (by rfl) (@aQ _ _ _ _ _ _ _ cP (pv 0) av (fun _ _=>rfl)) ao)) (fun s₃ H₃ fp=>.nil) (fun s₃ H₃ fp=>(@cK _ _ _ _ ao)))
   (@ax _ _ _ _ _ (cO PassesOwn.never rfl (oo (@aQ _ _ _ _ _ _ _ cP (pv 0) av (fun _ _=>rfl))) (iW rfl (dI (bS (i:=2) S.nd rfl (Or.inl rfl)) (dI (bS (i:=3) S.nd rfl (Or.inl rfl)) iV)))
    (@ax _ _ _ _ _ (dt (c_ PySem.F.plainAttrs_list PySem.F.slot_list_append PySem.F.type_list_append dM (@aQ _ _ _ _ _ _ _ bL (pv 1) (pv 2) (fun _ _=>rfl)) (@ae _ _ _ _ _ (by rfl) (pv 3) ao)))
   (@aB _ _ _ (dt (c_ PySem.F.plainAttrs_list PySem.F.slot_list_append PySem.F.type_list_append dM (@aQ _ _ _ _ _ _ _ bL (pv 1) (pv 3) (fun _ _=>rfl)) (@ae _ _ _ _ _ (by rfl) (pv 2) ao))))))
   (@aB _ _ _ (@bD _ _ _ _ (pv 1))))),?_⟩
  refine bU (kC (m7 (xs:=(List.range n).map fun i:Nat=>V.int (0+(i:Int))) (n:=n) uJ (fun R h=>⟨_,rfl,tp,_,_,_,rfl,rfl,.of bX,rfl,(n:Int),rfl,by omega,by omega,h _ _ (aj.refl _) (by rw [Int.toNat_natCast];exact xC)⟩) (b5 (by omega)) (fun _ i y Hx=>Hx y=some (.lst [])∧H y=none) ?_ ?_ ?_))
  ·intro D i y Ha Hb ys ⟨h1,h2⟩ hy e f
   exact ⟨f y _ hy h1,h2⟩
  ·intro D i x hx Hc R sc _ kc
   exact ⟨Nat.zero_le _,fun p np=>kc p _ (cV (aj.refl _) np) np ⟨_,ar⟩ ⟨ar,none_of sc np⟩⟩
  ·intro D rs H1 nD s1 inj hA eD
   have K0:eG H1 D n rs (fun _=>[]):=⟨eD,inj,fun i hi=>(hA i hi).2,fun i hi=>(hA i hi).1.1⟩
   have fr:∀i,i<n→H (rs i)=none:=fun i hi=>(hA i hi).1.2
   dsimp only [aT]
   refine bU ⟨_,rfl,tp,_,_,_,rfl,rfl,.of (s1 _ _ bX),rfl,lt,rfl,⟨_,.of (s1 _ _ elt)⟩,?_⟩
   refine rN (K:=K) (a:=lt) (xs:=us) (fun k σ Hc=>∃(g:Nat→List Nat) (v2 v3:Option V),σ=[some (.ref tp),some (.ref D),v2,v3]∧aj H Hc∧eG Hc D n rs g∧di n (L.take k) g∧∀a,(g a).length≤2*k) ⟨_,_,_,rfl,s1,K0,di.nil n,fun _=>Nat.le_refl _⟩ (fun k σ Hc _ ⟨_,_,_,_,sc,_⟩=>.of (sc _ _ elt)) ?_ ?_
   ·rintro k x σ Hc hx ⟨g,v2,v3,rfl,sc,KL,nb,gl⟩
    have hk:k<L.length:=by
     rw [←hL.1]
     exact (List.getElem?_eq_some_iff.mp hx).1
    obtain ⟨b,rfl,eb⟩:=hL.2 k x L[k] hx (by simp [hk])
    have pk:=ok L[k] (List.getElem_mem hk)
    have tk:L.take (k+1)=L.take k++[L[k]]:=by rw [List.take_succ,List.getElem?_eq_getElem hk];rfl
    generalize L[k]=p at eb pk tk
    obtain ⟨p1,p2⟩:=p
    dsimp only at pk eb
    obtain ⟨i,rfl⟩:=Int.eq_ofNat_of_zero_le pk.1
    obtain ⟨j,rfl⟩:=Int.eq_ofNat_of_zero_le pk.2.2.1
    have hi:i<n:=by omega
    have hj:j<n:=by omega
    refine ⟨b,_,rfl,.of (sc _ _ eb),rfl,_,_,rfl,_,_,rfl,rfl,?_⟩
    have off:∀(Hx:Hp) (i:Nat) (o:HO),i<n→aj H Hx→aj H (upd Hx (rs i) o):=fun Hx i o hi sx a u e=>by
     rw [aA (fun z=>by rw [z,fr i hi] at e;cases e)]
     exact sx _ _ e
    have K1:=KL.snoc j hi
    have K2:=K1.snoc i hj
    have g1:=gl i
    have g2:(fg g i j j).length≤2*k+1:=Nat.le_trans nG (by have:=gl j;omega)
    refine ⟨_,rfl,_,rfl,D,_,_,_,rfl,rfl,.of KL.lst,gN hi,.inl ⟨rfl,_,.of (KL.at' i hi)⟩,_,rfl,rs i,_,_,rfl,rfl,KL.at' i hi,b5 (by rw [List.length_map];omega),?_⟩
    refine ⟨_,rfl,_,rfl,D,_,_,_,rfl,rfl,.of K1.lst,gN hj,.inl ⟨rfl,_,.of (K1.at' j hj)⟩,_,rfl,rs j,_,_,rfl,rfl,K1.at' j hj,b5 (by rw [List.length_map];omega),?_⟩
    exact ⟨_,_,_,rfl,off _ _ _ hj (off _ _ _ hi sc),K2,by rw [tk];exact nb.snoc,fun a=>Nat.le_trans nG (by have:=nG (g:=g) (i:=i) (j:=j) (a:=a);have:=gl a;omega)⟩
   ·rintro σ Hc ⟨g,v2,v3,rfl,sc,KL,nb,gl⟩
    rw [hL.1,List.take_length] at nb
    rw [hL.1] at gl
    exact ⟨_,rfl,kk _ _ _ _ sc nD fr KL nb gl⟩
theorem IQ:bQ ["_law_beside_here","_law_through","_law_start","_law_met","_law_row","_law_other"] ["_law_beside_here","_law_through","_law_start"] (bg qB):=⟨rfl,rfl,rfl,by decide +kernel,rfl,by decide +kernel,by decide +kernel⟩
theorem IS(T:Txt K mg t):bx P w K mg base bT 1 t.jM t.lE ["_law_beside_here","_law_through","_law_start"] Gd:=by
 have S:=IQ
 refine T.l8.ok S (fun vs H Q E h=>?_) (fun aJ A outer s H vs Q E hr h=>?_)
 ·obtain ⟨D,d,n,rs,g,done,p,rfl,_⟩:=h
  rfl
 ·obtain ⟨D,d,n,rs,g,done,p,rfl,KL,gn,ed,ld,pn,zU,kk⟩:=h
  have hu:=Nat.lt_of_le_of_lt (Nat.add_le_add_left (show 1≤64 by decide) _) hr.units
  have gp:=hr.units
  refine ⟨_,(@ax _ _ _ _ _ (@ba _ _ 3 _ _ _ _ (by rfl) (by first | exact .inl rfl | exact .inr rfl | assumption) S.nd rfl (Or.inl rfl) (Ft (Fq (pv 2) eQ Fp) rfl rfl (fun h=>by cases h) (by decide)))
   (@ax _ _ _ _ _ (@ba _ _ 4 _ _ _ _ (by rfl) (by first | exact .inl rfl | exact .inr rfl | assumption) S.nd rfl (Or.inl rfl) (@cK _ _ _ _ (@ae _ _ _ _ _ (by rfl) (pv 2) ao)))
   (@ax _ _ _ _ _ (@wc _ _ _ _ _ _ PassesOwn.never (@b7 _ _ _ _ _ _ _ _ (yf gp) (pv 4) (@cK _ _ _ _ ao) (bK _)) (@aB _ _ _ (cO PassesOwn.never rfl (ee (@aQ _ _ _ _ _ _ _ bL (pv 0) (CY PySem.F.plainAttrs_list PySem.F.slot_list_pop PySem.F.type_list_pop C6 (pv 4)) (fun _ _=>rfl))) (bS (i:=5) S.nd rfl (Or.inl rfl))
    (@aB _ _ _ (@cf _ _ _ _ _ _ _ _ (vV (Fm hu (pv 5) (pv 3)) rfl) (@ax _ _ _ _ _ (pW hu (pv 3) (pv 5) eQ rfl)
   (@aB _ _ _ (@cf _ _ _ _ _ _ _ _ (@b7 _ _ _ _ _ _ _ _ CU (pv 5) (pv 1) rfl) (@aB _ _ _ (dt (c_ PySem.F.plainAttrs_list PySem.F.slot_list_append PySem.F.type_list_append dM (pv 4) (@ae _ _ _ _ _ (by rfl) (pv 5) ao)))) cw))) cw)))))
   (@aB _ _ _ (@bD _ _ _ _ (pv 3)))))),?_⟩
  refine bU (kC fun mt mq=>⟨_,rfl,ar,[((Sum.inl (p:Int):Key),V.bl true)],rfl,by show 1≤15;decide,?_⟩)
  have s0:∀b o,b≠mt→H b=some o→upd (upd H mt (.dK [])) mt (.dK (ir [] [((Sum.inl (p:Int):Key),V.bl true)])) b=some o:=fun b o ne e=>by rw [aA ne,aA ne];exact e
  have em:upd (upd H mt (.dK [])) mt (.dK (ir [] [((Sum.inl (p:Int):Key),V.bl true)])) mt=some (.dK (dk [p])):=by rw [ar];rfl
  generalize upd (upd H mt (.dK [])) mt (.dK (ir [] [((Sum.inl (p:Int):Key),V.bl true)]))=H1 at s0 em ⊢
  have sm:aj H H1:=fun b o e=>s0 b o (fun z=>by rw [z,mq] at e;cases e) e
  dsimp only [aT]
  refine ⟨_,rfl,by show 1≤sizeLine;decide,fun l nl=>?_⟩
  have sl:aj H1 (upd H1 l (.lst [V.int (p:Int)])):=aU nl
  have el:upd H1 l (.lst [V.int (p:Int)]) l=some (.lst (([p]:List Nat).map fun k:Nat=>V.int (k:Int))):=ar
  generalize upd H1 l (.lst [V.int (p:Int)])=H2 at sl el ⊢
  have iH:H l=none:=none_of sm nl
  have lm:l≠mt:=fun z=>by rw [z,em] at nl;cases nl
  have s2:=sm.trans sl
  dsimp only [aT]
  refine bU ⟨fun m σ Hc=>∃(ks ws:List Nat) (v5:Option V),σ=[some (.ref D),some (.ref d),some (.int (p:Int)),some (.ref mt),some (.ref l),v5]∧m=2*(n-ks.length)+ws.length∧aj H Hc∧Hc mt=some (.dK (dk ks))∧Hc l=some (.lst (ws.map fun k:Nat=>V.int (k:Int)))∧cu n (iA n g) (·∈done) p none (fun _=>True) ks ws∧ws.length≤ks.length,⟨_,[p],[p],_,rfl,rfl,s2,sl _ _ em,el,cu.start pn,Nat.le_refl _⟩,?_⟩
  rintro m' σ Hc ⟨ks,ws,v5,rfl,MJ,oc,Ay,gr,wk,wl⟩
  have IT:=wk.pl.len
  refine ⟨_,rfl,by show 0≤sizeLine;decide,fun le uW=>?_⟩
  have s3:aj Hc (upd Hc le (.lst [])):=aU uW
  have e3:upd Hc le (.lst []) le=some (.lst []):=ar
  generalize upd Hc le (.lst [])=Hn at s3 e3 ⊢
  refine ⟨l,le,_,rfl,rfl,.of (s3 _ _ gr),e3,_,rfl,cp (fun hz=>?_) (fun hz=>?_)⟩
  ·have Az:ws≠[]:=fun z=>by rw [z] at hz;cases hz
   obtain ⟨us,h,rfl⟩:∃us h,ws=us++[h]:=⟨ws.dropLast,ws.getLast Az,(List.dropLast_concat_getLast Az).symm⟩
   have MK:(us++[h]).length=us.length+1:=by simp
   have hh:=wk.wt h (List.mem_append_right _ (List.mem_singleton.mpr rfl))
   have hn:h<n:=wk.pl.2 h hh.1
   have n4:=wk.pop
   refine ⟨_,fun _ _ h=>h,?_⟩
   refine ⟨_,rfl,_,rfl,.inl ⟨rfl,_,.of (s3 _ _ gr)⟩,l,_,.int (h:Int),rfl,rfl,s3 _ _ gr,by simp,?_⟩
   rw [List.map_append,List.map_cons,List.map_nil,List.dropLast_concat]
   have sn:=oc.trans s3
   have o1:∀b u,b≠l→Hn b=some u→upd Hn l (.lst (us.map fun k:Nat=>V.int (k:Int))) b=some u:=fun b u ne e=>by rw [aA ne];exact e
   have AA:upd Hn l (.lst (us.map fun k:Nat=>V.int (k:Int))) l=some (.lst (us.map fun k:Nat=>V.int (k:Int))):=ar
   have AB:∀{Hx Hy:Hp},aj H Hx→(∀b u,b≠l→Hx b=some u→Hy b=some u)→aj H Hy:=fun h k b u e=>k b u (fun z=>by rw [z,iH] at e;cases e) (h b u e)
   have IU:∀{Hx Hy:Hp},aj H Hx→(∀b u,b≠mt→Hx b=some u→Hy b=some u)→aj H Hy:=fun h k b u e=>k b u (fun z=>by rw [z,mq] at e;cases e) (h b u e)
   have rd:=AB sn o1
   have AD:=o1 _ _ (Ne.symm lm) (s3 _ _ Ay)
   generalize upd Hn l (.lst (us.map fun k:Nat=>V.int (k:Int)))=H3 at o1 AA rd AD ⊢
   refine ⟨D,_,_,_,rfl,rfl,.of (rd _ _ KL.lst),gN hn,rs h,rfl,⟨_,.of (rd _ _ (KL.at' h hn))⟩,?_⟩
   refine ke (K:=K) (a:=rs h) (xs:=(g h).map fun k:Nat=>V.int (k:Int)) (fun i σ He=>∃(ks us:List Nat) (v5:Option V),σ=[some (.ref D),some (.ref d),some (.int (p:Int)),some (.ref mt),some (.ref l),v5]∧aj H He∧He mt=some (.dK (dk ks))∧He l=some (.lst (us.map fun k:Nat=>V.int (k:Int)))∧cu n (iA n g) (·∈done) p (some h) (·∈(g h).take i) ks us∧us.length≤ks.length∧h∈ks∧2*(n-ks.length)+us.length<m') ⟨ks,us,_,rfl,rd,AD,AA,⟨n4.pl,n4.st,n4.rc,n4.wt,fun x hx ox=>(n4.cl x hx ox).imp id fun e b hb=>(e b hb).imp id fun z=>⟨z.1,by simp⟩⟩,by omega,hh.1,by omega⟩ (fun i σ He _ ⟨_,_,_,_,e,_⟩=>.of (e _ _ (KL.at' h hn))) ?_ ?_
   ·rintro i x σ He hx ⟨ks,us,v5,rfl,oe,n5,rg,iI,ul,gS,lt⟩
    obtain ⟨k,hk,rfl⟩:∃k:Nat,(g h)[i]?=some k∧x=.int (k:Int):=by
     rw [List.getElem?_map] at hx
     cases e:(g h)[i]? with
     | none=>rw [e] at hx;cases hx
     | some q=>rw [e] at hx;exact ⟨q,rfl,(Option.some.inj hx).symm⟩
    have km:k∈g h:=List.mem_of_getElem? hk
    have kn:k<n:=gn h hn k km
    have tk:=take_snoc hk
    have ML:=iI.pl.len
    dsimp only [aT]
    refine ⟨_,rfl,_,rfl,mt,_,rfl,.inl ⟨dk ks,Sum.inl (k:Int),.inl n5,rfl,rfl⟩,_,rfl,?_⟩
    rw [yz]
    by_cases mr:k∈ks
    ·rw [if_pos mr]
     refine dN ⟨ks,us,_,rfl,oe,n5,rg,?_,ul,gS,lt⟩
     have w2:=iI.old mr
     refine ⟨w2.pl,w2.st,w2.rc,w2.wt,fun x hx ox=>(w2.cl x hx ox).imp id fun e b hb=>(e b hb).imp id fun z=>⟨z.1,fun q=>z.2 ?_⟩⟩
     rw [tk] at q
     exact (List.mem_append.mp q).imp id List.mem_singleton.mp
    ·rw [if_neg mr]
     refine gC ?_
     have al:=Ga mr
     have o4:∀b u,b≠mt→He b=some u→upd He mt (.dK (dk (bG ks k))) b=some u:=fun b u ne e=>by rw [aA ne];exact e
     refine bU ⟨_,rfl,_,rfl,mt,upd He mt (.dK (dk (bG ks k))),rfl,.inl ⟨dk ks,Sum.inl (k:Int),n5,rfl,by rw [yx];exact b5 (by omega),by rw [yy]⟩,?_⟩
     have u_:upd He mt (.dK (dk (bG ks k))) mt=some (.dK (dk (bG ks k))):=ar
     have rh:=IU oe o4
     have rj:=o4 _ _ lm rg
     generalize upd He mt (.dK (dk (bG ks k)))=H4 at o4 u_ rh rj ⊢
     have conv:∀{vs:List Nat},cu n (iA n g) (·∈done) p (some h) (fun x=>x∈(g h).take i∨x=k) (bG ks k) vs→cu n (iA n g) (·∈done) p (some h) (·∈(g h).take (i+1)) (bG ks k) vs:=fun w2=>⟨w2.pl,w2.st,w2.rc,w2.wt,fun x hx ox=>(w2.cl x hx ox).imp id fun e b hb=>(e b hb).imp id fun z=>⟨z.1,fun q=>z.2 (by
      rw [tk] at q
      exact (List.mem_append.mp q).imp id List.mem_singleton.mp)⟩⟩
     have MM:=(iI.pl.add kn).len
     dsimp only
     refine ⟨_,rfl,_,rfl,d,_,rfl,.inl (.of (rh _ _ ed)),rfl,Gb done,_,rfl,cp (fun hb=>?_) (fun hb=>?_)⟩
     ·have hb:kj (.int (k:Int)) (done.map fun k:Nat=>V.int (k:Int))=true:=hb
      rw [yF,decide_eq_true_iff] at hb
      refine ⟨_,rfl,.inl ⟨rfl,_,.of rj⟩,_,rfl,l,_,_,rfl,rfl,rj,b5 (by rw [List.length_map];omega),?_⟩
      have o5:∀b u,b≠l→H4 b=some u→upd H4 l (.lst ((us.map fun k:Nat=>V.int (k:Int))++[V.int (k:Int)])) b=some u:=fun b u ne e=>by rw [aA ne];exact e
      exact ⟨bG ks k,us++[k],_,rfl,AB rh o5,o5 _ _ (Ne.symm lm) u_,by rw [ar,List.map_append];rfl,conv (iI.new mr kn gS hh.2 ⟨hn,km⟩ (.inl ⟨hb,rfl⟩)),by rw [al,List.length_append,List.length_singleton];omega,dZ.mpr (.inl gS),by rw [al,List.length_append,List.length_singleton];omega⟩
     ·have hb:¬kj (.int (k:Int)) (done.map fun k:Nat=>V.int (k:Int))=true:=hb
      rw [yF,decide_eq_true_iff] at hb
      exact ⟨bG ks k,us,_,rfl,rh,u_,rj,conv (iI.new mr kn gS hh.2 ⟨hn,km⟩ (.inr ⟨hb,rfl⟩)),by rw [al];omega,dZ.mpr (.inl gS),by rw [al];omega⟩
   ·rintro σ He ⟨ks,us,v5,rfl,oe,n5,rg,iI,ul,gS,lt⟩
    rw [List.length_map,List.take_length] at iI
    exact ⟨_,lt,ks,us,_,rfl,rfl,oe,n5,rg,iI.next fun b hb=>hb.2,ul⟩
  ·have w0:ws=[]:=by
    cases ws with
    | nil=>rfl
    | cons x r=>exact absurd rfl hz
   subst w0
   exact ⟨_,rfl,kk _ mt ks (oc.trans s3) mq (s3 _ _ Ay) wk.pl wk.done⟩
theorem IV:bQ ["_law_shape","_law_order","_law_beside_here","_law_found","_law_k","_law_ahead","_law_met","_law_other"] ["_law_shape","_law_order"] (bg qC):=⟨rfl,rfl,rfl,by decide +kernel,rfl,by decide +kernel,by decide +kernel⟩
theorem IW(T:Txt K mg t):bx P w K mg base bT 3 t.jN t.lF ["_law_shape","_law_order"] Gm:=by
 have S:=IV
 have IY:=IP (P:=P) (w:=w) (base:=base) T
 have IZ:=IS (P:=P) (w:=w) (base:=base) T
 refine T.l9.ok S (fun vs H Q E h=>?_) (fun aJ A outer s H vs Q E hr h=>?_)
 ·obtain ⟨tp,a,n,L,o,rfl,_⟩:=h
  rfl
 ·obtain ⟨tp,a,n,L,o,rfl,n6,fH,AE,l2,ea,ho,kk⟩:=h
  have hu:=Nat.lt_of_le_of_lt (Nat.add_le_add_left (show 1≤64 by decide) _) hr.units
  have lo:=gK ho
  have nd:=nE ho
  have lm:(o.map fun k:Nat=>V.int (k:Int)).length=n:=by rw [List.length_map,lo]
  have I0:∀k,k<n→eA (o.map fun k:Nat=>V.int (k:Int)) (k:Int)=some (.int ((o.getD k 0:Nat):Int)):=fun k hk=>by
   refine i6 ?_
   rw [List.getElem?_map,List.getElem?_eq_getElem (by omega),List.getD_eq_getElem?_getD,List.getElem?_eq_getElem (by omega)]
   rfl
  have AF:∀k,k<n→o.getD k 0<n∧o.idxOf (o.getD k 0)=k:=fun k hk=>by
   have e:o.getD k 0=o[k]'(by omega):=by simp [List.getD_eq_getElem?_getD,show k<o.length by omega]
   rw [e]
   exact ⟨(d5 ho).mp (List.getElem_mem _),nF nd _⟩
  refine ⟨_,(@ax _ _ _ _ _ (@ba _ _ 2 _ _ _ _ (by rfl) (by first | exact .inl rfl | exact .inr rfl | assumption) S.nd rfl (Or.inl rfl) (a_ IY (hr.mono (by decide)) rfl T.zF T.l7.kp T.zE .nil bA (@ae _ _ _ _ _ (by rfl) (pv 0) ao)))
   (@ax _ _ _ _ _ (@ba _ _ 3 _ _ _ _ (by rfl) (by first | exact .inl rfl | exact .inr rfl | assumption) S.nd rfl (Or.inl rfl) (@cK _ _ _ _ ao))
   (@ax _ _ _ _ _ (cO PassesOwn.never rfl (g6 rfl T.eI (@ae _ _ _ _ _ (by rfl) (@aQ _ _ _ _ _ _ _ cP (pv 0) av (fun _ _=>rfl)) ao)) (bS (i:=4) S.nd rfl (Or.inl rfl))
    (@ax _ _ _ _ _ (@ba _ _ 5 _ _ _ _ (by rfl) (by first | exact .inl rfl | exact .inr rfl | assumption) S.nd rfl (Or.inl rfl) (@sC _ _ _ _ _ _ _ _ _ _ w_ (pv 1) sr (su (pv 4))))
   (@ax _ _ _ _ _ (@ba _ _ 6 _ _ _ _ (by rfl) (by first | exact .inl rfl | exact .inr rfl | assumption) S.nd rfl (Or.inl rfl) (a_ IZ (hr.mono (by decide)) rfl T.zH T.l8.kp T.zG .nil bA (@ae _ _ _ _ _ (by rfl) (pv 2) (@ae _ _ _ _ _ (by rfl) (pv 5) (@ae _ _ _ _ _ (by rfl) (@aQ _ _ _ _ _ _ _ bL (pv 1) (pv 4) (fun _ _=>rfl)) ao)))))
   (@aB _ _ _ (cO PassesOwn.never rfl (ee (@sC _ _ _ _ _ _ _ _ _ _ w_ (pv 1) (su (@bw _ _ _ _ _ _ _ _ fQ (pv 4) av)) sr)) (bS (i:=7) S.nd rfl (Or.inl rfl))
    (@aB _ _ _ (@cf _ _ _ _ _ _ _ _ (vV (Fl hu (pv 7) (pv 6)) rfl) (@aB _ _ _ (dt (c_ PySem.F.plainAttrs_list PySem.F.slot_list_append PySem.F.type_list_append dM (pv 3) (@ae _ _ _ _ _ (by rfl) (@g_ _ _ _ _ _ (@ae _ _ _ _ _ (by rfl) (bR (rW rfl) rfl T.qI boot_min (@ae _ _ _ _ _ (by rfl) (@aQ _ _ _ _ _ _ _ bL (pv 1) (pv 4) (fun _ _=>rfl)) (@ae _ _ _ _ _ (by rfl) (pv 7) ao))) (@ae _ _ _ _ _ (by rfl) (bR (rV rfl) rfl T.qJ boot_max (@ae _ _ _ _ _ (by rfl) (@aQ _ _ _ _ _ _ _ bL (pv 1) (pv 4) (fun _ _=>rfl)) (@ae _ _ _ _ _ (by rfl) (pv 7) ao))) ao))) ao)))) cw)))))))
   (@aB _ _ _ (@bD _ _ _ _ (@g_ _ _ _ _ _ (@ae _ _ _ _ _ (by rfl) (@aQ _ _ _ _ _ _ _ cP (pv 0) av (fun _ _=>rfl)) (@ae _ _ _ _ _ (by rfl) (fk sF rfl T.jT boot_tuple (@ae _ _ _ _ _ (by rfl) (bR tY rfl T.jU PyProof.Rows.boot_sorted (@ae _ _ _ _ _ (by rfl) (pv 3) ao)) ao)) ao)))))))),?_⟩
  refine bU ⟨_,rfl,tp,n,L,rfl,n6,fH,by omega,l2,fun H1 D rs g s1 nD qQ KL nb MN=>?_⟩
  have gn:∀i,i<n→∀j∈g i,j<n:=fun i hi j hj=>by
   rcases (nb i j hi).mp hj with e | e
   ·have:=fH _ e
    omega
   ·have:=fH _ e
    omega
  dsimp only [aT]
  refine bU ⟨Nat.zero_le _,fun fd cI=>?_⟩
  have s2:aj H1 (upd H1 fd (.lst [])):=aU cI
  have AG:upd H1 fd (.lst []) fd=some (.lst []):=ar
  dsimp only [aT]
  generalize upd H1 fd (.lst [])=H2 at s2 AG ⊢
  have AH:H fd=none:=none_of s1 cI
  have gR:=s1.trans s2
  obtain ⟨lt,MO,bX,elt,ko⟩:=id (n6.mono gR)
  have I_:eG H2 D n rs g:=⟨s2 _ _ KL.lst,KL.inj,KL.ne,fun i hi=>s2 _ _ (KL.at' i hi)⟩
  have Df:D≠fd:=fun z=>by rw [z] at KL;rw [KL.lst] at cI;cases cI
  have rf:∀i,i<n→rs i≠fd:=fun i hi z=>by have:=KL.at' i hi;rw [z,cI] at this;cases this
  refine bU ⟨_,rfl,tp,_,_,_,rfl,rfl,.of bX,rfl,_,rfl,by omega,by omega,?_⟩
  rw [Int.toNat_natCast]
  refine i4 (fun k σ Hc=>∃(us:List V) (M:List (Int×Int)) (v4 v5 v6 v7:Option V),σ=[some (.ref tp),some (.ref a),some (.ref D),some (.ref fd),v4,v5,v6,v7]∧aj H Hc∧eG Hc D n rs g∧Hc fd=some (.lst us)∧aN Hc us M∧cT n L o k 0 M∧M.length≤k*30) ⟨[],[],_,_,_,_,rfl,gR,I_,AG,aN.nil _,cT.start n L o,Nat.zero_le _⟩ ?_ ?_
  ·rintro k σ Hc hk ⟨us,M,v4,v5,v6,v7,rfl,sc,n8,ef,hU,fl,lM⟩
   obtain ⟨pn,ip⟩:=AF k hk
   have rm:=I0 k hk
   generalize o.getD k 0=p at pn ip rm
   have jW:=sc _ _ ea
   dsimp only [aT]
   refine bU ⟨_,rfl,_,rfl,_,rfl,a,_,rfl,.of jW,fun ah Ja=>?_⟩
   rw [Int.zero_add]
   have cA:cy (o.map fun k:Nat=>V.int (k:Int)) none (some (k:Int))=(o.take k).map fun k:Nat=>V.int (k:Int):=by rw [DX,List.map_take]
   rw [cA]
   have s3:aj Hc (upd Hc ah (.lst ((o.take k).map fun k:Nat=>V.int (k:Int)))):=aU Ja
   have AI:upd Hc ah (.lst ((o.take k).map fun k:Nat=>V.int (k:Int))) ah=some (.lst ((o.take k).map fun k:Nat=>V.int (k:Int))):=ar
   dsimp only [aT]
   generalize upd Hc ah (.lst ((o.take k).map fun k:Nat=>V.int (k:Int)))=H3 at s3 AI ⊢
   have me:=sc.trans s3
   have Jb:eG H3 D n rs g:=⟨s3 _ _ n8.lst,KL.inj,KL.ne,fun i hi=>s3 _ _ (n8.at' i hi)⟩
   refine bU ⟨_,rfl,_,rfl,_,rfl,_,rfl,a,_,_,_,rfl,rfl,.of (s3 _ _ jW),rm,D,ah,n,rs,g,o.take k,p,rfl,Jb,gn,AI,by rw [List.length_take];omega,pn,by omega,fun H4 mt ks s4 mq Jc IT gS=>?_⟩
   have qZ:=me.trans s4
   have AJ:=s3.trans s4
   dsimp only [aT]
   refine ⟨_,rfl,_,rfl,_,_,rfl,rfl,_,rfl,a,_,rfl,.of (qZ _ _ ea),fun bh va=>?_⟩
   have cB:cy (o.map fun k:Nat=>V.int (k:Int)) (some ((k:Int)+1)) none=(o.drop (k+1)).map fun k:Nat=>V.int (k:Int):=by
    have:=F9 (o.map fun k:Nat=>V.int (k:Int)) (k+1) (by rw [lm];omega)
    rw [show ((k+1:Nat):Int)=(k:Int)+1 from rfl] at this
    rw [this,List.map_drop]
   rw [cB]
   have s5:aj H4 (upd H4 bh (.lst ((o.drop (k+1)).map fun k:Nat=>V.int (k:Int)))):=aU va
   have vb:upd H4 bh (.lst ((o.drop (k+1)).map fun k:Nat=>V.int (k:Int))) bh=some (.lst ((o.drop (k+1)).map fun k:Nat=>V.int (k:Int))):=ar
   generalize upd H4 bh (.lst ((o.drop (k+1)).map fun k:Nat=>V.int (k:Int)))=H5 at s5 vb ⊢
   have rn:=AJ.trans s5
   have nY:=qZ.trans s5
   have Jd:=rn _ _ ef
   have AK:eG H5 D n rs g:=⟨rn _ _ n8.lst,KL.inj,KL.ne,fun i hi=>rn _ _ (n8.at' i hi)⟩
   have Je:bh≠fd:=fun z=>by rw [z,AJ _ _ ef] at va;cases va
   have Jf:mt≠fd:=fun z=>by rw [z,s3 _ _ ef] at mq;cases mq
   refine ⟨bh,rfl,⟨_,.of vb⟩,?_⟩
   refine ke (K:=K) (a:=bh) (xs:=(o.drop (k+1)).map fun k:Nat=>V.int (k:Int)) (fun j σ Hd=>∃(us:List V) (M:List (Int×Int)) (v7:Option V),σ=[some (.ref tp),some (.ref a),some (.ref D),some (.ref fd),some (.int (k:Int)),some (.ref ah),some (.ref mt),v7]∧(∀b u,b≠fd→H5 b=some u→Hd b=some u)∧Hd fd=some (.lst us)∧aN Hd us M∧cT n L o k j M∧M.length≤k*30+j) ⟨us,M,_,rfl,fun _ _ _ e=>e,Jd,hU.mono rn,fl,lM⟩ (fun j σ Hd _ ⟨_,_,_,_,e,_⟩=>.of (e _ _ Je vb)) ?_ ?_
   ·rintro j x σ Hd hx ⟨us,M,v7,rfl,od,cm,n_,fld,AL⟩
    have hj:k+1+j<n:=by
     have:=(List.getElem?_eq_some_iff.mp hx).1
     rw [List.length_map,List.length_drop,lo] at this
     omega
    obtain ⟨qn,iq⟩:=AF (k+1+j) hj
    have ex:x=.int ((o.getD (k+1+j) 0:Nat):Int):=by
     rw [List.getElem?_map,List.getElem?_drop,List.getElem?_eq_getElem (by omega)] at hx
     rw [List.getD_eq_getElem?_getD,List.getElem?_eq_getElem (by omega)]
     exact (Option.some.inj hx).symm
    subst ex
    generalize o.getD (k+1+j) 0=q at qn iq ⊢
    have ne:q≠p:=fun e=>by subst e;omega
    have mw:=Gn ho nb fH (k:=k) (by omega) ne
    have Jg:=od _ _ Jf (s5 _ _ Jc)
    have AM:Hd a=_:=od _ _ (fun z=>by rw [z,AH] at ea;cases ea) (nY _ _ ea)
    have lU:=n_.1
    dsimp only [aT]
    refine ⟨_,rfl,_,rfl,mt,_,rfl,.inl ⟨dk ks,Sum.inl (q:Int),.inl Jg,rfl,rfl⟩,_,rfl,?_⟩
    rw [yz]
    by_cases qk:q∈ks
    ·rw [if_pos qk]
     have wq:=mw.mp ((gS q).mp qk)
     refine gC ?_
     refine ⟨_,rfl,.inl ⟨rfl,_,.of cm⟩,_,rfl,_,rfl,a,_,_,_,rfl,rfl,.of AM,rm,_,rfl,_,_,rfl,_,rfl,_,rfl,a,_,_,_,rfl,rfl,.of AM,rm,_,rfl,_,_,rfl,by show 2≤sizeLine;decide,fun tq mf=>?_⟩
     have st:aj Hd (upd Hd tq (.tup [.int (bO p q).1,.int (bO p q).2])):=aU mf
     have Jh:upd Hd tq (.tup [.int (bO p q).1,.int (bO p q).2]) tq=some (.tup [.int (bO p q).1,.int (bO p q).2]):=ar
     change ∃l xs u,_
     refine ⟨fd,us,_,rfl,rfl,st _ _ cm,b5 (by omega),us++[.ref tq],M++[bO p q],_,rfl,fun b u nb e=>by rw [aA nb];exact st _ _ (od b u nb e),ar,?_,fld.put ho pn qn ip iq wq,by rw [List.length_append];simp;omega⟩
     exact ((n_.mono st).push Jh).bb (st _ _ cm) fun b o nb e=>by rw [aA nb];exact e
    ·rw [if_neg qk]
     have wq:¬Wk (aL n L) (d6 n o k) p q:=fun h=>qk ((gS q).mpr (mw.mpr h))
     exact dN ⟨us,M,_,rfl,od,cm,n_,fld.skip ho pn qn ip iq wq,by omega⟩
   ·rintro σ Hd ⟨us,M,v7,rfl,od,cm,n_,fld,AL⟩
    rw [List.length_map,List.length_drop,lo] at fld AL
    exact ⟨us,M,_,_,_,_,rfl,fun b u e=>od b u (fun z=>by rw [z,AH] at e;cases e) (nY _ _ e),⟨od _ _ Df AK.lst,KL.inj,KL.ne,fun i hi=>od _ _ (rf i hi) (AK.at' i hi)⟩,cm,n_,fld.row ho (by omega),by rw [Nat.add_mul];omega⟩
  ·rintro σ Hc ⟨us,M,v4,v5,v6,v7,rfl,sc,n8,ef,hU,fl,lM⟩
   obtain ⟨lt',Ax,Ji,MP,MQ⟩:=id (n6.mono sc)
   have MR:M.length≤900:=Nat.le_trans lM (by omega)
   dsimp only
   refine ⟨_,rfl,tp,_,_,_,rfl,rfl,.of Ji,rfl,_,rfl,?_⟩
   dsimp only [oE]
   refine yH ef hU (by omega) (fl.bd (by omega)) fun l' ws N H3 s3 jl jj hN pN oN=>?_
   refine ⟨l',ws,rfl,.inl ⟨.of jj,fun lt nO=>?_⟩⟩
   have cU:aj H3 (upd H3 lt (.tup ws)):=aU nO
   have nQ:upd H3 lt (.tup ws) lt=some (.tup ws):=ar
   generalize upd H3 lt (.tup ws)=Hd at cU nQ ⊢
   refine ⟨by show 2≤sizeLine;decide,fun tq mf=>?_⟩
   have st:aj Hd (upd Hd tq (.tup [.int (n:Int),.ref lt])):=aU mf
   exact kk _ tq N ((sc.trans s3).trans (cU.trans st)) ⟨lt,ws,ar,st _ _ nQ,(hN.mono cU).mono st⟩ (fl.done ho pN oN (by omega))
theorem Jj:bQ ["_law_due","_law_order","_law_found","_law_i","_law_j"] ["_law_due","_law_order"] (bg qD):=⟨rfl,rfl,rfl,by decide +kernel,rfl,by decide +kernel,by decide +kernel⟩
theorem Jk(T:Txt K mg t):bx P w K mg base bT 1 t.jO t.lG ["_law_due","_law_order"] GU:=by
 have S:=Jj
 refine T.l_.ok S (fun vs H Q E h=>?_) (fun aJ A outer s H vs Q E hr h=>?_)
 ·obtain ⟨tp,a,n,L,M,o,rfl,_⟩:=h
  rfl
 ·obtain ⟨tp,a,n,L,M,o,rfl,⟨lt,us,bX,elt,hM⟩,fs,lM,AE,ea,ho,kk⟩:=h
  have lo:=gK ho
  have Jl:(o.map fun k:Nat=>V.int (k:Int)).length=n:=by rw [List.length_map,lo]
  have qc:M.Nodup:=List.Pairwise.imp (fun h e=>by subst e;exact t8 h) fs.1
  have rp:∀p,p<n→(o.map iN)[o.idxOf p]?=some (p:Int)∧∀m,m<o.idxOf p→(o.map iN)[m]?≠some (p:Int):=fun p hp=>by
   obtain ⟨h1,h2⟩:=gM ((d5 ho).mpr hp)
   refine ⟨?_,fun m hm e=>?_⟩
   ·rw [List.getElem?_map,List.getElem?_eq_getElem h1,h2]
    rfl
   ·have AN:m<o.length:=by omega
    rw [List.getElem?_map,List.getElem?_eq_getElem AN] at e
    have e':((o[m]:Nat):Int)=(p:Int):=Option.some.inj e
    have:=yL hm
    rw [List.getElem?_eq_getElem AN] at this
    exact this (congrArg some (by omega))
  refine ⟨_,(@ax _ _ _ _ _ (o7 (i0:=2) (N:=["_law_place"]) (ρ:=(fun σ=>[])) ⟨rfl,rfl,by decide +kernel,by decide +kernel,(List.forall_mem_nil _),eS (by rfl),rfl,by decide +kernel,rfl,(fun σ j v h=>match j,h with | j,h=>by cases h),(fun _ _=>rfl)⟩ rfl S.nd rfl (Or.inl rfl) (ee (pv 1)) (fun s₃ H₃ fp=>.nil) (fun s₃ H₃ fp=>(@cK _ _ _ _ ao)))
   (@ax _ _ _ _ _ (cO PassesOwn.never rfl (oo (@aQ _ _ _ _ _ _ _ cP (pv 0) av (fun _ _=>rfl))) (iW rfl (dI (bS (i:=3) S.nd rfl (Or.inl rfl)) (dI (bS (i:=4) S.nd rfl (Or.inl rfl)) iV)))
    (@aB _ _ _ (@cf _ _ _ _ _ _ _ _ (@b7 _ _ _ _ _ _ _ _ mI (c_ PySem.F.plainAttrs_list PySem.F.slot_list_index PySem.F.type_list_index yR (pv 1) (@ae _ _ _ _ _ (by rfl) (pv 3) ao)) (c_ PySem.F.plainAttrs_list PySem.F.slot_list_index PySem.F.type_list_index yR (pv 1) (@ae _ _ _ _ _ (by rfl) (pv 4) ao)) (bK _)) (@aB _ _ _ (dt (c_ PySem.F.plainAttrs_list PySem.F.slot_list_append PySem.F.type_list_append dM (@aQ _ _ _ _ _ _ _ bL (pv 2) (pv 3) (fun _ _=>rfl)) (@ae _ _ _ _ _ (by rfl) (pv 4) ao)))) (@aB _ _ _ (dt (c_ PySem.F.plainAttrs_list PySem.F.slot_list_append PySem.F.type_list_append dM (@aQ _ _ _ _ _ _ _ bL (pv 2) (pv 4) (fun _ _=>rfl)) (@ae _ _ _ _ _ (by rfl) (pv 3) ao)))))))
   (@aB _ _ _ (@bD _ _ _ _ (jb (N:=["_law_row"]) (ρ:=(fun σ=>[])) ⟨rfl,rfl,by decide +kernel,by decide +kernel,(List.forall_mem_nil _),eS (by rfl),rfl,by decide +kernel,rfl,(fun σ j v h=>match j,h with | j,h=>by cases h),(fun _ _=>rfl)⟩ rfl (ee (pv 2)) (fun s₃ H₃ fp=>.nil) (fun s₃ H₃ fp=>(bR uj rfl T.jU PyProof.Rows.boot_sorted (@ae _ _ _ _ _ (by rfl) (pv 0) ao)))))))),?_⟩
  refine bU (kC (m7 (xs:=o.map fun k:Nat=>V.int (k:Int)) (n:=n) Jl (fun R h=>⟨_,rfl,a,rfl,⟨_,.of ea⟩,h _ _ (aj.refl _) (kB (.of ea))⟩) (b5 (by omega)) (fun _ i y Hx=>Hx y=some (.lst [])∧H y=none) ?_ ?_ ?_))
  ·intro D i y Ha Hb ys ⟨h1,h2⟩ hy e f
   exact ⟨f y _ hy h1,h2⟩
  ·intro D i x hx Hc R sc _ kc
   exact ⟨Nat.zero_le _,fun p np=>kc p _ (cV (aj.refl _) np) np ⟨_,ar⟩ ⟨ar,none_of sc np⟩⟩
  ·intro D rs H1 nD s1 inj hA eD
   have K0:eG H1 D n rs (fun _=>[]):=⟨eD,inj,fun i hi=>(hA i hi).2,fun i hi=>(hA i hi).1.1⟩
   have fr:∀i,i<n→H (rs i)=none:=fun i hi=>(hA i hi).1.2
   have off:∀(Hx:Hp) (i:Nat) (o:HO),i<n→aj H Hx→aj H (upd Hx (rs i) o):=fun Hx i o hi sx a u e=>by
    rw [aA (fun z=>by rw [z,fr i hi] at e;cases e)]
    exact sx _ _ e
   dsimp only [aT]
   refine bU ⟨_,rfl,tp,_,_,_,rfl,rfl,.of (s1 _ _ bX),rfl,lt,rfl,⟨_,.of (s1 _ _ elt)⟩,?_⟩
   refine rN (K:=K) (a:=lt) (xs:=us) (fun k σ Hc=>∃(g:Nat→List Nat) (v3 v4:Option V),σ=[some (.ref tp),some (.ref a),some (.ref D),v3,v4]∧aj H Hc∧eG Hc D n rs g∧gP n o M k g∧∀a,(g a).length≤k) ⟨_,_,_,rfl,s1,K0,gP.start n o M,fun _=>Nat.le_refl _⟩ (fun k σ Hc _ ⟨_,_,_,_,sc,_⟩=>.of (sc _ _ elt)) ?_ ?_
   ·rintro k x σ Hc hx ⟨g,v3,v4,rfl,sc,KL,lr,gl⟩
    have hk:k<M.length:=by
     rw [←hM.1]
     exact (List.getElem?_eq_some_iff.mp hx).1
    obtain ⟨b,rfl,eb⟩:=hM.2 k x M[k] hx (by simp [hk])
    have hz:M[k]?=some M[k]:=by simp [hk]
    have bz:=fs.lt M[k] (List.getElem_mem hk)
    generalize M[k]=z at eb hz bz
    obtain ⟨z1,z2⟩:=z
    dsimp only at bz eb
    obtain ⟨i,rfl⟩:=Int.eq_ofNat_of_zero_le bz.1
    obtain ⟨j,rfl⟩:=Int.eq_ofNat_of_zero_le (show 0≤z2 by omega)
    have hi:i<n:=by omega
    have hj:j<n:=by omega
    have Jm:bO i j=((i:Int),(j:Int)):=by
     unfold bO
     rw [if_neg (by omega),if_pos (by omega)]
    have Jn:bO j i=((i:Int),(j:Int)):=by
     unfold bO
     rw [if_pos (by omega),if_neg (by omega)]
    have jW:Hc a=some (.lst ((o.map iN).map V.int)):=by rw [sc _ _ ea,List.map_map];rfl
    have AO:=sc _ _ ea
    have lz:(o.map iN).length≤1000:=by rw [List.length_map];omega
    refine ⟨b,_,rfl,.of (sc _ _ eb),rfl,_,_,rfl,_,_,rfl,rfl,?_⟩
    refine ⟨_,rfl,.inl ⟨rfl,_,.of AO⟩,_,rfl,a,o.map iN,_,(i:Int),rfl,rfl,jW,lz,(rp i hi).1,(rp i hi).2,?_⟩
    refine ⟨_,rfl,.inl ⟨rfl,_,.of AO⟩,_,rfl,a,o.map iN,_,(j:Int),rfl,rfl,jW,lz,(rp j hj).1,(rp j hj).2,?_⟩
    refine ⟨_,_,rfl,rfl,_,rfl,cp (fun a8=>?_) (fun a8=>?_)⟩
    ·have vc:o.idxOf i<o.idxOf j:=by have:=of_decide_eq_true a8;omega
     have g1:=gl i
     refine ⟨_,rfl,_,rfl,D,_,_,_,rfl,rfl,.of KL.lst,gN hi,.inl ⟨rfl,_,.of (KL.at' i hi)⟩,_,rfl,rs i,_,_,rfl,rfl,KL.at' i hi,b5 (by rw [List.length_map];omega),?_⟩
     exact ⟨_,_,_,rfl,off _ _ _ hi sc,KL.snoc j hi,lr.step qc hi hj vc (by rw [Jm];exact hz),fun a=>Nat.le_trans nG (by have:=gl a;omega)⟩
    ·have sX:i≠j:=by omega
     have vc:o.idxOf j<o.idxOf i:=by
      have h1:¬((o.idxOf i:Int)<(o.idxOf j:Int)):=fun e=>a8 (decide_eq_true e)
      have:=iy ho hi hj sX
      omega
     have g1:=gl j
     refine ⟨_,rfl,_,rfl,D,_,_,_,rfl,rfl,.of KL.lst,gN hj,.inl ⟨rfl,_,.of (KL.at' j hj)⟩,_,rfl,rs j,_,_,rfl,rfl,KL.at' j hj,b5 (by rw [List.length_map];omega),?_⟩
     exact ⟨_,_,_,rfl,off _ _ _ hj sc,KL.snoc i hj,lr.step qc hj hi vc (by rw [Jn];exact hz),fun a=>Nat.le_trans nG (by have:=gl a;omega)⟩
   ·rintro σ Hc ⟨g,v3,v4,rfl,sc,KL,lr,gl⟩
    rw [hM.1] at lr
    have Jo:∀p,p<n→(g p).length≤30:=fun p hp=>Nat.le_trans (pY (n:=n) (lr.nd p hp) fun q hq=>((lr.mem p q hp).mp hq).1) AE
    have AQ:((List.range n).map fun i=>V.ref (rs i)).length=n:=by rw [List.length_map,List.length_range]
    dsimp only
    refine xN (m7 (xs:=(List.range n).map fun i=>V.ref (rs i)) (n:=n) AQ (fun R h=>⟨_,rfl,D,rfl,⟨_,.of KL.lst⟩,h _ _ (aj.refl _) (kB (.of KL.lst))⟩) (b5 (by omega)) (fun _ i y Hx=>∃ms:List Nat,Hx y=some (.lst (ms.map fun k:Nat=>V.int (k:Int)))∧ms.Perm (g i)∧(ms.map iN).Pairwise (·≤·)) ?_ ?_ ?_)
    ·intro D' i y Ha Hb ys ⟨ms,h1,h2⟩ hy e f
     exact ⟨ms,f y _ hy h1,h2⟩
    ·intro D' i x hx He R se _ kc
     have hi:i<n:=by
      have:=(List.getElem?_eq_some_iff.mp hx).1
      rw [AQ] at this
      exact this
     have ex:x=.ref (rs i):=by
      rw [List.getElem?_map,List.getElem?_range hi] at hx
      exact (Option.some.inj hx).symm
     subst ex
     refine ⟨_,rfl,rs i,(g i).map iN,rfl,by rw [se _ _ (KL.at' i hi),List.map_map];rfl,by rw [List.length_map];have:=Jo i hi;omega,fun ws D2 pw so nN=>?_⟩
     obtain ⟨ms,rfl,pm⟩:=um pw
     exact kc D2 _ (aU nN) nN ⟨_,ar⟩ ⟨ms,by rw [ar,List.map_map];rfl,pm,so⟩
    ·intro D' rq H2 Ir s2 MS Jp uX
     have ex:∀i,∃ms:List Nat,i<n→H2 (rq i)=some (.lst (ms.map fun k:Nat=>V.int (k:Int)))∧ms.Perm (g i)∧(ms.map iN).Pairwise (·≤·):=fun i=>by
      by_cases hi:i<n
      ·obtain ⟨ms,h⟩:=(Jp i hi).1
       exact ⟨ms,fun _=>h⟩
      ·exact ⟨[],fun h=>absurd h hi⟩
     refine kk H2 D' rq (fun i=>Classical.choose (ex i)) (sc.trans s2) ⟨uX,fun p hp=>(Classical.choose_spec (ex p) hp).1⟩ fun p hp=>?_
     obtain ⟨_,h2,h3⟩:=Classical.choose_spec (ex p) hp
     refine ⟨GQ h2 (lr.nd p hp) h3,fun q=>?_⟩
     rw [h2.mem_iff]
     exact lr.GS fs hp q
theorem Jq:bQ ["script","_law_pen","_law_k","_law_shape","_law_turn","_law_order","_law_handed","_law_due","_law_found","_law_again","_law_rows"] ["script"] (bg qE):=⟨rfl,rfl,rfl,by decide +kernel,rfl,by decide +kernel,by decide +kernel⟩
theorem Jr(T:Txt K mg t):bx P w K mg base bT 9 t.iC t.jP ["script"] (o6 K):=by
 have S:=Jq
 have Js:=IC (P:=P) (w:=w) (base:=base) T
 have u6:=Ai (P:=P) (w:=w) (base:=base) T
 have Jt:=IW (P:=P) (w:=w) (base:=base) T
 have Ju:=Jk (P:=P) (w:=w) (base:=base) T
 have Jv:=HP (P:=P) (w:=w) (base:=base) T
 have uT:=zX (P:=P) (w:=w) (base:=base) T
 have Jw:=G_ (P:=P) (w:=w) (base:=base) T
 refine T.ma.ok S (fun vs H Q E h=>?_) (fun aJ A outer s H vs Q E hr h=>?_)
 ·obtain ⟨a,ns,rfl,_⟩:=h
  rfl
 ·obtain ⟨a,ns,rfl,hS,hlen,kQ⟩:=h
  have gp:=hr.units
  have hu:=hr.wC
  refine ⟨_,(@ax _ _ _ _ _ (@ba _ _ 1 _ _ _ _ (by rfl) (by first | exact .inl rfl | exact .inr rfl | assumption) S.nd rfl (Or.inl rfl) (@cK _ _ _ _ (@ae _ _ _ _ _ (by rfl) (pv 0) (@ae _ _ _ _ _ (by rfl) av (@ae _ _ _ _ _ (by rfl) av ao)))))
   (@ax _ _ _ _ _ (cO PassesOwn.never rfl (g6 rfl T.eI (@ae _ _ _ _ _ (by rfl) av ao)) (bS (i:=2) S.nd rfl (Or.inl rfl))
    (@ax _ _ _ _ _ (@ba _ _ 3 _ _ _ _ (by rfl) (by first | exact .inl rfl | exact .inr rfl | assumption) S.nd rfl (Or.inl rfl) (a_ Js (hr.mono (by decide)) rfl T.zB T.l5.kp T.zA .nil bA (@ae _ _ _ _ _ (by rfl) (pv 1) (@ae _ _ _ _ _ (by rfl) av ao))))
   (@aB _ _ _ (cO PassesOwn.never rfl (g6 rfl T.eI (@ae _ _ _ _ _ (by rfl) av ao)) (bS (i:=4) S.nd rfl (Or.inl rfl))
    (@ax _ _ _ _ _ (@ba _ _ 5 _ _ _ _ (by rfl) (by first | exact .inl rfl | exact .inr rfl | assumption) S.nd rfl (Or.inl rfl) (a_ u6 (hr.mono (by decide)) rfl T.uE T.jS.kp T.uD .nil bA (@ae _ _ _ _ _ (by rfl) (pv 1) (@ae _ _ _ _ _ (by rfl) (fk (sZ rfl) rfl T.iG boot_list (@ae _ _ _ _ _ (by rfl) (fk sY rfl T.eI s_ (@ae _ _ _ _ _ (by rfl) (@aQ _ _ _ _ _ _ _ cP (pv 3) av (fun _ _=>rfl)) ao)) ao)) ao))))
   (@ax _ _ _ _ _ (@ba _ _ 6 _ _ _ _ (by rfl) (by first | exact .inl rfl | exact .inr rfl | assumption) S.nd rfl (Or.inl rfl) (fk xb rfl T.iG boot_list (@ae _ _ _ _ _ (by rfl) (pv 5) ao)))
   (@ax _ _ _ _ _ (@ba _ _ 7 _ _ _ _ (by rfl) (by first | exact .inl rfl | exact .inr rfl | assumption) S.nd rfl (Or.inl rfl) (a_ Jt (hr.mono (by decide)) rfl T.zJ T.l9.kp T.zI .nil bA (@ae _ _ _ _ _ (by rfl) (pv 3) (@ae _ _ _ _ _ (by rfl) (pv 5) ao))))
   (@ax _ _ _ _ _ (@ba _ _ 8 _ _ _ _ (by rfl) (by first | exact .inl rfl | exact .inr rfl | assumption) S.nd rfl (Or.inl rfl) (a_ Jv (hr.mono (by decide)) rfl T.zp T.lT.kp T.zo .nil xo (@ae _ _ _ _ _ (by rfl) (pv 3) (@ae _ _ _ _ _ (by rfl) (pv 6) ao))))
   (@ax _ _ _ _ _ (@cf _ _ _ _ _ _ _ _ (PW.pt (@pw_or _ _ _ _ _ _ _ (@b7 _ _ _ _ _ _ _ _ (Eg (n:=3) gp) (pv 8) (pv 7) (bK _)) (@pw_or _ _ _ _ _ _ _ (@b7 _ _ _ _ _ _ _ _ DY (a_ Jw (hr.mono (by decide)) rfl T.yZ T.lK.kp T.yY .nil bA (@ae _ _ _ _ _ (by rfl) (pv 8) ao)) eQ (bK _)) (@pw_or1 _ _ _ _ (@b7 _ _ _ _ _ _ _ _ (xI (n:=0) gp) (pv 6) (pv 5) (bK _)))))) (@aB _ _ _ (@bD _ _ _ _ eQ)) cw)
   (@aB _ _ _ (cO PassesOwn.never rfl (g6 rfl T.eI (@ae _ _ _ _ _ (by rfl) av ao)) (bS (i:=9) S.nd rfl (Or.inl rfl))
    (@ax _ _ _ _ _ (@ba _ _ 10 _ _ _ _ (by rfl) (by first | exact .inl rfl | exact .inr rfl | assumption) S.nd rfl (Or.inl rfl) (a_ uT (hr.mono (by decide)) rfl T.uC T.jR.kp T.uB .nil xo (@ae _ _ _ _ _ (by rfl) (pv 3) (@ae _ _ _ _ _ (by rfl) (pv 6) ao))))
   (@ax _ _ _ _ _ (@cf _ _ _ _ _ _ _ _ (PW.pt (@pw_or _ _ _ _ _ _ _ (@j6 _ _ _ _ (iT (bR (ja (K:=K)) rfl T.iF boot_isinstance (@ae _ _ _ _ _ (by rfl) (pv 10) (@ae _ _ _ _ _ (by rfl) (iS (v:=.ty "list") rfl T.iG boot_list rfl) ao))))) (@pw_or1 _ _ _ _ (@b7 _ _ _ _ _ _ _ _ (xI (n:=1) gp) (pv 10) (a_ Ju (hr.mono (by decide)) rfl T.zL T.l_.kp T.zK .nil bA (@ae _ _ _ _ _ (by rfl) (pv 7) (@ae _ _ _ _ _ (by rfl) (pv 5) ao))) (bK _))))) (@aB _ _ _ (@bD _ _ _ _ eQ)) cw)
   (@ax _ _ _ _ _ (dt (c_ PySem.F.plainAttrs_list PySem.F.slot_list_append PySem.F.type_list_append dM (@aQ _ _ _ _ _ _ _ bL (pv 10) av (fun _ _=>rfl)) (@ae _ _ _ _ _ (by rfl) (@wj _ _ _ _ _ _ wo av) ao)))
   (@aB _ _ _ (@j9 _ _ _ _ _ _ (@cK _ _ _ _ (@ae _ _ _ _ _ (by rfl) av ao)) (j8 (pv 10) (@wj _ _ _ _ _ _ wo av) set_list) (by rfl) (by rfl) (by rfl)))))))))))))))))
   (@aB _ _ _ (@bD _ _ _ _ eQ)))),?_⟩
  refine ⟨_,rfl,by show 3≤sizeLine;decide,fun P0 nP=>?_⟩
  have p0:bo (upd H P0 (.lst [.ref a,.int 0,.int 0])) P0 a:=⟨0,0,ar,by decide,by decide⟩
  have AR:aX K (er P0 (upd H P0 (.lst [.ref a,.int 0,.int 0]))) a (ns.map V.int):=by
   rw [xO]
   exact aj.seq (fun b o e=>tE (eL e nP) e) hS
  generalize upd H P0 (.lst [.ref a,.int 0,.int 0])=H0 at p0 AR ⊢
  refine ⟨3,rfl,by decide,by decide,?_⟩
  refine i4 (fun i σ Hc=>∃(v2 v3 v4 v5 v6 v7 v8 v9 v10:Option V),σ=[some (.ref a),some (.ref P0),v2,v3,v4,v5,v6,v7,v8,v9,v10]∧ay P0 H0 Hc∧bo Hc P0 a) ⟨_,_,_,_,_,_,_,_,_,rfl,ay.refl _,p0⟩ ?_ ?_
  ·rintro i σ Hc hi ⟨v2,v3,v4,v5,v6,v7,v8,v9,v10,rfl,sT,pc⟩
   have q8:aX K (er P0 Hc) a (ns.map V.int):=aj.seq sT AR
   dsimp only [aT]
   refine ⟨_,rfl,P0,a,ns,14,rfl,pc,q8,by decide,by decide,fun tp n L H1 s1 p1 fK MT n6 ok pw n1 MU=>?_⟩
   dsimp only [aT]
   have fH:jk n L:=fun p hp=>by
    have:=ok.lt p hp
    exact ⟨this.1,by omega,by omega,this.2.2⟩
   have AS:p9 L:=fun p hp=>by
    have:=ok.lt p hp
    omega
   have b3:L.length≤200:=Nat.le_trans ok.b3 (by
    have:n*n≤14*14:=Nat.mul_le_mul (by omega) (by omega)
    omega)
   have AU:∀{Hx:Hp},ay P0 H1 Hx→cF Hx tp n L:=fun sx=>(n6.mono sx).mono pb
   refine ⟨3,rfl,by decide,by decide,?_⟩
   refine i4 (fun j σ Hd=>∃(v4 v5 v6 v7 v8 v9 v10:Option V),σ=[some (.ref a),some (.ref P0),some (.int (0+(i:Int))),some (.ref tp),v4,v5,v6,v7,v8,v9,v10]∧ay P0 H1 Hd∧bo Hd P0 a) ⟨_,_,_,_,_,_,_,rfl,ay.refl _,p1⟩ ?_ ?_
   ·rintro j σ Hd hj ⟨v4,v5,v6,v7,v8,v9,v10,rfl,sd,pd⟩
    obtain ⟨lt,us,bX,elt,ko⟩:=id (AU sd)
    dsimp only [aT]
    refine ⟨_,rfl,_,rfl,tp,_,_,_,rfl,rfl,.of bX,rfl,(n:Int),rfl,fun q1 AV=>⟨q1,n,rfl,ar,by omega,fun l nl=>?_⟩⟩
    have sl:aj Hd (upd (upd Hd q1 (.d7 0 (n:Int))) l (.lst (bW n))):=(aU AV).trans (aU nl)
    have el:upd (upd Hd q1 (.d7 0 (n:Int))) l (.lst (bW n)) l=some (.lst (bW n)):=ar
    have lP:l≠P0:=pd.ne (none_of (aU AV) nl)
    generalize upd (upd Hd q1 (.d7 0 (n:Int))) l (.lst (bW n))=H2 at sl el ⊢
    have s2:=sd.trans (ay.of sl)
    have p2:=pd.mono sl
    have lu:(bW n).length=n:=by unfold bW;simp
    refine ⟨P0,a,l,ns,bW n,rfl,p2,aj.seq (s1.trans s2) q8,lP,el,by omega,fun r ys H3 s3 p3 nr rP rz pm=>?_⟩
    obtain ⟨o,rfl,ho⟩:=F8 pm
    have lo:=gK ho
    have AW:=s2.trans s3
    have vd:=AU AW
    dsimp only [aT]
    refine ⟨_,rfl,r,_,rfl,.inl (.of rz),fun hd Jx=>?_⟩
    have s4:aj H3 (upd H3 hd (.lst (o.map fun k:Nat=>V.int (k:Int)))):=aU Jx
    have rA:upd H3 hd (.lst (o.map fun k:Nat=>V.int (k:Int))) hd=some (.lst (o.map fun k:Nat=>V.int (k:Int))):=ar
    generalize upd H3 hd (.lst (o.map fun k:Nat=>V.int (k:Int)))=H4 at s4 rA ⊢
    dsimp only [aT]
    refine ⟨_,rfl,_,rfl,tp,r,n,L,o,rfl,vd.mono s4,fH,by omega,b3,s4 _ _ rz,ho,fun H5 t5 M s5 AX fs=>?_⟩
    have AY:=s4.trans s5
    dsimp only [aT]
    have inj:∀{o':List Nat},o.map iN=o'.map iN→o'=o:=fun{o'} e'=>by
     have:=congrArg (List.map Int.toNat) e'
     rw [List.map_map,List.map_map] at this
     have AZ:∀l:List Nat,l.map (Int.toNat ∘ iN)=l:=fun l=>by
      conv=>rhs;rw [←List.map_id l]
      exact List.map_congr_left fun k _=>Int.toNat_natCast k
     rw [AZ,AZ] at this
     exact this.symm
    refine ⟨_,rfl,_,rfl,tp,hd,n,L,o.map iN,rfl,vd.mono AY,fH,AS,by omega,by rw [s5 _ _ rA,List.map_map];rfl,by rw [List.length_map];omega,fun no=>absurd (ho.map iN) no,fun o' e' fM H6 t6 M' s6 _ A0 gT lM=>?_⟩
    have eo:=inj e'
    subst eo
    have eM:M'=M:=gT.uniq fs
    subst eM
    have nZ:=AY.trans s6
    have Jy:=s5.trans s6
    dsimp only [aT]
    refine bU ⟨_,rfl,_,rfl,t9 n M',Fc n M',yk A0,yk (AX.mono s6),false,rfl,dN ?_⟩
    refine ⟨_,rfl,t6,n,M',rfl,A0,by omega,gT.1,gT.lt,n1,by omega,fun H7 s7=>⟨_,_,rfl,rfl,false,rfl,dN ?_⟩⟩
    have jY:=nZ.trans s7
    have A1:=Jy.trans s7
    refine ⟨_,rfl,_,rfl,hd,r,_,_,rfl,rfl,.of (A1 _ _ rA),.of (jY _ _ rz),rfl,(fun j x y hx hy=>?_),false,rfl,dN ?_⟩
    ·rw [hx] at hy
     cases hy
     refine ⟨rfl,?_⟩
     obtain ⟨z,_,rfl⟩:=List.mem_map.mp (List.mem_of_getElem? hx)
     rfl
    dsimp only [fj]
    refine ⟨2,rfl,by decide,by decide,?_⟩
    refine i4 (fun w σ He=>∃(v9 v10:Option V),σ=[some (.ref a),some (.ref P0),some (.int (0+(i:Int))),some (.ref tp),some (.int (0+(j:Int))),some (.ref r),some (.ref hd),some (.ref t5),some (.ref t6),v9,v10]∧aj H7 He) ⟨_,_,rfl,aj.refl _⟩ ?_ ?_
    ·rintro w σ He hw ⟨v9,v10,rfl,se⟩
     have A2:=jY.trans se
     have A3:=A1.trans se
     dsimp only [aT]
     refine ⟨_,rfl,_,rfl,tp,hd,n,L,o'.map iN,rfl,vd.mono A2,fH,AS,by omega,by rw [A3 _ _ rA,List.map_map];rfl,by rw [List.length_map];omega,fun no=>absurd (ho.map iN) no,fun o2 e2 sk H8 D rs g s8 nD qQ la lw=>?_⟩
     have Jz:=inj e2
     subst Jz
     have MV:=A3.trans s8
     have JA:cF H8 t5 n M':=AX.mono ((s6.trans s7).trans (se.trans s8))
     dsimp only [aT]
     refine bU ⟨_,rfl,_,_,_,true,rfl,rfl,.of (.lst la.1),mZ,true,rfl,dN ?_⟩
     refine ⟨_,rfl,_,rfl,_,rfl,t5,r,n,L,M',o2,rfl,JA,gT,by omega,by omega,(A2.trans s8) _ _ rz,ho,fun H9 D' rq g' s9 A4 A5=>?_⟩
     have eg:∀p,p<n→g' p=g p:=fun p hp=>GP (A5 p hp).1 (lw p hp).1.up fun q=>by rw [(A5 p hp).2 q,(lw p hp).2 q]
     refine ⟨D,D',_,_,rfl,rfl,.of (s9 _ _ la.1),.of A4.1,by simp,(fun k x y hx hy=>?_),false,rfl,dN ?_⟩
     ·have hk:k<n:=by
       have:=(List.getElem?_eq_some_iff.mp hx).1
       simpa using this
      rw [List.getElem?_map,List.getElem?_range hk] at hx hy
      cases hx
      cases hy
      refine .inr ⟨rs k,rq k,_,_,rfl,rfl,.inl ⟨.of (s9 _ _ (la.2 k hk)),.of (A4.2 k hk)⟩,by rw [eg k hk],fun m x y hx hy=>?_⟩
      rw [eg k hk,hx] at hy
      cases hy
      refine ⟨rfl,?_⟩
      obtain ⟨z,_,rfl⟩:=List.mem_map.mp (List.mem_of_getElem? hx)
      rfl
     dsimp only [fj]
     have JB:=la.2 0 (by omega)
     have e0:H9 (rs 0)=some (.lst ((g 0).map fun k:Nat=>V.int (k:Int))):=s9 _ _ JB
     have lg:(g 0).length≤30:=Nat.le_trans (ur ho (lw 0 (by omega)).1) (by omega)
     have JD:He (rs 0)=none:=qQ 0 (by omega)
     have JE:eA ((List.range n).map fun p=>V.ref (rs p)) 0=some (.ref (rs 0)):=gN (show 0<n by omega)
     have D0:rs 0≠D:=fun z=>by
      rw [z,s9 _ _ la.1] at e0
      have e1:=HO.lst.inj (Option.some.inj e0)
      have e2:=congrArg (fun l=>l[0]?) e1
      rw [List.getElem?_map,List.getElem?_range (show 0<n by omega),List.getElem?_map] at e2
      cases e3:(g 0)[0]? with
      | none=>rw [e3] at e2;cases e2
      | some q=>rw [e3] at e2;cases e2
     refine bU ⟨_,rfl,D,_,0,.ref (rs 0),rfl,rfl,.of (s9 _ _ la.1),JE,.inl ⟨rfl,_,.of e0⟩,_,rfl,rs 0,_,_,rfl,rfl,e0,b5 (by rw [List.length_map];omega),?_⟩
     have A6:aj He (upd H9 (rs 0) (.lst (((g 0).map fun k:Nat=>V.int (k:Int))++[V.int (-1)]))):=cV (s8.trans s9) JD
     have A7:upd H9 (rs 0) (.lst (((g 0).map fun k:Nat=>V.int (k:Int))++[V.int (-1)])) D=_:=(aA (Ne.symm D0)).trans (s9 _ _ la.1)
     dsimp only
     generalize upd H9 (rs 0) (.lst (((g 0).map fun k:Nat=>V.int (k:Int))++[V.int (-1)]))=ve at A6 A7 ⊢
     refine ⟨by show 1≤sizeLine;decide,fun A8 JF=>?_⟩
     have vf:aj ve (upd ve A8 (.lst [V.int 99])):=aU JF
     generalize upd ve A8 (.lst [V.int 99])=MW at vf ⊢
     have JG:fm ((List.range n).map fun p=>V.ref (rs p)).length (-1)=some (n-1):=by
      rw [List.length_map,List.length_range]
      unfold fm
      rw [if_neg (by omega),if_pos (by omega)]
      congr 1
      omega
     exact ⟨_,rfl,1,rfl,D,_,_,n-1,rfl,rfl,vf _ _ A7,JG,_,_,rfl,se.trans (cV (A6.trans vf) nD)⟩
    ·rintro σ He ⟨v9,v10,rfl,se⟩
     exact ⟨_,_,_,_,_,_,_,rfl,AW.trans (ay.of (jY.trans se)),(p3.mono jY).mono se⟩
   ·rintro σ Hd ⟨v4,v5,v6,v7,v8,v9,v10,rfl,sd,pd⟩
    exact ⟨_,_,_,_,_,_,_,_,_,rfl,sT.trans (s1.trans sd),pd⟩
  ·rintro σ Hc ⟨v2,v3,v4,v5,v6,v7,v8,v9,v10,rfl,sT,pc⟩
   exact kQ _
theorem JH{l:PySem.W.OpenLaw}(T:Txt K mg t):∃fd:FuncData,(∀(s:Shared) (v:Value),BindsTo s fd ⟨[v],[]⟩ [("script",v)])∧∀base:Heap,K.In base→base.Ns mainGlobals mg→bx l.prog w K mg base bT 9 t.iC fd ["script"] (o6 K):=by
 obtain ⟨oc,od,kV,doc,pm,an,aJ,ct,fU,e,lk,dH⟩:=T.ma.ex
 refine ⟨t.jP,fun s v=>?_,fun base _ _=>Jr T⟩
 rw [e]
 exact .of_eq rfl
end
theorem walk{l:PySem.W.OpenLaw}{q:Program}{loose:List Str}{XP:(Str→Option Value)→Heap→Prop}{YP:World→Heap→Prop}{d:DefRec}{K:Params→PySem.W.Frag}(hn:l.most=some 63)(mP:d.params.defaults=[])
  (hY:∀(w:World) (h:Heap),YP w h→(K w.params).In h)
  (F:∀(w:World) (mg:Str→Option Value) (fa:Addr) (h:Heap),(K w.params).In h→h.Ns mainGlobals mg→mg d.name=some (.ref fa)→
   ∃fd:FuncData,(∀(s:Shared) (u:Value),BindsTo s fd ⟨[u],[]⟩ [("script",u)])∧∀base:Heap,(K w.params).In base→base.Ns mainGlobals mg→bx l.prog w (K w.params) mg base bT 9 fa fd ["script"] (o6 (K w.params))) :
  PySem.W.WalkO q loose XP YP l.row.toRowW d [] (fun f vs=>PySem.call f vs):=
 L2.Du (n:=63) (k:=9) (x:="script") (CX:=fun _=>bT) (sp:=fun w=>o6 (K w.params)) hn (by decide) mP ⟨rfl,by decide,by decide⟩ hY F (fun _ _ a ns hl _ hS=>⟨a,ns,rfl,hS,hl,fun _=>rfl⟩) fun _ _ _ _ _ z=>z
theorem JI{K:PySem.W.Frag}{h:Heap}{mg:Str→Option Value}(X:K.In h)(G:h.Ns mainGlobals mg)
  {gQ:Addr}
  {JJ:Tok}
  {jo jq jr ju jv jw jx jy jz jA jB jC jD jE jF jG jH jI jJ jK jL jM jN jO iC:Addr} {kN kO kP kS kT kU kW kX kY kZ k4 k6 k8 k_ lb lh lp lq lA lB lC lE lF lG jP:FuncData}
  (vg:PySem.W.nsIn K mainGlobals "NoOrder" = some (some (.ref gQ)))
  (JK:mg "is_whole" = some (.ref jo))
  (iD:aI K "is_whole" "is_whole" qd jo kN)
  (JL:mg "is_rising" = some (.ref jq))
  (lH:aI K "is_rising" "is_rising" qe jq kO)
  (JM:mg "is_place" = some (.ref jr))
  (jQ:aI K "is_place" "is_place" qf jr kP)
  (JN:mg "is_link" = some (.ref ju))
  (lI:aI K "is_link" "is_link" qg ju kS)
  (JO:mg "are_links" = some (.ref jv))
  (lJ:aI K "are_links" "are_links" qh jv kT)
  (JP:mg "is_shape" = some (.ref jw))
  (lK:aI K "is_shape" "is_shape" qi jw kU)
  (JQ:mg "neighbours" = some (.ref jx))
  (lN:aI K "neighbours" "neighbours" qj jx kW)
  (JR:mg "is_order" = some (.ref jy))
  (lO:aI K "is_order" "is_order" ql jy kX)
  (JS:mg "check_order" = some (.ref jz))
  (lQ:aI K "check_order" "check_order" qm jz kY)
  (JT:mg "turns_of" = some (.ref jA))
  (lR:aI K "turns_of" "turns_of" qo jA kZ)
  (JU:mg "link_all" = some (.ref jB))
  (lS:aI K "link_all" "link_all" qp jB k4)
  (JV:mg "later" = some (.ref jC))
  (jR:aI K "later" "later" qq jC k6)
  (JW:mg "filled" = some (.ref jD))
  (lT:aI K "filled" "filled" qr jD k8)
  (JX:mg "_law_fill" = some (.ref jE))
  (lW:aI K "_law_fill" "_law_fill" qt jE k_)
  (JY:mg "_law_next" = some (.ref jF))
  (dG:aI K "_law_next" "_law_next" qu jF lb)
  (JZ:mg "_law_turned" = some (.ref jG))
  (jS:aI K "_law_turned" "_law_turned" qv jG lh)
  (J0:mg "_law_tied_by" = some (.ref jH))
  (lY:aI K "_law_tied_by" "_law_tied_by" qw jH lp)
  (J1:mg "_law_grown_links" = some (.ref jI))
  (lZ:aI K "_law_grown_links" "_law_grown_links" qx jI lq)
  (J2:mg "_law_drawn" = some (.ref jJ))
  (l5:aI K "_law_drawn" "_law_drawn" qy jJ lA)
  (J3:mg "_law_named" = some (.ref jK))
  (l6:aI K "_law_named" "_law_named" qz jK lB)
  (J4:mg "_law_beside" = some (.ref jL))
  (l7:aI K "_law_beside" "_law_beside" qA jL lC)
  (J5:mg "_law_walks" = some (.ref jM))
  (l8:aI K "_law_walks" "_law_walks" qB jM lE)
  (J6:mg "_law_filled" = some (.ref jN))
  (l9:aI K "_law_filled" "_law_filled" qC jN lF)
  (J7:mg "_law_later" = some (.ref jO))
  (l_:aI K "_law_later" "_law_later" qD jO lG)
  (J8:mg "law" = some (.ref iC))
  (ma:aI K "law" "law" qE iC jP)
  (vh:PySem.W.nsIn K mainGlobals "len" = some none)
  (vi:PySem.W.nsIn K mainGlobals "isinstance" = some none)
  (vj:PySem.W.nsIn K mainGlobals "int" = some none)
  (vk:PySem.W.nsIn K mainGlobals "bool" = some none)
  (vn:PySem.W.nsIn K mainGlobals "tuple" = some none)
  (vp:PySem.W.nsIn K mainGlobals "list" = some none)
  (vt:PySem.W.nsIn K mainGlobals "range" = some none)
  (vv:PySem.W.nsIn K mainGlobals "all" = some none)
  (vw:PySem.W.nsIn K mainGlobals "enumerate" = some none)
  (vx:PySem.W.nsIn K mainGlobals "min" = some none)
  (vy:PySem.W.nsIn K mainGlobals "max" = some none)
  (vz:PySem.W.nsIn K mainGlobals "sorted" = some none)
  (vB:PySem.W.nsIn K mainGlobals "zip" = some none)
  (vC:PySem.W.nsIn K mainGlobals "ValueError" = some none)
  (vD:PySem.W.nsIn K mainGlobals "MOST" = some (some (.int 60 JJ)))
  (vE:PySem.W.excIn K gQ [.type "ValueError",.type "Exception",.type "BaseException",.type "object"] "ValueError.__new__" = true)
  : ∃t:uy,Txt K mg t:=by
 refine ⟨⟨jo,kN,jq,kO,jr,kP,ju,kS,jv,kT,jw,kU,jx,kW,jy,kX,jz,kY,jA,kZ,jB,k4,jC,k6,jD,k8,jE,k_,jF,lb,jG,lh,jH,lp,jI,lq,jJ,lA,jK,lB,jL,lC,jM,lE,jN,lF,jO,lG,iC,jP,gQ⟩,?_⟩
 exact {
  iD:=iD
  qF:=iD.binds (ps:=["thing"]) fun _ _ _ _ _ _ us hl=>match us,hl with | [_],_=>rfl
  qG:=JK
  lH:=lH
  yS:=lH.binds (ps:=["things"]) fun _ _ _ _ _ _ us hl=>match us,hl with | [_],_=>rfl
  yT:=JL
  jQ:=jQ
  uz:=jQ.binds (ps:=["thing","n"]) fun _ _ _ _ _ _ us hl=>match us,hl with | [_,_],_=>rfl
  uA:=JM
  lI:=lI
  yU:=lI.binds (ps:=["thing","n"]) fun _ _ _ _ _ _ us hl=>match us,hl with | [_,_],_=>rfl
  yV:=JN
  lJ:=lJ
  yW:=lJ.binds (ps:=["thing","n"]) fun _ _ _ _ _ _ us hl=>match us,hl with | [_,_],_=>rfl
  yX:=JO
  lK:=lK
  yY:=lK.binds (ps:=["thing"]) fun _ _ _ _ _ _ us hl=>match us,hl with | [_],_=>rfl
  yZ:=JP
  lN:=lN
  y3:=lN.binds (ps:=["shape"]) fun _ _ _ _ _ _ us hl=>match us,hl with | [_],_=>rfl
  y4:=JQ
  lO:=lO
  y6:=lO.binds (ps:=["thing","n"]) fun _ _ _ _ _ _ us hl=>match us,hl with | [_,_],_=>rfl
  y7:=JR
  lQ:=lQ
  y8:=lQ.binds (ps:=["order","n"]) fun _ _ _ _ _ _ us hl=>match us,hl with | [_,_],_=>rfl
  y9:=JS
  lR:=lR
  y_:=lR.binds (ps:=["order"]) fun _ _ _ _ _ _ us hl=>match us,hl with | [_],_=>rfl
  zc:=JT
  lS:=lS
  zh:=lS.binds (ps:=["linked","places"]) fun _ _ _ _ _ _ us hl=>match us,hl with | [_,_],_=>rfl
  zi:=JU
  jR:=jR
  uB:=jR.binds (ps:=["shape","order"]) fun _ _ _ _ _ _ us hl=>match us,hl with | [_,_],_=>rfl
  uC:=JV
  lT:=lT
  zo:=lT.binds (ps:=["shape","order"]) fun _ _ _ _ _ _ us hl=>match us,hl with | [_,_],_=>rfl
  zp:=JW
  lW:=lW
  zq:=lW.binds (ps:=["_law_cell","_law_at"]) fun _ _ _ _ _ _ us hl=>match us,hl with | [_,_],_=>rfl
  zr:=JX
  dG:=dG
  fI:=dG.binds (ps:=["_law_pen","_law_many"]) fun _ _ _ _ _ _ us hl=>match us,hl with | [_,_],_=>rfl
  fJ:=JY
  jS:=jS
  uD:=jS.binds (ps:=["_law_pen","_law_some"]) fun _ _ _ _ _ _ us hl=>match us,hl with | [_,_],_=>rfl
  uE:=JZ
  lY:=lY
  zt:=lY.binds (ps:=["_law_pen","_law_way","_law_size","_law_wide","_law_i","_law_j"]) fun _ _ _ _ _ _ us hl=>match us,hl with | [_,_,_,_,_,_],_=>rfl
  zu:=J0
  lZ:=lZ
  zv:=lZ.binds (ps:=["_law_pen","_law_size"]) fun _ _ _ _ _ _ us hl=>match us,hl with | [_,_],_=>rfl
  zw:=J1
  l5:=l5
  zA:=l5.binds (ps:=["_law_pen","_law_most"]) fun _ _ _ _ _ _ us hl=>match us,hl with | [_,_],_=>rfl
  zB:=J2
  l6:=l6
  zC:=l6.binds (ps:=["_law_size","_law_links","_law_names"]) fun _ _ _ _ _ _ us hl=>match us,hl with | [_,_,_],_=>rfl
  zD:=J3
  l7:=l7
  zE:=l7.binds (ps:=["_law_shape"]) fun _ _ _ _ _ _ us hl=>match us,hl with | [_],_=>rfl
  zF:=J4
  l8:=l8
  zG:=l8.binds (ps:=["_law_beside_here","_law_through","_law_start"]) fun _ _ _ _ _ _ us hl=>match us,hl with | [_,_,_],_=>rfl
  zH:=J5
  l9:=l9
  zI:=l9.binds (ps:=["_law_shape","_law_order"]) fun _ _ _ _ _ _ us hl=>match us,hl with | [_,_],_=>rfl
  zJ:=J6
  l_:=l_
  zK:=l_.binds (ps:=["_law_due","_law_order"]) fun _ _ _ _ _ _ us hl=>match us,hl with | [_,_],_=>rfl
  zL:=J7
  ma:=ma
  GV:=ma.binds (ps:=["script"]) fun _ _ _ _ _ _ us hl=>match us,hl with | [_],_=>rfl
  zM:=J8
  zN:=PySem.W.mg_of X G vg
  iE:=PySem.W.mg_none_of X G vh
  iF:=PySem.W.mg_none_of X G vi
  zO:=PySem.W.mg_none_of X G vj
  zP:=PySem.W.mg_none_of X G vk
  jT:=PySem.W.mg_none_of X G vn
  iG:=PySem.W.mg_none_of X G vp
  eI:=PySem.W.mg_none_of X G vt
  qH:=PySem.W.mg_none_of X G vv
  uF:=PySem.W.mg_none_of X G vw
  qI:=PySem.W.mg_none_of X G vx
  qJ:=PySem.W.mg_none_of X G vy
  jU:=PySem.W.mg_none_of X G vz
  zQ:=PySem.W.mg_none_of X G vB
  GW:=PySem.W.mg_none_of X G vC
  zR:=⟨_,PySem.W.mg_of X G vD,_,rfl⟩
  zS:=vE
 }
end My
def PySem.W.Fast.tw13193924127651866728:Unit:=()
def PySem.W.Fast.tw15992449059852811989:Unit:=()
def PySem.W.Fast.tw12827560671727265647:Unit:=()
def PySem.W.Fast.tw12184667063983496677:Unit:=()
def PySem.W.Fast.tw8669914466710245628:Unit:=()
def PySem.W.Fast.tw17724583155717370329:Unit:=()
def PySem.W.Fast.tw18320357345635667193:Unit:=()
def PySem.W.Fast.tw15684269575923371337:Unit:=()
def PySem.W.Fast.tw4743472845289366760:Unit:=()
def PySem.W.Fast.tw8552546388633527853:Unit:=()
def PySem.W.Fast.tw6480984982556164434:Unit:=()
def PySem.W.Fast.tw1341305821219904160:Unit:=()
def PySem.W.Fast.tw10533891958256357010:Unit:=()
def PySem.W.Fast.tw1787501612978729386:Unit:=()
def PySem.W.Fast.tw6243312289859195408:Unit:=()
def PySem.W.Fast.tw5642763668393299756:Unit:=()
def PySem.W.Fast.tw1389811028726296879:Unit:=()
def PySem.W.Fast.tw11200386836532790364:Unit:=()
open PySem PySem.W PyProof.Rows
set_option maxRecDepth 100000 in
set_option maxHeartbeats 0 in
theorem PySem.Challenge.cw_bandwright_k17_filled_by_walks_holds : PySem.Challenge.rw_bandwright_k17_filled_by_walks.Holds := by
 w_on;o_law;k_head;(case hw=>w_witness2)
 k_fill
 refine My.walk (l:=PySem.Challenge.rw_bandwright_k17_filled_by_walks) rfl rfl (fun w h Y=>PySem.W.kIn_of Y) ?F
 case F=>
  intro w mg fa h KX G mQ
  have T:∃t,My.Txt (L2.xn KX) mg t:=by
   dsimp only [L2.xn]
   refine' My.JI KX G ?vg (PySem.W.mg_of KX G ?J9) (L2.bY (st:=My.qd) ?J_ ?Ka ?Kb) (PySem.W.mg_of KX G ?Ke) (L2.bY (st:=My.qe) ?Ki ?Kj ?Kk) (PySem.W.mg_of KX G ?Kl) (L2.bY (st:=My.qf) ?Km ?Kn ?Ko) (PySem.W.mg_of KX G ?Kp) (L2.bY (st:=My.qg) ?Kq ?Kr ?Ks) (PySem.W.mg_of KX G ?Kt) (L2.bY (st:=My.qh) ?Ku ?Kv ?Kw) (PySem.W.mg_of KX G ?Kx) (L2.bY (st:=My.qi) ?Ky ?Kz ?KA) (PySem.W.mg_of KX G ?KC) (L2.bY (st:=My.qj) ?KD ?KG ?KH) (PySem.W.mg_of KX G ?KI) (L2.bY (st:=My.ql) ?KJ ?KN ?KO) (PySem.W.mg_of KX G ?KP) (L2.bY (st:=My.qm) ?KQ ?KR ?KS) (PySem.W.mg_of KX G ?KU) (L2.bY (st:=My.qo) ?KW ?KY ?KZ) (PySem.W.mg_of KX G ?K6) (L2.bY (st:=My.qp) ?K7 ?K8 ?K9) (PySem.W.mg_of KX G ?K_) (L2.bY (st:=My.qq) ?La ?Lb ?Lc) (PySem.W.mg_of KX G ?Ld) (L2.bY (st:=My.qr) ?Le ?Lf ?Lg) (PySem.W.mg_of KX G ?Lh) (L2.bY (st:=My.qt) ?Li ?Lj ?Ll) (PySem.W.mg_of KX G ?Lm) (L2.bY (st:=My.qu) ?Ln ?Lo ?Lp) (PySem.W.mg_of KX G ?Lq) (L2.bY (st:=My.qv) ?Lr ?Ls ?Lu) (PySem.W.mg_of KX G ?Lv) (L2.bY (st:=My.qw) ?Lw ?Lx ?Ly) (PySem.W.mg_of KX G ?Lz) (L2.bY (st:=My.qx) ?LA ?LB ?LC) (PySem.W.mg_of KX G ?LD) (L2.bY (st:=My.qy) ?LF ?LG ?LH) (PySem.W.mg_of KX G ?LI) (L2.bY (st:=My.qz) ?LJ ?LK ?LL) (PySem.W.mg_of KX G ?LM) (L2.bY (st:=My.qA) ?LN ?LO ?LP) (PySem.W.mg_of KX G ?LQ) (L2.bY (st:=My.qB) ?LR ?LS ?LU) (PySem.W.mg_of KX G ?LV) (L2.bY (st:=My.qC) ?LW ?LX ?LY) (PySem.W.mg_of KX G ?LZ) (L2.bY (st:=My.qD) ?L0 ?L3 ?L4) (PySem.W.mg_of KX G ?L5) (L2.bY (st:=My.qE) ?L6 ?L7 ?L8) ?vh ?vi ?vj ?vk ?vn ?vp ?vt ?vv ?vw ?vx ?vy ?vz ?vB ?vC ?vD ?vE
   (case vg=>k_is)
   (case J9=>k_is)
   (case J_=>k_is)
   (case Ka=>k_is)
   (case Kb=>k_is)
   (case Ke=>k_is)
   (case Ki=>k_is)
   (case Kj=>k_is)
   (case Kk=>k_is)
   (case Kl=>k_is)
   (case Km=>k_is)
   (case Kn=>k_is)
   (case Ko=>k_is)
   (case Kp=>k_is)
   (case Kq=>k_is)
   (case Kr=>k_is)
   (case Ks=>k_is)
   (case Kt=>k_is)
   (case Ku=>k_is)
   (case Kv=>k_is)
   (case Kw=>k_is)
   (case Kx=>k_is)
   (case Ky=>k_is)
   (case Kz=>k_is)
   (case KA=>k_is)
   (case KC=>k_is)
   (case KD=>k_is)
   (case KG=>k_is)
   (case KH=>k_is)
   (case KI=>k_is)
   (case KJ=>k_is)
   (case KN=>k_is)
   (case KO=>k_is)
   (case KP=>k_is)
   (case KQ=>k_is)
   (case KR=>k_is)
   (case KS=>k_is)
   (case KU=>k_is)
   (case KW=>k_is)
   (case KY=>k_is)
   (case KZ=>k_is)
   (case K6=>k_is)
   (case K7=>k_is)
   (case K8=>k_is)
   (case K9=>k_is)
   (case K_=>k_is)
   (case La=>k_is)
   (case Lb=>k_is)
   (case Lc=>k_is)
   (case Ld=>k_is)
   (case Le=>k_is)
   (case Lf=>k_is)
   (case Lg=>k_is)
   (case Lh=>k_is)
   (case Li=>k_is)
   (case Lj=>k_is)
   (case Ll=>k_is)
   (case Lm=>k_is)
   (case Ln=>k_is)
   (case Lo=>k_is)
   (case Lp=>k_is)
   (case Lq=>k_is)
   (case Lr=>k_is)
   (case Ls=>k_is)
   (case Lu=>k_is)
   (case Lv=>k_is)
   (case Lw=>k_is)
   (case Lx=>k_is)
   (case Ly=>k_is)
   (case Lz=>k_is)
   (case LA=>k_is)
   (case LB=>k_is)
   (case LC=>k_is)
   (case LD=>k_is)
   (case LF=>k_is)
   (case LG=>k_is)
   (case LH=>k_is)
   (case LI=>k_is)
   (case LJ=>k_is)
   (case LK=>k_is)
   (case LL=>k_is)
   (case LM=>k_is)
   (case LN=>k_is)
   (case LO=>k_is)
   (case LP=>k_is)
   (case LQ=>k_is)
   (case LR=>k_is)
   (case LS=>k_is)
   (case LU=>k_is)
   (case LV=>k_is)
   (case LW=>k_is)
   (case LX=>k_is)
   (case LY=>k_is)
   (case LZ=>k_is)
   (case L0=>k_is)
   (case L3=>k_is)
   (case L4=>k_is)
   (case L5=>k_is)
   (case L6=>k_is)
   (case L7=>k_is)
   (case L8=>k_is)
   (case vh=>k_is)
   (case vi=>k_is)
   (case vj=>k_is)
   (case vk=>k_is)
   (case vn=>k_is)
   (case vp=>k_is)
   (case vt=>k_is)
   (case vv=>k_is)
   (case vw=>k_is)
   (case vx=>k_is)
   (case vy=>k_is)
   (case vz=>k_is)
   (case vB=>k_is)
   (case vC=>k_is)
   (case vD=>k_is)
   (case vE=>k_exc)
  obtain ⟨t,T⟩:=T
  have e0:=mQ.symm.trans T.zM
  cases e0
  exact My.JH T
#print axioms PySem.Challenge.cw_bandwright_k17_filled_by_walks_holds
