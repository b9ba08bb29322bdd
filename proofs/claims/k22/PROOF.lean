import PyProof.Rows.All
import Wide.All
import OpenK.AllK
import Wide.FinOn
import Lean
import PyProof.EqAt
import PyProof.EqKinds
import PyProof.TupleCall
import PySem.Challenge.RW_bandwright_k22_bare_rings_looked_at
set_option Elab.async false
set_option linter.all false
set_option maxRecDepth 100000
namespace L2
open PySem PySem.Spec PyProof.Rows
abbrev Key:=Sum Int Str
def nR:Key→Value→Bool
 | .inl k,v=>Value.isInt k v
 | .inr x,v=>Value.isStrOf x v
def sX(w:World):Key→Int
 | .inl k=>hashInt k
 | .inr x=>hashStr w x
theorem dC:∀{k:Key} {v:Value},nR k v=true→(∃i t,k=Sum.inl i∧v=Value.int i t)∨(∃x t,k=Sum.inr x∧v=Value.str x t)
 | .inl i,v,h=>by
  obtain ⟨t,e⟩:=Value.isInt_shape (k:=i) (v:=v) h
  exact .inl ⟨i,t,rfl,e⟩
 | .inr x,v,h=>by
  obtain ⟨t,e⟩:=Value.isStrOf_shape (x:=x) (v:=v) h
  exact .inr ⟨x,t,rfl,e⟩
theorem sY(a b:Int):decide ((Sum.inl a:Key)=Sum.inl b)=(a == b):=by
 by_cases e:a=b
 ·subst e;simp
 ·have h:¬(Sum.inl a:Key)=Sum.inl b:=fun q=>e (Sum.inl.inj q)
  rw [decide_eq_false h]
  exact (beq_eq_false_iff_ne.mpr e).symm
theorem sZ(a b:Str):decide ((Sum.inr a:Key)=Sum.inr b)=decide (a=b):=by
 by_cases e:a=b
 ·subst e;simp
 ·have h:¬(Sum.inr a:Key)=Sum.inr b:=fun q=>e (Sum.inr.inj q)
  rw [decide_eq_false h,decide_eq_false e]
theorem s_(a:Int)(b:Str):decide ((Sum.inl a:Key)=Sum.inr b)=false:=decide_eq_false (fun q=>nomatch q)
theorem tf(a:Str)(b:Int):decide ((Sum.inr a:Key)=Sum.inl b)=false:=decide_eq_false (fun q=>nomatch q)
def nS(prog:Program)(w:World):PySem.KeyKind prog w Key where
 is:=nR
 hash:=sX w
 inj:=fun v a b ha hb=>by
  rcases dC ha with ⟨i,t,rfl,rfl⟩ | ⟨x,t,rfl,rfl⟩
  ·rcases dC hb with ⟨j,u,rfl,e⟩ | ⟨y,u,rfl,e⟩
   ·injection e with e1 _;rw [e1]
   ·exact nomatch e
  ·rcases dC hb with ⟨j,u,rfl,e⟩ | ⟨y,u,rfl,e⟩
   ·exact nomatch e
   ·injection e with e1 _;rw [e1]
 byValue:=fun k v h=>by
  rcases dC h with ⟨i,t,rfl,rfl⟩ | ⟨x,t,rfl,rfl⟩ <;> rfl
 pyHash:=fun hv h=>by
  rcases dC hv with ⟨i,t,rfl,rfl⟩ | ⟨x,t,rfl,rfl⟩
  ·exact wpAny_pyHash_int h
  ·exact wpAny_pyHash_str h
 eqBool:=fun hu hv h=>by
  rcases dC hu with ⟨i,t,rfl,rfl⟩ | ⟨x,t,rfl,rfl⟩
  ·rcases dC hv with ⟨j,u,rfl,rfl⟩ | ⟨y,u,rfl,rfl⟩
   ·rw [sY] at h;exact wpAny_eqBool_int h
   ·rw [s_] at h;exact SeqAt.EqAt.int_str i t y u _ _ _ _ h
  ·rcases dC hv with ⟨j,u,rfl,rfl⟩ | ⟨y,u,rfl,rfl⟩
   ·rw [tf] at h;exact SeqAt.EqAt.str_int x t j u _ _ _ _ h
   ·rw [sZ] at h;exact wpAny_eqBool_str h
 «strs»:=fun k x t v h=>by
  rcases dC h with ⟨i,u,rfl,e⟩ | ⟨y,u,rfl,e⟩
  ·exact nomatch e
  ·injection e with e1 _
   subst e1
   cases v <;> rfl
inductive V where
 | aw | bl (b:Bool) | int (i:Int) | str (x:Str) | cW (b:Array UInt8) | fS (b:UInt64) | ref (a:Addr) | ty (n:String)
 deriving DecidableEq
def RelV:V→Value→Prop
 | .aw,u=>u=Value.none
 | .bl b,u=>u=Value.bool b
 | .int i,u=>∃t,u=Value.int i t
 | .str x,u=>∃t,u=Value.str x t
 | .cW b,u=>∃t,u=Value.bytes b t
 | .fS b,u=>∃t,u=Value.float b t
 | .ref a,u=>u=Value.ref a
 | .ty n,u=>u=Value.type n
abbrev Vals:List V→List Value→Prop:=Paired RelV
theorem Vals.length{xs:List V}{us:List Value}(r:Vals xs us):xs.length=us.length:=Paired.length r
theorem Vals.get:∀{xs:List V} {us:List Value} {i:Nat} {x:V},Vals xs us→xs[i]?=some x→∃u,us[i]?=some u∧RelV x u
 | _,_,_,_,.nil,e=>by simp at e
 | _,_,0,_,.cons r _,e=>by simp at e;subst e;exact ⟨_,rfl,r⟩
 | _,_,i+1,x,.cons _ t,e=>by
  obtain ⟨u,h1,h2⟩:=Vals.get (i:=i) (x:=x) t (by simpa using e)
  exact ⟨u,by simpa using h1,h2⟩
theorem Vals.set{x:V}{u:Value}(r:RelV x u):∀{xs:List V} {us:List Value} (i:Nat),Vals xs us→Vals (xs.set i x) (us.set i u)
 | _,_,_,.nil=>.nil
 | _,_,0,.cons _ t=>.cons r t
 | _,_,i+1,.cons q t=>.cons q (Vals.set r i t)
theorem Vals.append:∀{xs ys:List V} {us ws:List Value},Vals xs us→Vals ys ws→Vals (xs++ys) (us++ws)
 | _,_,_,_,.nil,s=>s
 | _,_,_,_,.cons r t,s=>.cons r (Vals.append t s)
theorem Vals.take:∀{xs:List V} {us:List Value} (n:Nat),Vals xs us→Vals (xs.take n) (us.take n)
 | _,_,0,_=>.nil
 | _,_,_+1,.nil=>.nil
 | _,_,n+1,.cons r t=>.cons r (Vals.take n t)
theorem Vals.drop:∀{xs:List V} {us:List Value} (n:Nat),Vals xs us→Vals (xs.drop n) (us.drop n)
 | _,_,0,r=>r
 | _,_,_+1,.nil=>.nil
 | _,_,n+1,.cons _ t=>Vals.drop n t
theorem Vals.none_of:∀{xs:List V} {us:List Value} {i:Nat},Vals xs us→xs[i]?=none→us[i]?=none:=fun{xs us i} r e=>by
 have h1:=r.length
 have h2:xs.length≤i:=List.getElem?_eq_none_iff.mp e
 exact List.getElem?_eq_none_iff.mpr (by omega)
def kJ:Option V→Option Value→Prop
 | some v,some u=>RelV v u
 | none,none=>True
 | _,_=>False
def KV{κ:Type}:List (κ×V)→List (κ×Value)→Prop:=Paired fun(p:κ×V) (q:κ×Value)=>p.1=q.1∧RelV p.2 q.2
def kV:Key→V
 | .inl i=>.int i
 | .inr x=>.str x
inductive HO where
 | lst (xs:List V)
 | tup (xs:List V)
 | dK (aW:List (Key×V)) | dT (aW:List (List Key×V))
 | set (S:Int→Bool) (n:Nat)
 | ins (C dx:Addr) (fs:List (Str×V))
 | own (x:Addr)
 | xd (fs:List (Str×V))
 | met (f x:Addr)
 | cA (lo hi:Int)
 | cm (o:Obj) (u:HO)
 | eR (ps:Array Value)
 | ext (φ:Heap→Prop)
abbrev Hp:=Addr→Option HO
def upd(H:Hp)(a:Addr)(o:HO):Hp:=fun b=>if b=a then some o else H b
theorem ak{H:Hp}{a:Addr}{o:HO}:upd H a o a=some o:=by unfold upd;rw [if_pos rfl]
theorem aD{H:Hp}{a b:Addr}{o:HO}(h:b≠a):upd H a o b=H b:=by unfold upd;rw [if_neg h]
theorem da{H:Hp}{a b:Addr}{o:HO}(h:H a=some o)(h':H b=none):a≠b:=by
 intro e;subst e;rw [h] at h';cases h'
section
variable (P:Program) (w:World)
def a7(H:Hp)(h:Heap)(a:Addr):HO→Prop
 | .lst xs=>xs.length≤sizeLine∧∃(ae:List Value) (n:Nat),Vals xs ae∧h.get? a=some {cls:=.type "list",data:=.seq ae.toArray n}
 | .tup xs=>xs.length≤sizeLine∧∃ae:List Value,Vals xs ae∧IsTup h a ae.toArray
 | .dK aW=>aW.length≤sizeLine∧(a == sysModules)=false∧∃vs,KV aW vs∧h.DictOf (nS P w) a vs
 | .dT aW=>aW.length≤sizeLine∧(a == sysModules)=false∧∃xs:List (List Key×Addr×Value),
   Paired (fun(p:List Key×V) (q:List Key×Addr×Value)=>p.1=q.1∧H q.2.1=some (.tup (p.1.map kV))∧RelV p.2 q.2.2) aW xs ∧
   ∃o es ep,h.get? a=some o∧o.ExactDict∧o.data=.dict es ep∧es.toList=xs.map (entryOfKey (tupleKind (nS P w)))∧(xs.map (·.1)).Nodup
 | .set S n=>h.SetOf (intKind P w) a S n
 | .ins C dx fs=>H dx=some (.own a)∧fs.length≤1000∧dx≠a∧h.get? a=some (PySem.W.instObj C dx) ∧
   ∃mA,h.Ns1 dx mA∧(∀f,kJ (fs.lookup f) (mA f))∧PySem.Within mA (fs.map (·.1))
 | .own _=>∃o,h.get? a=some o
 | .xd fs=>∃mA,h.Ns1 a mA∧∀f,kJ (fs.lookup f) (mA f)
 | .cA lo hi=>∃t u v,h.get? a=some {cls:=.type "range",data:=.fields #[.int lo t,.int hi u,.int 1 v]}
 | .cm o u=>h.get? a=some o∧a7 H h a u
 | .eR ps=>h.get? a=some {cls:=.none,data:=.fields ps}
 | .met f x=>h.get? a=some (PySem.W.methodObj (.ref f) (.ref x))
 | .ext φ=>φ h∧(∃o,h.get? a=some o)∧∀h1 h2:Heap,φ h1→(∀o,h1.get? a=some o→h2.get? a=some o)→φ h2
def aQ(H:Hp)(h:Heap):Prop:=∀a o,H a=some o→a7 P w H h a o
end
section
variable {P:Program} {w:World} {H H':Hp} {h h':Heap} {a:Addr} {o:HO}
theorem a7.lt(x:a7 P w H h a o):a<h.objs.size:=by
 cases o with
 | lst xs=>obtain ⟨_,_,_,_,e⟩:=x;exact Heap.lt_size e
 | tup xs=>obtain ⟨_,_,_,p⟩:=x;exact p.lt
 | dK aW=>obtain ⟨_,_,_,_,o,_,_,e,_⟩:=x;exact Heap.lt_size e
 | dT aW=>obtain ⟨_,_,_,_,o,_,_,e,_⟩:=x;exact Heap.lt_size e
 | set S n=>obtain ⟨o,_,_,_,e,_⟩:=x;exact Heap.lt_size e
 | ins C dx fs=>obtain ⟨_,_,_,e,_⟩:=x;exact Heap.lt_size e
 | own y=>obtain ⟨_,e⟩:=x;exact Heap.lt_size e
 | xd fs=>obtain ⟨_,⟨_,_,_,e,_⟩,_⟩:=x;exact Heap.lt_size e
 | cA lo hi=>obtain ⟨_,_,_,e⟩:=x;exact Heap.lt_size e
 | cm ob u=>obtain ⟨e,_⟩:=x;exact Heap.lt_size e
 | eR ps=>exact Heap.lt_size (show h.get? a=some _ from x)
 | met f y=>exact Heap.lt_size (show h.get? a=some _ from x)
 | ext φ=>obtain ⟨_,⟨_,e⟩,_⟩:=x;exact Heap.lt_size e
theorem Paired.nU{α β:Type}{F G:α→β→Prop}:∀{l₁:List α} {l₂:List β},Paired F l₁ l₂→(∀a b,F a b→G a b)→Paired G l₁ l₂
 | _,_,.nil,_=>.nil
 | _,_,.cons r t,f=>.cons (f _ _ r) (Paired.nU t f)
theorem a7.cX(x:a7 P w H h a o)(k:∀b u,(b=a∨H b=some (.own a))→h.get? b=some u→h'.get? b=some u)
  (ho:∀b,H b=some (.own a)→H' b=some (.own a)) (ht:∀b xs,H b=some (.tup xs)→H' b=some (.tup xs)):a7 P w H' h' a o:=by
 induction o with
 | lst xs=>obtain ⟨z,ae,n,r,e⟩:=x;exact ⟨z,ae,n,r,k _ _ (.inl rfl) e⟩
 | tup xs=>obtain ⟨z,ae,r,ob,e,c⟩:=x;exact ⟨z,ae,r,ob,k _ _ (.inl rfl) e,c⟩
 | dK aW=>obtain ⟨z,y,vs,r,ob,es,ep,e,c⟩:=x;exact ⟨z,y,vs,r,ob,es,ep,k _ _ (.inl rfl) e,c⟩
 | dT aW=>
  obtain ⟨z,y,xs,r,ob,es,ep,e,c⟩:=x
  exact ⟨z,y,xs,Paired.nU r fun p q z=>⟨z.1,ht _ _ z.2.1,z.2.2⟩,ob,es,ep,k _ _ (.inl rfl) e,c⟩
 | set S n=>obtain ⟨ob,es,ep,t,e,c⟩:=x;exact ⟨ob,es,ep,t,k _ _ (.inl rfl) e,c⟩
 | ins C dx fs=>
  obtain ⟨d,z,ne,e,mA,⟨od,es,ep,e2,c⟩,r⟩:=x
  exact ⟨ho _ d,z,ne,k _ _ (.inl rfl) e,mA,⟨od,es,ep,k _ _ (.inr d) e2,c⟩,r⟩
 | own y=>obtain ⟨ob,e⟩:=x;exact ⟨ob,k _ _ (.inl rfl) e⟩
 | xd fs=>obtain ⟨mA,⟨od,es,ep,e,c⟩,r⟩:=x;exact ⟨mA,⟨od,es,ep,k _ _ (.inl rfl) e,c⟩,r⟩
 | cA lo hi=>obtain ⟨t,u,v,e⟩:=x;exact ⟨t,u,v,k _ _ (.inl rfl) e⟩
 | cm ob u ih=>obtain ⟨e,q⟩:=x;exact ⟨k _ _ (.inl rfl) e,ih q⟩
 | eR ps=>
  have e:h.get? a=some {cls:=.none,data:=.fields ps}:=x
  show h'.get? a=some {cls:=.none,data:=.fields ps}
  exact k a _ (.inl rfl) e
 | met f y=>
  have e:h.get? a=some (PySem.W.methodObj (.ref f) (.ref y)):=x
  show h'.get? a=some (PySem.W.methodObj (.ref f) (.ref y))
  exact k a _ (.inl rfl) e
 | ext φ=>obtain ⟨p,⟨o,e⟩,st⟩:=x;exact ⟨st _ _ p fun o q=>k _ _ (.inl rfl) q,⟨o,k _ _ (.inl rfl) e⟩,st⟩
theorem aQ.lt(x:aQ P w H h)(e:H a=some o):a<h.objs.size:=(x a o e).lt
theorem aQ.fresh(x:aQ P w H h)(e:h.objs.size≤a):H a=none:=by
 cases q:H a with
 | none=>rfl
 | some u=>exact absurd (Nat.lt_of_lt_of_le (x.lt q) e) (Nat.lt_irrefl _)
theorem aQ.kept(x:aQ P w H h)(k:∀b u,h.get? b=some u→h'.get? b=some u):aQ P w H h':=fun a o e=>
 (x a o e).cX (fun b u _ q=>k b u q) (fun _ q=>q) fun _ _ q=>q
theorem aQ.laid(x:aQ P w H h)(k:∀b u,h.get? b=some u→h'.get? b=some u)(hp:h.objs.size≤a)(new:a7 P w (upd H a o) h' a o):aQ P w (upd H a o) h':=fun b u e=>by
 have hn:=x.fresh hp
 by_cases hb:b=a
 ·subst hb;rw [ak] at e;cases e;exact new
 ·rw [aD hb] at e
  exact (x b u e).cX (fun c v _ q=>k c v q) (fun c q=>by rw [aD (da q hn)];exact q) fun c xs q=>by rw [aD (da q hn)];exact q
end
def Rd(H:Hp)(a:Addr)(u:HO):Prop:=H a=some u∨∃o,H a=some (.cm o u)
theorem Rd.ok{P:Program}{w:World}{H:Hp}{h:Heap}{a:Addr}{u:HO}(r:Rd H a u)(x:aQ P w H h):a7 P w H h a u:=by
 rcases r with r | ⟨o,r⟩
 ·exact x a u r
 ·obtain ⟨_,q⟩:=x a _ r
  exact q
def jc:Option HO→Prop
 | some (.lst _)=>True
 | some (.dK _)=>True
 | some (.dT _)=>True
 | some (.set _ _)=>True
 | some (.ins _ _ _)=>True
 | some (.ext _)=>True
 | _=>False
section
variable {P:Program} {w:World} {H:Hp} {h h':Heap} {x e:Addr} {o':HO}
theorem aQ.write(ok:aQ P w H h)(mu:jc (H x))(he:e=x∨H e=some (.own x))(k:∀b u,b≠e→h.get? b=some u→h'.get? b=some u)(fT:∃u,h'.get? e=some u)
  (new:a7 P w (upd H x o') h' x o'):aQ P w (upd H x o') h':=fun b u q=>by
 have nV:∀c y,H c=some (.own y)→c≠x:=fun c y r z=>by subst z;rw [r] at mu;exact mu
 have tj:∀c xs,H c=some (.tup xs)→c≠x:=fun c xs r z=>by subst z;rw [r] at mu;exact mu
 by_cases hb:b=x
 ·subst hb;rw [ak] at q;cases q;exact new
 ·rw [aD hb] at q
  by_cases eS:b=e
  ·have q':H b=some (.own x):=by
    rcases he with z | z
    ·exact absurd (eS.trans z) hb
    ·rw [eS];exact z
   rw [q] at q';cases q'
   obtain ⟨v,hv⟩:=fT
   exact ⟨v,by rw [eS];exact hv⟩
  ·refine (ok b u q).cX (fun c v hc r=>k c v ?_ r) (fun c r=>by rw [aD (nV c b r)];exact r) fun c xs r=>by rw [aD (tj c xs r)];exact r
   rcases hc with rfl | hc
   ·exact eS
   ·rintro rfl
    rcases he with z | z
    ·exact nV c b hc z
    ·rw [hc] at z;cases z;exact hb rfl
end
structure Un (fs ex:List Addr) (H H':Hp) (h h':Heap):Prop where
 keep:∀b o,h.get? b=some o→H b=none→b∉fs→b∉ex→h'.get? b=some o
 slot:∀b o,h.get? b=some o→H b=none→b∈fs→b∉ex→∃sl,h'.get? b=some {o with slots:=sl}
 free:∀b o,h.get? b=some o→H b=none→b∉ex→H' b=none
 there:∀b o,h.get? b=some o→b∉ex→∃o',h'.get? b=some o'
 cL:∀b xs,H b=some (.tup xs)→H' b=some (.tup xs)
 cB:∀b o u,H b=some (.cm o u)→H' b=some (.cm o u)
 cM:∀b ps,H b=some (.eR ps)→∃more,H' b=some (.eR (ps++more))
section
variable {fs kK ex cC:List Addr} {H H1 H2:Hp} {h h1 h2 h':Heap} {a x e:Addr} {o:HO}
theorem Un.any(u:Un fs ex H H1 h h1){b:Addr}{ob:Obj}(q:h.get? b=some ob)(n:H b=none)(hx:b∉ex):∃sl,h1.get? b=some {ob with slots:=sl}:=by
 by_cases hb:b∈fs
 ·exact u.slot b ob q n hb hx
 ·exact ⟨ob.slots,u.keep b ob q n hb hx⟩
theorem Un.kept(k:∀b u,h.get? b=some u→h'.get? b=some u):Un fs ex H H h h':=
 ⟨fun b ob q _ _ _=>k b ob q,fun b ob q _ _ _=>⟨ob.slots,k b ob q⟩,fun _ _ _ n _=>n,fun b ob q _=>⟨ob,k b ob q⟩,fun _ _ q=>q,fun _ _ _ q=>q,fun _ ps q=>⟨#[],by rw [q];simp⟩⟩
theorem Un.refl:Un fs ex H H h h:=Un.kept fun _ _ q=>q
theorem Un.laid(k:∀b u,h.get? b=some u→h'.get? b=some u)(hp:h.objs.size≤a)(hn:H a=none):Un fs ex H (upd H a o) h h' where
 keep:=fun b u q _ _ _=>k b u q
 slot:=fun b u q _ _ _=>⟨u.slots,k b u q⟩
 free:=fun b u q n _=>by rw [aD (Nat.ne_of_lt (Nat.lt_of_lt_of_le (Heap.lt_size q) hp))];exact n
 there:=fun b u q _=>⟨u,k b u q⟩
 cL:=fun b xs q=>by rw [aD (da q hn)];exact q
 cB:=fun b u xs q=>by rw [aD (da q hn)];exact q
 cM:=fun b ps q=>⟨#[],by rw [aD (da q hn),q];simp⟩
theorem Un.write(mu:jc (H x))(he:e=x∨H e=some (.own x))(k:∀b u,b≠e→h.get? b=some u→h'.get? b=some u)(fT:∃u,h'.get? e=some u):Un fs ex H (upd H x o) h h':=by
 have hx:∀b,H b=none→b≠x:=fun b n z=>by subst z;rw [n] at mu;exact mu
 have hb:∀b,H b=none→b≠e:=fun b n z=>by
  subst z
  rcases he with r | r
  ·exact hx b n r
  ·rw [n] at r;cases r
 have hm:∀b u,H b=some u→¬jc (some u)→b≠x:=fun b u q nm z=>by subst z;rw [q] at mu;exact nm mu
 refine ⟨fun b u q n _ _=>k b u (hb b n) q,fun b u q n _ _=>⟨u.slots,k b u (hb b n) q⟩,fun b u q n _=>by rw [aD (hx b n)];exact n,fun b u q _=>?_,
  fun b xs q=>by rw [aD (hm b _ q fun z=>z)];exact q,fun b u xs q=>by rw [aD (hm b _ q fun z=>z)];exact q,fun b ps q=>⟨#[],by rw [aD (hm b _ q fun z=>z),q];simp⟩⟩
 by_cases eS:b=e
 ·subst eS;exact fT
 ·exact ⟨u,k b u eS q⟩
end
def jd(h:Heap)(H:Hp):List Addr:=(List.range h.objs.size).filter fun a=>(H a).isSome
def dD(h:Heap)(H:Hp):Heap:=PySem.W.hideAll h (jd h H)
theorem tm(h:Heap)(H:Hp):(dD h H).objs.size=h.objs.size:=PySem.W.hideAll_size _ _
theorem tu{h:Heap}{H:Hp}{b:Addr}{o:Obj}(e:h.get? b=some o)(n:H b=none):(dD h H).get? b=some o:=
 PySem.W.hideAll_get _ e fun hm=>by
  have q:(H b).isSome=true:=(List.mem_filter.mp hm).2
  rw [n] at q;simp at q
theorem tw{h:Heap}{H:Hp}{b:Addr}{o:Obj}(e:(dD h H).get? b=some o):h.get? b=some o∧H b=none:=by
 have e':h.get? b=some o:=PySem.W.of_hideAll (jd h H) e
 refine ⟨e',?_⟩
 cases q:H b with
 | none=>rfl
 | some x=>
  have hm:b∈jd h H:=List.mem_filter.mpr ⟨List.mem_range.mpr (Heap.lt_size e'),by simp [q]⟩
  have z:(dD h H).get? b=none:=PySem.W.hideAll_none (jd h H) hm
  rw [z] at e;cases e
structure Mod (K:PySem.W.Frag) (mg:Str→Option Value) (base:Heap):Prop where
 bf:K.In base
 glob:base.Ns mainGlobals mg
 blt:∃mb,base.Ns builtinsNs mb∧∀x:Str,x ≠ "__name__"→mb x=bootBuiltins x
 nolimit:base.NoLimit
structure Cx where
 prog:Program
 w:World
 K:PySem.W.Frag
 mg:Str→Option Value
 base:Heap
 A:Around
 N:List Str
 s₀:Shared
 H₀:Hp
 env:Env
 outer:List Env
 stack:List Env
 ex:List Addr
 fn:Str→Bool
 calm:Bool
 pn:List (Addr×Obj)
 xe:Value→Shared→Prop
def bD(l:List Env):List Addr:=l.filterMap (·.frame)
abbrev Cx.fs (X:Cx):List Addr:=bD X.outer
def fU(sc:Scope)(x:Str):Prop:=sc.names.lookup x=some .local∨sc.names.lookup x=some .cell∨sc.names.lookup x=some .free
def Loc(sc:Scope)(x:Str):Prop:=sc.names.lookup x=some .local∨sc.names.lookup x=some .cell
def Look(env:Env)(h:Heap)(m:Str→Option Value)(x:Str)(u:Value):Prop:=
 (env.kindOf x=some .local∧m x=some u)∨((env.kindOf x=some .cell∨env.kindOf x=some .free)∧∃c,env.cells.lookup x=some c∧h.IsCell c (some u))
structure Cx.Ok (X:Cx):Prop where
 mod:Mod X.K X.mg X.base
 kind:X.env.scope.kind=.function
 glob:X.env.globals=mainGlobals
 blt:X.env.builtins=builtinsNs
 above:X.s₀.heap.objs.size≤X.env.locals
 inj:∀x y c,X.env.cells.lookup x=some c→X.env.cells.lookup y=some c→x=y
 has:∀x,(X.env.kindOf x=some .cell∨X.env.kindOf x=some .free)→∃c,X.env.cells.lookup x=some c
 eU:∀x c,X.fn x=true→X.env.cells.lookup x=some c→X.s₀.heap.objs.size≤c
 hd:X.calm=true→X.A.handled=none
 frames:X.A.frames=some X.stack
 je:X.stack=X.outer∨(X.stack=X.env::X.outer∧X.env.frame=some X.env.locals)
 nW:∀b∈X.ex,b≠X.env.locals∧∀x c,X.env.cells.lookup x=some c→c≠b
 bs:∀b o,X.base.get? b=some o→X.s₀.heap.get? b=some o∧X.H₀ b=none
 cp:X.base.objs.size≤X.s₀.heap.objs.size
 d6:∀b o,X.base.get? b=some o→b∉X.ex
 d7:∀b∈X.ex,b∉X.fs
 cY:X.s₀.heap.FunFrames X.base X.outer
 fV:∀b∈X.fs,X.H₀ b=none
structure Inv (X:Cx) (pins:List (Addr×Obj)) (σ:List (Option V)) (H:Hp) (s:Shared):Prop where
 ok:X.Ok
 os:s.os=X.s₀.os
 bare:AllBare s.gens
 base:Un X.fs X.ex X.H₀ H X.s₀.heap s.heap
 loc:∃m,s.heap.Ns X.env.locals m∧∀(i:Nat) (x:Str) (v:V),X.N[i]?=some x→σ[i]?=some (some v)→fU X.env.scope x→∃u,RelV v u∧Look X.env s.heap m x u
 cell:∀x c,X.env.cells.lookup x=some c→∃v,s.heap.IsCell c v
 free:H X.env.locals=none
 cD:∀x c,X.env.cells.lookup x=some c→H c=none
 pin:∀p∈X.pn++pins,s.heap.get? p.1=some p.2∧H p.1=none∧p.1≠X.env.locals∧p.1∉X.fs∧∀v,p.2.data≠.cell v
 ao:aQ X.prog X.w H s.heap
 len:σ.length=X.N.length
section
variable {X:Cx} {pins:List (Addr×Obj)} {σ:List (Option V)} {H H':Hp} {s:Shared} {h':Heap}
theorem Cx.Ok.tD(ok:X.Ok){b:Addr}{o:Obj}(e:X.base.get? b=some o):b∉X.fs:=fun hb=>by
 have:=(ok.cY.mem hb).1
 rw [e] at this;cases this
theorem Inv.bs(I:Inv X pins σ H s):∀b o,X.base.get? b=some o→s.heap.get? b=some o∧H b=none:=fun b o e=>
 ⟨I.base.keep b o (I.ok.bs b o e).1 (I.ok.bs b o e).2 (I.ok.tD e) (I.ok.d6 b o e),I.base.free b o (I.ok.bs b o e).1 (I.ok.bs b o e).2 (I.ok.d6 b o e)⟩
theorem Inv.bk(I:Inv X pins σ H s):∀b o,X.base.get? b=some o→s.heap.get? b=some o:=fun b o e=>(I.bs b o e).1
theorem Inv.mod(I:Inv X pins σ H s):Mod X.K X.mg X.base:=I.ok.mod
theorem Inv.bE(I:Inv X pins σ H s):X.K.In s.heap:=I.ok.mod.bf.keeps I.bk
theorem Inv.lt(I:Inv X pins σ H s):X.env.locals<s.heap.objs.size:=let ⟨_,hn,_⟩:=I.loc;hn.lt
theorem Inv.sz(I:Inv X pins σ H s):X.s₀.heap.objs.size≤s.heap.objs.size:=Nat.le_trans I.ok.above (Nat.le_of_lt I.lt)
theorem Inv.tE(I:Inv X pins σ H s){a:Addr}(h:s.heap.objs.size≤a):a∉X.fs:=fun hb=>by
 obtain ⟨_,o,ho,_⟩:=I.ok.cY.mem hb
 exact absurd (Nat.lt_of_lt_of_le (Heap.lt_size ho) (Nat.le_trans I.sz h)) (Nat.lt_irrefl _)
theorem Inv.eV(I:Inv X pins σ H s):∀x c,X.env.cells.lookup x=some c→c≠X.env.locals:=fun x c e z=>by
 obtain ⟨v,o,ho,hd⟩:=I.cell x c e
 obtain ⟨m,⟨o',es,ep,dE,tF,_⟩,_⟩:=I.loc
 rw [z,dE] at ho;cases ho;rw [tF] at hd;cases hd
theorem Inv.cY(I:Inv X pins σ H s):s.heap.FunFrames X.base X.outer:=by
 have all:∀(l:List Env),(∀b∈bD l,b∈X.fs)→X.s₀.heap.FunFrames X.base l→s.heap.FunFrames X.base l:=by
  intro l
  induction l with
  | nil=>intro _ _;trivial
  | cons env r ih=>
   intro hs hl
   obtain ⟨hk,⟨L,o,hf,hn,ho,hd⟩,hr⟩:=hl
   have hL:L∈X.fs:=hs L (by unfold bD;rw [List.filterMap_cons,hf];exact List.mem_cons_self)
   obtain ⟨sl,e⟩:=I.base.slot L o ho (I.ok.fV L hL) hL fun z=>I.ok.d7 L z hL
   exact ⟨hk,⟨L,_,hf,hn,e,hd⟩,ih (fun b hb=>hs b (by unfold bD;rw [List.filterMap_cons,hf];exact List.mem_cons_of_mem _ hb)) hr⟩
 exact all X.outer (fun _ hb=>hb) I.ok.cY
theorem Inv.stack(I:Inv X pins σ H s):s.heap.FunFrames X.base X.stack:=by
 rcases I.ok.je with e | ⟨e,hf⟩
 ·rw [e];exact I.cY
 ·rw [e]
  obtain ⟨m,hn,_⟩:=I.loc
  refine .cons (by rw [I.ok.kind];decide) hf hn ?_ I.cY
  exact Heap.get?_none_of_le (Nat.le_trans I.ok.cp I.ok.above)
theorem Inv.fW(I:Inv X pins σ H s):∀b∈bD X.stack,b∈X.env.locals::X.fs:=fun b hb=>by
 rcases I.ok.je with e | ⟨e,hf⟩
 ·rw [e] at hb;exact List.mem_cons_of_mem _ hb
 ·rw [e] at hb
  unfold bD at hb
  rw [List.filterMap_cons,hf] at hb
  exact hb
theorem Inv.ic(I:Inv X pins σ H s):∀b∈bD X.stack,H b=none:=fun b hb=>by
 rcases List.mem_cons.mp (I.fW b hb) with e | hb
 ·rw [e];exact I.free
 ·obtain ⟨_,o,ho,_⟩:=I.ok.cY.mem hb
  exact I.base.free b o ho (I.ok.fV b hb) fun z=>I.ok.d7 b z hb
theorem Inv.step{g':Array GenState}{t':Nat}{d':Drawn}{ch:List Addr}(I:Inv X pins σ H s)
  (dc:∀b∈ch,(b∈X.ex∨X.s₀.heap.objs.size≤b)∧b≠X.env.locals∧(∀x c,X.env.cells.lookup x=some c→c≠b)∧∀p∈X.pn++pins,p.1≠b)
  (keep:∀b o,b≠X.env.locals→b∉X.fs→b∉ch→s.heap.get? b=some o→H b=none→h'.get? b=some o)
  (slot:∀b o,b≠X.env.locals→b∈X.fs→b∉ch→s.heap.get? b=some o→H b=none→∃sl,h'.get? b=some {o with slots:=sl}) (free:∀b o,b∉ch→s.heap.get? b=some o→H b=none→H' b=none)
  (there:∀b o,b∉ch→s.heap.get? b=some o→∃o',h'.get? b=some o')
  (cL:∀b xs,H b=some (.tup xs)→H' b=some (.tup xs)) (cB:∀b o u,H b=some (.cm o u)→H' b=some (.cm o u)) (cM:∀b ps,H b=some (.eR ps)→∃more,H' b=some (.eR (ps++more)))
  (ns:∀m,s.heap.Ns X.env.locals m→h'.Ns X.env.locals m) (ao:aQ X.prog X.w H' h') (hg:AllBare g') :
  Inv X pins σ H' {s with heap:=h',gens:=g',drawn:=d',toks:=t'}:=by
 have nX:∀b o,X.s₀.heap.get? b=some o→b≠X.env.locals:=fun b o e=>Nat.ne_of_lt (Nat.lt_of_lt_of_le (Heap.lt_size e) I.ok.above)
 have jf:∀b o,X.s₀.heap.get? b=some o→b∉X.ex→b∉ch:=fun b o e hx hb=>by
  rcases (dc b hb).1 with z | z
  ·exact hx z
  ·exact absurd (Nat.lt_of_lt_of_le (Heap.lt_size e) z) (Nat.lt_irrefl _)
 have cellK:∀x c,X.env.cells.lookup x=some c→∀v,s.heap.IsCell c v→h'.IsCell c v:=fun x c e v ⟨o,ho,hd⟩=>by
  have ie:c∉ch:=fun z=>(dc c z).2.2.1 x c e rfl
  by_cases hc:c∈X.fs
  ·obtain ⟨sl,q⟩:=slot c o (I.eV x c e) hc ie ho (I.cD x c e)
   exact ⟨_,q,hd⟩
  ·exact ⟨o,keep c o (I.eV x c e) hc ie ho (I.cD x c e),hd⟩
 refine ⟨I.ok,I.os,hg,⟨fun b o e n hb hx=>?_,fun b o e n hb hx=>?_,fun b o e n hx=>?_,fun b o e hx=>?_,fun b xs e=>cL b xs (I.base.cL b xs e),fun b o xs e=>cB b o xs (I.base.cB b o xs e),fun b ps e=>?_⟩,?_,fun x c e=>?_,?_,fun x c e=>?_,fun p hp=>?_,ao,I.len⟩
 ·exact keep b o (nX b o e) hb (jf b o e hx) (I.base.keep b o e n hb hx) (I.base.free b o e n hx)
 ·obtain ⟨sl,e1⟩:=I.base.slot b o e n hb hx
  obtain ⟨tG,e2⟩:=slot b _ (nX b o e) hb (jf b o e hx) e1 (I.base.free b o e n hx)
  exact ⟨tG,e2⟩
 ·obtain ⟨o',e1⟩:=I.base.there b o e hx
  exact free b o' (jf b o e hx) e1 (I.base.free b o e n hx)
 ·obtain ⟨o',e1⟩:=I.base.there b o e hx
  exact there b o' (jf b o e hx) e1
 ·obtain ⟨m1,e1⟩:=I.base.cM b ps e
  obtain ⟨m2,e2⟩:=cM b _ e1
  exact ⟨m1++m2,by rw [e2,Array.append_assoc]⟩
 ·obtain ⟨m,hn,hl⟩:=I.loc
  refine ⟨m,ns m hn,fun i x v e1 e2 e3=>?_⟩
  obtain ⟨u,r,l⟩:=hl i x v e1 e2 e3
  refine ⟨u,r,?_⟩
  rcases l with l | ⟨k,c,e,z⟩
  ·exact .inl l
  ·exact .inr ⟨k,c,e,cellK x c e _ z⟩
 ·obtain ⟨v,z⟩:=I.cell x c e
  exact ⟨v,cellK x c e v z⟩
 ·obtain ⟨m,⟨o,_,_,ho,_⟩,_⟩:=I.loc
  exact free _ o (fun z=>(dc _ z).2.1 rfl) ho I.free
 ·obtain ⟨v,o,ho,hd⟩:=I.cell x c e
  exact free c o (fun z=>(dc c z).2.2.1 x c e rfl) ho (I.cD x c e)
 ·obtain ⟨e,n,ne,nf,d⟩:=I.pin p hp
  have ie:p.1∉ch:=fun z=>(dc p.1 z).2.2.2 p hp rfl
  exact ⟨keep p.1 p.2 ne nf ie e n,free p.1 p.2 ie e n,ne,nf,d⟩
theorem Inv.un{t':Nat}(I:Inv X pins σ H s)(u:Un X.fs [] H H' s.heap h')(ao:aQ X.prog X.w H' h'):Inv X pins σ H' {s with heap:=h',toks:=t'}:=by
 obtain ⟨m,⟨o,es,ep,ho,r⟩,_⟩:=id I.loc
 obtain ⟨sl,hL⟩:=u.any ho I.free (by simp)
 exact I.step (g':=s.gens) (d':=s.drawn) (ch:=[]) (fun _ z=>nomatch z) (fun b o _ hb _ e n=>u.keep b o e n hb (by simp)) (fun b o _ hb _ e n=>u.slot b o e n hb (by simp)) (fun b o _ e n=>u.free b o e n (by simp)) (fun b o _ e=>u.there b o e (by simp)) u.cL u.cB u.cM (fun m' hm=>by
  obtain ⟨o',kL,ig,dE,r'⟩:=hm
  rw [ho] at dE;cases dE
  exact ⟨_,kL,ig,hL,r'⟩) ao I.bare
theorem Inv.call{g':Array GenState}{t':Nat}{d':Drawn}{ch:List Addr}(I:Inv X pins σ H s)(u:Un (bD X.stack) ch H H' s.heap h')(ao:aQ X.prog X.w H' h')(hg:AllBare g')
  (dc:∀b∈ch,(b∈X.ex∨X.s₀.heap.objs.size≤b)∧b≠X.env.locals∧(∀x c,X.env.cells.lookup x=some c→c≠b)∧∀p∈X.pn++pins,p.1≠b) :
  Inv X pins σ H' {s with heap:=h',gens:=g',drawn:=d',toks:=t'}:=by
 obtain ⟨m,⟨o,es,ep,ho,r⟩,_⟩:=id I.loc
 obtain ⟨sl,hL⟩:=u.any ho I.free fun z=>(dc _ z).2.1 rfl
 exact I.step (ch:=ch) dc (fun b o hL hb hc e n=>u.keep b o e n (fun z=>(List.mem_cons.mp (I.fW b z)).elim hL hb) hc) (fun b o _ _ hc e n=>u.any e n hc) (fun b o hc e n=>u.free b o e n hc) (fun b o hc e=>u.there b o e hc) u.cL u.cB u.cM (fun m' hm=>by
  obtain ⟨o',kL,ig,dE,r'⟩:=hm
  rw [ho] at dE;cases dE
  exact ⟨_,kL,ig,hL,r'⟩) ao hg
theorem Inv.turned{t':Nat}{it:Addr}(I:Inv X pins σ H s)(k:∀b o,b≠it→s.heap.get? b=some o→h'.get? b=some o)(hn:H it=none)(hL:it≠X.env.locals)
  (h1:it∈X.ex∨X.s₀.heap.objs.size≤it) (h2:∀x c,X.env.cells.lookup x=some c→c≠it) (h3:∀p∈X.pn++pins,p.1≠it):Inv X pins σ H {s with heap:=h',toks:=t'}:=by
 have nY:∀b u,H b=some u→b≠it:=fun b u e z=>by rw [z,hn] at e;cases e
 refine I.step (g':=s.gens) (d':=s.drawn) (ch:=[it]) (fun b hb=>?_) (fun b o _ _ hc e _=>k b o (fun z=>hc (by simp [z])) e) (fun b o _ _ hc e _=>⟨o.slots,k b o (fun z=>hc (by simp [z])) e⟩) (fun _ _ _ _ n=>n)
  (fun b o hc e=>⟨o,k b o (fun z=>hc (by simp [z])) e⟩) (fun _ _ e=>e) (fun _ _ _ e=>e) (fun b ps e=>⟨#[],by rw [e];simp⟩) (fun m hm=>?_) (fun b u e=>?_) I.bare
 ·have e:b=it:=by simpa using hb
  subst e
  exact ⟨h1,hL,h2,h3⟩
 ·obtain ⟨o,es,ep,ho,r⟩:=hm
  exact ⟨o,es,ep,k _ o (Ne.symm hL) ho,r⟩
 ·refine (I.ao b u e).cX (fun c v hc q=>k c v ?_ q) (fun _ q=>q) fun _ _ q=>q
  rcases hc with z | z
  ·rw [z];exact nY b u e
  ·exact nY c _ z
theorem Inv.tok(I:Inv X pins σ H s)(t:Nat):Inv X pins σ H {s with toks:=t}:=I.un (h':=s.heap) (t':=t) Un.refl I.ao
theorem Inv.kept{t':Nat}(I:Inv X pins σ H s)(k:∀b u,s.heap.get? b=some u→h'.get? b=some u):Inv X pins σ H {s with heap:=h',toks:=t'}:=I.un (Un.kept k) (I.ao.kept k)
theorem Inv.laid{a:Addr}{o:HO}{t':Nat}(I:Inv X pins σ H s)(k:∀b u,s.heap.get? b=some u→h'.get? b=some u)(hp:s.heap.objs.size≤a)(new:a7 X.prog X.w (upd H a o) h' a o) :
  Inv X pins σ (upd H a o) {s with heap:=h',toks:=t'}:=I.un (Un.laid k hp (I.ao.fresh hp)) (I.ao.laid k hp new)
theorem Inv.write{x e:Addr}{o:HO}{t':Nat}(I:Inv X pins σ H s)(mu:jc (H x))(he:e=x∨H e=some (.own x))(k:∀b u,b≠e→s.heap.get? b=some u→h'.get? b=some u)(fT:∃u,h'.get? e=some u)
  (new:a7 X.prog X.w (upd H x o) h' x o):Inv X pins σ (upd H x o) {s with heap:=h',toks:=t'}:=I.un (Un.write mu he k fT) (I.ao.write mu he k fT new)
theorem Inv.nZ{n4:List (Addr×Obj)}(I:Inv X pins σ H s)(h:∀p∈n4,s.heap.get? p.1=some p.2∧H p.1=none∧p.1≠X.env.locals∧p.1∉X.fs∧∀v,p.2.data≠.cell v):Inv X n4 σ H s:=
 ⟨I.ok,I.os,I.bare,I.base,I.loc,I.cell,I.free,I.cD,fun p hp=>(List.mem_append.mp hp).elim (fun z=>I.pin p (List.mem_append_left _ z)) (h p),I.ao,I.len⟩
theorem n_{N:List Str}(hN:N.Nodup){i j:Nat}{x:Str}(a:N[i]?=some x)(b:N[j]?=some x):i=j:=by
 obtain ⟨h1,e1⟩:=List.getElem?_eq_some_iff.mp a
 obtain ⟨h2,e2⟩:=List.getElem?_eq_some_iff.mp b
 exact (List.getElem_inj hN).mp (e1.trans e2.symm)
theorem kM{M:Model}{A:Around}{E:Value→Shared→Prop}{i:Nat}{x:Str}{v:V}{u:Value}{Q:Unit→Shared→Prop}(I:Inv X pins σ H s)(hN:X.N.Nodup)(hi:X.N[i]?=some x)(hx:Loc X.env.scope x)(r:RelV v u)
  (h:∀s',Inv X pins (σ.set i (some v)) H s'→(∃a,Heap.SameBut a s.heap s'.heap∧(a=X.env.locals∨X.env.cells.lookup x=some a))→Q () s') (hf:X.fn x=true∨X.env.scope.names.lookup x=some .local:=by first | exact .inl rfl | exact .inr rfl | assumption):wpAny M A (storeName X.env x u) Q E s:=by
 obtain ⟨m,hn,hl⟩:=id I.loc
 have tH:(X.env.scope.kind == .class || (X.env.scope.kind == .module && X.env.locals != X.env.globals))=false:=by rw [I.ok.kind];rfl
 have oa:i<σ.length:=by rw [I.len];exact (List.getElem?_eq_some_iff.mp hi).1
 have eV:=I.eV
 have tracked:∀{a:Addr} {h':Heap},(∃o,s.heap.get? a=some o∧H a=none)→Heap.SameBut a s.heap h'→aQ X.prog X.w H h':=fun{a h'} ha hs b ob e=>by
  obtain ⟨_,_,og⟩:=ha
  refine (I.ao b ob e).cX (fun c w' hc q=>(hs.2 c ?_).trans q) (fun _ q=>q) fun _ _ q=>q
  rintro rfl
  rcases hc with rfl | hc
  ·rw [og] at e;cases e
  ·rw [og] at hc;cases hc
 rcases hx with hk | hk
 ·refine wpAny_storeName_local hk hn (fun h' kN hs=>?_) tH
  obtain ⟨oL,_,_,tI,_⟩:=id hn
  refine h _ ⟨I.ok,I.os,I.bare,⟨fun b o e n hb hx=>?_,fun b o e n hb hx=>?_,I.base.free,fun b o e hx=>?_,I.base.cL,I.base.cB,I.base.cM⟩,⟨_,kN,fun j y v' e1 e2 e3=>?_⟩,fun y c e=>?_,I.free,I.cD,fun p hp=>?_,tracked ⟨oL,tI,I.free⟩ hs,by simpa using I.len⟩ ⟨_,hs,.inl rfl⟩
  ·exact (hs.2 b (Nat.ne_of_lt (Nat.lt_of_lt_of_le (Heap.lt_size e) I.ok.above))).trans (I.base.keep b o e n hb hx)
  ·obtain ⟨sl,e1⟩:=I.base.slot b o e n hb hx
   exact ⟨sl,(hs.2 b (Nat.ne_of_lt (Nat.lt_of_lt_of_le (Heap.lt_size e) I.ok.above))).trans e1⟩
  ·obtain ⟨o',e1⟩:=I.base.there b o e hx
   exact ⟨o',(hs.2 b (Nat.ne_of_lt (Nat.lt_of_lt_of_le (Heap.lt_size e) I.ok.above))).trans e1⟩
  ·by_cases hj:j=i
   ·subst hj
    rw [hi] at e1;cases e1
    rw [List.getElem?_set_self oa] at e2
    cases e2
    exact ⟨u,r,.inl ⟨hk,by simp⟩⟩
   ·rw [List.getElem?_set_ne (Ne.symm hj)] at e2
    obtain ⟨u',r',q⟩:=hl j y v' e1 e2 e3
    refine ⟨u',r',?_⟩
    rcases q with ⟨k,e⟩ | ⟨k,c,e,z⟩
    ·refine .inl ⟨k,?_⟩
     have:y≠x:=fun e=>hj (n_ hN e1 (e▸hi))
     simp [this,e]
    ·exact .inr ⟨k,c,e,z.sameBut hs (eV y c e)⟩
  ·obtain ⟨w',z⟩:=I.cell y c e
   exact ⟨w',z.sameBut hs (eV y c e)⟩
  ·obtain ⟨e,n,ne,nf,d⟩:=I.pin p hp
   exact ⟨(hs.2 p.1 ne).trans e,n,ne,nf,d⟩
 ·have kO:X.fn x=true:=by
   rcases hf with z | z
   ·exact z
   ·rw [z] at hk;cases hk
  obtain ⟨c,hc⟩:=I.ok.has x (.inl hk)
  obtain ⟨w',z⟩:=I.cell x c hc
  refine wpAny_storeName_cell I.ok.kind hk hc z (fun h' cN hs=>?_)
  obtain ⟨oc,oh,tJ⟩:=id z
  refine h {s with heap:=h'} ⟨I.ok,I.os,I.bare,⟨fun b o e n hb hx=>?_,fun b o e n hb hx=>?_,I.base.free,fun b o e hx=>?_,I.base.cL,I.base.cB,I.base.cM⟩,⟨m,hn.sameBut hs (Ne.symm (eV x c hc)),fun j y v' e1 e2 e3=>?_⟩,fun y c' e=>?_,I.free,I.cD,fun p hp=>?_,tracked ⟨oc,oh,I.cD x c hc⟩ hs,by simpa using I.len⟩ ⟨c,hs,.inr hc⟩
  ·exact (hs.2 b (Nat.ne_of_lt (Nat.lt_of_lt_of_le (Heap.lt_size e) (I.ok.eU x c kO hc)))).trans (I.base.keep b o e n hb hx)
  ·obtain ⟨sl,e1⟩:=I.base.slot b o e n hb hx
   exact ⟨sl,(hs.2 b (Nat.ne_of_lt (Nat.lt_of_lt_of_le (Heap.lt_size e) (I.ok.eU x c kO hc)))).trans e1⟩
  ·obtain ⟨o',e1⟩:=I.base.there b o e hx
   exact ⟨o',(hs.2 b (Nat.ne_of_lt (Nat.lt_of_lt_of_le (Heap.lt_size e) (I.ok.eU x c kO hc)))).trans e1⟩
  ·by_cases hj:j=i
   ·subst hj
    rw [hi] at e1;cases e1
    rw [List.getElem?_set_self oa] at e2
    cases e2
    exact ⟨u,r,.inr ⟨.inl hk,c,hc,cN⟩⟩
   ·rw [List.getElem?_set_ne (Ne.symm hj)] at e2
    obtain ⟨u',r',q⟩:=hl j y v' e1 e2 e3
    refine ⟨u',r',?_⟩
    rcases q with q | ⟨k,c',e,z'⟩
    ·exact .inl q
    ·refine .inr ⟨k,c',e,z'.sameBut hs ?_⟩
     rintro rfl
     exact hj (n_ hN e1 (I.ok.inj _ _ _ e hc▸hi))
  ·by_cases oi:c'=c
   ·subst oi;exact ⟨_,cN⟩
   ·obtain ⟨w2,z2⟩:=I.cell y c' e
    exact ⟨w2,z2.sameBut hs oi⟩
  ·obtain ⟨e,n,ne,nf,d⟩:=I.pin p hp
   refine ⟨(hs.2 p.1 ?_).trans e,n,ne,nf,d⟩
   intro q
   rw [q,oh] at e
   have q':oc=p.2:=Option.some.inj e
   exact d w' (by rw [←q'];exact tJ)
theorem jg{M:Model}{A:Around}{E:Value→Shared→Prop}{i:Nat}{x:Str}{v:V}{u:Value}{Q:Unit→Shared→Prop}(I:Inv X pins σ H s)(hN:X.N.Nodup)(hi:X.N[i]?=some x)(hx:Loc X.env.scope x)(r:RelV v u)
  (h:∀s',Inv X pins (σ.set i (some v)) H s'→Q () s') (hf:X.fn x=true∨X.env.scope.names.lookup x=some .local:=by first | exact .inl rfl | exact .inr rfl | assumption):wpAny M A (storeName X.env x u) Q E s:=
 kM I hN hi hx r (fun s' I' _=>h s' I') hf
theorem Inv.d8{s':Shared}{ch:List Addr}(I:Inv X pins σ H s)(ho:s'.os=s.os)(u:Un (bD X.stack) ch H H' s.heap s'.heap)(ao:aQ X.prog X.w H' s'.heap)(hg:AllBare s'.gens)
  (dc:∀b∈ch,(b∈X.ex∨X.s₀.heap.objs.size≤b)∧b≠X.env.locals∧(∀x c,X.env.cells.lookup x=some c→c≠b)∧∀p∈X.pn++pins,p.1≠b):Inv X pins σ H' s':=by
 obtain ⟨h',g',d',t',o'⟩:=s'
 have e:o'=s.os:=ho
 subst e
 exact I.call (g':=g') (t':=t') (d':=d') u ao hg dc
end
abbrev XK:=Value→Option Addr→Hp→Prop
abbrev St:=List (Option V)
abbrev VK:=V→Hp→Prop
abbrev TE:=St→Hp→VK→Prop
abbrev TT:=St→Hp→(Bool→Hp→Prop)→Prop
abbrev TA:=St→Hp→(List V→Hp→Prop)→Prop
structure Ends where
 nx:St→Hp→Prop
 rt:VK
 bk:St→Hp→Prop:=fun _ _=>False
 ct:St→Hp→Prop:=fun _ _=>False
abbrev TS:=Ends→St→Hp→Prop
def EP(X:Cx)(pins:List (Addr×Obj))(σ:St)(Q:VK)(u:Value)(s':Shared):Prop:=∃v H',Inv X pins σ H' s'∧RelV v u∧Q v H'
def TP(X:Cx)(pins:List (Addr×Obj))(σ:St)(Q:Bool→Hp→Prop)(b:Bool)(s':Shared):Prop:=∃H',Inv X pins σ H' s'∧Q b H'
def AP(X:Cx)(pins:List (Addr×Obj))(σ:St)(Q:List V→Hp→Prop)(us:List Value)(s':Shared):Prop:=∃vs H',Inv X pins σ H' s'∧Vals vs us∧Q vs H'
def SP(X:Cx)(pins:List (Addr×Obj))(D:Ends)(f:Flow)(s':Shared):Prop:=
 match f with
 | .next=>∃σ' H',Inv X pins σ' H' s'∧D.nx σ' H'
 | .brk=>∃σ' H',Inv X pins σ' H' s'∧D.bk σ' H'
 | .cont=>∃σ' H',Inv X pins σ' H' s'∧D.ct σ' H'
 | .ret u=>∃v σ' H',Inv X pins σ' H' s'∧RelV v u∧D.rt v H'
def PE(X:Cx)(e:Expr)(t:TE):Prop:=
 ∀(pins:List (Addr×Obj)) (s:Shared) (σ:St) (H:Hp) (Q:VK),Inv X pins σ H s→t σ H Q→wpAny (model X.prog X.w) X.A (eval e X.env) (EP X pins σ Q) X.xe s
def PT(X:Cx)(e:Expr)(t:TT):Prop:=
 ∀(pins:List (Addr×Obj)) (s:Shared) (σ:St) (H:Hp) (Q:Bool→Hp→Prop),Inv X pins σ H s→t σ H Q→wpAny (model X.prog X.w) X.A (isTrue e X.env (eval e X.env)) (TP X pins σ Q) X.xe s
def PW(X:Cx)(e:Expr)(t:TT):Prop:=
 ∀(whole:Sem Value) (pins:List (Addr×Obj)) (s:Shared) (σ:St) (H:Hp) (Q:Bool→Hp→Prop),Inv X pins σ H s→t σ H Q→wpAny (model X.prog X.w) X.A (isTrue e X.env whole) (TP X pins σ Q) X.xe s
theorem PW.pt{X:Cx}{e:Expr}{t:TT}(h:PW X e t):PT X e t:=h _
def PA(X:Cx)(es:List Expr)(t:TA):Prop:=
 ∀(pos:Pos) (pins:List (Addr×Obj)) (s:Shared) (σ:St) (H:Hp) (Q:List V→Hp→Prop),Inv X pins σ H s→t σ H Q→wpAny (model X.prog X.w) X.A (spliced (backTo pos (starEach es X.env))) (AP X pins σ Q) X.xe s
def PS(X:Cx)(st:Stmt)(t:TS):Prop:=
 ∀(pins:List (Addr×Obj)) (s:Shared) (σ:St) (H:Hp) (D:Ends),Inv X pins σ H s→t D σ H→wpAny (model X.prog X.w) X.A (exec st X.env) (SP X pins D) X.xe s
def cE(X:Cx)(st:List Stmt)(t:TS):Prop:=
 ∀(pins:List (Addr×Obj)) (s:Shared) (σ:St) (H:Hp) (D:Ends),Inv X pins σ H s→t D σ H→wpAny (model X.prog X.w) X.A (execs st X.env) (SP X pins D) X.xe s
theorem ar{α:Type}{t:Sem α}{Q Q':α→Shared→Prop}{M:Model}{A:Around}{E:Value→Shared→Prop}{s:Shared}(h:wpAny M A t Q E s)(hQ:∀a s,Q a s→Q' a s):wpAny M A t Q' E s:=wpAny_mono h hQ fun _ _ x=>x
section
variable {X:Cx}
theorem bin{a b:Expr}{ta tb:TE}(ha:PE X a ta)(hb:PE X b tb){pins:List (Addr×Obj)}{s:Shared}{σ:St}{H:Hp}{R:V→V→Hp→Prop}(I:Inv X pins σ H s)(h:ta σ H fun x H1=>tb σ H1 fun y H2=>R x y H2)
  {α:Type} {Q:α→Shared→Prop} {f:Value→Value→Sem α}
  (hf:∀v u s2 x y H2,Inv X pins σ H2 s2→RelV x v→RelV y u→R x y H2→wpAny (model X.prog X.w) X.A (f v u) Q X.xe s2) :
  wpAny (model X.prog X.w) X.A (eval a X.env) (fun v s₁=>wpAny (model X.prog X.w) X.A (eval b X.env) (fun u s₂=>wpAny (model X.prog X.w) X.A (f v u) Q X.xe s₂) X.xe s₁) X.xe s:=by
 refine ar (ha pins s σ H _ I h) fun v s1 ⟨x,H1,I1,r1,q1⟩=>?_
 refine ar (hb pins s1 σ H1 _ I1 q1) fun u s2 ⟨y,H2,I2,r2,q2⟩=>?_
 exact hf v u s2 x y H2 I2 r1 r2 q2
def oj(i:Nat):TE:=fun σ H Q=>∃v,σ[i]?=some (some v)∧Q v H
def tC(v:V):TE:=fun _ H Q=>Q v H
theorem tK{i:Nat}{x:Str}{pos:Pos}(hN:X.N[i]?=some x)(hv:fU X.env.scope x)(hd:(x == ("__debug__":Str))=false:=by decide)(cO:(x == ("__classdict__":Str))=false:=by decide):PE X (.Name x pos) (oj i):=by
 intro pins s σ H Q I h
 obtain ⟨v,e,h⟩:=h
 obtain ⟨m,hn,hl⟩:=I.loc
 obtain ⟨u,r,l⟩:=hl i x v hN e hv
 have fin:EP X pins σ Q u s:=⟨v,H,I,r,h⟩
 rcases l with ⟨hk,hm⟩ | ⟨hk,c,hc,om⟩
 ·exact wpAny_Name (wpAny_loadName_local I.ok.kind hk hn hm fin) hd
 ·rcases hk with hk | hk
  ·exact wpAny_Name (wpAny_loadName_cell I.ok.kind hk hc om fin) hd
  ·exact wpAny_Name (wpAny_loadName_free I.ok.kind hk hc om fin cO) hd
theorem aq{i j pos}:PE X (.Constant (.int i) j pos) (tC (.int i)):=fun _ _ _ H _ I h=>wpAny_Constant_int ⟨.int i,H,I.tok _,⟨_,rfl⟩,h⟩
theorem fX{b j pos}:PE X (.Constant (.bool b) j pos) (tC (.bl b)):=fun _ _ _ H _ I h=>Constant_bool ⟨.bl b,H,I,rfl,h⟩
def Gl(X:Cx)(x:Str):Prop:=X.env.kindOf x=some .globalImplicit
theorem tL{E:Value→Shared→Prop}{pins:List (Addr×Obj)}{s:Shared}{σ:St}{H:Hp}{x:Str}{u:Value}{pos:Pos}{Q:Value→Shared→Prop}(I:Inv X pins σ H s)(hg:Gl X x)(hm:X.mg x=some u)(h:Q u s)
  (hd:(x == ("__debug__":Str))=false:=by decide):wpAny (model X.prog X.w) X.A (eval (.Name x pos) X.env) Q E s:=
 Calls.Name_function_global I.ok.kind hg (Calls.loadGlobal_global (by rw [I.ok.glob];exact I.mod.glob.keeps I.bk) hm h) hd
theorem fY{E:Value→Shared→Prop}{pins:List (Addr×Obj)}{s:Shared}{σ:St}{H:Hp}{x:Str}{u:Value}{pos:Pos}{Q:Value→Shared→Prop}(I:Inv X pins σ H s)(hg:Gl X x)(hm:X.mg x=none)(hv:bootBuiltins x=some u)(h:Q u s)
  (hn:x ≠ "__name__":=by decide) (hd:(x == ("__debug__":Str))=false:=by decide):wpAny (model X.prog X.w) X.A (eval (.Name x pos) X.env) Q E s:=by
 obtain ⟨mb,h1,h2⟩:=I.mod.blt
 exact Calls.Name_function_global I.ok.kind hg (Calls.loadGlobal_builtin (by rw [I.ok.glob];exact I.mod.glob.keeps I.bk) hm (by rw [I.ok.blt];exact h1.keeps I.bk) ((h2 x hn).trans hv) h) hd
theorem jh{x:Str}{v:V}{u:Value}{pos:Pos}(hg:Gl X x)(hm:X.mg x=none)(hv:bootBuiltins x=some u)(r:RelV v u)(hn:x ≠ "__name__":=by decide)(hd:(x == ("__debug__":Str))=false:=by decide):PE X (.Name x pos) (tC v):=
 fun _ _ _ H _ I h=>fY I hg hm hv ⟨v,H,I,r,h⟩ hn hd
variable {a b:Expr} {ta tb:TE} {pos:Pos}
def PC(X:Cx)(op:CmpOp)(a b:Expr)(t:TE):Prop:=
 ∀(pins:List (Addr×Obj)) (s:Shared) (σ:St) (H:Hp) (Q:VK),Inv X pins σ H s→t σ H Q→
  wpAny (model X.prog X.w) X.A (eval a X.env) (fun v s₁=>wpAny (model X.prog X.w) X.A (eval b X.env) (fun u s₂=>wpAny (model X.prog X.w) X.A (compareOp op v u) (EP X pins σ Q) X.xe s₂) X.xe s₁) X.xe s
def tB(t:TE):TT:=fun σ H Q=>t σ H fun x H1=>∃c,x=.bl c∧Q c H1
theorem BX{op:CmpOp}{t:TE}(h:PC X op a b t)(h1:behindInMarks op b=false:=by first | exact BY _ (by decide) (by decide) | rfl):PT X (.Compare a [op] [b] pos) (tB t):=by
 intro pins s σ H Q I hw
 refine wpAny_isTrue_Compare1 (ar (h pins s σ H _ I hw) fun v s1 h1=>ar h1 fun u s2 h2=>ar h2 fun c s3 ⟨x,H1,I1,r1,q1⟩=>?_) h1
 obtain ⟨d,rfl,q⟩:=q1
 cases r1
 exact wpAny_truthy_bool ⟨H1,I1,q⟩
theorem ji{e:Expr}{t:TE}(h:PE X e t)(he:∀whole,isTrue e X.env whole=(do let v ←whole;standAt e.pos;holding [v] (truthy v)):=by intro _;rfl):PT X e (tB t):=by
 intro pins s σ H Q I hw
 refine isTrue_plain (ar (h pins s σ H _ I hw) fun v s1 ⟨x,H1,I1,r1,q1⟩=>?_) (he _)
 obtain ⟨d,rfl,q⟩:=q1
 cases r1
 exact wpAny_truthy_bool ⟨H1,I1,q⟩
variable {tA ik:TT} {rest:List Expr}
def tM(t u:TT):TT:=fun σ H Q=>t σ H fun c H1=>if c=true then u σ H1 Q else Q false H1
def tN(t u:TT):TT:=fun σ H Q=>t σ H fun c H1=>if c=true then Q true H1 else u σ H1 Q
def oo(t:TT):TT:=fun σ H Q=>t σ H fun c H1=>Q (!c) H1
theorem pw_and1(ha:PT X a tA):PW X (.BoolOp .And [a] pos) tA:=by
 intro wh pins s σ H Q I h
 refine isTrue_and (ar (ha pins s σ H Q I h) fun c s1 e=>?_)
 cases c with
 | true=>exact isTrue_and_nil e
 | false=>exact e
theorem pw_or1(ha:PT X a tA):PW X (.BoolOp .Or [a] pos) tA:=by
 intro wh pins s σ H Q I h
 refine isTrue_or (ar (ha pins s σ H Q I h) fun c s1 e=>?_)
 cases c with
 | false=>exact isTrue_or_nil e
 | true=>exact e
theorem pw_and(ha:PT X a tA)(hb:PW X (.BoolOp .And (b::rest) pos) ik):PW X (.BoolOp .And (a::b::rest) pos) (tM tA ik):=by
 intro wh pins s σ H Q I h
 refine isTrue_and (ar (ha pins s σ H _ I h) fun c s1 ⟨H1,I1,q1⟩=>?_)
 cases c with
 | true=>exact hb wh pins s1 σ H1 Q I1 q1
 | false=>exact ⟨H1,I1,q1⟩
theorem pw_or(ha:PT X a tA)(hb:PW X (.BoolOp .Or (b::rest) pos) ik):PW X (.BoolOp .Or (a::b::rest) pos) (tN tA ik):=by
 intro wh pins s σ H Q I h
 refine isTrue_or (ar (ha pins s σ H _ I h) fun c s1 ⟨H1,I1,q1⟩=>?_)
 cases c with
 | true=>exact ⟨H1,I1,q1⟩
 | false=>exact hb wh pins s1 σ H1 Q I1 q1
theorem kP(ha:PT X a tA):PT X (.UnaryOp .Not a pos) (oo tA):=by
 intro pins s σ H Q I h
 exact isTrue_not (ha pins s σ H (fun c H1=>Q (!c) H1) I h)
def tO(ta tb:TE):TE:=fun σ H Q=>ta σ H fun x H1=>∃c,x=.bl c∧if c=true then tb σ H1 Q else Q (.bl false) H1
def tP(ta tb:TE):TE:=fun σ H Q=>ta σ H fun x H1=>∃c,x=.bl c∧if c=true then Q (.bl true) H1 else tb σ H1 Q
def tQ(ta:TE):TE:=fun σ H Q=>ta σ H fun x H1=>∃c,x=.bl c∧Q (.bl (!c)) H1
theorem kS{op}{t:TE}(h:PE X a t):PE X (.BoolOp op [a] pos) t:=fun pins s σ H Q I hw=>BoolOp_one (h pins s σ H Q I hw)
theorem oq(ha:PE X a ta)(hb:PE X (.BoolOp .And (b::rest) pos) tb):PE X (.BoolOp .And (a::b::rest) pos) (tO ta tb):=by
 intro pins s σ H Q I h
 refine BoolOp_and (ar (ha pins s σ H _ I h) fun v s1 ⟨x,H1,I1,r1,q1⟩=>?_)
 obtain ⟨c,rfl,q1⟩:=q1
 cases r1
 refine wpAny_truthy_bool ?_
 cases c with
 | true=>exact hb pins s1 σ H1 Q I1 q1
 | false=>exact ⟨.bl false,H1,I1,rfl,q1⟩
theorem tR(ha:PE X a ta)(hb:PE X (.BoolOp .Or (b::rest) pos) tb):PE X (.BoolOp .Or (a::b::rest) pos) (tP ta tb):=by
 intro pins s σ H Q I h
 refine BoolOp_or (ar (ha pins s σ H _ I h) fun v s1 ⟨x,H1,I1,r1,q1⟩=>?_)
 obtain ⟨c,rfl,q1⟩:=q1
 cases r1
 refine wpAny_truthy_bool ?_
 cases c with
 | false=>exact hb pins s1 σ H1 Q I1 q1
 | true=>exact ⟨.bl true,H1,I1,rfl,q1⟩
theorem tS(ha:PE X a ta):PE X (.UnaryOp .Not a pos) (tQ ta):=by
 intro pins s σ H Q I h
 refine UnaryOp_ (ar (ha pins s σ H _ I h) fun v s1 ⟨x,H1,I1,r1,q1⟩=>?_)
 obtain ⟨c,rfl,q1⟩:=q1
 cases r1
 exact not_of (wpAny_truthy_bool ⟨.bl (!c),H1,I1,rfl,q1⟩)
end
def av(K:PySem.W.Frag)(H:Hp)(a:Addr)(xs:List V):Prop:=
 Rd H a (.lst xs) ∨
  ∃(o:Obj) (ae:Array Value) (n:Nat),K.lookup a=some o∧o.cls=.type "list"∧o.dict=none∧o.data=.seq ae n∧ae.size≤sizeLine∧Vals xs ae.toList
def bF(K:PySem.W.Frag)(H:Hp)(a:Addr)(xs:List V):Prop:=
 Rd H a (.tup xs) ∨
  ∃(o:Obj) (ae:Array Value) (n:Nat),K.lookup a=some o∧o.cls=.type "tuple"∧o.data=.seq ae n∧ae.size≤sizeLine∧Vals xs ae.toList
def tT:Value→Option V
 | .none=>some .aw
 | .bool b=>some (.bl b)
 | .int i _=>some (.int i)
 | .str x _=>some (.str x)
 | .bytes b _=>some (.cW b)
 | .float b _=>some (.fS b)
 | .ref a=>some (.ref a)
 | .type n=>some (.ty n)
 | _=>none
theorem RelV.abs{x:V}{u:Value}(r:RelV x u):tT u=some x:=by
 cases x with
 | aw=>cases r;rfl
 | bl _=>cases r;rfl
 | int _=>obtain ⟨t,rfl⟩:=r;rfl
 | str _=>obtain ⟨t,rfl⟩:=r;rfl
 | cW _=>obtain ⟨t,rfl⟩:=r;rfl
 | fS _=>obtain ⟨t,rfl⟩:=r;rfl
 | ref _=>cases r;rfl
 | ty _=>cases r;rfl
theorem RelV.inj{x y:V}{u:Value}(r:RelV x u)(q:RelV y u):x=y:=Option.some.inj (r.abs.symm.trans q.abs)
theorem Vals.inj:∀{xs ys:List V} {us:List Value},Vals xs us→Vals ys us→xs=ys
 | _,_,_,.nil,.nil=>rfl
 | _,_,_,.cons r t,.cons r' t'=>by rw [r.inj r',Vals.inj t t']
section
variable {X:Cx} {pins:List (Addr×Obj)} {σ:St} {H:Hp} {s:Shared} {a:Addr} {xs ys:List V}
theorem av.of{K:PySem.W.Frag}(h:H a=some (.lst xs)):av K H a xs:=.inl (.inl h)
theorem bF.of{K:PySem.W.Frag}(h:H a=some (.tup xs)):bF K H a xs:=.inl (.inl h)
theorem Inv.list(I:Inv X pins σ H s)(h:av X.K H a xs):∃ae:List Value,Vals xs ae∧PlainL s.heap a ae.toArray∧xs.length≤sizeLine:=by
 rcases h with h | ⟨o,ae,n,hk,hc,hd,hs,hz,r⟩
 ·obtain ⟨z,ae,n,r,e⟩:=h.ok I.ao
  exact ⟨ae,r,⟨_,n,e,rfl,rfl,rfl⟩,z⟩
 ·refine ⟨ae.toList,r,⟨o,n,I.bE a o hk,hc,hd,by simpa using hs⟩,?_⟩
  have e:=r.length
  simp only [Array.length_toList] at e
  omega
theorem Inv.tuple(I:Inv X pins σ H s)(h:bF X.K H a xs):∃ae:List Value,Vals xs ae∧IsTup s.heap a ae.toArray∧xs.length≤sizeLine:=by
 rcases h with h | ⟨o,ae,n,hk,hc,hs,hz,r⟩
 ·obtain ⟨z,ae,r,p⟩:=h.ok I.ao
  exact ⟨ae,r,p,z⟩
 ·refine ⟨ae.toList,r,⟨o,I.bE a o hk,hc,n,by simpa using hs⟩,?_⟩
  have e:=r.length
  simp only [Array.length_toList] at e
  omega
theorem Inv.kT(I:Inv X pins σ H s)(h:av X.K H a xs)(h':av X.K H a ys):xs=ys:=by
 obtain ⟨ae,r,⟨o,n,e,_,_,d⟩,_⟩:=I.list h
 obtain ⟨its',r',⟨o',n',e',_,_,d'⟩,_⟩:=I.list h'
 rw [e] at e';cases e'
 rw [d] at d'
 injection d' with d1 _
 have:ae=its':=by simpa using congrArg Array.toList d1
 subst this
 exact r.inj r'
theorem Inv.tU(I:Inv X pins σ H s)(h:bF X.K H a xs)(h':bF X.K H a ys):xs=ys:=by
 obtain ⟨ae,r,⟨o,e,_,n,d⟩,_⟩:=I.tuple h
 obtain ⟨its',r',⟨o',e',_,n',d'⟩,_⟩:=I.tuple h'
 rw [e] at e';cases e'
 rw [d] at d'
 injection d' with d1 _
 have:ae=its':=by simpa using congrArg Array.toList d1
 subst this
 exact r.inj r'
end
abbrev Cx.de (X:Cx) (E:Value→Shared→Prop):Cx:={X with xe:=E}
abbrev Cx.jj (X:Cx):Cx:=X.de fun _ _=>False
theorem Cx.Ok.de{X:Cx}(ok:X.Ok)(E:Value→Shared→Prop):(X.de E).Ok:=
 ⟨ok.mod,ok.kind,ok.glob,ok.blt,ok.above,ok.inj,ok.has,ok.eU,ok.hd,ok.frames,ok.je,ok.nW,ok.bs,ok.cp,ok.d6,ok.d7,ok.cY,ok.fV⟩
theorem Cx.Ok.d9{X:Cx}{E:Value→Shared→Prop}(ok:(X.de E).Ok):X.Ok:=
 ⟨ok.mod,ok.kind,ok.glob,ok.blt,ok.above,ok.inj,ok.has,ok.eU,ok.hd,ok.frames,ok.je,ok.nW,ok.bs,ok.cp,ok.d6,ok.d7,ok.cY,ok.fV⟩
section
variable {X:Cx} {pins:List (Addr×Obj)} {σ:St} {H:Hp} {s:Shared} {E:Value→Shared→Prop}
theorem Inv.de(I:Inv X pins σ H s)(E:Value→Shared→Prop):Inv (X.de E) pins σ H s:=⟨I.ok.de E,I.os,I.bare,I.base,I.loc,I.cell,I.free,I.cD,I.pin,I.ao,I.len⟩
theorem Inv.d9(I:Inv (X.de E) pins σ H s):Inv X pins σ H s:=⟨I.ok.d9,I.os,I.bare,I.base,I.loc,I.cell,I.free,I.cD,I.pin,I.ao,I.len⟩
theorem SP.d9{D:Ends}{f:Flow}{s':Shared}(h:SP (X.de E) pins D f s'):SP X pins D f s':=by
 cases f with
 | next=>obtain ⟨σ',H',I,q⟩:=h;exact ⟨σ',H',I.d9,q⟩
 | brk=>obtain ⟨σ',H',I,q⟩:=h;exact ⟨σ',H',I.d9,q⟩
 | cont=>obtain ⟨σ',H',I,q⟩:=h;exact ⟨σ',H',I.d9,q⟩
 | ret u=>obtain ⟨v,σ',H',I,r,q⟩:=h;exact ⟨v,σ',H',I.d9,r,q⟩
theorem cE.jj{st:List Stmt}{t:TS}(h:cE X.jj st t):cE X st t:=fun pins s σ H D I hw=>
 wpAny_mono (h pins s σ H D (I.de _) hw) (fun _ _ q=>q.d9) fun _ _ z=>False.elim z
end
section
variable {X:Cx} {st:Stmt} {rest:List Stmt} {t u:TS} {e:Expr} {te:TE} {pos:Pos}
def df:TS:=fun D σ H=>D.nx σ H
def ot(t u:TS):TS:=fun D σ H=>t {D with nx:=u D} σ H
theorem bQ:cE X [] df:=fun _ _ σ H _ I h=>wpAny_execs_nil ⟨σ,H,I,h⟩
theorem au(h1:PS X st t)(h2:cE X rest u):cE X (st::rest) (ot t u):=by
 intro pins s σ H D I h
 refine wpAny_execs_cons (ar (h1 pins s σ H {D with nx:=u D} I h) fun f s1 q=>?_)
 cases f with
 | next=>
  obtain ⟨σ',H',I',q⟩:=q
  exact h2 pins s1 σ' H' D I' q
 | ret v=>exact q
 | brk=>exact q
 | cont=>exact q
theorem az(h1:PS X st t):cE X [st] t:=by
 intro pins s σ H D I h
 refine wpAny_execs_cons (ar (h1 pins s σ H D I h) fun f s1 q=>?_)
 cases f with
 | next=>exact wpAny_execs_nil q
 | ret v=>exact q
 | brk=>exact q
 | cont=>exact q
theorem Inv.quiet{pins:List (Addr×Obj)}{σ:St}{H:Hp}{s:Shared}(I:Inv X pins σ H s):interactive X.env=false:=by simp [interactive,I.ok.kind]
def tV(te:TE):TS:=fun D σ H=>te σ H fun _ H1=>D.nx σ H1
theorem dF(he:PE X e te)(hs:swapsWith e none pos.line X.env=pure false:=by rfl):PS X (.Expr e pos) (tV te):=by
 intro pins s σ H D I h
 exact wpAny_Expr_any (ar (he pins s σ H _ I h) fun v s1 ⟨x,H1,I1,r1,q1⟩=>⟨σ,H1,I1,q1⟩) I.quiet hs
def ou(te:TE):TS:=fun D σ H=>te σ H D.rt
theorem aV(he:PE X e te):PS X (.Return (some e) pos) (ou te):=by
 intro pins s σ H D I h
 exact wpAny_Return_some (ar (he pins s σ H _ I h) fun v s1 ⟨x,H1,I1,r1,q1⟩=>⟨x,σ,H1,I1,r1,q1⟩)
def kU(c:TT)(t u:TS):TS:=fun D σ H=>c σ H fun b H1=>if b=true then t D σ H1 else u D σ H1
theorem bG{c:Expr}{a b:List Stmt}{tc:TT}(hc:PT X c tc)(ha:cE X a t)(hb:cE X b u):PS X (.If c a b pos) (kU tc t u):=by
 intro pins s σ H D I h
 refine wpAny_If (ar (hc pins s σ H _ I h) fun d s1 ⟨H1,I1,q1⟩=>?_)
 cases d with
 | true=>exact ha pins s1 σ H1 D I1 q1
 | false=>exact hb pins s1 σ H1 D I1 q1
end
abbrev TG:=V→St→Hp→(St→Hp→Prop)→Prop
abbrev eW:=List V→St→Hp→(St→Hp→Prop)→Prop
def PG(X:Cx)(target:Expr)(t:TG):Prop:=
 ∀(pins:List (Addr×Obj)) (s:Shared) (σ:St) (H:Hp) (v:V) (u:Value) (Q:St→Hp→Prop),Inv X pins σ H s→RelV v u→t v σ H Q→
  wpAny (model X.prog X.w) X.A (assign target X.env u) (fun _ s'=>∃σ' H',Inv X pins σ' H' s'∧Q σ' H') X.xe s
def jk(X:Cx)(ts:List Expr)(t:eW):Prop:=
 ∀(pins:List (Addr×Obj)) (s:Shared) (σ:St) (H:Hp) (vs:List V) (us:List Value) (Q:St→Hp→Prop),Inv X pins σ H s→Vals vs us→t vs σ H Q→
  wpAny (model X.prog X.w) X.A (assignInOrder ((assignEach ts X.env).map (·.2)) us) (fun _ s'=>∃σ' H',Inv X pins σ' H' s'∧Q σ' H') X.xe s
abbrev kW:=V→V→V→Hp→(Hp→Prop)→Prop
def ox(X:Cx)(t:kW):Prop:=
 ∀(pins:List (Addr×Obj)) (s:Shared) (σ:St) (H:Hp) (o i v:V) (ov iv u:Value) (Q:Hp→Prop),Inv X pins σ H s→RelV o ov→RelV i iv→RelV v u→t o i v H Q→
  wpAny (model X.prog X.w) X.A (setItem ov iv u) (fun _ s'=>∃H',Inv X pins σ H' s'∧Q H') X.xe s
section
variable {X:Cx} {pos:Pos}
def aC(i:Nat):TG:=fun v σ H Q=>Q (σ.set i (some v)) H
theorem bY{i:Nat}{x:Str}(hN:X.N.Nodup)(hi:X.N[i]?=some x)(hx:Loc X.env.scope x)(hf:X.fn x=true∨X.env.scope.names.lookup x=some .local:=by first | exact .inl rfl | exact .inr rfl | assumption):PG X (.Name x pos) (aC i):=by
 intro pins s σ H v u Q I r h
 exact wpAny_assign_Name (jg I hN hi hx r (fun s' I'=>⟨_,H,I',h⟩) hf)
def oy:eW:=fun vs σ H Q=>vs=[]∧Q σ H
def kX(t:TG)(u:eW):eW:=fun vs σ H Q=>∃v r,vs=v::r∧t v σ H fun σ' H'=>u r σ' H' Q
theorem kY:jk X [] oy:=by
 intro pins s σ H vs us Q I r h
 obtain ⟨e,h⟩:=h
 subst e
 cases r
 exact assignInOrder_nil ⟨σ,H,I,h⟩
theorem fZ{e:Expr}{es:List Expr}{t:TG}{u:eW}(h1:PG X e t)(h2:jk X es u)
  (hs:(assignEach (e::es) X.env).map (·.2)=assign e X.env::(assignEach es X.env).map (·.2):=by rfl):jk X (e::es) (kX t u):=by
 intro pins s σ H vs us Q I r h
 obtain ⟨v,vr,e1,h⟩:=h
 subst e1
 cases r with
 | cons r rr=>
  rw [hs]
  refine assignInOrder_cons (ar (h1 pins s σ H _ _ _ I r h) fun _ s1 ⟨σ1,H1,I1,q1⟩=>?_)
  exact h2 pins s1 σ1 H1 _ _ Q I1 rr q1
def oz(K:PySem.W.Frag)(n:Nat)(t:eW):TG:=fun v σ H Q=>∃a xs,v=.ref a∧bF K H a xs∧xs.length=n∧t xs σ H Q
theorem kZ{es:List Expr}{k:Nat}{t:eW}{n:Nat}(hc:X.calm=true)(h:jk X es t)
  (hn:(assignEach es X.env).length=n:=by rfl) (k4:(assignEach es X.env).findIdx? (·.1)=none:=by rfl):PG X (.Tuple es k pos) (oz X.K n t):=by
 intro pins s σ H v u Q I r hw
 obtain ⟨a,xs,e1,hq,hl,hw⟩:=hw
 subst e1
 cases r
 obtain ⟨ae,rv,ht,hz⟩:=I.tuple hq
 refine assign_Tuple_tuple (I.ok.hd hc) ht (by simp [hn,←hl,rv.length]) k4 fun h' hx=>?_
 have I1:Inv X pins σ H {s with heap:=h'}:=I.kept (t':=s.toks) fun b o e=>hx b o (Nat.ne_of_lt (Heap.lt_size e)) e
 exact h pins _ σ H xs _ Q I1 (by simpa using rv) hw
def tW(to ti:TE)(t:kW):TG:=fun v σ H Q=>to σ H fun o H1=>ti σ H1 fun i H2=>t o i v H2 fun H3=>Q σ H3
theorem k6{o i:Expr}{to ti:TE}{t:kW}(ho:PE X o to)(hi:PE X i ti)(hs:ox X t)
  (ha:∀v,assign (.Subscript o i pos) X.env v=(do
   let ov ←holding [v] (eval o X.env)
   let iv ←holding [v,ov] (eval i X.env)
   standAt pos
   holding [v,ov,iv] (setItem ov iv v)
   release [v,ov,iv] []):=by intro _;rfl):PG X (.Subscript o i pos) (tW to ti t):=by
 intro pins s σ H v u Q I r h
 rw [ha]
 refine wpAny_bind (wpAny_holding (ar (ho pins s σ H _ I h) fun ov s1 ⟨x,H1,I1,r1,q1⟩=>?_))
 refine wpAny_bind (wpAny_holding (ar (hi pins s1 σ H1 _ I1 q1) fun iv s2 ⟨y,H2,I2,r2,q2⟩=>?_))
 refine wpAny_bind (wpAny_standAt (wpAny_bind (wpAny_holding (ar (hs pins s2 σ H2 x y v ov iv u _ I2 r1 r2 r q2) fun _ s3 ⟨H3,I3,q3⟩=>?_))))
 exact wpAny_release ⟨σ,H3,I3,q3⟩
def f9(te:TE)(g:TG):TS:=fun D σ H=>te σ H fun x H1=>g x σ H1 D.nx
theorem k8{tg e:Expr}{te:TE}{g:TG}(he:PE X e te)(hg:PG X tg g)(hs:swapsWithSole [tg] e pos.line X.env=pure false:=by rfl)(hw:swappedStores [tg] e X.env=pure none:=by rfl)
  (h1:(assignEach [tg] X.env).map (·.2)=[assign tg X.env]:=by rfl):PS X (.Assign [tg] e pos) (f9 te g):=by
 intro pins s σ H D I h
 refine wpAny_Assign_stores (ar (he pins s σ H _ I h) fun v s1 ⟨x,H1,I1,r1,q1⟩=>?_) hs hw
 rw [h1]
 exact ar (hg pins s1 σ H1 x v _ I1 r1 q1) fun _ s2 q=>q
theorem tX{i:Nat}{x:Str}{e:Expr}{te:TE}{pos':Pos}(hN:X.N.Nodup)(hi:X.N[i]?=some x)(hx:Loc X.env.scope x)(he:PE X e te)(hs:swapsWith e (some (.Name x pos')) pos.line X.env=pure false:=by rfl)(hf:X.fn x=true∨X.env.scope.names.lookup x=some .local:=by first | exact .inl rfl | exact .inr rfl | assumption) :
  PS X (.Assign [.Name x pos'] e pos) (f9 te (aC i)):=by
 intro pins s σ H D I h
 refine wpAny_Assign_Name (ar (he pins s σ H _ I h) fun v s1 ⟨y,H1,I1,r1,q1⟩=>?_) hs
 exact jg I1 hN hi hx r1 (fun s2 I2=>⟨_,H1,I2,q1⟩) hf
def tY(i j:Nat)(ta:TA):TS:=fun D σ H=>ta σ H fun vs H1=>∃v w,vs=[v,w]∧D.nx ((σ.set i (some v)).set j (some w)) H1
theorem tZ{i j:Nat}{x y:Str}{a b:Expr}{ta:TA}{px py pt:Pos}{kt k2 k_}(hc:X.calm=true)(hN:X.N.Nodup)(hi:X.N[i]?=some x)(hj:X.N[j]?=some y)(lb:i≠j)
  (hx:X.env.scope.names.lookup x=some .local) (hy:X.env.scope.names.lookup y=some .local) (ha:PA X [a,b] ta)
  (hw:swappedStores [.Tuple [.Name x px,.Name y py] kt pt] (.Tuple [a,b] k2 k_) X.env=pure (some [x,y]))
  (hs:swapsWithSole [.Tuple [.Name x px,.Name y py] kt pt] (.Tuple [a,b] k2 k_) pos.line X.env=pure false:=by rfl) :
  PS X (.Assign [.Tuple [.Name x px,.Name y py] kt pt] (.Tuple [a,b] k2 k_) pos) (tY i j ta):=by
 intro pins s σ H D I h
 rw [exec_Assign_arm]
 refine wpAny_bind (wpAny_standAt ?_)
 rw [hs]
 refine wpAny_bind (wpAny_pure ?_)
 rw [if_neg (by decide)]
 refine wpAny_bind (Tuple_ (ar (ha _ pins s σ H _ I h) fun us s1 ⟨vs,H1,I1,r1,q1⟩=>?_))
 obtain ⟨v,w,e1,q1⟩:=q1
 subst e1
 obtain ⟨u1,u2,rfl,rv,eX⟩:∃u1 u2,us=[u1,u2]∧RelV v u1∧RelV w u2:=by
  cases r1 with
  | cons p q=>
   cases q with
   | cons p' q'=>
    cases q'
    exact ⟨_,_,rfl,p,p'⟩
 refine wpAny_newObj_type ?_ (by show 2≤sizeLine;decide)
 have I2:Inv X pins σ H1 {s1 with heap:=s1.heap.push {cls:=.type "tuple",data:=.seq [u1,u2].toArray}}:=I1.kept (t':=s1.toks) fun b o e=>Heap.get?_push_of_some _ e
 rw [hw]
 refine wpAny_bind (wpAny_pure ?_)
 show wpAny (model X.prog X.w) X.A (do rule "assign.swapped-stores";let items ←unpackItems (.ref s1.heap.objs.size) 2 none;assignInOrder [fun v=>bindName X.env y v,fun v=>bindName X.env x v] items.reverse;pure Flow.next) _ _ _
 refine wpAny_bind (wpAny_rule (wpAny_bind (unpackItems_tuple (items:=#[u1,u2]) (I.ok.hd hc) (IsTup.new s1.heap _) fun h' t4=>?_)))
 have I3:=I2.kept (h':=h') (t':=s1.toks) fun b o e=>t4 b o (Nat.ne_of_lt (Heap.lt_size e)) e
 show wpAny _ _ (assignInOrder [fun v=>bindName X.env y v,fun v=>bindName X.env x v] [u2,u1] >>= fun _=>pure Flow.next) _ _ _
 refine wpAny_bind (assignInOrder_cons (wpAny_bindName (jg I3 hN hj (.inl hy) eX (fun s2 I4=>?_) (.inr hy))))
 refine assignInOrder_cons (wpAny_bindName (jg I4 hN hi (.inl hx) rv (fun s3 I5=>assignInOrder_nil (wpAny_pure ?_)) (.inr hx)))
 rw [List.set_comm _ _ (Ne.symm lb)] at I5
 exact ⟨_,H1,I5,q1⟩
end
section
variable {X:Cx} {pos:Pos}
def t5(c:TT)(tb:TS):TS:=fun D σ H=>∃W:Nat→St→Hp→Prop,(∃m,W m σ H)∧∀m σ H,W m σ H→
 c σ H fun b H1=>if b=true then ∃N:St→Hp→Prop,(∀σ' H',N σ' H'→∃m',m'<m∧W m' σ' H')∧tb {D with nx:=N,ct:=N,bk:=D.nx} σ H1 else D.nx σ H1
theorem t_{c:Expr}{body:List Stmt}{tc:TT}{tb:TS}(hp:PassesOwn (model X.prog X.w) X.A X.env X.xe)(hc:PT X c tc)(hb:cE X body tb):PS X (.While c body [] pos) (t5 tc tb):=by
 intro pins s σ H D I h
 obtain ⟨W,⟨m0,w0⟩,turn⟩:=h
 refine wpAny_While (codeAny_whileLoop (fun n s'=>∃σ' H',Inv X pins σ' H' s'∧W n σ' H') ?_ m0 ⟨σ,H,I,w0⟩)
 rintro n s1 ⟨σ1,H1,I1,w1⟩
 refine wpAny_passesOwn hp (ar (hc pins s1 σ1 H1 _ I1 (turn n σ1 H1 w1)) fun b s2 ⟨H2,I2,q2⟩=>?_)
 cases b with
 | true=>
  obtain ⟨N,hN,q2⟩:=q2
  rw [if_pos rfl]
  refine wpAny_passesOwn hp (ar (hb pins s2 σ1 H2 _ I2 q2) fun f s3 q3=>?_)
  cases f with
  | next=>
   obtain ⟨σ3,H3,I3,n3⟩:=q3
   obtain ⟨m',hm,w3⟩:=hN σ3 H3 n3
   exact ⟨m',hm,σ3,H3,I3,w3⟩
  | cont=>
   obtain ⟨σ3,H3,I3,n3⟩:=q3
   obtain ⟨m',hm,w3⟩:=hN σ3 H3 n3
   exact ⟨m',hm,σ3,H3,I3,w3⟩
  | brk=>exact q3
  | ret v=>exact q3
 | false=>
  rw [if_neg Bool.false_ne_true]
  exact wpAny_execs_nil ⟨σ1,H2,I2,q2⟩
end
structure It where
 go:Nat→Hp→Prop
 bu:Nat→Hp→V→Hp→Prop
 stop:Nat→Hp→Prop
def dg(X:Cx)(pins:List (Addr×Obj))(H:Hp)(b:Addr):Prop:=
 H b=none∧b≠X.env.locals∧b∉X.fs∧(b∈X.ex∨X.s₀.heap.objs.size≤b)∧(∀x c,X.env.cells.lookup x=some c→c≠b)∧∀p∈X.pn++pins,p.1≠b
theorem Inv.jl{X:Cx}{pins:List (Addr×Obj)}{σ:St}{H H':Hp}{s:Shared}{b:Addr}(I:Inv X pins σ H s)(hb:s.heap.objs.size≤b)(hn:H' b=none):dg X pins H' b:=by
 refine ⟨hn,Nat.ne_of_gt (Nat.lt_of_lt_of_le I.lt hb),I.tE hb,.inr (Nat.le_trans I.sz hb),fun x c e z=>?_,fun p hp z=>?_⟩
 ·obtain ⟨v,q⟩:=I.cell x c e
  exact absurd (Nat.lt_of_lt_of_le q.lt (by rw [z];exact hb)) (Nat.lt_irrefl _)
 ·exact absurd (Nat.lt_of_lt_of_le (Heap.lt_size (I.pin p hp).1) (by rw [z];exact hb)) (Nat.lt_irrefl _)
structure Turn (P:Program) (w:World) (K:PySem.W.Frag) (tg:Expr) (J:It) (fp:List Addr) (it:Addr) (tn:Nat→Heap→Prop):Prop where
 mem:it∈fp
 obj:∀i h,tn i h→∀b∈fp,∃o,h.get? b=some o∧∀v,o.data≠.cell v
 keep:∀i h h',tn i h→(∀b∈fp,∀o,h.get? b=some o→h'.get? b=some o)→tn i h'
 item:∀(X:Cx),X.prog=P→X.w=w→X.K=K→X.calm=true→∀(i:Nat) (pins:List (Addr×Obj)) (s:Shared) (σ:St) (H:Hp) (E:Value→Shared→Prop),Inv X pins σ H s→(∀b∈fp,dg X pins H b)→tn i s.heap→J.go i H→
  wpAny (model P w) X.A (pyNext (.ref it)) (fun r s1=>∃u,r=some u ∧
   wpAny (model P w) X.A (letOwnedTupleGo tg (.ref it) u) (fun _ s2=>∃x H',Inv X pins σ H' s2∧RelV x u∧J.bu i H x H'∧tn (i+1) s2.heap∧∀b∈fp,H' b=none) E s1) E s
 done:∀(X:Cx),X.prog=P→X.w=w→X.K=K→X.calm=true→∀(i:Nat) (pins:List (Addr×Obj)) (s:Shared) (σ:St) (H:Hp) (E:Value→Shared→Prop),Inv X pins σ H s→(∀b∈fp,dg X pins H b)→tn i s.heap→J.stop i H→
  wpAny (model P w) X.A (pyNext (.ref it)) (fun r s1=>r=none∧Inv X pins σ H s1) E s
 self:∀(A:Around) (i:Nat) (s:Shared) (Q:Value→Shared→Prop) (E:Value→Shared→Prop),tn i s.heap→Q (.ref it) s→wpAny (model P w) A (pyIter (.ref it)) Q E s
abbrev TI:=St→Hp→(It→Hp→Prop)→Prop
def oA(X:Cx)(pins:List (Addr×Obj))(σ:St)(tg:Expr)(R:It→Hp→Prop)(f_:Value)(s2:Shared):Prop:=
 ∃(it:Addr) (fp:List Addr) (tn:Nat→Heap→Prop) (J:It) (H':Hp),f_=.ref it∧Inv X pins σ H' s2∧Turn X.prog X.w X.K tg J fp it tn∧tn 0 s2.heap∧(∀b∈fp,dg X pins H' b)∧R J H'
def PI(X:Cx)(tg iter:Expr)(wi:TI):Prop:=
 ∀(pins:List (Addr×Obj)) (s:Shared) (σ:St) (H:Hp) (R:It→Hp→Prop),Inv X pins σ H s→wi σ H R→
  wpAny (model X.prog X.w) X.A (eval iter X.env) (fun v s1=>wpAny (model X.prog X.w) X.A (pyIter v) (oA X pins σ tg R) X.xe s1) X.xe s
theorem lg{M:Model}{A:Around}{E:Value→Shared→Prop}{s:Shared}{tg:Expr}{it:Addr}{u:Value}{o:Obj}{n:String}{vs:Array Value}{Q:Unit→Shared→Prop}(ho:s.heap.get? it=some o)(hc:o.cls=.type n)(hd:o.data=.fields vs)
    (hn:["enumerate","zip","dict_itemiterator","dict_reverseitemiterator","odict_iterator","itertools.zip_longest","itertools.pairwise"].contains n=false) (hQ:Q () s):wpAny M A (letOwnedTupleGo tg (.ref it) u) Q E s:=by
  unfold letOwnedTupleGo
  cases tg <;> first
    | exact wpAny_pure hQ
    | (cases u <;> first
        | exact wpAny_pure hQ
        | (refine wpAny_bind (wpAny_load ho ?_)
           rw [hc,hd]
           show wpAny M A (if (["enumerate","zip","dict_itemiterator","dict_reverseitemiterator","odict_iterator","itertools.zip_longest","itertools.pairwise"].contains n && vs[0]? == some (rawInt _))=true then _ else _) Q E s
           rw [if_neg (by intro h;rw [hn,Bool.false_and] at h;cases h)]
           exact wpAny_pure hQ))
def eY(K:PySem.W.Frag)(a:Addr):It:=
 ⟨fun i H=>∃xs x,av K H a xs∧xs[i]?=some x,fun i H x H'=>H'=H∧∀xs,av K H a xs→xs[i]?=some x,fun i H=>∃xs,av K H a xs∧xs.length≤i⟩
def gb(K:PySem.W.Frag)(a:Addr):It:=
 ⟨fun i H=>∃xs x,bF K H a xs∧xs[i]?=some x,fun i H x H'=>H'=H∧∀xs,bF K H a xs→xs[i]?=some x,fun i H=>∃xs,bF K H a xs∧xs.length≤i⟩
def d_(lo:Int)(n:Nat):It:=⟨fun i _=>i<n,fun i H x H'=>H'=H∧x=.int (lo+i),fun i _=>n≤i⟩
theorem ua{P:Program}{w:World}{K:PySem.W.Frag}{tg:Expr}(a it:Addr):Turn P w K tg (eY K a) [it] it (fun i h=>h.IsListIter it a i) where
 mem:=by simp
 obj:=fun i h st b hb=>by
  have e:b=it:=by simpa using hb
  subst e
  obtain ⟨o,e,c,d⟩:=st
  exact ⟨o,e,fun v z=>by rw [d] at z;cases z⟩
 keep:=fun i h h' st k=>st.at fun o e=>k it (by simp) o e
 item:=by
  intro X hP hw hK hc i pins s σ H E I hf st hg
  subst hP hw hK
  obtain ⟨xs,x,hq,hx⟩:=hg
  obtain ⟨ae,rv,p,hz⟩:=I.list hq
  obtain ⟨u,hu,ru⟩:=rv.get hx
  obtain ⟨f0,f1,f2,f3,f4,f5⟩:=hf it (by simp)
  refine wpAny_pyNext_list_item st p.isList (x:=u) (by simpa using hu) fun h' ed sb=>?_
  have I1:Inv X pins σ H {s with heap:=h'}:=I.turned (t':=s.toks) (fun b o hb e=>(sb.2 b hb).trans e) f0 f1 f3 f4 f5
  obtain ⟨o,e,c,d⟩:=id ed
  exact ⟨u,rfl,lg (s:={s with heap:=h'}) e c d (by decide) ⟨x,H,I1,ru,⟨rfl,fun ys hy=>by rw [I.kT hy hq];exact hx⟩,ed,fun b hb=>(hf b hb).1⟩⟩
 done:=by
  intro X hP hw hK hc i pins s σ H E I hf st hg
  subst hP hw hK
  obtain ⟨xs,hq,hx⟩:=hg
  obtain ⟨ae,rv,p,hz⟩:=I.list hq
  obtain ⟨f0,f1,f2,f3,f4,f5⟩:=hf it (by simp)
  have hl:=rv.length
  exact wpAny_pyNext_list_end (I.ok.hd hc) st p.isList (by simp;omega) fun h' eb=>⟨rfl,I.turned (t':=s.toks) (fun b o hb e=>eb b o hb e) f0 f1 f3 f4 f5⟩
 self:=fun _ _ _ _ _ st h=>wpAny_pyIter_listiter st h
theorem ub{P:Program}{w:World}{K:PySem.W.Frag}{tg:Expr}(a it:Addr):Turn P w K tg (gb K a) [it] it (fun i h=>h.IsTupleIter it a i) where
 mem:=by simp
 obj:=fun i h st b hb=>by
  have e:b=it:=by simpa using hb
  subst e
  obtain ⟨o,e,c,d⟩:=st
  exact ⟨o,e,fun v z=>by rw [d] at z;cases z⟩
 keep:=fun i h h' st k=>st.at fun o e=>k it (by simp) o e
 item:=by
  intro X hP hw hK hc i pins s σ H E I hf st hg
  subst hP hw hK
  obtain ⟨xs,x,hq,hx⟩:=hg
  obtain ⟨ae,rv,p,hz⟩:=I.tuple hq
  obtain ⟨u,hu,ru⟩:=rv.get hx
  obtain ⟨f0,f1,f2,f3,f4,f5⟩:=hf it (by simp)
  refine wpAny_pyNext_tuple_item st (show s.heap.IsTuple a ae.toArray from p) (x:=u) (by simpa using hu) fun h' ed sb=>?_
  have I1:Inv X pins σ H {s with heap:=h'}:=I.turned (t':=s.toks) (fun b o hb e=>(sb.2 b hb).trans e) f0 f1 f3 f4 f5
  obtain ⟨o,e,c,d⟩:=id ed
  exact ⟨u,rfl,lg (s:={s with heap:=h'}) e c d (by decide) ⟨x,H,I1,ru,⟨rfl,fun ys hy=>by rw [I.tU hy hq];exact hx⟩,ed,fun b hb=>(hf b hb).1⟩⟩
 done:=by
  intro X hP hw hK hc i pins s σ H E I hf st hg
  subst hP hw hK
  obtain ⟨xs,hq,hx⟩:=hg
  obtain ⟨ae,rv,p,hz⟩:=I.tuple hq
  obtain ⟨f0,f1,f2,f3,f4,f5⟩:=hf it (by simp)
  have hl:=rv.length
  exact wpAny_pyNext_tuple_end (I.ok.hd hc) st (show s.heap.IsTuple a ae.toArray from p) (by simp;omega) fun h' eb=>⟨rfl,I.turned (t':=s.toks) (fun b o hb e=>eb b o hb e) f0 f1 f3 f4 f5⟩
 self:=fun _ _ _ _ _ st h=>wpAny_pyIter_tupleiter st h
theorem uc{P:Program}{w:World}{K:PySem.W.Frag}{tg:Expr}(it:Addr)(lo:Int)(n:Nat):Turn P w K tg (d_ lo n) [it] it (fun i h=>IsRangeIter h it (lo+(i:Nat)*1) ((n:Int)-(i:Nat)) 1) where
 mem:=by simp
 obj:=fun i h st b hb=>by
  have e:b=it:=by simpa using hb
  subst e
  exact ⟨_,st,fun v z=>by
   have z':Data.fields _=Data.cell v:=z
   cases z'⟩
 keep:=fun i h h' st k=>k it (by simp) _ st
 item:=by
  intro X hP hw hK hc i pins s σ H E I hf st hg
  subst hP hw hK
  obtain ⟨f0,f1,f2,f3,f4,f5⟩:=hf it (by simp)
  have W:=Walks.range (prog:=X.prog) (w:=X.w) (I.ok.hd hc) it lo 1 n
  refine W.item i s _ _ hg st fun v h' tk hv ed kk=>?_
  obtain ⟨t,rfl⟩:=hv
  have I1:Inv X pins σ H {s with heap:=h',toks:=tk}:=I.turned (fun b o hb e=>kk b o (by simpa using hb) e) f0 f1 f3 f4 f5
  refine ⟨_,rfl,lg (s:={s with heap:=h',toks:=tk}) (n:="range_iterator") ed rfl rfl (by decide) ⟨.int (lo+i),H,I1,⟨t,?_⟩,⟨rfl,rfl⟩,ed,fun b hb=>(hf b hb).1⟩⟩
  rw [Int.mul_one]
 done:=by
  intro X hP hw hK hc i pins s σ H E I hf st hg
  subst hP hw hK
  obtain ⟨f0,f1,f2,f3,f4,f5⟩:=hf it (by simp)
  exact wpAny_pyNext_range_end (I.ok.hd hc) st (by have:n≤i:=hg;omega) fun h' eb=>⟨rfl,I.turned (t':=s.toks) (fun b o hb e=>eb b o hb e) f0 f1 f3 f4 f5⟩
 self:=fun _ _ _ _ _ st h=>wpAny_pyIter_rangeiter st h
section
variable {X:Cx} {tg:Expr}
def oB(K:PySem.W.Frag)(tl:TE):TI:=fun σ H R=>tl σ H fun x H1=>∃a,x=.ref a∧(∃xs,av K H1 a xs)∧R (eY K a) H1
def ud(K:PySem.W.Frag)(tl:TE):TI:=fun σ H R=>tl σ H fun x H1=>∃a,x=.ref a∧(∃xs,bF K H1 a xs)∧R (gb K a) H1
theorem ee{l:Expr}{tl:TE}(hl:PE X l tl):PI X tg l (oB X.K tl):=by
 intro pins s σ H R I h
 refine ar (hl pins s σ H _ I h) fun v s1 ⟨x,H1,I1,r1,q1⟩=>?_
 obtain ⟨a,e,⟨xs,hq⟩,q⟩:=q1
 subst e
 cases r1
 obtain ⟨ae,rv,p,hz⟩:=I1.list hq
 refine wpAny_pyIter_list p.isList ?_
 refine ⟨s1.heap.objs.size,[s1.heap.objs.size],_,_,H1,rfl,I1.kept (t':=s1.toks) fun b o e=>Heap.get?_push_of_some _ e,ua a _,⟨_,Heap.get?_push_size _ rfl,rfl,rfl⟩,fun b hb=>?_,q⟩
 have e:b=s1.heap.objs.size:=by simpa using hb
 subst e
 exact I1.jl (Nat.le_refl _) (I1.ao.fresh (Nat.le_refl _))
theorem lh{l:Expr}{tl:TE}(hl:PE X l tl):PI X tg l (ud X.K tl):=by
 intro pins s σ H R I h
 refine ar (hl pins s σ H _ I h) fun v s1 ⟨x,H1,I1,r1,q1⟩=>?_
 obtain ⟨a,e,⟨xs,hq⟩,q⟩:=q1
 subst e
 cases r1
 obtain ⟨ae,rv,p,hz⟩:=I1.tuple hq
 refine wpAny_pyIter_tuple (show s1.heap.IsTuple a ae.toArray from p) ?_
 refine ⟨s1.heap.objs.size,[s1.heap.objs.size],_,_,H1,rfl,I1.kept (t':=s1.toks) fun b o e=>Heap.get?_push_of_some _ e,ub a _,⟨_,Heap.get?_push_size _ rfl,rfl,rfl⟩,fun b hb=>?_,q⟩
 have e:b=s1.heap.objs.size:=by simpa using hb
 subst e
 exact I1.jl (Nat.le_refl _) (I1.ao.fresh (Nat.le_refl _))
theorem oC{pins:List (Addr×Obj)}{σ:St}{H:Hp}{s:Shared}{R:It→Hp→Prop}{E:Value→Shared→Prop}{lo hi:Int}{t u v:Tok}{tk:Nat}(I:Inv X pins σ H s)(h1:-(2 ^ 62)≤lo)(h2:lo<2 ^ 62)(h3:-(2 ^ 62)≤hi)(h4:hi<2 ^ 62)
  (q:R (d_ lo (hi-lo).toNat) H):wpAny (model X.prog X.w) X.A (pyIter (.ref s.heap.objs.size)) (oA X pins σ tg R) E {s with heap:=s.heap.push {cls:=.type "range",data:=.fields #[.int lo t,.int hi u,.int 1 v]},toks:=tk}:=by
 refine wpAny_pyIter_range (IsRange.new ..) (small_one h1 h2 h3 h4) ?_
 have I1:Inv X pins σ H {s with heap:=s.heap.push {cls:=.type "range",data:=.fields #[.int lo t,.int hi u,.int 1 v]},toks:=tk}:=I.kept fun b o e=>Heap.get?_push_of_some _ e
 refine ⟨(s.heap.push {cls:=.type "range",data:=.fields #[.int lo t,.int hi u,.int 1 v]}).objs.size,[(s.heap.push {cls:=.type "range",data:=.fields #[.int lo t,.int hi u,.int 1 v]}).objs.size],_,_,H,rfl,
  I1.kept (t':=tk) fun b o e=>Heap.get?_push_of_some _ e,uc _ lo (hi-lo).toNat,?_,fun b hb=>?_,q⟩
 ·have e1:lo+((0:Nat):Int)*1=lo:=by simp
  have e2:(((hi-lo).toNat:Nat):Int)-((0:Nat):Int)=Builtin.Range.rangeSize lo hi 1:=by rw [rangeSize_one];split <;> omega
  show IsRangeIter _ _ (lo+((0:Nat):Int)*1) ((((hi-lo).toNat:Nat):Int)-((0:Nat):Int)) 1
  rw [e1,e2]
  exact Heap.get?_push_size _ rfl
 ·have e:b=(s.heap.push {cls:=.type "range",data:=.fields #[.int lo t,.int hi u,.int 1 v]}).objs.size:=by simpa using hb
  subst e
  exact I1.jl (Nat.le_refl _) (I1.ao.fresh (Nat.le_refl _))
def ue(ta:TA):TI:=fun σ H R=>ta σ H fun vs H1=>∃j:Int,vs=[.int j]∧-(2 ^ 62)≤j∧j<2 ^ 62∧R (d_ 0 j.toNat) H1
def uf(ta:TA):TI:=fun σ H R=>ta σ H fun vs H1=>∃i j:Int,vs=[.int i,.int j]∧(-(2 ^ 62)≤i∧i<2 ^ 62∧-(2 ^ 62)≤j∧j<2 ^ 62)∧R (d_ i (j-i).toNat) H1
theorem gc{a:Expr}{ta:TA}{p pos:Pos}(hg:Gl X "range")(hm:X.mg "range" = none)(ha:PA X [a] ta)(hs:starEach [a] X.env=[(false,eval a X.env)]:=by rfl):PI X tg (.Call (.Name "range" p) [a] [] pos) (ue ta):=by
 intro pins s σ H R I h
 refine Call_ (fY I hg hm boot_range (PyProof.Rows.callWith_type1 (ar (ha pos pins s σ H _ I h) fun us s1 ⟨vs,H1,I1,r1,q1⟩=>?_) hs rfl))
 obtain ⟨j,e,q1,q2,q⟩:=q1
 subst e
 cases r1 with
 | cons r rr=>
  cases rr
  obtain ⟨t,rfl⟩:=r
  exact call_range_1 (oC I1 (by omega) (by omega) q1 q2 (by simpa using q))
theorem ug{a b:Expr}{ta:TA}{p pos:Pos}(hg:Gl X "range")(hm:X.mg "range" = none)(ha:PA X [a,b] ta)(hs:starEach [a,b] X.env=[(false,eval a X.env),(false,eval b X.env)]:=by rfl)(il:starEach [b] X.env=[(false,eval b X.env)]:=by rfl) :
  PI X tg (.Call (.Name "range" p) [a,b] [] pos) (uf ta):=by
 intro pins s σ H R I h
 refine Call_ (fY I hg hm boot_range (PyProof.Rows.callWith_type1 (ar (ha pos pins s σ H _ I h) fun us s1 ⟨vs,H1,I1,r1,q1⟩=>?_) (by rw [hs,il]) (by rw [il];rfl)))
 obtain ⟨i,j,e,⟨q1,q2,q3,q4⟩,q⟩:=q1
 subst e
 cases r1 with
 | cons r rr=>
  cases rr with
  | cons r' rr=>
   cases rr
   obtain ⟨t,rfl⟩:=r
   obtain ⟨t',rfl⟩:=r'
   exact call_range_2 (oC I1 q1 q2 q3 q4 q)
def uh(wi:TI)(g:TG)(tb:TS):TS:=fun D σ H=>wi σ H fun J H1=>∃W:Nat→Nat→St→Hp→Prop,(∃m,W 0 m σ H1)∧∀i m σ H,W i m σ H→
 (J.stop i H∧D.nx σ H)∨(J.go i H∧∃N:St→Hp→Prop,(∀σ' H',N σ' H'→∃m',m'<m∧W (i+1) m' σ' H')∧∀x H',J.bu i H x H'→g x σ H' fun σ2 H2=>tb {D with nx:=N,ct:=N,bk:=D.nx} σ2 H2)
def cP(fp:List Addr)(h:Heap):List (Addr×Obj):=fp.filterMap fun b=>(h.get? b).map fun o=>(b,o)
theorem dh{fp:List Addr}{h:Heap}{b:Addr}{o:Obj}(hb:b∈fp)(e:h.get? b=some o):(b,o)∈cP fp h:=List.mem_filterMap.mpr ⟨b,hb,by rw [e];rfl⟩
theorem ui{fp:List Addr}{h:Heap}{p:Addr×Obj}(hp:p∈cP fp h):p.1∈fp∧h.get? p.1=some p.2:=by
 obtain ⟨b,hb,e⟩:=List.mem_filterMap.mp hp
 cases q:h.get? b with
 | none=>rw [q] at e;cases e
 | some o=>
  rw [q] at e
  have e':(b,o)=p:=Option.some.inj e
  subst e'
  exact ⟨hb,q⟩
theorem Inv.pinned{pins:List (Addr×Obj)}{σ:St}{H:Hp}{s:Shared}{fp:List Addr}(I:Inv X pins σ H s)(hf:∀b∈fp,dg X pins H b)(ho:∀b∈fp,∃o,s.heap.get? b=some o∧∀v,o.data≠.cell v):Inv X (pins++cP fp s.heap) σ H s:=
 I.nZ fun p hp=>(List.mem_append.mp hp).elim (fun z=>I.pin p (List.mem_append_right _ z)) fun z=>by
  obtain ⟨hb,e⟩:=ui z
  obtain ⟨f0,f1,f2,_⟩:=hf p.1 hb
  obtain ⟨o,e',d⟩:=ho p.1 hb
  rw [e] at e';cases e'
  exact ⟨e,f0,f1,f2,d⟩
theorem Inv.eZ{pins pl:List (Addr×Obj)}{σ:St}{H:Hp}{s:Shared}(I:Inv X (pins++pl) σ H s):Inv X pins σ H s:=I.nZ fun p hp=>I.pin p (List.mem_append_right _ (List.mem_append_left _ hp))
theorem dG{iter:Expr}{body:List Stmt}{wi:TI}{g:TG}{tb:TS}{pos:Pos}(hp:PassesOwn (model X.prog X.w) X.A X.env X.xe)(hc:X.calm=true)(hi:PI X tg iter wi)(hg:PG X tg g)(hb:cE X body tb)
  (hs:∀x,foldedSetIterable iter X.env x=pure x:=by intro _;rfl):PS X (.For tg iter body [] pos) (uh wi g tb):=by
 intro pins s σ H D I h
 refine wpAny_For (ar (hi pins s σ H _ I h) fun v s1 h1=>ar h1 fun f_ s2 h2=>?_) hs
 obtain ⟨it,fp,tn,J,H2,e,I2,T,bU,f2,W,⟨m0,w0⟩,turn⟩:=h2
 subst e
 have bH:∀{H':Hp},(∀b∈fp,H' b=none)→∀b∈fp,dg X pins H' b:=fun hn b hb=>⟨hn b hb,(f2 b hb).2⟩
 refine codeAny_forLoop_any (fun n s'=>∃i σ' H',Inv X pins σ' H' s'∧tn i s'.heap∧(∀b∈fp,H' b=none)∧W i n σ' H') ?_ m0 ⟨0,σ,H2,I2,bU,fun b hb=>(f2 b hb).1,w0⟩
 rintro n s3 ⟨i,σ3,H3,I3,oD,oE,w3⟩
 rcases turn i n σ3 H3 w3 with ⟨stop,qn⟩ | ⟨go,N,hN,step⟩
 ·refine wpAny_passesOwn hp (ar (T.done X rfl rfl rfl hc i pins s3 σ3 H3 X.xe I3 (bH oE) oD stop) fun r s4 ⟨hr,I4⟩=>?_)
  subst hr
  exact wpAny_execs_nil ⟨σ3,H3,I4,qn⟩
 ·refine wpAny_passesOwn hp (ar (T.item X rfl rfl rfl hc i pins s3 σ3 H3 X.xe I3 (bH oE) oD go) fun r s4 ⟨u,hr,h4⟩=>?_)
  subst hr
  refine wpAny_passesOwn hp (ar h4 fun _ s5 ⟨x,H5,I5,r5,y5,bI,dH⟩=>?_)
  have dI:=I5.pinned (bH dH) (T.obj _ _ bI)
  refine wpAny_passesOwn hp (ar (hg _ s5 σ3 H5 x u _ dI r5 (step x H5 y5)) fun _ s6 ⟨σ6,H6,I6,q6⟩=>?_)
  refine wpAny_passesOwn hp (ar (hb _ s6 σ6 H6 _ I6 q6) fun f s7 q7=>?_)
  have again:∀{σ7:St} {H7:Hp},Inv X (pins++cP fp s5.heap) σ7 H7 s7→N σ7 H7→∃m,m<n∧∃i σ' H',Inv X pins σ' H' s7∧tn i s7.heap∧(∀b∈fp,H' b=none)∧W i m σ' H':=fun{σ7 H7} I7 n7=>by
   obtain ⟨m',hm,w7⟩:=hN σ7 H7 n7
   refine ⟨m',hm,i+1,σ7,H7,I7.eZ,T.keep _ _ _ bI fun b hb o e=>(I7.pin (b,o) (List.mem_append_right _ (List.mem_append_right _ (dh hb e)))).1,fun b hb=>?_,w7⟩
   obtain ⟨o,e,d⟩:=T.obj _ _ bI b hb
   exact (I7.pin (b,o) (List.mem_append_right _ (List.mem_append_right _ (dh hb e)))).2.1
  cases f with
  | next=>obtain ⟨σ7,H7,I7,n7⟩:=q7;exact again I7 n7
  | cont=>obtain ⟨σ7,H7,I7,n7⟩:=q7;exact again I7 n7
  | brk=>obtain ⟨σ7,H7,I7,q7⟩:=q7;exact ⟨σ7,H7,I7.eZ,q7⟩
  | ret v=>obtain ⟨x7,σ7,H7,I7,r7,q7⟩:=q7;exact ⟨x7,σ7,H7,I7.eZ,r7,q7⟩
end
theorem oF{K:PySem.W.Frag}{a:Addr}{xs:List V}{g:TG}{tb:TS}{D:Ends}{σ:St}{H:Hp}(Pv:Nat→St→Hp→Prop)(h0:Pv 0 σ H)(hl:∀i σ H,i≤xs.length→Pv i σ H→av K H a xs)
  (hs:∀i x σ H,xs[i]?=some x→Pv i σ H→g x σ H fun σ2 H2=>tb {D with nx:=Pv (i+1),ct:=Pv (i+1),bk:=D.nx} σ2 H2) (hd:∀σ H,Pv xs.length σ H→D.nx σ H) :
  ∃W:Nat→Nat→St→Hp→Prop,(∃m,W 0 m σ H)∧∀i m σ H,W i m σ H→
   ((eY K a).stop i H∧D.nx σ H)∨((eY K a).go i H∧∃N:St→Hp→Prop,(∀σ' H',N σ' H'→∃m',m'<m∧W (i+1) m' σ' H')∧∀x H',(eY K a).bu i H x H'→g x σ H' fun σ2 H2=>tb {D with nx:=N,ct:=N,bk:=D.nx} σ2 H2):=by
 refine ⟨fun i m σ H=>m=xs.length-i∧i≤xs.length∧Pv i σ H,⟨xs.length,by simp,Nat.zero_le _,h0⟩,?_⟩
 rintro i m σ H ⟨rfl,hi,p⟩
 have q:=hl i σ H hi p
 by_cases aG:i<xs.length
 ·refine .inr ⟨⟨xs,xs[i],q,by simp [aG]⟩,Pv (i+1),fun σ' H' p'=>⟨xs.length-(i+1),by omega,rfl,aG,p'⟩,fun x H' y=>?_⟩
  obtain ⟨e,y⟩:=y
  subst e
  exact hs i x σ _ (y xs q) p
 ·have e:i=xs.length:=by omega
  subst e
  exact .inl ⟨⟨xs,q,Nat.le_refl _⟩,hd σ H p⟩
theorem uj{K:PySem.W.Frag}{a:Addr}{xs:List V}{g:TG}{tb:TS}{D:Ends}{σ:St}{H:Hp}(Pv:Nat→St→Hp→Prop)(h0:Pv 0 σ H)(hl:∀i σ H,i≤xs.length→Pv i σ H→bF K H a xs)
  (hs:∀i x σ H,xs[i]?=some x→Pv i σ H→g x σ H fun σ2 H2=>tb {D with nx:=Pv (i+1),ct:=Pv (i+1),bk:=D.nx} σ2 H2) (hd:∀σ H,Pv xs.length σ H→D.nx σ H) :
  ∃W:Nat→Nat→St→Hp→Prop,(∃m,W 0 m σ H)∧∀i m σ H,W i m σ H→
   ((gb K a).stop i H∧D.nx σ H)∨((gb K a).go i H∧∃N:St→Hp→Prop,(∀σ' H',N σ' H'→∃m',m'<m∧W (i+1) m' σ' H')∧∀x H',(gb K a).bu i H x H'→g x σ H' fun σ2 H2=>tb {D with nx:=N,ct:=N,bk:=D.nx} σ2 H2):=by
 refine ⟨fun i m σ H=>m=xs.length-i∧i≤xs.length∧Pv i σ H,⟨xs.length,by simp,Nat.zero_le _,h0⟩,?_⟩
 rintro i m σ H ⟨rfl,hi,p⟩
 have q:=hl i σ H hi p
 by_cases aG:i<xs.length
 ·refine .inr ⟨⟨xs,xs[i],q,by simp [aG]⟩,Pv (i+1),fun σ' H' p'=>⟨xs.length-(i+1),by omega,rfl,aG,p'⟩,fun x H' y=>?_⟩
  obtain ⟨e,y⟩:=y
  subst e
  exact hs i x σ _ (y xs q) p
 ·have e:i=xs.length:=by omega
  subst e
  exact .inl ⟨⟨xs,q,Nat.le_refl _⟩,hd σ H p⟩
theorem gd{lo:Int}{n:Nat}{g:TG}{tb:TS}{D:Ends}{σ:St}{H:Hp}(Pv:Nat→St→Hp→Prop)(h0:Pv 0 σ H)
  (hs:∀i σ H,i<n→Pv i σ H→g (.int (lo+i)) σ H fun σ2 H2=>tb {D with nx:=Pv (i+1),ct:=Pv (i+1),bk:=D.nx} σ2 H2) (hd:∀σ H,Pv n σ H→D.nx σ H) :
  ∃W:Nat→Nat→St→Hp→Prop,(∃m,W 0 m σ H)∧∀i m σ H,W i m σ H→
   ((d_ lo n).stop i H∧D.nx σ H)∨((d_ lo n).go i H∧∃N:St→Hp→Prop,(∀σ' H',N σ' H'→∃m',m'<m∧W (i+1) m' σ' H')∧∀x H',(d_ lo n).bu i H x H'→g x σ H' fun σ2 H2=>tb {D with nx:=N,ct:=N,bk:=D.nx} σ2 H2):=by
 refine ⟨fun i m σ H=>m=n-i∧i≤n∧Pv i σ H,⟨n,by simp,Nat.zero_le _,h0⟩,?_⟩
 rintro i m σ H ⟨rfl,hi,p⟩
 by_cases aG:i<n
 ·refine .inr ⟨aG,Pv (i+1),fun σ' H' p'=>⟨n-(i+1),by omega,rfl,aG,p'⟩,fun x H' y=>?_⟩
  obtain ⟨e,y⟩:=y
  subst e y
  exact hs i σ _ aG p
 ·have e:i=n:=by omega
  subst e
  exact .inl ⟨Nat.le_refl _,hd σ H p⟩
abbrev R2:=V→V→Hp→VK→Prop
def aO(X:Cx)(f:Value→Value→Sem Value)(r:R2):Prop:=
 ∀(pins:List (Addr×Obj)) (s:Shared) (σ:St) (H:Hp) (x y:V) (v u:Value) (Q:VK),Inv X pins σ H s→RelV x v→RelV y u→r x y H Q→
  wpAny (model X.prog X.w) X.A (f v u) (EP X pins σ Q) X.xe s
def ll(X:Cx)(f:Value→Sem Value)(r:V→Hp→VK→Prop):Prop:=
 ∀(pins:List (Addr×Obj)) (s:Shared) (σ:St) (H:Hp) (x:V) (v:Value) (Q:VK),Inv X pins σ H s→RelV x v→r x H Q→
  wpAny (model X.prog X.w) X.A (f v) (EP X pins σ Q) X.xe s
def cq(X:Cx)(f:Value)(r:List V→Hp→VK→Prop):Prop:=
 ∀(pins:List (Addr×Obj)) (s:Shared) (σ:St) (H:Hp) (xs:List V) (us:List Value) (Q:VK),Inv X pins σ H s→Vals xs us→r xs H Q→
  wpAny (model X.prog X.w) X.A (call f us) (EP X pins σ Q) X.xe s
def ip(r:R2)(ta tb:TE):TE:=fun σ H Q=>ta σ H fun x H1=>tb σ H1 fun y H2=>r x y H2 Q
def uk(r:V→Hp→VK→Prop)(ta:TE):TE:=fun σ H Q=>ta σ H fun x H1=>r x H1 Q
def rI(C:Int→Int→Prop)(g:Int→Int→V):R2:=fun x y H Q=>∃i j,x=.int i∧y=.int j∧C i j∧Q (g i j) H
def eg(g:Int→Int→V):R2:=fun x y H Q=>∃i j,x=.int i∧y=.int j∧Q (g i j) H
def rU(g:Int→V):V→Hp→VK→Prop:=fun x H Q=>∃i,x=.int i∧Q (g i) H
section
variable {X:Cx} {a b c:Expr} {ta tb tc:TE} {pos:Pos}
theorem lp(ha:PE X a ta)(hb:PE X b tb){pins:List (Addr×Obj)}{s:Shared}{σ:St}{H:Hp}{R:V→V→Hp→Prop}(I:Inv X pins σ H s)
  (h:ta σ H fun x H1=>tb σ H1 fun y H2=>R x y H2) {Q:Value→Shared→Prop} {f:Value→Value→Sem Value}
  (hf:∀v u s2 x y H2,Inv X pins σ H2 s2→RelV x v→RelV y u→R x y H2→wpAny (model X.prog X.w) X.A (f v u) Q X.xe s2) :
  wpAny (model X.prog X.w) X.A (eval a X.env) (fun v s₁=>wpAny (model X.prog X.w) X.A (eval b X.env) (fun u s₂=>wpAny (model X.prog X.w) X.A (f v u) Q X.xe s₂) X.xe s₁) X.xe s:=by
 refine ar (ha pins s σ H _ I h) fun v s1 ⟨x,H1,I1,r1,q1⟩=>?_
 refine ar (hb pins s1 σ H1 _ I1 q1) fun u s2 ⟨y,H2,I2,r2,q2⟩=>?_
 exact hf v u s2 x y H2 I2 r1 r2 q2
theorem ay{op:Operator}{r:R2}(ho:aO X (binaryOp op) r)(ha:PE X a ta)(hb:PE X b tb):PE X (.BinOp a op b pos) (ip r ta tb):=by
 intro pins s σ H Q I h
 exact wpAny_BinOp (lp ha hb I h fun v u s2 x y H2 I2 rx ry q=>ho pins s2 σ H2 x y v u Q I2 rx ry q)
theorem jm{op:UnaryOp}{r:V→Hp→VK→Prop}(ho:ll X (unaryOp op) r)(ha:PE X a ta):PE X (.UnaryOp op a pos) (uk r ta):=by
 intro pins s σ H Q I h
 exact UnaryOp_ (ar (ha pins s σ H _ I h) fun v s1 ⟨x,H1,I1,r1,q1⟩=>ho pins s1 σ H1 x v Q I1 r1 q1)
theorem jo{f:Value→Value→Sem Value}{C:Int→Int→Prop}{g:Int→Int→Int}
  (rule:∀(i j:Int) (t u:Tok) (s:Shared) (Q:Value→Shared→Prop) (E:Value→Shared→Prop),C i j→Q (.int (g i j) s.toks) {s with toks:=s.toks+1}→wpAny (model X.prog X.w) X.A (f (.int i t) (.int j u)) Q E s) :
  aO X f (rI C fun i j=>.int (g i j)):=by
 intro pins s σ H x y v u Q I rx ry h
 obtain ⟨i,j,rfl,rfl,hc,q⟩:=h
 obtain ⟨t,rfl⟩:=rx
 obtain ⟨t',rfl⟩:=ry
 exact rule i j t t' s _ _ hc ⟨.int (g i j),H,I.tok _,⟨_,rfl⟩,q⟩
theorem oG{f:Value→Value→Sem Value}{g:Int→Int→Int}
  (rule:∀(i j:Int) (t u:Tok) (s:Shared) (Q:Value→Shared→Prop) (E:Value→Shared→Prop),Q (.int (g i j) s.toks) {s with toks:=s.toks+1}→wpAny (model X.prog X.w) X.A (f (.int i t) (.int j u)) Q E s) :
  aO X f (eg fun i j=>.int (g i j)):=by
 intro pins s σ H x y v u Q I rx ry h
 obtain ⟨i,j,rfl,rfl,q⟩:=h
 obtain ⟨t,rfl⟩:=rx
 obtain ⟨t',rfl⟩:=ry
 exact rule i j t t' s _ _ ⟨.int (g i j),H,I.tok _,⟨_,rfl⟩,q⟩
theorem jq{f:Value→Value→Sem Value}{g:Int→Int→Bool}
  (rule:∀(i j:Int) (t u:Tok) (s:Shared) (Q:Value→Shared→Prop) (E:Value→Shared→Prop),Q (.bool (g i j)) s→wpAny (model X.prog X.w) X.A (f (.int i t) (.int j u)) Q E s) :
  aO X f (eg fun i j=>.bl (g i j)):=by
 intro pins s σ H x y v u Q I rx ry h
 obtain ⟨i,j,rfl,rfl,q⟩:=h
 obtain ⟨t,rfl⟩:=rx
 obtain ⟨t',rfl⟩:=ry
 exact rule i j t t' s _ _ ⟨.bl (g i j),H,I,rfl,q⟩
def um(i j:Int):Prop:=0≤j∧j≤1000000∧i.natAbs<2 ^ 64
def lq(i j:Int):Prop:=(-(2 ^ 64)<i∧i<2 ^ 64)∨(-(2 ^ 64)<j∧j<2 ^ 64)
theorem lq.ok{i j:Int}(h:lq i j):IntMulOk i j:=by
 rcases h with ⟨h1,h2⟩ | ⟨h1,h2⟩
 ·exact .of_left (intBits_le_64 h1 h2)
 ·exact .of_right (intBits_le_64 h1 h2)
theorem cu:aO X (binaryOp .Add) (eg fun i j=>.int (i+j)):=oG fun _ _ _ _ _ _ _ q=>add_int q
theorem iq:aO X (binaryOp .Sub) (eg fun i j=>.int (i-j)):=oG fun _ _ _ _ _ _ _ q=>sub_int q
theorem dJ:aO X (binaryOp .Mult) (rI lq fun i j=>.int (i*j)):=jo fun _ _ _ _ _ _ _ hc q=>mul_int q hc.ok
theorem ei:aO X (binaryOp .Mod) (rI (fun _ j=>0<j) fun i j=>.int (i % j)):=jo fun i j _ _ _ _ _ hc q=>by
 have h1:(0:Int)<j:=hc
 exact mod_int' (by omega) (by rw [Int.fmod_eq_emod_of_nonneg i (by omega)];exact q)
theorem uo:aO X (binaryOp .Pow) (rI um fun i j=>.int (i ^ j.toNat)):=jo fun _ _ _ _ _ _ _ hc q=>pow_int_small hc.1 hc.2.1 hc.2.2 q
theorem uq{f:Value→Sem Value}{g:Int→Int}
  (rule:∀(i:Int) (t:Tok) (s:Shared) (Q:Value→Shared→Prop) (E:Value→Shared→Prop),Q (.int (g i) s.toks) {s with toks:=s.toks+1}→wpAny (model X.prog X.w) X.A (f (.int i t)) Q E s) :
  ll X f (rU fun i=>.int (g i)):=by
 intro pins s σ H x v Q I rx h
 obtain ⟨i,rfl,q⟩:=h
 obtain ⟨t,rfl⟩:=rx
 exact rule i t s _ _ ⟨.int (g i),H,I.tok _,⟨_,rfl⟩,q⟩
theorem jr:ll X (unaryOp .USub) (rU fun i=>.int (-i)):=uq fun _ _ _ _ _ q=>neg_int q
end
def oH:V→V→Bool
 | .aw,.aw=>true | .aw,.int _=>true | .int _,.aw=>true | .aw,.bl _=>true | .bl _,.aw=>true | .aw,.str _=>true | .str _,.aw=>true
 | .int _,.int _=>true | .bl _,.bl _=>true | .str _,.str _=>true | .cW _,.cW _=>true
 | .int _,.str _=>true | .str _,.int _=>true | .bl _,.str _=>true | .str _,.bl _=>true
 | _,_=>false
def ur:R2:=fun x y H Q=>oH x y=true∧Q (.bl (decide (x=y))) H
def uu:R2:=fun x y H Q=>oH x y=true∧Q (.bl (!decide (x=y))) H
theorem oI{i j:Int}:decide (V.int i=V.int j)=(i == j):=by
 rw [Bool.eq_iff_iff]
 simp
theorem oJ{i j:Bool}:decide (V.bl i=V.bl j)=(i == j):=by
 rw [Bool.eq_iff_iff]
 simp
theorem oK{i j:Str}:decide (V.str i=V.str j)=(i == j):=by
 rw [Bool.eq_iff_iff]
 simp
theorem oO{i j:Array UInt8}:decide (V.cW i=V.cW j)=(i.toList == j.toList):=by
 rw [Bool.eq_iff_iff]
 cases i
 cases j
 simp
section
variable {X:Cx} {a b c:Expr} {ta tb tc:TE} {pos:Pos}
theorem aR{pins:List (Addr×Obj)}{σ:St}{H:Hp}{s:Shared}{Q:VK}{k k':Bool}(I:Inv X pins σ H s)(q:Q (.bl k) H)(e:k=k'):EP X pins σ Q (.bool k') s:=by
 subst e
 exact ⟨.bl k,H,I,rfl,q⟩
theorem di:aO X (compareOp .Eq) ur:=by
 intro pins s σ H x y v u Q I rx ry h
 obtain ⟨hs,q⟩:=h
 cases x with
 | aw=>
  cases rx
  cases y with
  | aw=>cases ry;exact PySem.EqNone.eq_none_none (aR I q (by simp))
  | bl j=>cases ry;exact PySem.EqNone.eq_none_bool (aR I q (by simp))
  | int j=>obtain ⟨t',rfl⟩:=ry;exact PySem.EqNone.eq_none_int (aR I q (by simp))
  | str j=>obtain ⟨t',rfl⟩:=ry;exact PySem.EqNone.eq_none_str (aR I q (by simp))
  | _=>exact absurd (show false=true from hs) Bool.false_ne_true
 | bl i=>
  cases rx
  cases y with
  | aw=>cases ry;exact PySem.EqNone.eq_bool_none (aR I q (by simp))
  | bl j=>cases ry;exact eq_bool (aR I q oJ)
  | str j=>obtain ⟨t',rfl⟩:=ry;exact PySem.EqMixed.eq_bool_str (aR I q (by simp))
  | _=>exact absurd (show false=true from hs) Bool.false_ne_true
 | int i=>
  obtain ⟨t,rfl⟩:=rx
  cases y with
  | aw=>cases ry;exact PySem.EqNone.eq_int_none (aR I q (by simp))
  | int j=>obtain ⟨t',rfl⟩:=ry;exact eq_int (aR I q oI)
  | str j=>obtain ⟨t',rfl⟩:=ry;exact PySem.EqMixed.eq_int_str (aR I q (by simp))
  | _=>exact absurd (show false=true from hs) Bool.false_ne_true
 | str i=>
  obtain ⟨t,rfl⟩:=rx
  cases y with
  | aw=>cases ry;exact PySem.EqNone.eq_str_none (aR I q (by simp))
  | bl j=>cases ry;exact PySem.EqMixed.eq_str_bool (aR I q (by simp))
  | int j=>obtain ⟨t',rfl⟩:=ry;exact PySem.EqMixed.eq_str_int (aR I q (by simp))
  | str j=>obtain ⟨t',rfl⟩:=ry;exact eq_str (aR I q oK)
  | _=>exact absurd (show false=true from hs) Bool.false_ne_true
 | cW i=>
  obtain ⟨t,rfl⟩:=rx
  cases y with
  | cW j=>obtain ⟨t',rfl⟩:=ry;exact PySem.W.eq_bytes (aR I q oO)
  | _=>exact absurd (show false=true from hs) Bool.false_ne_true
 | _=>cases y <;> exact absurd (show false=true from hs) Bool.false_ne_true
theorem oP:aO X (compareOp .NotEq) uu:=by
 intro pins s σ H x y v u Q I rx ry h
 obtain ⟨hs,q⟩:=h
 cases x with
 | aw=>
  cases rx
  cases y with
  | aw=>cases ry;exact PySem.EqNone.ne_none_none (aR I q (by simp))
  | bl j=>cases ry;exact PySem.EqNone.ne_none_bool (aR I q (by simp))
  | int j=>obtain ⟨t',rfl⟩:=ry;exact PySem.EqNone.ne_none_int (aR I q (by simp))
  | str j=>obtain ⟨t',rfl⟩:=ry;exact PySem.EqNone.ne_none_str (aR I q (by simp))
  | _=>exact absurd (show false=true from hs) Bool.false_ne_true
 | bl i=>
  cases rx
  cases y with
  | aw=>cases ry;exact PySem.EqNone.ne_bool_none (aR I q (by simp))
  | bl j=>cases ry;exact ne_bool (aR I q (congrArg not oJ))
  | str j=>obtain ⟨t',rfl⟩:=ry;exact PySem.EqMixed.ne_bool_str (aR I q (by simp))
  | _=>exact absurd (show false=true from hs) Bool.false_ne_true
 | int i=>
  obtain ⟨t,rfl⟩:=rx
  cases y with
  | aw=>cases ry;exact PySem.EqNone.ne_int_none (aR I q (by simp))
  | int j=>obtain ⟨t',rfl⟩:=ry;exact ne_int (aR I q (congrArg not oI))
  | str j=>obtain ⟨t',rfl⟩:=ry;exact PySem.EqMixed.ne_int_str (aR I q (by simp))
  | _=>exact absurd (show false=true from hs) Bool.false_ne_true
 | str i=>
  obtain ⟨t,rfl⟩:=rx
  cases y with
  | aw=>cases ry;exact PySem.EqNone.ne_str_none (aR I q (by simp))
  | bl j=>cases ry;exact PySem.EqMixed.ne_str_bool (aR I q (by simp))
  | int j=>obtain ⟨t',rfl⟩:=ry;exact PySem.EqMixed.ne_str_int (aR I q (by simp))
  | str j=>obtain ⟨t',rfl⟩:=ry;exact ne_str (aR I q (congrArg not oK))
  | _=>exact absurd (show false=true from hs) Bool.false_ne_true
 | cW i=>
  obtain ⟨t,rfl⟩:=rx
  cases y with
  | cW j=>obtain ⟨t',rfl⟩:=ry;exact PySem.W.ne_bytes (aR I q (congrArg not oO))
  | _=>exact absurd (show false=true from hs) Bool.false_ne_true
 | _=>cases y <;> exact absurd (show false=true from hs) Bool.false_ne_true
theorem gf:aO X (compareOp .Lt) (eg fun i j=>.bl (decide (i<j))):=jq fun _ _ _ _ _ _ _ q=>lt_int q
theorem oQ:aO X (compareOp .LtE) (eg fun i j=>.bl (decide (i≤j))):=jq fun _ _ _ _ _ _ _ q=>le_int q
theorem ir:aO X (compareOp .Gt) (eg fun i j=>.bl (decide (j<i))):=jq fun _ _ _ _ _ _ _ q=>gt_int q
theorem uv:aO X (compareOp .GtE) (eg fun i j=>.bl (decide (j≤i))):=jq fun _ _ _ _ _ _ _ q=>ge_int q
theorem aP(b:Expr){op:CmpOp}(h:op≠.In:=by decide)(h2:op≠.NotIn:=by decide):behindInMarks op b=false:=by
 have e1:(op == CmpOp.In)=false:=by cases op <;> first | rfl | exact absurd rfl h
 have e2:(op == CmpOp.NotIn)=false:=by cases op <;> first | rfl | exact absurd rfl h2
 cases b <;> simp [behindInMarks,e1,e2]
theorem en{op:CmpOp}{r:R2}(ho:aO X (compareOp op) r)(ha:PE X a ta)(hb:PE X b tb)(hm:behindInMarks op b=false):PE X (.Compare a [op] [b] pos) (ip r ta tb):=by
 intro pins s σ H Q I h
 exact wpAny_Compare1 (lp ha hb I h fun v u s2 x y H2 I2 rx ry q=>ho pins s2 σ H2 x y v u Q I2 rx ry q) hm
def oR(t:TE):TT:=fun σ H Q=>t σ H fun x H'=>∃k,x=.bl k∧Q k H'
theorem aS{op:CmpOp}{r:R2}(ho:aO X (compareOp op) r)(ha:PE X a ta)(hb:PE X b tb)(hm:behindInMarks op b=false):PT X (.Compare a [op] [b] pos) (oR (ip r ta tb)):=by
 intro pins s σ H Q I h
 refine wpAny_isTrue_Compare1 (ar (ha pins s σ H _ I h) fun v s1 ⟨x,H1,I1,r1,q1⟩=>ar (hb pins s1 σ H1 _ I1 q1) fun u s2 ⟨y,H2,I2,r2,q2⟩=>
  ar (ho pins s2 σ H2 x y v u _ I2 r1 r2 q2) fun c s3 ⟨z,H3,I3,r3,k,e,q3⟩=>?_) hm
 subst e
 cases r3
 exact wpAny_truthy_bool ⟨H3,I3,q3⟩
def uw(r r':R2)(ta tb tc:TE):TE:=fun σ H Q=>ta σ H fun x H1=>tb σ H1 fun y H2=>r x y H2 fun z H3=>∃k,z=.bl k ∧
 (if k=true then tc σ H3 fun w' H4=>r' y w' H4 Q else Q (.bl false) H3)
theorem ux{op lr:CmpOp}{r r':R2}(ho:aO X (compareOp op) r)(dE:aO X (compareOp lr) r')(ha:PE X a ta)(hb:PE X b tb)(hc:PE X c tc)
  (hm:lastMarks [op,lr] [b,c]=false:=by with_unfolding_all rfl):PE X (.Compare a [op,lr] [b,c] pos) (uw r r' ta tb tc):=by
 intro pins s σ H Q I h
 refine Compare_chain (ar (ha pins s σ H _ I h) fun v s1 ⟨x,H1,I1,r1,q1⟩=>chain_link (ar (hb pins s1 σ H1 _ I1 q1) fun u s2 ⟨y,H2,I2,r2,q2⟩=>
  ar (ho pins s2 σ H2 x y v u _ I2 r1 r2 q2) fun d s3 ⟨z,H3,I3,r3,k,e,q3⟩=>?_)) hm
 subst e
 cases r3
 refine wpAny_truthy_bool ?_
 cases k with
 | false=>exact ite_ff ⟨.bl false,H3,I3,rfl,q3⟩
 | true=>exact ite_tt (chain_last (ar (hc pins s3 σ H3 _ I3 q3) fun w' s4 ⟨z',H4,I4,r4,q4⟩=>dE pins s4 σ H4 y z' u w' Q I4 r2 r4 q4))
theorem jt:(sizeLine:Nat)<2 ^ 63:=by rw [sizeLine_eq];decide
theorem vals1{x:V}{us:List Value}(r:Vals [x] us):∃u,us=[u]∧RelV x u:=by
 cases r with
 | cons r1 r2=>cases r2;exact ⟨_,rfl,r1⟩
theorem vals2{x y:V}{us:List Value}(r:Vals [x,y] us):∃u w',us=[u,w']∧RelV x u∧RelV y w':=by
 cases r with
 | cons r1 r2=>
  cases r2 with
  | cons r3 r4=>cases r4;exact ⟨_,_,rfl,r1,r3⟩
theorem lx(hc:X.calm=true):cq X (.builtin "max") (fun xs H Q=>∃i j,xs=[.int i,.int j]∧Q (.int (if j>i then j else i)) H):=by
 intro pins s σ H xs us Q I r h
 obtain ⟨i,j,rfl,q⟩:=h
 obtain ⟨u,w',rfl,⟨t,rfl⟩,⟨t',rfl⟩⟩:=vals2 r
 refine max_two_ints (I.ok.hd hc) fun h' tk k=>⟨_,H,I.kept k,?_,q⟩
 by_cases hj:j>i
 ·rw [if_pos hj,if_pos hj];exact ⟨_,rfl⟩
 ·rw [if_neg hj,if_neg hj];exact ⟨_,rfl⟩
theorem lA(hc:X.calm=true):cq X (.builtin "min") (fun xs H Q=>∃i j,xs=[.int i,.int j]∧Q (.int (if j<i then j else i)) H):=by
 intro pins s σ H xs us Q I r h
 obtain ⟨i,j,rfl,q⟩:=h
 obtain ⟨u,w',rfl,⟨t,rfl⟩,⟨t',rfl⟩⟩:=vals2 r
 refine min_two_ints (I.ok.hd hc) fun h' tk k=>⟨_,H,I.kept k,?_,q⟩
 by_cases hj:j<i
 ·rw [if_pos hj,if_pos hj];exact ⟨_,rfl⟩
 ·rw [if_neg hj,if_neg hj];exact ⟨_,rfl⟩
end
structure lB (h:Heap) (x dx C:Addr) (mA:Str→Option Value):Prop where
 obj:h.get? x=some (PySem.W.instObj C dx)
 ns:h.Ns1 dx mA
 ne:dx≠x
theorem uy{h:Heap}{dx:Addr}{mA:Str→Option Value}(n:h.Ns1 dx mA):∃od,h.get? dx=some od∧∀name,PySem.W.lookIn name od=some (mA name):=by
 obtain ⟨o,es,ep,ho,hd,hk,_,hm⟩:=n
 refine ⟨o,ho,fun name=>?_⟩
 have e:=hm name
 unfold nsFind findBy at e
 rw [←Array.find?_toList] at e
 unfold PySem.W.lookIn
 rw [hd]
 dsimp only
 split
 ·rename_i y q
  rw [q] at e
  exact congrArg some e
 ·rename_i q
  rw [q] at e
  have a:es.toList.any (·.refKey)=false:=by
   rw [List.any_eq_false]
   intro y hy
   obtain ⟨z,t,uz⟩:=hk y (Array.mem_toList_iff.mp hy)
   simp [DictEntry.refKey,uz]
  have a':¬es.toList.any (·.refKey)=true:=by rw [a];exact Bool.false_ne_true
  rw [if_neg a']
  exact congrArg some e
theorem lB.look{h:Heap}{x dx C:Addr}{mA:Str→Option Value}(I:lB h x dx C mA):∃od,PySem.W.InstAt h x (PySem.W.instObj C dx) C (some od)∧∀name,PySem.W.lookIn name od=some (mA name):=
 let ⟨od,ho,hl⟩:=uy I.ns
 ⟨od,⟨I.obj,rfl,rfl,ho⟩,hl⟩
section
variable {prog:Program} {w:World} {A:Around} {E:Value→Shared→Prop} {s:Shared} {K:PySem.W.Frag} {x dx C f:Addr} {mA:Str→Option Value} {name:Str} {v:Value}
end
section
variable {P:Program} {w:World} {H H':Hp} {h h':Heap} {a C dx:Addr} {fs kK:List (Str×V)}
theorem uA(ao:aQ P w H h)(e:H a=some (.ins C dx fs)):∃mA,lB h a dx C mA∧(∀f,kJ (fs.lookup f) (mA f))∧PySem.Within mA (fs.map (·.1))∧fs.length≤1000∧H dx=some (.own a):=by
 obtain ⟨d,z,ne,ob,mA,n,r,q⟩:=(show a7 P w H h a (.ins C dx fs) from ao a _ e)
 exact ⟨mA,⟨ob,n,ne⟩,r,q,z,d⟩
end
structure lC (K:PySem.W.Frag) (C:Addr):Prop where
 pg:PySem.W.plainGet K C Str.empty=true
 hd:PySem.W.hasDictIn K C=true
 po:PySem.W.plainOver K C=true
 sa:PySem.W.findIn K (.ref C) "__setattr__" = some (some (.builtin "object.__setattr__"))
theorem lC.get{K:PySem.W.Frag}{C:Addr}(c:lC K C)(f:Str):PySem.W.plainGet K C f=true:=c.pg
section
variable {X:Cx} {pins:List (Addr×Obj)} {σ:St} {H:Hp} {s:Shared} {a C dx:Addr} {fs:List (Str×V)} {f:Str} {v:V} {A:Around} {E:Value→Shared→Prop}
end
section
variable {X:Cx} {o e value:Expr} {f:Str} {pos pos' ju:Pos} {ta tv:TE}
end
section
variable {X:Cx} {pins:List (Addr×Obj)} {σ:St} {H:Hp} {s:Shared} {A:Around} {E:Value→Shared→Prop} {Q:Value→Shared→Prop} {c:Value} {b:Bool}
inductive cF (K:PySem.W.Frag) (H:Hp):V→Value→Prop where
 | aw:cF K H .aw (.type "NoneType")
 | bl (x:Bool):cF K H (.bl x) (.type "bool")
 | int (i:Int):cF K H (.int i) (.type "int")
 | str (x:Str):cF K H (.str x) (.type "str")
 | fS (x:UInt64):cF K H (.fS x) (.type "float")
 | lst {a:Addr} {xs:List V} (e:H a=some (.lst xs)):cF K H (.ref a) (.type "list")
 | cm {a:Addr} {o:Obj} {xs:List V} (e:H a=some (.cm o (.lst xs))):cF K H (.ref a) (.type "list")
 | tup {a:Addr} {xs:List V} (e:H a=some (.tup xs)):cF K H (.ref a) (.type "tuple")
 | dK {a:Addr} {aW:List (Key×V)} (e:H a=some (.dK aW)):cF K H (.ref a) (.type "dict")
 | dT {a:Addr} {aW:List (List Key×V)} (e:H a=some (.dT aW)):cF K H (.ref a) (.type "dict")
 | ins {a C dx:Addr} {fs:List (Str×V)} (e:H a=some (.ins C dx fs)) (cl:lC K C) (ha:PySem.W.findIn K (.ref C) "__class__" = some (some (.builtin "object.__class__")))
   (hn:PySem.W.specialIn K (.builtin "object.__class__") "__get__" = some (some (.builtin "getset_descriptor.__get__"))) (oS:PySem.W.takesIn K (.builtin "object.__class__")=some true)
   (hm:PySem.W.mroIn K C (.type "object")=some true):cF K H (.ref a) (.ref C)
theorem uB{x:V}{u t:Value}(I:Inv X pins σ H s)(rx:RelV x u)(ty:cF X.K H x t)(e:PySem.W.kitOne X.K t c=some b)(h:∀tk,Q (.bool b) {s with toks:=tk}) :
  wpAny (model X.prog X.w) A (call (.builtin "isinstance") [u,c]) Q E s:=by
 cases ty with
 | aw=>cases (show u=Value.none from rx);exact PySem.W.kia_one PySem.W.kitx_none I.bE True.intro e (fun z=>nomatch z) h
 | bl y=>cases (show u=Value.bool y from rx);exact PySem.W.kia_one PySem.W.kitx_bool I.bE True.intro e (fun z=>nomatch z) h
 | int i=>obtain ⟨t,q⟩:=(show ∃t,u=Value.int i t from rx);cases q;exact PySem.W.kia_one PySem.W.kitx_int I.bE True.intro e (fun z=>nomatch z) h
 | str y=>obtain ⟨t,q⟩:=(show ∃t,u=Value.str y t from rx);cases q;exact PySem.W.kia_one PySem.W.kitx_str I.bE True.intro e (fun z=>nomatch z) h
 | fS y=>obtain ⟨t,q⟩:=(show ∃t,u=Value.float y t from rx);cases q;exact PySem.W.kia_one PySem.W.kitx_float I.bE True.intro e (fun z=>nomatch z) h
 | @lst a xs ea=>
  cases (show u=Value.ref a from rx)
  obtain ⟨_,_,n,_,h1⟩:=(show a7 X.prog X.w H s.heap a (.lst xs) from I.ao a _ ea)
  exact PySem.W.kia_one PySem.W.kitx_list I.bE ⟨_,h1,rfl⟩ e (fun z=>nomatch z) h
 | @cm a ob xs ea=>
  cases (show u=Value.ref a from rx)
  obtain ⟨_,_,_,n,_,h1⟩:=(show a7 X.prog X.w H s.heap a (.cm ob (.lst xs)) from I.ao a _ ea)
  exact PySem.W.kia_one PySem.W.kitx_list I.bE ⟨_,h1,rfl⟩ e (fun z=>nomatch z) h
 | @tup a xs ea=>
  cases (show u=Value.ref a from rx)
  obtain ⟨_,_,_,p⟩:=(show a7 X.prog X.w H s.heap a (.tup xs) from I.ao a _ ea)
  obtain ⟨o,h1,h2,_⟩:=p
  exact PySem.W.kia_one PySem.W.kitx_tuple I.bE ⟨o,h1,h2⟩ e (fun z=>nomatch z) h
 | @dK a aW ea=>
  cases (show u=Value.ref a from rx)
  obtain ⟨_,_,vs,_,p⟩:=(show a7 X.prog X.w H s.heap a (.dK aW) from I.ao a _ ea)
  obtain ⟨o,es,ep,h1,h2,_⟩:=p
  exact PySem.W.kia_one PySem.W.kitx_dict I.bE ⟨o,h1,h2.1⟩ e (fun z=>nomatch z) h
 | @dT a aW ea=>
  cases (show u=Value.ref a from rx)
  obtain ⟨_,_,xs,_,o,es,ep,h1,h2,_⟩:=(show a7 X.prog X.w H s.heap a (.dT aW) from I.ao a _ ea)
  exact PySem.W.kia_one PySem.W.kitx_dict I.bE ⟨o,h1,h2.1⟩ e (fun z=>nomatch z) h
 | @ins a C dx fs ea cl ha hn oS hm=>
  cases (show u=Value.ref a from rx)
  obtain ⟨mA,O,_⟩:=uA I.ao ea
  obtain ⟨od,J,_⟩:=O.look
  exact PySem.W.kia_one (PySem.W.kitx_own (cl.get _) cl.hd ha hn oS hm) I.bE J e (fun z=>nomatch z) h
end
structure bJ (k:Nat) (A:Around):Prop where
 hd:A.handled=none
 dp:A.depth+3*k+5<recursionLimit
 un:A.units+16*k+200<cLine
theorem bJ.mono{j k:Nat}{A:Around}(r:bJ k A)(h:j≤k):bJ j A:=⟨r.hd,by have:=r.dp;omega,by have:=r.un;omega⟩
theorem bJ.deeper{k:Nat}{A:Around}(r:bJ (k+1) A)(env:Env):bJ k (A.deeper env):=
 ⟨r.hd,by have:=r.dp;show A.depth+1+3*k+5<_;omega,by have:=r.un;show A.units+3+16*k+200<_;omega⟩
theorem bJ.depth{k:Nat}{A:Around}(r:bJ k A):A.depth<recursionLimit:=by have:=r.dp;omega
theorem bJ.units{k:Nat}{A:Around}(r:bJ k A):A.units+64<cLine:=by have:=r.un;omega
theorem bJ.uC{k:Nat}{A:Around}(r:bJ k A):A.units<cLine:=by have:=r.un;omega
def iu:TA:=fun _ H Q=>Q [] H
def lE(ta:TE)(tr:TA):TA:=fun σ H Q=>ta σ H fun x H1=>tr σ H1 fun xs H2=>Q (x::xs) H2
section
variable {X:Cx} {e:Expr} {es:List Expr} {te:TE} {t:TA} {pos:Pos}
theorem ai:PA X [] iu:=fun _ _ _ _ H Q I h=>Calls.spliced_nil ⟨[],H,I,.nil,h⟩
theorem uD(ha:PE X e te)(hr:PA X es t)(hs:starEach (e::es) X.env=(false,eval e X.env)::starEach es X.env:=by rfl):PA X (e::es) (lE te t):=by
 intro pos pins s σ H Q I h
 rw [hs]
 show wpAny _ _ (spliced ((false,eval e X.env)::backTo pos (starEach es X.env))) _ _ s
 refine Calls.spliced_cons (ar (ha pins s σ H _ I h) fun u s1 ⟨x,H1,I1,r1,q1⟩=>?_)
 exact ar (hr pos pins s1 σ H1 _ I1 q1) fun us s2 ⟨xs,H2,I2,r2,q2⟩=>⟨x::xs,H2,I2,.cons r1 r2,q2⟩
def uE(t:TA):TE:=fun σ H Q=>t σ H fun xs H1=>xs.length≤sizeLine∧∀p,H1 p=none→Q (.ref p) (upd H1 p (.tup xs))
def uF(t:TA):TE:=fun σ H Q=>t σ H fun xs H1=>xs.length≤sizeLine∧∀p,H1 p=none→Q (.ref p) (upd H1 p (.lst xs))
theorem e8{x1}(h:PA X es t):PE X (.Tuple es x1 pos) (uE t):=by
 intro pins s σ H Q I hq
 refine wpAny_Tuple_spliced (ar (h pos pins s σ H _ I hq) fun us s1 ⟨xs,H1,I1,r,z,q⟩=>⟨by rw [←r.length];exact z,?_⟩)
 have hf:H1 s1.heap.objs.size=none:=I1.ao.fresh (Nat.le_refl _)
 refine ⟨.ref s1.heap.objs.size,upd H1 s1.heap.objs.size (.tup xs),I1.laid (t':=s1.toks) (fun b u e=>Heap.get?_push_of_some _ e) (Nat.le_refl _) ?_,rfl,q _ hf⟩
 exact ⟨z,us,r,⟨_,Heap.get?_push_size _ rfl,rfl,_,rfl⟩⟩
theorem bg(h:PA X es t):PE X (.List es pos) (uF t):=by
 intro pins s σ H Q I hq
 refine wpAny_List_spliced (ar (h pos pins s σ H _ I hq) fun us s1 ⟨xs,H1,I1,r,z,q⟩=>⟨by rw [←r.length];exact z,?_⟩)
 have hf:H1 s1.heap.objs.size=none:=I1.ao.fresh (Nat.le_refl _)
 refine ⟨.ref s1.heap.objs.size,upd H1 s1.heap.objs.size (.lst xs),I1.laid (t':=s1.toks) (fun b u e=>Heap.get?_push_of_some _ e) (Nat.le_refl _) ?_,rfl,q _ hf⟩
 exact ⟨z,us,0,r,Heap.get?_push_size _ rfl⟩
end
abbrev Sp:=List V→Hp→VK→XK→Prop
abbrev cw:=List Env→Hp→Shared→XK→Value→Shared→Prop
structure jv (P:Program) (w:World) (K:PySem.W.Frag) (mg:Str→Option Value) (base:Heap) (A:Around) (outer:List Env) (s:Shared) (H:Hp):Prop where
 frames:A.frames=some outer
 mod:Mod K mg base
 bs:∀b o,base.get? b=some o→s.heap.get? b=some o∧H b=none
 cp:base.objs.size≤s.heap.objs.size
 cY:s.heap.FunFrames base outer
 fV:∀b∈bD outer,H b=none
 ao:aQ P w H s.heap
 bare:AllBare s.gens
def CE(outer:List Env)(P:Program)(w:World)(H:Hp)(s:Shared)(Q:VK)(u:Value)(s':Shared):Prop:=
 ∃v H',s'.os=s.os∧AllBare s'.gens∧Un (bD outer) [] H H' s.heap s'.heap∧aQ P w H' s'.heap∧RelV v u∧Q v H'
def CR(CX:cw)(outer:List Env)(P:Program)(w:World)(H:Hp)(s:Shared)(Q:VK)(E:XK)(r:Result)(s':Shared):Prop:=
 match r with
 | .ok (.ret u)=>CE outer P w H s Q u s'
 | .ok _=>False
 | .error e=>CX outer H s E e s'
structure a0 (P:Program) (w:World) (K:PySem.W.Frag) (mg:Str→Option Value) (base:Heap) (CX:cw) (k:Nat) (f:Addr) (fd:FuncData) (ps:List Str) (sp:Sp):Prop where
 len:∀vs H Q E,sp vs H Q E→vs.length=ps.length
 run:∀(A:Around) (outer:List Env) (s:Shared) (H:Hp) (args:Args) (us:List Value) (vs:List V) (Q:VK) (E:XK),bJ k A→jv P w K mg base A outer s H→BindsTo s fd args (ps.zip us)→Vals vs us→sp vs H Q E→
  codeAny (model P w) A (.call (.ref f) args) (CR CX outer P w H s Q E) s
section
variable {X:Cx} {pins:List (Addr×Obj)} {σ:St} {H:Hp} {s s':Shared}
theorem Inv.uG(I:Inv X pins σ H s):jv X.prog X.w X.K X.mg X.base X.A X.stack s H:=
 ⟨I.ok.frames,I.ok.mod,I.bs,Nat.le_trans I.ok.cp I.sz,I.stack,I.ic,I.ao,I.bare⟩
theorem Inv.after{Q:VK}{u:Value}(I:Inv X pins σ H s)(h:CE X.stack X.prog X.w H s Q u s'):EP X pins σ Q u s':=by
 obtain ⟨v,H',os,bare,un,ao,r,q⟩:=h
 obtain ⟨hh,g,d,t,uH⟩:=s'
 obtain rfl:uH=s.os:=os
 exact ⟨v,H',I.call (h':=hh) (g':=g) (d':=d) (t':=t) (ch:=[]) un ao bare (fun b z=>absurd z (by simp)),r,q⟩
end
def uI(sp:Sp)(dj:List V)(E:XK)(t:TA):TE:=fun σ H Q=>t σ H fun vs H1=>sp (vs++dj) H1 Q E
def Binds(K:PySem.W.Frag)(fd:FuncData)(ps:List Str)(ds:List Value):Prop:=
 ∀(s:Shared) (us:List Value),K.In s.heap→(us++ds).length=ps.length→BindsTo s fd ⟨us,[]⟩ (ps.zip (us++ds))
theorem Binds.all{K:PySem.W.Frag}{fd:FuncData}{ps:List Str}(h:∀us:List Value,us.length=ps.length→bindArgs fd ⟨us,[]⟩=pure (ps.zip us)):Binds K fd ps []:=fun s us _ hl=>by
 rw [List.append_nil] at hl ⊢
 exact .of_eq (h us hl)
def Passes(CX:cw)(X:Cx)(E:XK):Prop:=∀(pins:List (Addr×Obj)) (σ:St) (H:Hp) (s:Shared) (e:Value) (s':Shared),Inv X pins σ H s→CX X.stack H s E e s'→X.xe e s'
section
variable {X:Cx} {CX:cw} {k:Nat} {f C:Addr} {fd:FuncData} {ps:List Str} {sp:Sp} {dj:List V} {ds:List Value} {E:XK} {x m:Str} {p pos apos:Pos} {e o:Expr} {es:List Expr} {ta:TE} {t:TA}
theorem uJ{pins:List (Addr×Obj)}{σ:St}{H:Hp}{s:Shared}{Q:VK}{us:List Value}{vs:List V}(F:a0 X.prog X.w X.K X.mg X.base CX k f fd ps sp)(hr:bJ k X.A)(hb:Binds X.K fd ps ds)(hd:Vals dj ds)(hx:Passes CX X E)
  (I:Inv X pins σ H s) (r:Vals vs us) (h:sp (vs++dj) H Q E):wpAny (model X.prog X.w) X.A (call (.ref f) us) (EP X pins σ Q) X.xe s:=by
 have r2:Vals (vs++dj) (us++ds):=r.append hd
 have hl:(us++ds).length=ps.length:=by rw [←r2.length];exact F.len _ _ _ _ h
 refine wpAny_call (codeAny_mono (F.run X.A X.stack s H ⟨us,[]⟩ (us++ds) (vs++dj) Q E hr I.uG (hb s us I.bE hl) r2 h) fun r s' hq=>?_)
 cases r with
 | error e=>exact hx pins σ H s e s' I hq
 | ok fl=>
  cases fl with
  | ret u=>exact I.after hq
  | next=>exact False.elim hq
  | brk=>exact False.elim hq
  | cont=>exact False.elim hq
theorem aK(F:a0 X.prog X.w X.K X.mg X.base CX k f fd ps sp)(hr:bJ k X.A)(hg:Gl X x)(hm:X.mg x=some (.ref f))(hk:PySem.W.keepIn X.K (.ref f)=true)(hb:Binds X.K fd ps ds)(hd:Vals dj ds)(hx:Passes CX X E)
  (ha:PA X (e::es) t) (iw:(x == ("__debug__":Str))=false:=by decide) (he:starEach (e::es) X.env=(false,eval e X.env)::starEach es X.env:=by rfl) (gg:(backTo pos (starEach es X.env)).any (·.1)=false:=by rfl) :
  PE X (.Call (.Name x p) (e::es) [] pos) (uI sp dj E t):=by
 intro pins s σ H Q I h
 refine wpAny_Call_Name_kw (tL I hg hm ?_ iw)
 refine PySem.W.callWith_K (h₀:=X.base) I.ok.mod.bf hk (ar (ha pos pins s σ H _ I h) fun us s1 ⟨vs,H1,I1,r,q⟩=>⟨I1.bE,?_⟩) he gg
 exact uJ F hr hb hd hx I1 r q
end
section
variable {X:Cx} {CX:cw} {k:Nat} {f C:Addr} {fd:FuncData} {ps ks:List Str} {sp:Sp} {E:XK} {x m:Str} {p pos apos oT:Pos} {e o:Expr} {es:List Expr} {uK:List Keyword} {te ta:TE} {t tk:TA} {nm:Option Str}
variable {g:List Value→List Value→List Value} {gV:List V→List V→List V}
end
structure bx (N P:List Str) (sc:Scope):Prop where
 kind:sc.kind=.function
 co:sc.isCoroutine=false
 gen:sc.isGenerator=false
 nd:N.Nodup
 pre:N.take P.length=P
 par:∀x∈P,sc.names.lookup x=some .local∨sc.names.lookup x=some .cell
 uL:∀y∈sc.names,y.2≠.free
theorem oU{kindOf:Str→Option NameKind}{x:Str}:∀{binds:List (Str×Value)} {m:Str→Option Value},(∀v,(x,v)∉binds)→bindL kindOf binds m x=m x
 | [],_,_=>rfl
 | (n,v)::r,m,h=>by
  unfold bindL
  rw [oU fun w hw=>h w (List.mem_cons_of_mem _ hw)]
  split
  ·have:x≠n:=by rintro rfl;exact h v List.mem_cons_self
   simp [this]
  ·rfl
theorem oV{kindOf:Str→Option NameKind}{x:Str}:∀{binds:List (Str×Value)} {m:Str→Option Value},(∀v,(x,v)∉binds)→bindC kindOf binds m x=m x
 | [],_,_=>rfl
 | (n,v)::r,m,h=>by
  unfold bindC
  rw [oV fun w hw=>h w (List.mem_cons_of_mem _ hw)]
  split
  ·rfl
  ·have:x≠n:=by rintro rfl;exact h v List.mem_cons_self
   simp [this]
theorem oW{kindOf:Str→Option NameKind}{x:Str}{v:Value}:∀{P:List Str} {vs:List Value} {i:Nat} {m:Str→Option Value},P.Nodup→P[i]?=some x→vs[i]?=some v→kindOf x=some .local→
  bindL kindOf (P.zip vs) m x=some v
 | [],_,_,_,_,h,_,_=>by simp at h
 | _::_,[],_,_,_,_,h,_=>by simp at h
 | p::P,w::vs,0,m,nd,h1,h2,hk=>by
  simp at h1 h2;subst h1;subst h2
  show bindL kindOf ((p,w)::P.zip vs) m p=_
  unfold bindL
  rw [oU fun v hv=>(List.nodup_cons.mp nd).1 (List.of_mem_zip hv).1,if_pos hk]
  simp
 | p::P,w::vs,i+1,m,nd,h1,h2,hk=>by
  show bindL kindOf ((p,w)::P.zip vs) m x=_
  unfold bindL
  exact oW (i:=i) (List.nodup_cons.mp nd).2 (by simpa using h1) (by simpa using h2) hk
theorem oX{kindOf:Str→Option NameKind}{x:Str}{v:Value}:∀{P:List Str} {vs:List Value} {i:Nat} {m:Str→Option Value},P.Nodup→P[i]?=some x→vs[i]?=some v→kindOf x≠some .local→
  bindC kindOf (P.zip vs) m x=some v
 | [],_,_,_,_,h,_,_=>by simp at h
 | _::_,[],_,_,_,_,h,_=>by simp at h
 | p::P,w::vs,0,m,nd,h1,h2,hk=>by
  simp at h1 h2;subst h1;subst h2
  show bindC kindOf ((p,w)::P.zip vs) m p=_
  unfold bindC
  rw [oV fun v hv=>(List.nodup_cons.mp nd).1 (List.of_mem_zip hv).1,if_neg hk]
  simp
 | p::P,w::vs,i+1,m,nd,h1,h2,hk=>by
  show bindC kindOf ((p,w)::P.zip vs) m x=_
  unfold bindC
  exact oX (i:=i) (List.nodup_cons.mp nd).2 (by simpa using h1) (by simpa using h2) hk
def start(N:List Str)(vs:List V):St:=vs.map some++List.replicate (N.length-vs.length) none
def gh(CX:cw)(P:Program)(w:World)(K:PySem.W.Frag)(mg:Str→Option Value)(base:Heap)(N:List Str)(qual:Str)(scope:Scope)(f:Addr)(cd:Value)(A:Around)(outer:List Env)(s:Shared)(H:Hp)(E:XK):Cx where
 prog:=P
 w:=w
 K:=K
 mg:=mg
 base:=base
 A:=A.deeper (envOfC qual scope s.heap.objs.size f cd)
 N:=N
 s₀:=s
 H₀:=H
 env:=envOfC qual scope s.heap.objs.size f cd
 outer:=outer
 stack:=envOfC qual scope s.heap.objs.size f cd::outer
 ex:=[]
 calm:=true
 fn:=fun _=>true
 pn:=[]
 xe:=fun e s'=>wpAny (model P w) (A.deeper (envOfC qual scope s.heap.objs.size f cd)) (leaving (envOfC qual scope s.heap.objs.size f cd) e) (fun _ dM=>CX outer H s E e dM) (fun e' dM=>CX outer H s E e' dM) s'
theorem oY{sc:Scope}{n:Nat}{x:Str}(h:sc.names.lookup x=some .cell):∃c,(cellsFrom n sc.names []).lookup x=some c:=by
 have q:=PySem.W.cellsFrom_some sc.names n [] (.inl h)
 exact Option.isSome_iff_exists.mp q
theorem uM{CX:cw}{P:Program}{w:World}{K:PySem.W.Frag}{mg:Str→Option Value}{base:Heap}{N ps:List Str}{qual:Str}{scope:Scope}{f:Addr}{cd:Value}{A:Around}{outer:List Env}{s s1:Shared}{H:Hp}{E:XK}{us:List Value}{vs:List V}
  (S:bx N ps scope) (hd:A.handled=none) (e0:jv P w K mg base A outer s H) (hl:vs.length=ps.length) (r:Vals vs us)
  (x:InCallC s s.heap.objs.size (bindL (envOfC qual scope s.heap.objs.size f cd).kindOf (ps.zip us) fun _=>none) (cellsFrom (s.heap.objs.size+1) scope.names []) (bindC (envOfC qual scope s.heap.objs.size f cd).kindOf (ps.zip us) fun _=>none) s1) :
  Inv (gh CX P w K mg base N qual scope f cd A outer s H E) [] (start N vs) H s1:=by
 have gg:ps.length≤N.length:=by have:=congrArg List.length S.pre;rw [List.length_take] at this;omega
 obtain ⟨h1,tk,rfl,hk⟩:=x.done
 have ix:∀b:Addr,b∉(gh CX P w K mg base N qual scope f cd A outer s H E).ex:=fun b z=>absurd (show b∈([]:List Addr) from z) (by simp)
 refine ⟨⟨e0.mod,S.kind,rfl,rfl,Nat.le_refl _,fun y z c h1 h2=>?_,fun y hy=>?_,fun y c _ h=>?_,fun _=>hd,Around.frames_deeper e0.frames,.inr ⟨rfl,rfl⟩,fun b z=>absurd z (ix b),e0.bs,e0.cp,fun b _ _=>ix b,fun b z=>absurd z (ix b),e0.cY,e0.fV⟩,
  rfl,e0.bare,Un.kept hk,⟨_,x.toInCall.ns,fun i y v h1 h2 h3=>?_⟩,fun y c h=>⟨_,x.cell y c h⟩,e0.ao.fresh (Nat.le_refl _),fun y c h=>?_,fun p hp=>absurd (show p∈([]:List (Addr×Obj)) from hp) (by simp),e0.ao.kept hk,?_⟩
 ·exact name_of_addr x.apart (PySem.mem_of_lookup h1) (PySem.mem_of_lookup h2)
 ·have hy:scope.names.lookup y=some .cell∨scope.names.lookup y=some .free:=hy
  rcases hy with hy | hy
  ·exact oY hy
  ·exact absurd rfl (S.uL _ (PySem.mem_of_lookup hy))
 ·exact Nat.le_of_lt (x.above y c (PySem.mem_of_lookup h))
 ·have hi:i<vs.length:=by
   unfold start at h2
   by_cases hi:i<vs.length
   ·exact hi
   ·rw [List.getElem?_append_right (by simpa using hi)] at h2
    rw [List.getElem?_replicate] at h2
    split at h2 <;> cases h2
  have ha:vs[i]?=some v:=by
   unfold start at h2
   rw [List.getElem?_append_left (by simpa using hi),List.getElem?_map] at h2
   cases e:vs[i]? with
   | none=>rw [e] at h2;cases h2
   | some a=>rw [e] at h2;cases h2;rfl
  obtain ⟨u,hu,rv⟩:=r.get ha
  have hp:ps[i]?=some y:=by
   rw [←S.pre,List.getElem?_take_of_lt (by omega)];exact h1
  have oZ:ps.Nodup:=by rw [←S.pre];exact S.nd.sublist (List.take_sublist _ _)
  refine ⟨u,rv,?_⟩
  rcases S.par y (List.mem_of_getElem? hp) with k | k
  ·exact .inl ⟨k,oW oZ hp hu k⟩
  ·obtain ⟨c,e⟩:=oY (n:=s.heap.objs.size+1) k
   refine .inr ⟨.inl k,c,e,?_⟩
   have q:=x.cell y c e
   rw [oX oZ hp hu (by show scope.names.lookup y≠_;rw [k];decide)] at q
   exact q
 ·exact e0.ao.fresh (Nat.le_of_lt (x.above y c (PySem.mem_of_lookup h)))
 ·unfold start
  show _=N.length
  rw [List.length_append,List.length_map,List.length_replicate]
  omega
theorem uN{CX:cw}{P:Program}{w:World}{K:PySem.W.Frag}{mg:Str→Option Value}{base:Heap}{k:Nat}{f:Addr}{name qual:Str}{params:Arguments}{body:List Stmt}{scope:Scope}{dV kV doc pm aE ct oc:Value}{an od:Option Addr}
  {dN:Array (Option Value)} {N ps:List Str} {sp:Sp} (lk:K.lookup f=some ⟨oc,od,.func (PySem.W.fnOf name qual params body scope dV kV doc pm an aE ct),dN⟩) (cO:PySem.W.codeIn K aE qual=true) (S:bx N ps scope)
  (len:∀vs H Q E,sp vs H Q E→vs.length=ps.length)
  (lF:∀(A:Around) (outer:List Env) (s:Shared) (H:Hp) (vs:List V) (Q:VK) (E:XK),bJ k (A.deeper (envOfC qual scope s.heap.objs.size f aE))→sp vs H Q E→
   ∃t,cE (gh CX P w K mg base N qual scope f aE A outer s H E) body t∧t {nx:=fun _ H'=>Q .aw H',rt:=Q} (start N vs) H) :
  a0 P w K mg base CX (k+1) f (PySem.W.fnOf name qual params body scope dV kV doc pm an aE ct) ps sp:=by
 refine ⟨len,fun A outer s H args us vs Q E hr e0 hb r eA=>?_⟩
 have hl:=len _ _ _ _ eA
 have KX:K.In s.heap:=e0.mod.bf.keeps fun b o e=>(e0.bs b o e).1
 have lim:s.heap.NoLimit:=e0.mod.nolimit.keeps fun b o e=>(e0.bs b o e).1
 have uO:∀y∈ps.zip us,scope.names.lookup y.1=some .local∨(scope.names.lookup y.1=some .cell∧((cellsFrom (s.heap.objs.size+1) scope.names []).lookup y.1).isSome=true):=fun⟨n,v⟩ hy=>by
  rcases S.par n (List.of_mem_zip hy).1 with q | q
  ·exact .inl q
  ·exact .inr ⟨q,PySem.W.cellsFrom_some _ _ _ (.inl q)⟩
 refine codeAny_call_function hr.depth (KX _ _ lk) rfl S.co S.gen rfl (PySem.W.codeRec_of KX cO) (hb _ _ _ _ ?_)
 refine wpAny_newFunctionEnv_cells S.kind uO fun env he s1 x=>?_
 subst he
 refine ⟨lim.keeps x.toInCall.keep,codeAny_func ?_⟩
 obtain ⟨t,ht,hq⟩:=lF A outer s H vs Q E (hr.deeper _) eA
 have I:Inv (gh CX P w K mg base N qual scope f aE A outer s H E) [] (start N vs) H s1:=uM S hr.hd e0 hl r x
 refine wpAny_mono (ht [] s1 (start N vs) H _ I hq) (fun fl s' hs=>?_) fun e s' hs=>hs
 have fin:∀{σ':St} {H':Hp} {v:V} {u:Value},Inv (gh CX P w K mg base N qual scope f aE A outer s H E) [] σ' H' s'→RelV v u→Q v H'→CE outer P w H s Q u s':=
  fun{σ' H' v u} J rv q=>⟨v,H',J.os,J.bare,J.base,J.ao,rv,q⟩
 cases fl with
 | ret u=>
  obtain ⟨v,σ',H',J,rv,q⟩:=hs
  exact fin J rv q
 | next=>
  obtain ⟨σ',H',J,q⟩:=hs
  exact fin (v:=V.aw) (u:=Value.none) J rfl q
 | brk=>
  obtain ⟨_,_,_,q⟩:=hs
  exact False.elim q
 | cont=>
  obtain ⟨_,_,_,q⟩:=hs
  exact False.elim q
section
variable {X:Cx} {x:Str} {p pos:Pos} {e:Expr} {es:List Expr} {t:TA} {id T:String} {r:List V→Hp→VK→Prop}
def lG(r:List V→Hp→VK→Prop)(t:TA):TE:=fun σ H Q=>t σ H fun vs H1=>r vs H1 Q
theorem aU(hc:cq X (.builtin id) r)(hg:Gl X x)(hm:X.mg x=none)(hv:bootBuiltins x=some (.builtin id))(ha:PA X (e::es) t)(hn:x ≠ "__name__":=by decide)(iw:(x == ("__debug__":Str))=false:=by decide)
  (he:starEach (e::es) X.env=(false,eval e X.env)::starEach es X.env:=by rfl) (gg:(backTo pos (starEach es X.env)).any (·.1)=false:=by rfl):PE X (.Call (.Name x p) (e::es) [] pos) (lG r t):=by
 intro pins s σ H Q I h
 refine wpAny_Call_Name_kw (fY I hg hm hv ?_ hn iw)
 exact PyProof.Rows.callWith_builtin1 (ar (ha pos pins s σ H _ I h) fun us s1 ⟨vs,H1,I1,r1,q1⟩=>hc pins s1 σ H1 vs us Q I1 r1 q1) he gg
theorem dO(hc:cq X (.type T) r)(hg:Gl X x)(hm:X.mg x=none)(hv:bootBuiltins x=some (.type T))(ha:PA X (e::es) t)(hn:x ≠ "__name__":=by decide)(iw:(x == ("__debug__":Str))=false:=by decide)
  (he:starEach (e::es) X.env=(false,eval e X.env)::starEach es X.env:=by rfl) (gg:(backTo pos (starEach es X.env)).any (·.1)=false:=by rfl):PE X (.Call (.Name x p) (e::es) [] pos) (lG r t):=by
 intro pins s σ H Q I h
 refine wpAny_Call_Name_kw (fY I hg hm hv ?_ hn iw)
 exact PyProof.Rows.callWith_type1 (ar (ha pos pins s σ H _ I h) fun us s1 ⟨vs,H1,I1,r1,q1⟩=>hc pins s1 σ H1 vs us Q I1 r1 q1) he gg
end
end L2
namespace HT
open PySem PyProof.Rows
section
open PySem.SeqAt
open PySem.AutoSeq1 (wpAny_loadPart')
open PySem.MeetsSeq PySem.MeetsSeq2 PySem.MeetsSeq3
end
section
variable {prog:Program} {w:World} {A:Around} {E:Value→Shared→Prop} {s:Shared}
def br(n d:Nat):Option Int→Nat
 | none=>d
 | some v=>if v<0 then (v+(n:Int)).toNat else min v.toNat n
theorem uP(n d:Nat):br n d none=d:=rfl
theorem uQ(n d k:Nat):br n d (some (k:Int))=min k n:=by
 show (if (k:Int)<0 then ((k:Int)+(n:Int)).toNat else min (k:Int).toNat n)=min k n
 rw [if_neg (by omega),Int.toNat_natCast]
end
end HT
namespace L2
open PySem PySem.Spec PyProof.Rows
abbrev TO:=St→Hp→(Option Int→Hp→Prop)→Prop
def PO(X:Cx)(e:Option Expr)(t:TO):Prop:=
 ∀(pins:List (Addr×Obj)) (s:Shared) (σ:St) (H:Hp) (Q:Option Int→Hp→Prop),Inv X pins σ H s→t σ H Q→
  wpAny (model X.prog X.w) X.A (evalPart e X.env) (fun u s'=>∃o H',Inv X pins σ H' s'∧IsPart u o∧Q o H') X.xe s
def lH:TO:=fun _ H Q=>Q none H
def uR(t:TE):TO:=fun σ H Q=>t σ H fun x H1=>∃i,x=.int i∧Q (some i) H1
section
variable {X:Cx} {e:Expr} {te:TE} {lo hi:Option Expr} {tl th:TO} {pos p2:Pos}
theorem eB:PO X none lH:=by
 intro pins s σ H Q I h
 rw [evalPart_none]
 exact wpAny_pure ⟨none,H,I,.none,h⟩
theorem dk(h:PE X e te):PO X (some e) (uR te):=by
 intro pins s σ H Q I hw
 rw [evalPart_some]
 refine ar (h pins s σ H _ I hw) fun u s1 ⟨x,H1,I1,r1,q1⟩=>?_
 obtain ⟨i,rfl,q⟩:=q1
 obtain ⟨t,rfl⟩:=r1
 exact ⟨some i,H1,I1,.int i t,q⟩
def lI(X:Cx)(r:V→Option Int→Option Int→Hp→VK→Prop):Prop:=
 ∀(pins:List (Addr×Obj)) (s:Shared) (σ:St) (H:Hp) (x:V) (v vl vu:Value) (lo hi:Option Int) (sl:Addr) (Q:VK),Inv X pins σ H s→RelV x v→s.heap.IsSliceOf sl vl vu .none→IsPart vl lo→IsPart vu hi→r x lo hi H Q→
  ∃T id,typeLookup (.type T) "__getitem__" = pure (some (.builtin id))∧s.TypeIs v T∧wpAny (model X.prog X.w) X.A (getItem v (.ref sl)) (EP X pins σ Q) X.xe s
def uS(r:V→Option Int→Option Int→Hp→VK→Prop)(te:TE)(tl th:TO):TE:=fun σ H Q=>te σ H fun x H1=>tl σ H1 fun l H2=>th σ H2 fun u H3=>r x l u H3 Q
theorem dP{r:V→Option Int→Option Int→Hp→VK→Prop}(hr:lI X r)(he:PE X e te)(hl:PO X lo tl)(hu:PO X hi th):PE X (.Subscript e (.Slice lo hi none p2) pos) (uS r te tl th):=by
 intro pins s σ H Q I h
 refine Subscript_ (ar (he pins s σ H _ I h) fun v s1 ⟨x,H1,I1,r1,q1⟩=>?_)
 refine wpAny_Slice (ar (hl pins s1 σ H1 _ I1 q1) fun vl s2 ⟨l,H2,I2,pl,q2⟩=>ar (hu pins s2 σ H2 _ I2 q2) fun vu s3 ⟨u,H3,I3,pu,q3⟩=>?_)
 rw [evalPart_none]
 refine wpAny_pure ?_
 have I4:Inv X pins σ H3 {s3 with heap:=s3.heap.push {cls:=.type "slice",data:=.fields #[vl,vu,.none]}}:=I3.kept (t':=s3.toks) fun b ob q=>Heap.get?_push_of_some _ q
 obtain ⟨T,id,hT,ht,hg⟩:=hr pins {s3 with heap:=s3.heap.push {cls:=.type "slice",data:=.fields #[vl,vu,.none]}} σ H3 x v vl vu l u s3.heap.objs.size Q I4 r1 (Heap.IsSliceOf.new ..) pl pu q3
 show wpAny (model X.prog X.w) X.A (subscriptTail e (.Slice lo hi none p2) v (.ref s3.heap.objs.size)) (EP X pins σ Q) X.xe {s3 with heap:=s3.heap.push {cls:=.type "slice",data:=.fields #[vl,vu,.none]}}
 exact tail_any (ops:=[.ref s3.heap.objs.size,v]) ht hT hg (by with_unfolding_all rfl)
def bZ(xs:List V)(lo hi:Option Int):List V:=(xs.drop (HT.br xs.length 0 lo)).take (HT.br xs.length xs.length hi-HT.br xs.length 0 lo)
theorem o1(xs:List V)(lo hi:Option Int):(bZ xs lo hi).length≤xs.length:=by
 unfold bZ
 rw [List.length_take,List.length_drop]
 omega
end
def dQ(n:Nat)(i:Int):Option Nat:=if 0≤i then (if i<n then some i.toNat else none) else if -(n:Int)≤i then some (i+n).toNat else none
def cx{α:Type}(xs:List α)(i:Int):Option α:=(dQ xs.length i).bind fun j=>xs[j]?
theorem o4{n:Nat}{i:Int}{j:Nat}(h:dQ n i=some j):seqIndex? i n=some j∧j<n∧-(n:Int)≤i∧i<n:=by
 unfold dQ at h
 by_cases h0:0≤i
 ·rw [if_pos h0] at h
  by_cases h1:i<n
  ·rw [if_pos h1] at h
   have e:i.toNat=j:=Option.some.inj h
   exact ⟨by rw [seqIndex_of h0 h1,e],by omega,by omega,h1⟩
  ·rw [if_neg h1] at h;cases h
 ·rw [if_neg h0] at h
  by_cases h1:-(n:Int)≤i
  ·rw [if_pos h1] at h
   have e:(i+n).toNat=j:=Option.some.inj h
   exact ⟨by rw [seqIndex_neg (by omega) h1,e],by omega,h1,by omega⟩
  ·rw [if_neg h1] at h;cases h
theorem o5{α:Type}{xs:List α}{i:Int}{v:α}(h:cx xs i=some v):∃j,seqIndex? i xs.length=some j∧xs[j]?=some v∧j<xs.length∧-(xs.length:Int)≤i∧i<xs.length:=by
 unfold cx at h
 cases e:dQ xs.length i with
 | none=>rw [e] at h;cases h
 | some j=>
  rw [e] at h
  obtain ⟨h1,h2,h3,h4⟩:=o4 e
  exact ⟨j,h1,h,h2,h3,h4⟩
theorem dR{α:Type}{xs:List α}{j:Nat}{v:α}(h:xs[j]?=some v):cx xs (j:Int)=some v:=by
 have hj:j<xs.length:=(List.getElem?_eq_some_iff.mp h).1
 have e:dQ xs.length (j:Int)=some j:=by
  unfold dQ
  rw [if_pos (by omega),if_pos (by omega)];simp
 unfold cx;rw [e];exact h
def uT(b:Expr):Prop:=∀o i,subscripted b false o i=operate [o,i] (getItem o i)
def iy(X:Cx)(r:R2):Prop:=
 ∀(value slice:Expr) (pins:List (Addr×Obj)) (s:Shared) (σ:St) (H:Hp) (x y:V) (v u:Value) (Q:VK),Inv X pins σ H s→RelV x v→RelV y u→r x y H Q→
  subscripted slice false v u=operate [v,u] (getItem v u)→wpAny (model X.prog X.w) X.A (subscriptTail value slice v u) (EP X pins σ Q) X.xe s
def uU(X:Cx)(id:String)(r:V→List V→Hp→VK→Prop):Prop:=
 ∀(pins:List (Addr×Obj)) (s:Shared) (σ:St) (H:Hp) (x:V) (xs:List V) (v:Value) (us:List Value) (Q:VK),Inv X pins σ H s→RelV x v→Vals xs us→r x xs H Q→
  wpAny (model X.prog X.w) X.A (call (.builtin id) (v::us)) (EP X pins σ Q) X.xe s
section
variable {X:Cx} {a b:Expr} {ta tb:TE} {pos:Pos}
theorem aH{r:R2}(hr:iy X r)(ha:PE X a ta)(hb:PE X b tb)(hs:uT b):PE X (.Subscript a b pos) (ip r ta tb):=by
 intro pins s σ H Q I h
 exact Subscript_ (lp ha hb I h fun v u s2 x y H2 I2 rx ry q=>hr a b pins s2 σ H2 x y v u Q I2 rx ry q (hs _ _))
def o6(K:PySem.W.Frag):R2:=fun x y H Q=>∃p xs i v,x=.ref p∧y=.int i∧av K H p xs∧cx xs i=some v∧Q v H
def o7(K:PySem.W.Frag):R2:=fun x y H Q=>∃p xs i v,x=.ref p∧y=.int i∧bF K H p xs∧cx xs i=some v∧Q v H
theorem aT:iy X (o6 X.K):=by
 intro value slice pins s σ H x y v u Q I rx ry h hs
 obtain ⟨p,xs,i,z,rfl,rfl,hq,he,q⟩:=h
 cases rx
 obtain ⟨t,rfl⟩:=ry
 obtain ⟨ae,r,pl,hz⟩:=I.list hq
 obtain ⟨j,h1,h2,h3,h4,h5⟩:=o5 he
 obtain ⟨w,ew,eX⟩:=r.get h2
 have hl:=r.length
 have hn:=jt
 have fin:EP X pins σ Q w s:=⟨z,H,I,eX,q⟩
 by_cases h0:0≤i
 ·have hj:i.toNat=j:=by
   rw [seqIndex_of h0 h5] at h1
   exact Option.some.inj h1
  exact item_listR pl.isList h0 (by omega) (by rw [hj];simpa using ew) fin hs
 ·have hj:(i+(ae.toArray.size:Int)).toNat=j:=by
   rw [seqIndex_neg (by omega) h4] at h1
   rw [List.size_toArray,←hl]
   exact Option.some.inj h1
  exact subscriptTail_builtinR (x:=w) pl.isList.typeIs slot_list_getitem.lookup
   (wpAny_getItem_list_neg (Q:=fun r s'=>r=w∧EP X pins σ Q r s') pl.isList (by omega) (by rw [List.size_toArray] <;> omega) (by omega) (by rw [hj];simpa using ew) ⟨rfl,fin⟩) hs
theorem eC:iy X (o7 X.K):=by
 intro value slice pins s σ H x y v u Q I rx ry h hs
 obtain ⟨p,xs,i,z,rfl,rfl,hq,he,q⟩:=h
 cases rx
 obtain ⟨t,rfl⟩:=ry
 obtain ⟨ae,r,pl,hz⟩:=I.tuple hq
 obtain ⟨j,h1,h2,h3,h4,h5⟩:=o5 he
 obtain ⟨w,ew,eX⟩:=r.get h2
 have hl:=r.length
 have hn:=jt
 have fin:EP X pins σ Q w s:=⟨z,H,I,eX,q⟩
 exact subscriptTail_builtinR (x:=w) pl.typeIs slot_tuple_getitem.lookup
  (getItem_tuple (j:=j) (Q:=fun r s'=>r=w∧EP X pins σ Q r s') pl (by omega) (by omega) (by rw [List.size_toArray,←hl];exact h1) (by simpa using ew) ⟨rfl,fin⟩) hs
theorem uV(ae:List Value)(n j:Nat)(u:Value):Obj.mapSeq (·.setIfInBounds j u) {cls:=.type "list",data:=.seq ae.toArray n}={cls:=.type "list",data:=.seq (ae.set j u).toArray n}:=by
 simp [Obj.mapSeq]
theorem Inv.lst{pins:List (Addr×Obj)}{σ:St}{H:Hp}{s:Shared}{p:Addr}{xs:List V}(I:Inv X pins σ H s)(h:H p=some (.lst xs)) :
  ∃(ae:List Value) (n:Nat),Vals xs ae∧s.heap.get? p=some {cls:=.type "list",data:=.seq ae.toArray n}∧xs.length≤sizeLine:=by
 obtain ⟨z,ae,n,r,e⟩:=I.ao p _ h
 exact ⟨ae,n,r,e,z⟩
theorem Inv.uW{pins:List (Addr×Obj)}{σ:St}{H:Hp}{s:Shared}{p:Addr}{xs ys:List V}{ae its':List Value}{n n':Nat}{f:Obj→Obj}(I:Inv X pins σ H s)(h:H p=some (.lst xs))
  (ho:s.heap.get? p=some {cls:=.type "list",data:=.seq ae.toArray n}) (hf:f {cls:=.type "list",data:=.seq ae.toArray n}={cls:=.type "list",data:=.seq its'.toArray n'}) (r:Vals ys its') (hz:ys.length≤sizeLine) (t:Nat) :
  Inv X pins σ (upd H p (.lst ys)) {s with heap:=s.heap.update p f,toks:=t}:=by
 have e:(s.heap.update p f).get? p=some {cls:=.type "list",data:=.seq its'.toArray n'}:=by
  rw [Heap.get?_update_self f ho (by rw [hf] <;> rfl),hf]
 refine I.write (x:=p) (e:=p) (by rw [h];trivial) (.inl rfl) (fun b u hb q=>(Heap.get?_update_other _ _ (Ne.symm hb)).trans q) ⟨_,e⟩ ?_
 exact ⟨hz,its',n',r,e⟩
def uX:V→V→V→Hp→(Hp→Prop)→Prop:=fun o i v H Q=>∃p xs k j,o=.ref p∧i=.int k∧H p=some (.lst xs)∧dQ xs.length k=some j∧Q (upd H p (.lst (xs.set j v)))
theorem set_list:ox X uX:=by
 intro pins s σ H o i v ov iv u Q I ro ri rv h
 obtain ⟨p,xs,k,j,rfl,rfl,hp,hj,q⟩:=h
 cases ro
 obtain ⟨t,rfl⟩:=ri
 obtain ⟨ae,n,r,ho,hz⟩:=I.lst hp
 obtain ⟨h1,h2,h3,h4⟩:=o4 hj
 have hl:=r.length
 have hn:=jt
 have I':Inv X pins σ (upd H p (.lst (xs.set j v))) {s with heap:=s.heap.update p (Obj.mapSeq (·.setIfInBounds j u))}:=
  I.uW hp ho (uV ae n j u) (r.set rv j) (by rw [List.length_set];exact hz) s.toks
 by_cases h0:0≤k
 ·have hk:k.toNat=j:=by
   rw [seqIndex_of h0 h4] at h1
   exact Option.some.inj h1
  exact PySem.W.ki_setAt ho h0 (by omega) (by rw [List.size_toArray,←hl];exact h4) (by rw [hk];exact ⟨_,I',q⟩)
 ·have hk:(k+(ae.toArray.size:Int)).toNat=j:=by
   rw [seqIndex_neg (by omega) h3] at h1
   rw [List.size_toArray,←hl]
   exact Option.some.inj h1
  exact PySem.W.ki_setBack ho (by omega) (by rw [List.size_toArray,←hl];exact h3) (by omega) (by rw [hk];exact ⟨_,I',q⟩)
theorem uY(lo hi:Option Int)(n:Nat):(sliceBounds lo hi none n).1=((HT.br n 0 lo:Nat):Int)∧(sliceBounds lo hi none n).2.1=((HT.br n n hi:Nat):Int)∧(sliceBounds lo hi none n).2.2=1:=by
 refine ⟨?_,?_,rfl⟩
 ·cases lo with
  | none=>simp [sliceBounds,HT.br]
  | some i=>
   simp only [sliceBounds,HT.br,Option.getD_none,show (1:Int)>0 by decide,if_true]
   by_cases h:i<0
   ·simp only [h,if_true] <;> omega
   ·simp only [h,if_false] <;> omega
 ·cases hi with
  | none=>simp [sliceBounds,HT.br]
  | some i=>
   simp only [sliceBounds,HT.br,Option.getD_none,show (1:Int)>0 by decide,if_true]
   by_cases h:i<0
   ·simp only [h,if_true] <;> omega
   ·simp only [h,if_false] <;> omega
theorem uZ(ae:List Value)(lo hi:Option Int):slicePick ae.toArray lo hi none=((ae.drop (HT.br ae.length 0 lo)).take (HT.br ae.length ae.length hi-HT.br ae.length 0 lo)).toArray:=by
 obtain ⟨h1,h2,h3⟩:=uY lo hi ae.toArray.size
 unfold slicePick
 rw [h1,h2,h3]
 simp only [sliceRange_one,pick_run,List.size_toArray] <;> rfl
def lJ(K:PySem.W.Frag):V→Option Int→Option Int→Hp→VK→Prop:=fun x lo hi H Q=>∃a xs,x=.ref a∧av K H a xs∧∀p,H p=none→Q (.ref p) (upd H p (.lst (bZ xs lo hi)))
theorem dS:lI X (lJ X.K):=by
 intro pins s σ H x v vl vu lo hi sl Q I rx hs pl pu h
 obtain ⟨a,xs,rfl,hx,q⟩:=h
 cases rx
 obtain ⟨ae,r,ht,hz⟩:=I.list hx
 have hlen:=r.length
 refine ⟨"list",_,slot_list_getitem.lookup,ht.isList.typeIs,?_⟩
 refine wpAny_getItem_list_slice ht.isList hs pl pu .none (by simp) ?_ (by rw [List.size_toArray] <;> omega)
 rw [uZ,←hlen]
 refine ⟨.ref s.heap.objs.size,_,I.laid (t':=s.toks) (o:=.lst (bZ xs lo hi)) (fun b ob q=>Heap.get?_push_of_some _ q) (Nat.le_refl _) ?_,rfl,q _ (I.ao.fresh (Nat.le_refl _))⟩
 exact ⟨Nat.le_trans (o1 xs lo hi) hz,_,0,(r.drop (HT.br xs.length 0 lo)).take (HT.br xs.length xs.length hi-HT.br xs.length 0 lo),Heap.get?_push_size _ rfl⟩
def cG:V→Bool
 | .aw=>true
 | .bl _=>true
 | .int _=>true
 | .str _=>true
 | _=>false
def bK:V→V→Bool
 | .aw,.aw=>true
 | .bl a,.bl b=>a == b
 | .bl a,.int b=>(if a then 1 else 0) == b
 | .int a,.bl b=>a == (if b then 1 else 0)
 | .int a,.int b=>a == b
 | .str a,.str b=>a == b
 | _,_=>false
theorem gk{A:Around}{s:Shared}{y x:V}{u v:Value}(ry:RelV y u)(rx:RelV x v)(fy:cG y=true)(fx:cG x=true):SeqAt.EqAt A s u v (bK y x):=by
 cases y with
 | aw=>
  cases ry
  cases x with
  | aw=>cases rx;exact SeqAt.EqAt.same _
  | bl b=>cases rx;exact SeqAt.EqAt.none_bool b
  | int b=>obtain ⟨t,rfl⟩:=rx;exact SeqAt.EqAt.none_int b t
  | str b=>obtain ⟨t,rfl⟩:=rx;exact SeqAt.EqAt.none_str b t
  | _=>exact absurd (show false=true from fx) Bool.false_ne_true
 | bl a=>
  cases ry
  cases x with
  | aw=>cases rx;exact SeqAt.EqAt.bool_none a
  | bl b=>cases rx;exact SeqAt.EqAt.bool_bool a b
  | int b=>obtain ⟨t,rfl⟩:=rx;exact SeqAt.EqAt.bool_int a b t
  | str b=>obtain ⟨t,rfl⟩:=rx;exact SeqAt.EqAt.bool_str a b t
  | _=>exact absurd (show false=true from fx) Bool.false_ne_true
 | int a=>
  obtain ⟨t',rfl⟩:=ry
  cases x with
  | aw=>cases rx;exact SeqAt.EqAt.int_none a t'
  | bl b=>cases rx;exact SeqAt.EqAt.int_bool a t' b
  | int b=>obtain ⟨t,rfl⟩:=rx;exact SeqAt.EqAt.int_int a t' b t
  | str b=>obtain ⟨t,rfl⟩:=rx;exact SeqAt.EqAt.int_str a t' b t
  | _=>exact absurd (show false=true from fx) Bool.false_ne_true
 | str a=>
  obtain ⟨t',rfl⟩:=ry
  cases x with
  | aw=>cases rx;exact SeqAt.EqAt.str_none a t'
  | bl b=>cases rx;exact SeqAt.EqAt.str_bool a t' b
  | int b=>obtain ⟨t,rfl⟩:=rx;exact SeqAt.EqAt.str_int a t' b t
  | str b=>obtain ⟨t,rfl⟩:=rx;exact SeqAt.EqAt.str_str a t' b t
  | _=>exact absurd (show false=true from fx) Bool.false_ne_true
 | _=>exact absurd (show false=true from fy) Bool.false_ne_true
def b_(x:V)(u:Value):Bool:=match u with
 | .none=>bK .aw x
 | .bool b=>bK (.bl b) x
 | .int i _=>bK (.int i) x
 | .str z _=>bK (.str z) x
 | _=>false
theorem o8{x y:V}{u:Value}(r:RelV y u)(f:cG y=true):b_ x u=bK y x:=by
 cases y with
 | aw=>cases r;rfl
 | bl b=>cases r;rfl
 | int i=>obtain ⟨t,rfl⟩:=r;rfl
 | str z=>obtain ⟨t,rfl⟩:=r;rfl
 | _=>exact absurd (show false=true from f) Bool.false_ne_true
theorem iz{x:V}:∀{xs:List V} {us:List Value},Vals xs us→xs.all cG=true→us.any (b_ x)=xs.any fun y=>bK y x
 | _,_,.nil,_=>rfl
 | y::xs,u::us,.cons r t,f=>by
  rw [List.all_cons,Bool.and_eq_true] at f
  rw [List.any_cons,List.any_cons,o8 r f.1,iz t f.2]
theorem iA{A:Around}{s:Shared}{x:V}{v:Value}(rx:RelV x v)(fx:cG x=true):∀{xs:List V} {us:List Value},Vals xs us→xs.all cG=true→∀u∈us,SeqAt.EqAt A s u v (b_ x u)
 | _,_,.nil,_=>fun u hu=>by cases hu
 | y::xs,u::us,.cons r t,f=>fun u' hu=>by
  rw [List.all_cons,Bool.and_eq_true] at f
  rcases List.mem_cons.mp hu with rfl | hu
  ·rw [o8 r f.1];exact gk r rx f.1 fx
  ·exact iA rx fx t f.2 u' hu
def jw(x:V)(xs:List V):Bool:=xs.any fun y=>bK y x
def jx(K:PySem.W.Frag)(neg:Bool):R2:=fun x y H Q=>∃p xs,y=.ref p∧(av K H p xs∨bF K H p xs)∧cG x=true∧xs.all cG=true∧Q (.bl (if neg then !jw x xs else jw x xs)) H
theorem o9:aO X (compareOp .In) (jx X.K false):=by
 intro pins s σ H x y v u Q I rx ry h
 obtain ⟨p,xs,rfl,hq,fx,fs,q⟩:=h
 cases ry
 rcases hq with hq | hq
 ·obtain ⟨ae,r,pl,hz⟩:=I.list hq
  refine SeqAt.in_listAt (b_ x) pl.isList (fun w hw=>iA rx fx r fs w (by simpa using hw)) ⟨.bl _,H,I,rfl,?_⟩
  rw [show ae.toArray.any (b_ x)=ae.any (b_ x) by simp,iz r fs]
  exact q
 ·obtain ⟨ae,r,pl,hz⟩:=I.tuple hq
  refine SeqAt.in_tupleAt (b_ x) pl (fun w hw=>iA rx fx r fs w (by simpa using hw)) ⟨.bl _,H,I,rfl,?_⟩
  rw [show ae.toArray.any (b_ x)=ae.any (b_ x) by simp,iz r fs]
  exact q
theorem u0:aO X (compareOp .NotIn) (jx X.K true):=by
 intro pins s σ H x y v u Q I rx ry h
 obtain ⟨p,xs,rfl,hq,fx,fs,q⟩:=h
 cases ry
 rcases hq with hq | hq
 ·obtain ⟨ae,r,pl,hz⟩:=I.list hq
  refine SeqAt.notIn_listAt (b_ x) pl.isList (fun w hw=>iA rx fx r fs w (by simpa using hw)) ⟨.bl _,H,I,rfl,?_⟩
  rw [show ae.toArray.any (b_ x)=ae.any (b_ x) by simp,iz r fs]
  exact q
 ·obtain ⟨ae,r,pl,hz⟩:=I.tuple hq
  refine SeqAt.notIn_tupleAt (b_ x) pl (fun w hw=>iA rx fx r fs w (by simpa using hw)) ⟨.bl _,H,I,rfl,?_⟩
  rw [show ae.toArray.any (b_ x)=ae.any (b_ x) by simp,iz r fs]
  exact q
theorem cH:cq X (.builtin "len") (fun xs H Q=>∃p ys,xs=[.ref p]∧(av X.K H p ys∨bF X.K H p ys)∧Q (.int ys.length) H):=by
 intro pins s σ H xs us Q I r h
 obtain ⟨p,ys,rfl,hq,q⟩:=h
 obtain ⟨u,rfl,rx⟩:=vals1 r
 cases rx
 have hn:=jt
 rcases hq with hq | hq
 ·obtain ⟨ae,r',pl,hz⟩:=I.list hq
  have hlen:=r'.length
  exact Calls.call_len_list pl.isList (by simp only [List.size_toArray] <;> omega) ⟨.int ys.length,H,I.tok _,⟨s.toks+1,by rw [List.size_toArray,hlen]⟩,q⟩
 ·obtain ⟨ae,r',pl,hz⟩:=I.tuple hq
  have hlen:=r'.length
  exact len_tuple pl (by simp only [List.size_toArray] <;> omega) ⟨.int ys.length,H,I.tok _,⟨s.toks+1,by rw [List.size_toArray,hlen]⟩,q⟩
theorem o_:cq X (.type "list") (fun xs H Q=>∃p ys,xs=[.ref p]∧(av X.K H p ys∨bF X.K H p ys)∧∀l,H l=none→Q (.ref l) (upd H l (.lst ys))):=by
 intro pins s σ H xs us Q I r h
 obtain ⟨p,ys,rfl,hq,q⟩:=h
 obtain ⟨u,rfl,rx⟩:=vals1 r
 cases rx
 have fin:∀(ae:List Value),Vals ys ae→ys.length≤sizeLine→∀(h':Heap) (c':Nat),(∀b o',s.heap.get? b=some o'→h'.get? b=some o')→
   h'.get? s.heap.objs.size=some {cls:=.type "list",dict:=none,data:=.seq ae.toArray c',slots:=#[]}→EP X pins σ Q (.ref s.heap.objs.size) {s with heap:=h'}:=fun ae r' hz h' c' kp e=>
  ⟨.ref s.heap.objs.size,_,I.laid (t':=s.toks) kp (Nat.le_refl _) (show a7 X.prog X.w _ h' _ (.lst ys) from ⟨hz,ae,c',r',e⟩),rfl,q _ (I.ao.fresh (Nat.le_refl _))⟩
 rcases hq with hq | hq
 ·obtain ⟨ae,r',pl,hz⟩:=I.list hq
  have hlen:=r'.length
  obtain ⟨o,ho,hc,n,hd⟩:=pl.isList
  exact call_list_seq p (.inl rfl) ho hc hd (fun h' c' kp e=>fin ae r' hz h' c' kp e) (by simp only [List.size_toArray] <;> omega)
 ·obtain ⟨ae,r',pl,hz⟩:=I.tuple hq
  have hlen:=r'.length
  obtain ⟨o,ho,hc,n,hd⟩:=pl
  exact call_list_seq p (.inr rfl) ho hc hd (fun h' c' kp e=>fin ae r' hz h' c' kp e) (by simp only [List.size_toArray] <;> omega)
theorem u3:cq X (.type "tuple") (fun xs H Q=>∃p ys,xs=[.ref p]∧((av X.K H p ys∧∀l,H l=none→Q (.ref l) (upd H l (.tup ys)))∨(bF X.K H p ys∧Q (.ref p) H))):=by
 intro pins s σ H xs us Q I r h
 obtain ⟨p,ys,rfl,h⟩:=h
 obtain ⟨u,rfl,rx⟩:=vals1 r
 cases rx
 rcases h with ⟨hq,q⟩ | ⟨hq,q⟩
 ·obtain ⟨ae,r',pl,hz⟩:=I.list hq
  have hlen:=r'.length
  refine call_tuple_list pl.isList (fun h' kp=>?_) (by simp only [List.size_toArray] <;> omega)
  have I1:Inv X pins σ H {s with heap:=h'}:=I.kept (t':=s.toks) kp
  have I2:Inv X pins σ (upd H h'.objs.size (.tup ys)) {s with heap:=h'.push {cls:=.type "tuple",data:=.seq ae.toArray}}:=
   I1.laid (t':=s.toks) (fun b o e=>Heap.get?_push_of_some _ e) (Nat.le_refl _) (show a7 X.prog X.w _ _ _ (.tup ys) from ⟨hz,ae,r',IsTup.new _ _⟩)
  exact ⟨.ref h'.objs.size,_,I2,rfl,q _ (I1.ao.fresh (Nat.le_refl _))⟩
 ·obtain ⟨ae,r',pl,hz⟩:=I.tuple hq
  exact call_tuple_same pl ⟨.ref p,H,I,rfl,q⟩
def pb(K:PySem.W.Frag)(T:String)(x:V)(H:Hp):Prop:=match x with
 | .str _=>T = "str"
 | .int _=>T = "int"
 | .ref p=>(T = "list"∧∃xs,av K H p xs)∨(T = "tuple"∧∃o,K.lookup p=some o∧o.cls=.type "tuple"∧o.dict=none) ∨
   (T = "dict"∧((∃aW,H p=some (.dK aW))∨∃aW,H p=some (.dT aW)))∨(T = "set"∧∃S n,H p=some (.set S n))
 | _=>False
theorem u4{pins:List (Addr×Obj)}{σ:St}{H:Hp}{s:Shared}{T:String}{x:V}{v:Value}(I:Inv X pins σ H s)(r:RelV x v)(ty:pb X.K T x H) :
  s.TypeIs v T∧∀a,v=.ref a→∃ob,s.heap.get? a=some ob∧ob.dict=none:=by
 cases x with
 | str z=>
  obtain ⟨t,rfl⟩:=r
  cases (show T = "str" from ty)
  exact ⟨typeIs_str s z t,fun _ e=>nomatch e⟩
 | int i=>
  obtain ⟨t,rfl⟩:=r
  cases (show T = "int" from ty)
  exact ⟨typeIs_int s i t,fun _ e=>nomatch e⟩
 | ref p=>
  cases r
  rcases ty with ⟨rfl,xs,hq⟩ | ⟨rfl,o,hk,hc,hd⟩ | ⟨rfl,hk⟩ | ⟨rfl,S,n,hk⟩
  ·obtain ⟨ae,_,pl,_⟩:=I.list hq
   refine ⟨pl.isList.typeIs,fun a e=>?_⟩
   cases e
   obtain ⟨o,n,e,c,hd,_⟩:=pl
   exact ⟨o,e,hd⟩
  ·refine ⟨⟨o,I.bE p o hk,hc⟩,fun a e=>?_⟩
   cases e
   exact ⟨o,I.bE _ o hk,hd⟩
  ·have z:∃o,s.heap.get? p=some o∧o.ExactDict:=by
    rcases hk with ⟨aW,hk⟩ | ⟨aW,hk⟩
    ·obtain ⟨_,_,_,_,o,_,_,e,ex,_⟩:=I.ao p _ hk
     exact ⟨o,e,ex⟩
    ·obtain ⟨_,_,_,_,o,_,_,e,ex,_⟩:=I.ao p _ hk
     exact ⟨o,e,ex⟩
   obtain ⟨o,e,ex⟩:=z
   refine ⟨⟨o,e,ex.1⟩,fun a e2=>?_⟩
   cases e2
   exact ⟨o,e,ex.2.1⟩
  ·obtain ⟨o,_,_,_,e,ex,_⟩:=I.ao p _ hk
   refine ⟨⟨o,e,ex.1⟩,fun a e2=>?_⟩
   cases e2
   exact ⟨o,e,ex.2.1⟩
 | _=>exact False.elim ty
def u7(K:PySem.W.Frag)(T:String)(r:V→List V→Hp→VK→Prop)(to:TE)(t:TA):TE:=fun σ H Q=>to σ H fun x H1=>pb K T x H1∧t σ H1 fun xs H2=>r x xs H2 Q
variable {o e:Expr} {es:List Expr} {to:TE} {t:TA} {name:Str} {apos dU:Pos} {T id:String} {r:V→List V→Hp→VK→Prop}
theorem dm(pa:PlainAttrs T)(slot:Slot T name id)(u9:typeOf (.builtin id)=pure (.type "method_descriptor"))(hm:uU X id r)(ho:PE X o to)(ha:PA X (e::es) t)
  (u_:attributeBase o name X.env (eval o X.env)=eval o X.env:=by rfl)
  (va:((backTo dU (starEach (e::es) X.env)).all (fun x=>!x.1) && (backToKw dU (keywordEach [] X.env)).all (fun x=>x.1.isSome)
   && decide ((e::es).length+([]:List Keyword).length+(if ([]:List Keyword).isEmpty then 0 else 1)<30))=true:=by rfl)
  (vb:(apos.endLine == dU.line)=true:=by rfl) (hs:starEach (e::es) X.env=(false,eval e X.env)::starEach es X.env:=by rfl) (vc:(backTo dU (starEach es X.env)).any (·.1)=false:=by rfl) :
  PE X (.Call (.Attribute o name apos) (e::es) [] dU) (u7 X.K T r to t):=by
 intro pins s σ H Q I h
 refine wpAny_Call_method_late u_ va vb rfl (ar (ho pins s σ H _ I h) fun v s1 ⟨x,H1,I1,r1,ty,q1⟩=>?_)
 obtain ⟨h1,h2⟩:=u4 I1 r1 ty
 refine ⟨T,id,pa,slot,u9,h1,h2,?_⟩
 have hA:=ha dU pins s1 σ H1 _ I1 q1
 rw [hs] at hA ⊢
 refine Calls.callWith_builtin (by show (false || (backTo dU (starEach es X.env)).any (·.1))=false;rw [vc] <;> rfl) (Calls.evalArgs_plain ?_)
 exact ar hA fun us s2 ⟨vs,H2,I2,r2,q2⟩=>hm pins s2 σ H2 x vs v us Q I2 r1 r2 q2
end
def lK(X:Cx)(id:String)(r:V→List V→Hp→VK→Prop):Prop:=
 ∀(pins:List (Addr×Obj)) (s:Shared) (σ:St) (H:Hp) (x:V) (xs:List V) (v:Value) (us:List Value) (Q:VK),Inv X pins σ H s→RelV x v→Vals xs us→r x xs H Q→
  wpAny (model X.prog X.w) X.A (call (.builtin id) (v::us)) (EP X pins σ Q) X.xe s
theorem Vals.one:∀{x:V} {us:List Value},Vals [x] us→∃u,us=[u]∧RelV x u
 | _,_,.cons r .nil=>⟨_,rfl,r⟩
theorem Vals.eraseIdx:∀{xs:List V} {us:List Value} (i:Nat),Vals xs us→Vals (xs.eraseIdx i) (us.eraseIdx i)
 | _,_,_,.nil=>.nil
 | _,_,0,.cons _ t=>t
 | _,_,i+1,.cons r t=>.cons r (Vals.eraseIdx i t)
theorem pd{α:Type}:∀(l:List α) (i:Nat),(l.eraseIdx i).length≤l.length
 | [],_=>Nat.le_refl _
 | _::_,0=>Nat.le_succ _
 | _::r,i+1=>Nat.succ_le_succ (pd r i)
section
variable {X:Cx} {pins:List (Addr×Obj)} {σ:St} {H:Hp} {s:Shared} {l b:Addr} {xs ys zs:List V}
theorem Inv.lN{ae its':List Value}{n:Nat}{f:Array Value→Array Value}{t':Nat}(I:Inv X pins σ H s)(hH:H l=some (.lst xs))
  (e:s.heap.get? l=some {cls:=.type "list",data:=.seq ae.toArray n}) (hf:f ae.toArray=its'.toArray) (hv:Vals ys its') (hz:ys.length≤sizeLine) :
  Inv X pins σ (upd H l (.lst ys)) {s with heap:=s.heap.update l (Obj.mapSeq f),toks:=t'}:=by
 have q:=PySem.IsL.update e f
 rw [hf] at q
 refine I.write (x:=l) (e:=l) (by rw [hH];exact trivial) (.inl rfl) (fun b' u hb hu=>(Heap.get?_update_other s.heap (Obj.mapSeq f) (Ne.symm hb)).trans hu) ⟨_,q⟩ ?_
 exact ⟨hz,its',_,hv,q⟩
theorem Inv.vd{ae:List Value}{t':Nat}(I:Inv X pins σ H s)(hv:Vals ys ae)(hz:ys.length≤sizeLine) :
  Inv X pins σ (upd H s.heap.objs.size (.lst ys)) {s with heap:=s.heap.push {cls:=.type "list",data:=.seq ae.toArray},toks:=t'}:=
 I.laid (fun _ _ q=>Heap.get?_push_of_some _ q) (Nat.le_refl _) ⟨hz,ae,0,hv,Heap.get?_push_size _ rfl⟩
theorem Inv.fresh(I:Inv X pins σ H s):H s.heap.objs.size=none:=I.ao.fresh (Nat.le_refl _)
theorem Inv.gm(I:Inv X pins σ H s)(hH:H l=some (.lst xs)):xs.length≤sizeLine∧∃(ae:List Value) (n:Nat),Vals xs ae∧xs.length=ae.length∧s.heap.get? l=some {cls:=.type "list",data:=.seq ae.toArray n}:=by
 obtain ⟨z,ae,n,r,e⟩:=I.ao l _ hH
 exact ⟨z,ae,n,r,r.length,e⟩
theorem ve{n:Nat}(h:n≤sizeLine):Builtin.List.listTooLong n=false:=by
 unfold Builtin.List.listTooLong
 exact decide_eq_false (by omega)
end
section
variable {X:Cx}
def vf:V→List V→Hp→VK→Prop:=fun x vs H Q=>∃l xs y,x=.ref l∧vs=[y]∧H l=some (.lst xs)∧xs.length<sizeLine∧Q .aw (upd H l (.lst (xs++[y])))
theorem cQ:lK X "list.append" vf:=by
 intro pins s σ H x vs v us Q I rx rv h
 obtain ⟨l,xs,y,rfl,rfl,hH,hz,q⟩:=h
 cases rx
 obtain ⟨u,rfl,ru⟩:=rv.one
 obtain ⟨z,ae,n,r,hl,e⟩:=I.gm hH
 refine call_meets F.slot_list_append ⟨_,e,rfl⟩ F.entry_list_append (F.args_list_append_2 _ _) (PySem.list_append l ae.toArray n u (by rw [List.size_toArray];omega)) ⟨e,?_⟩
 refine ⟨.aw,_,I.lN (its':=ae++[u]) hH e (by simp) (r.append (.cons ru .nil)) ?_,rfl,q⟩
 rw [List.length_append,List.length_singleton]
 omega
def vg:V→List V→Hp→VK→Prop:=fun x vs H Q=>∃l b xs zs,x=.ref l∧vs=[.ref b]∧H l=some (.lst xs)∧H b=some (.lst zs)∧xs.length+zs.length≤sizeLine∧Q .aw (upd H l (.lst (xs++zs)))
theorem vh:lK X "list.extend" vg:=by
 intro pins s σ H x vs v us Q I rx rv h
 obtain ⟨l,b,xs,zs,rfl,rfl,hH,hB,hz,q⟩:=h
 cases rx
 obtain ⟨u,rfl,ru⟩:=rv.one
 cases ru
 obtain ⟨z,ae,n,r,hl,e⟩:=I.gm hH
 obtain ⟨z2,eE,n2,r2,vi,e2⟩:=I.gm hB
 have vj:ae.toArray.size+eE.toArray.size≤sizeLine:=by rw [List.size_toArray,List.size_toArray];omega
 have vk:¬(!ae.toArray.isEmpty && Builtin.List.listTooLong (ae.toArray.size+eE.toArray.size))=true:=by
  rw [ve vj,Bool.and_false]
  exact Bool.false_ne_true
 refine call_meets F.slot_list_extend ⟨_,e,rfl⟩ F.entry_list_extend (F.args_list_extend_2 _ _)
  (AutoSeq1.list_extend_list_list_0 l ae.toArray n b eE.toArray n2 vk (by rw [List.size_toArray];omega) (by omega)) ⟨e,e2,?_⟩
 refine ⟨.aw,_,I.lN (its':=ae++eE) hH e (by simp) (r.append r2) ?_,rfl,q⟩
 rw [List.length_append]
 omega
def vm:V→List V→Hp→VK→Prop:=fun x vs H Q=>∃l xs i k y,x=.ref l∧vs=[.int i]∧H l=some (.lst xs)∧-(2 ^ 63)≤i∧i<2 ^ 63∧seqIndex? i xs.length=some k∧xs[k]?=some y∧Q y (upd H l (.lst (xs.eraseIdx k)))
theorem vn:lK X "list.pop" vm:=by
 intro pins s σ H x vs v us Q I rx rv h
 obtain ⟨l,xs,i,k,y,rfl,rfl,hH,h1,h2,hk,hy,q⟩:=h
 cases rx
 obtain ⟨u,rfl,ru⟩:=rv.one
 obtain ⟨t,rfl⟩:=ru
 obtain ⟨z,ae,n,r,hl,e⟩:=I.gm hH
 obtain ⟨w,hw,eX⟩:=r.get hy
 refine call_meets F.slot_list_pop ⟨_,e,rfl⟩ F.entry_list_pop (F.args_list_pop_2 _ _)
  (MeetsSeq.list_pop_at l ae.toArray n i t k w (fitsIndex_both h1 h2) (by rw [List.size_toArray,←hl];exact hk) (by rw [←Array.getElem?_toList];exact hw) (by rw [List.size_toArray];omega)) ⟨e,?_⟩
 refine ⟨y,_,I.lN (its':=ae.eraseIdx k) hH e ?_ (r.eraseIdx k) ?_,eX,q⟩
 ·show ae.toArray.eraseIdxIfInBounds k=(ae.eraseIdx k).toArray
  rw [List.eraseIdxIfInBounds_toArray]
 ·have:=pd xs k
  omega
def ph:R2:=fun x y H Q=>∃l b xs zs,x=.ref l∧y=.ref b∧H l=some (.lst xs)∧H b=some (.lst zs)∧xs.length+zs.length≤sizeLine∧∀p,H p=none→Q (.ref p) (upd H p (.lst (xs++zs)))
theorem dn:aO X (binaryOp .Add) ph:=by
 intro pins s σ H x y v u Q I rx ry h
 obtain ⟨l,b,xs,zs,rfl,rfl,hH,hB,hz,q⟩:=h
 cases rx
 cases ry
 obtain ⟨z,ae,n,r,hl,e⟩:=I.gm hH
 obtain ⟨z2,eE,n2,r2,vi,e2⟩:=I.gm hB
 refine PySem.P.add_list e e2 ?_ (by rw [List.size_toArray,List.size_toArray];omega)
 have ea:ae.toArray++eE.toArray=(ae++eE).toArray:=by simp
 rw [ea]
 exact ⟨.ref _,_,I.vd (t':=s.toks) (r.append r2) (by rw [List.length_append];omega),rfl,q _ I.fresh⟩
end
section
variable {prog:Program} {w:World} {A:Around} {E:Value→Shared→Prop} {s:Shared}
end
section
variable {X:Cx}
end
end L2
namespace jy
open PySem PySem.W PySem.Calls PyProof.Rows
theorem vo{P:Params}{h:Heap}:∀(ns:List Int) (vs:List Value),WellAll P h vs (ns.map WData.int)→IntsAre vs ns:=by
 intro ns
 induction ns with
 | nil=>
  intro vs w
  rw [List.map_nil] at w
  cases w
  exact .nil
 | cons n ns ih=>
  intro vs w
  rw [List.map_cons] at w
  cases w with
  | cons a b=>
   cases a
   exact .cons _ _ (ih _ b)
theorem vp{l:OpenLaw}{n:Nat}(hn:l.most=some n){P:Params}{h:Heap}{args:List WData}{vals:List Value}
  (jz:l.row.toRowW.claim.pre args=true) (lO:WellAll P h vals args) :
  ∃a vs ns,vals=[Value.ref a]∧args=[WData.list (ns.map WData.int)]∧h.get? a=some {cls:=.type "list",data:=.seq vs.toArray}∧IntsAre vs ns∧ns.length≤n:=by
 have vq:WShape.hasAll [] args [.list .int]=true:=(pre_splitW jz).1
 have hc:l.pre.holds [] {args:=args}=true:=(pre_splitW jz).2
 obtain ⟨d,r,rfl,h1,h2⟩:=hasAllW_cons vq
 obtain rfl:=hasAllW_nil h2
 obtain ⟨xs,rfl,h3⟩:=hasW_list h1
 obtain ⟨ns,rfl⟩:=items_int h3
 have hlen:ns.length≤n:=by
  unfold OpenLaw.pre at hc
  have h4:(WTm.not (.lt (.lit (.int (n:Int))) (.len (.arg 0)))).holds [] {args:=[.list (ns.map .int)]}=true:=by
   have h4:=(holds_andW hc).1
   rw [hn] at h4
   exact h4
  have h5:=condW_of h4 (w_not (w_lt w_lit (w_len_list (w_arg rfl))))
  rw [List.length_map] at h5
  refine Nat.le_of_not_lt fun q=>?_
  have q':(n:Int)<((ns.length:Nat):Int):=by omega
  first
   | (rw [decide_eq_true q'] at h5;exact absurd h5 (by decide))
   | (simp at h5;omega)
 cases lO with
 | cons w1 w2=>
  cases w2
  cases w1 with
  | list ho vt=>exact ⟨_,_,ns,rfl,rfl,ho,vo ns _ vt,hlen⟩
theorem vv(l:OpenLaw)(args:List WData):l.row.toRowW.claim.post args (.bool true) args=true:=
 postW_of (r:=l.row.toRowW) (X:=(true == true))
  (show WShape.has [] (.bool true) .bool=true by first | rfl | decide | simp [WShape.has,WShape.arms,WShape.armsAll])
  (show (WTm.eq .res (.lit (.bool true))).value [] {args:=args,res:=some (.bool true),after:=args}=some (.bool (true == true)) from w_eq_bool (w_res rfl) w_lit) rfl
theorem vw{l:OpenLaw}{n:Nat}{q:Program}{loose:List Str}{XP:(Str→Option Value)→Heap→Prop}{YP:World→Heap→Prop}{d:DefRec}
  (hn:l.most=some n) (iB:d.params.defaults=[])
  (call:∀(w:World) (s₀ s₁:Shared) (mg mb:Str→Option Value) (fa:Addr) (o:Obj) (pm cd doc:Value) (a:Addr) (vs:List Value) (ns:List Int),
   Ground q loose [] XP w s₀ mg mb s₁.heap→YP w s₁.heap→
   s₁.heap.get? fa=some o→o.data=.func (docDef d.name d.params d.body d.scope pm cd doc)→s₁.heap.CodeRec cd d.name→mg d.name=some (.ref fa)→
   s₁.heap.get? a=some {cls:=.type "list",data:=.seq vs.toArray}→IntsAre vs ns→ns.length≤n→s₁.gens = #[]→
   codeAny (model l.prog w) callerA (.call (.ref fa) ⟨[.ref a],[]⟩) (fun r s'=>r=.ok (.ret (.bool true))∧OldK s₁.heap s'.heap∧s'.os=s₁.os∧AllBare s'.gens) s₁) :
  WalkO q loose XP YP l.row.toRowW d [] (fun f vs=>PySem.call f vs):=by
 intro w s₀ s₁ mg mb G Y fa o pm cd doc dV kV ho hd cO hD iC hg args vals as jz BZ B0 lO B1
 obtain rfl:dV=.none:=Dflts.none hD iB
 obtain rfl:kV=.none:=Dflts.noKw hD
 obtain ⟨a,vs,ns,rfl,rfl,lQ,hints,hlen⟩:=vp hn jz lO
 refine enter_call (codeAny_mono (call w s₀ s₁ mg mb fa o pm cd doc a vs ns G Y ho (fd_plain hd) cO iC lQ hints hlen hg) fun r s' hq=>?_)
 obtain ⟨rfl,h2,h3,h4⟩:=hq
 exact ⟨.inl ⟨.bool true,.bool true,[],rfl,fun _=>rfl,.bool true,vv l _,fun _=>⟨List.Pairwise.nil,fun _ hm=>(nomatch hm)⟩⟩,h2,h3,h4⟩
section
variable {prog:Program} {w:World} {A:Around} {E:Value→Shared→Prop} {s:Shared} {K:Frag}
end
end jy
namespace L2
open PySem PySem.Spec PyProof.Rows
theorem pz:∀{vs:List Value} {ns:List Int},IntsAre vs ns→Vals (ns.map V.int) vs
 | _,_,.nil=>.nil
 | _,_,.cons n t h=>.cons ⟨t,rfl⟩ (pz h)
def lR(H:Hp):Prop:=∀b,H b=none∨∃o xs,H b=some (.cm o (.lst xs))
theorem vx{P:Program}{w:World}{K:PySem.W.Frag}{mg mb:Str→Option Value}{CX:cw}{k:Nat}{fa a:Addr}{fd:FuncData}{x:Str}{sp:Sp}{s₁:Shared}{vs:List Value}{ns:List Int}
  (KX:K.In s₁.heap) (pA:s₁.heap.Ns mainGlobals mg) (hb:s₁.heap.Ns builtinsNs mb) (vy:∀x:Str,x ≠ "__name__"→mb x=bootBuiltins x) (vz:s₁.heap.NoLimit) (hg:s₁.gens = #[])
  (ha:s₁.heap.get? a=some {cls:=.type "list",data:=.seq vs.toArray}) (hi:IntsAre vs ns) (hl:ns.length≤sizeLine) (hr:bJ k callerA)
  (F:∀base:Heap,K.In base→base.Ns mainGlobals mg→a0 P w K mg base CX k fa fd [x] sp) (vA:∀(s:Shared) (u:Value),BindsTo s fd ⟨[u],[]⟩ [(x,u)])
  (eA:∀H:Hp,lR H→av K H a (ns.map V.int)→sp [.ref a] H (fun v _=>v=.bl true) fun _ _ _=>False)
  (lS:∀H e s',CX [] H s₁ (fun _ _ _=>False) e s'→False) :
  codeAny (model P w) callerA (.call (.ref fa) ⟨[.ref a],[]⟩) (fun r s'=>r=.ok (.ret (.bool true))∧OldK s₁.heap s'.heap∧s'.os=s₁.os∧AllBare s'.gens) s₁:=by
 have rv:=pz hi
 have vB:=hi.length
 have core:∀H:Hp,lR H→av K H a (ns.map V.int)→aQ P w H s₁.heap→(∀b,H b≠none→b=a)→(H a≠none→K.lookup a=none)→
   codeAny (model P w) callerA (.call (.ref fa) ⟨[.ref a],[]⟩) (fun r s'=>r=.ok (.ret (.bool true))∧OldK s₁.heap s'.heap∧s'.os=s₁.os∧AllBare s'.gens) s₁:=by
  intro H hO hS ao hA hK
  have pB:∀{b:Addr} {o:Obj},s₁.heap.get? b=some o→H b=none→(dD s₁.heap H).get? b=some o:=fun e n=>tu e n
  have ix:∀{b:Addr} {o:Obj} {es:Array DictEntry} {ep:Nat},s₁.heap.get? b=some o→o.data=.dict es ep→H b=none:=fun{b o es ep} e d=>by
   cases q:H b with
   | none=>rfl
   | some u=>
    have e':b=a:=hA b (by rw [q];simp)
    subst e'
    rw [ha] at e;cases e
    have d':Data.seq vs.toArray _=Data.dict es ep:=d
    cases d'
  have jA:∀{b:Addr} {m:Str→Option Value},s₁.heap.Ns b m→(dD s₁.heap H).Ns b m:=fun{b m} ⟨o,es,ep,e,d,r⟩=>⟨o,es,ep,pB e (ix e d),d,r⟩
  have pC:K.In (dD s₁.heap H):=fun b o e=>pB (KX b o e) (by
   cases q:H b with
   | none=>rfl
   | some u=>
    have e':b=a:=hA b (by rw [q];simp)
    subst e'
    rw [hK (by rw [q];simp)] at e;cases e)
  have hM:Mod K mg (dD s₁.heap H):=⟨pC,jA pA,⟨mb,jA hb,vy⟩,let ⟨mc,h1,h2⟩:=vz;⟨mc,jA h1,h2⟩⟩
  have e0:jv P w K mg (dD s₁.heap H) callerA [] s₁ H:=⟨rfl,hM,fun b o e=>tw e,Nat.le_of_eq (tm _ _),trivial,fun b hb=>absurd (show b∈([]:List Addr) from hb) (by simp),ao,.of_eq hg⟩
  refine codeAny_mono ((F _ pC (jA pA)).run callerA [] s₁ H ⟨[.ref a],[]⟩ [.ref a] [.ref a] _ _ hr e0 (vA s₁ (.ref a)) (.cons rfl .nil) (eA H hO hS)) fun r s' h=>?_
  cases r with
  | error e=>exact (lS H e s' h).elim
  | ok fl=>
   cases fl with
   | next=>exact False.elim h
   | brk=>exact False.elim h
   | cont=>exact False.elim h
   | ret u=>
    obtain ⟨v,H',os,bare,un,vC,r',q⟩:=h
    have q':v=.bl true:=q
    subst q'
    obtain rfl:u=Value.bool true:=r'
    refine ⟨rfl,OldK.of_keep fun b o e=>?_,os,bare⟩
    cases q:H b with
    | none=>exact un.keep b o e q (by intro z;exact absurd (show b∈([]:List Addr) from z) (by simp)) (by simp)
    | some u=>
     rcases hO b with z | ⟨ob,xs,z⟩
     ·rw [q] at z;cases z
     ·have z2:=un.cB b ob _ z
      obtain ⟨e1,_⟩:=ao b _ z
      obtain ⟨e2,_⟩:=vC b _ z2
      rw [e] at e1;cases e1
      exact e2
 cases hk:K.lookup a with
 | some o=>
  have e:=KX a o hk
  rw [ha] at e
  cases e
  refine core (fun _=>none) (fun _=>.inl rfl) (.inr ⟨_,vs.toArray,_,hk,rfl,rfl,rfl,by rw [List.size_toArray,vB];exact hl,by simpa using rv⟩) (fun b u z=>by have z':(none:Option HO)=some u:=z;cases z') (fun b z=>absurd rfl z) fun z=>absurd rfl z
 | none=>
  refine core (fun b=>if b=a then some (.cm {cls:=.type "list",data:=.seq vs.toArray} (.lst (ns.map V.int))) else none) (fun b=>?_) (.inl (.inr ⟨{cls:=.type "list",data:=.seq vs.toArray},if_pos rfl⟩)) (fun b u z=>?_) (fun b z=>?_) fun _=>hk
  ·by_cases hb:b=a
   ·exact .inr ⟨_,_,if_pos hb⟩
   ·exact .inl (if_neg hb)
  ·by_cases hb:b=a
   ·have z':=(if_pos hb).symm.trans z
    cases z'
    subst hb
    exact ⟨ha,by rw [List.length_map];exact hl,vs,_,rv,ha⟩
   ·have z':=(if_neg hb).symm.trans z
    cases z'
  ·by_cases hb:b=a
   ·exact hb
   ·exact absurd (if_neg hb) z
abbrev pD {K:PySem.W.Frag} {h:Heap} (_:K.In h):PySem.W.Frag:=K
theorem vD{l:PySem.W.OpenLaw}{n k:Nat}{q:Program}{loose:List Str}{XP:(Str→Option Value)→Heap→Prop}{YP:World→Heap→Prop}{d:DefRec}{K:Params→PySem.W.Frag}{CX:World→cw}{sp:World→Sp}{x:Str}
  (hn:l.most=some n) (vE:n≤sizeLine) (iB:d.params.defaults=[]) (hr:bJ k callerA)
  (hY:∀(w:World) (h:Heap),YP w h→(K w.params).In h)
  (F:∀(w:World) (mg:Str→Option Value) (fa:Addr) (h:Heap),(K w.params).In h→h.Ns mainGlobals mg→mg d.name=some (.ref fa)→
   ∃fd:FuncData,(∀(s:Shared) (u:Value),BindsTo s fd ⟨[u],[]⟩ [(x,u)]) ∧
    ∀base:Heap,(K w.params).In base→base.Ns mainGlobals mg→a0 l.prog w (K w.params) mg base (CX w) k fa fd [x] (sp w))
  (eA:∀(w:World) (H:Hp) (a:Addr) (ns:List Int),ns.length≤n→lR H→av (K w.params) H a (ns.map V.int)→sp w [.ref a] H (fun v _=>v=.bl true) fun _ _ _=>False)
  (lS:∀(w:World) (H:Hp) (s:Shared) (e:Value) (s':Shared),CX w [] H s (fun _ _ _=>False) e s'→False) :
  PySem.W.WalkO q loose XP YP l.row.toRowW d [] (fun f vs=>PySem.call f vs):=by
 refine jy.vw hn iB fun w s₀ s₁ mg mb fa o pm cd doc a vs ns G Y ho hd cO iC lQ hints hlen hg=>?_
 have KX:=hY w _ Y
 obtain ⟨fd,hb,hF⟩:=F w mg fa _ KX G.T.g iC
 exact vx KX G.T.g G.T.b G.T.builtins G.T.nolimit hg lQ hints (Nat.le_trans hlen vE) hr hF hb (fun H hO hS=>eA w H a ns hlen hO hS) fun H e s'=>lS w H s₁ e s'
def jB(s:Stmt):Arguments:=match s with
 | .FunctionDef _ a _ _ _ _ _ _ _ _=>a
 | _=>{posonlyargs:=[],args:=[],vararg:=none,kwonlyargs:=[],kw_defaults:=[],kwarg:=none,defaults:=[]}
def iD(s:Stmt):List Stmt:=match s with
 | .FunctionDef _ _ b _ _ _ _ _ _ _=>b
 | _=>[]
def a8(s:Stmt):Scope:=match s with
 | .FunctionDef _ _ _ _ _ _ sc _ _ _=>sc
 | _=>{kind:=.function,names:=[],isGenerator:=false,isCoroutine:=false}
abbrev bh:cw:=fun _ _ _ _ _ _=>False
abbrev E0:XK:=fun _ _ _=>False
theorem aL{X:Cx}:Passes bh X E0:=fun _ _ _ _ _ _ _ h=>h.elim
structure aI (K:PySem.W.Frag) (x qual:Str) (st:Stmt) (f:Addr) (fd:FuncData):Prop where
 ex:∃(oc:Value) (od:Option Addr) (kV doc pm:Value) (an:Option Addr) (aE ct:Value) (dN:Array (Option Value)),
  fd=PySem.W.fnOf x qual (jB st) (iD st) (a8 st) .none kV doc pm an aE ct∧K.lookup f=some ⟨oc,od,.func fd,dN⟩∧PySem.W.codeIn K aE qual=true
 kp:PySem.W.keepIn K (.ref f)=true
section
variable {P:Program} {w:World} {K:PySem.W.Frag} {mg:Str→Option Value} {base:Heap}
theorem aI.ok{x qual:Str}{st:Stmt}{f:Addr}{fd:FuncData}{N ps:List Str}{k:Nat}{sp:Sp}(F:aI K x qual st f fd)(S:bx N ps (a8 st))(len:∀vs H Q E,sp vs H Q E→vs.length=ps.length)
  (lF:∀(aE:Value) (A:Around) (outer:List Env) (s:Shared) (H:Hp) (vs:List V) (Q:VK) (E:XK),bJ k (A.deeper (envOfC qual (a8 st) s.heap.objs.size f aE))→sp vs H Q E→
   ∃t,cE (gh bh P w K mg base N qual (a8 st) f aE A outer s H E).jj (iD st) t∧t {nx:=fun _ H'=>Q .aw H',rt:=Q} (start N vs) H):a0 P w K mg base bh (k+1) f fd ps sp:=by
 obtain ⟨oc,od,kV,doc,pm,an,aE,ct,dN,rfl,lk,cO⟩:=F.ex
 refine uN lk cO S len fun A outer s H vs Q E hr eA=>?_
 obtain ⟨t,h,q⟩:=lF aE A outer s H vs Q E hr eA
 exact ⟨t,h.jj,q⟩
theorem aI.binds{x qual:Str}{st:Stmt}{f:Addr}{fd:FuncData}{ps:List Str}(F:aI K x qual st f fd)
  (h:∀(kV doc pm:Value) (an:Option Addr) (aE ct:Value) (us:List Value),us.length=ps.length→bindArgs (PySem.W.fnOf x qual (jB st) (iD st) (a8 st) .none kV doc pm an aE ct) ⟨us,[]⟩=pure (ps.zip us)):Binds K fd ps []:=by
 obtain ⟨oc,od,kV,doc,pm,an,aE,ct,dN,rfl,lk,cO⟩:=F.ex
 exact .all (h kV doc pm an aE ct)
theorem bV{x qual:Str}{st:Stmt}{f:Addr}{oc:Value}{od an:Option Addr}{dN:Array (Option Value)}{kV doc pm aE ct:Value}(l:K.lookup f=some ⟨oc,od,.func (PySem.W.fnOf x qual (jB st) (iD st) (a8 st) .none kV doc pm an aE ct),dN⟩)
  (c:PySem.W.codeIn K aE qual=true) (k:PySem.W.keepIn K (.ref f)=true):aI K x qual st f (PySem.W.fnOf x qual (jB st) (iD st) (a8 st) .none kV doc pm an aE ct):=⟨⟨oc,od,kV,doc,pm,an,aE,ct,dN,rfl,l,c⟩,k⟩
end
theorem bA{n:Nat}(h:n≤1000):n<sizeLine:=Nat.lt_of_le_of_lt h (by decide)
section
variable {X:Cx}
theorem pv(i:Nat){x:Str}{pos:Pos}(hN:X.N[i]?=some x:=by rfl)(hv:fU X.env.scope x:=by first | exact Or.inl rfl | exact Or.inr (Or.inl rfl) | exact Or.inr (Or.inr rfl))(hd:(x == ("__debug__":Str))=false:=by decide)
  (cO:(x == ("__classdict__":Str))=false:=by decide):PE X (.Name x pos) (oj i):=tK hN hv hd cO
end
theorem jC{A B:Prop}(h:B):if false=true then A else B:=by
 rw [if_neg Bool.false_ne_true]
 exact h
theorem pE{A B:Prop}(h:A):if true=true then A else B:=by
 rw [if_pos rfl]
 exact h
theorem aX{c A B:Prop}[Decidable c](h1:c→A)(h2:¬c→B):if c then A else B:=by
 by_cases h:c
 ·rw [if_pos h]
  exact h1 h
 ·rw [if_neg h]
  exact h2 h
def ag(H H':Hp):Prop:=∀b o,H b=some o→H' b=some o
theorem ag.refl(H:Hp):ag H H:=fun _ _ h=>h
theorem ag.trans{H H1 H2:Hp}(a:ag H H1)(b:ag H1 H2):ag H H2:=fun c o h=>b c o (a c o h)
theorem ag.seq{K:PySem.W.Frag}{H H':Hp}{a:Addr}{xs:List V}(e:ag H H')(h:av K H a xs):av K H' a xs:=by
 rcases h with (h | ⟨o,h⟩) | h
 ·exact .inl (.inl (e _ _ h))
 ·exact .inl (.inr ⟨o,e _ _ h⟩)
 ·exact .inr h
end L2
set_option maxHeartbeats 4000000
namespace L2
open PySem PySem.Spec PyProof.Rows
section
variable {P:Program} {w:World} {outer:List Env} {H H':Hp} {s s':Shared} {ea C t:Addr} {B:Heap}
def ExcAt(ea C:Addr)(h:Heap):Prop:=∃oe,h.get? ea=some oe∧oe.cls=.ref C∧PySem.W.notCls oe=true
def vF(ea C:Addr):HO:=.ext (ExcAt ea C)
end
section
variable {X:Cx} {pins:List (Addr×Obj)} {σ:St} {H H':Hp} {s s':Shared} {ea C t:Addr} {B:Heap}
end
section
variable {X:Cx} {E:XK} {x:Str} {C:Addr} {np dU pos:Pos} {e:Expr} {es:List Expr} {ta:TA} {B newId B2:String} {vG:List Value}
end
section
variable {X:Cx} {k:Nat} {f C:Addr} {fd:FuncData} {ps:List Str} {sp:Sp} {dj:List V} {ds:List Value} {x m:Str} {p pos apos:Pos} {e o:Expr} {es:List Expr} {ta:TE} {t:TA}
variable {te:TX} {i:Nat} {pos':Pos}
end
section
variable {X:Cx} {pins:List (Addr×Obj)} {σ:St} {H:Hp} {s:Shared} {ea:Addr}
end
section
variable {M:Model} {A:Around} {E:Value→Shared→Prop} {h:Heap} {g:Array GenState} {d:Drawn} {t:Nat} {os:OsState} {e:Addr} {oe:Obj} {Q:Bool→Shared→Prop}
variable {nm q B3 q':Str} {C N D N':Addr} {bs bm B4 B5:List Value} {B6 B7:Bool} {sn B8:List Str} {sub pF:List Value} {ab B9:Bool} {col B_:Option Bool} {dd Ca:Option Addr} {k0 k1 k2 k3 k5 j0 j1 j2 j3 j5:Option Value} {newId Cb:String}
end
section
variable {X:Cx} {body:List Stmt} {b₀:Stmt} {Cc:List Stmt} {np Cd pos:Pos} {x n:Str} {D:Addr} {tb:Ce} {ts:TS} {vG:List Value} {newId:String} {i:Nat}
end
section
variable {P:Program} {w:World} {K:PySem.W.Frag} {mg:Str→Option Value} {base:Heap}
end
structure e_ (K:PySem.W.Frag) (C:Addr):Prop where
 ci:PySem.W.hasDictIn K C=true
 ga:PySem.W.findIn K (.ref C) "__getattribute__" = some (some (.builtin "BaseException.__getattribute__"))
 gn:PySem.W.findIn K (.ref C) "__getattr__" = some none
 ca:PySem.W.findIn K (.ref C) "__class__" = some (some (.builtin "object.__class__"))
 mo:PySem.W.mroIn K C (.type "object")=some true
 mb:PySem.W.mroIn K C (.type "BaseException")=some true
section
variable {prog:Program} {w:World} {A:Around} {E:Value→Shared→Prop} {h:Heap} {g:Array GenState} {d:Drawn} {t:Nat} {os:OsState} {K:PySem.W.Frag} {a C:Addr} {o:Obj}
theorem vH{R:Result→Shared→Prop}(bf:K.In h)(c:e_ K C)(hx:h.get? a=some o)(hc:o.cls=.ref C)(hq:R (.ok (.ret (.ref C))) ⟨h,g,d,t,os⟩) :
  codeAny (model prog w) A (.call (.builtin "getset_descriptor.__get__") ⟨[.builtin "object.__class__",.ref a,.ref C],[]⟩) R ⟨h,g,d,t,os⟩:=by
 have pG:(⟨h,g,d,t,os⟩:Shared).TypeIs (.builtin "object.__class__") "getset_descriptor":=F.typeOf_object_class
 have L1:=PySem.W.looks_mroIn (M:=model prog w) bf c.mo
 have ow:=F.owner_object_class
 refine codeAny_call_builtin F.slot_gs_get.plain F.entry_gs_get (F.slot_gs_get.check _ _ _ _ _ _ _ _ pG (F.args_gs_get _ _ _) ?_)
 repeat (any_goals (first | assumption | (with_reducible refine wpAny_loadPart_at hx ?_;rw [hc]) | (rw [ow];with_reducible refine L1.at ?_) | wp_step))
 refine ⟨Code.quiet_builtin _ (by decide +kernel),codeAny_builtin F.entry_object_class ?_⟩
 repeat (any_goals (first | assumption | (with_reducible refine wpAny_loadPart_at hx ?_;rw [hc]) | wp_step))
theorem vI{tk:Tok}{Q:Fin→Shared→Prop}(bf:K.In h)(c:e_ K C)(hx:h.get? a=some o)(hc:o.cls=.ref C)(hq:Q (.done (.ret (.ref C))) ⟨h,g,d,t,os⟩) :
  wpAny (model prog w) A (Builtin.«object.__getattribute__» ⟨[.ref a,.str "__class__" tk],[]⟩) Q E ⟨h,g,d,t,os⟩:=by
 have pG:(⟨h,g,d,t,os⟩:Shared).TypeIs (.builtin "object.__class__") "getset_descriptor":=F.typeOf_object_class
 have L1:=PySem.W.looks_findIn (M:=model prog w) bf c.ca
 have f5:=F.typeOf_object_class
 have f6:=F.slot_gs_get.lookup
 have f7:=F.slot_gs_set.lookup
 repeat (any_goals (first | assumption | (with_reducible refine wpAny_loadPart_at hx ?_;rw [hc]) | with_reducible refine L1.at ?_ | wp_step))
 refine vH bf c hx hc ?_
 repeat (any_goals (first | assumption | wp_step))
theorem vJ{M:Model}{nv:Value}{Q:Unit→Shared→Prop}(bf:K.In h)(c:e_ K C)(hx:h.get? a=some o)(hc:o.cls=.ref C)(hq:Q () ⟨h,g,d,t,os⟩) :
  wpAny M A (checkBuiltinCall "BaseException.__getattribute__" ⟨[.ref a,nv],[]⟩) Q E ⟨h,g,d,t,os⟩:=by
 have hk:builtinKind "BaseException.__getattribute__" = some .slot:=by decide +kernel
 have hs:splitId "BaseException.__getattribute__" = some ("BaseException","__getattribute__"):=by decide +kernel
 have L1:=PySem.W.looks_mroIn (M:=M) bf c.mb
 have ha:=F.args_bexc_ga (.ref a) nv
 simp only [checkBuiltinCall,hk,hs]
 refine wpAny_bind ?_
 unfold isInstance
 repeat (first | (with_reducible refine wpAny_loadPart_at hx ?_;rw [hc]) | with_reducible refine L1.at ?_ | wp_step)
 exact hq
theorem vK{tk:Tok}{fill expr:Bool}{Q:Value→Shared→Prop}(bf:K.In h)(c:e_ K C)(hx:h.get? a=some o)(hc:o.cls=.ref C)(hq:Q (.ref C) ⟨h,g,d,t,os⟩) :
  wpAny (model prog w) A (getAttrBy (.ref a) (.str "__class__" tk) fill expr) Q E ⟨h,g,d,t,os⟩:=by
 have f3:=F.attrBase_ValueError.ga.bind (.ref a)
 have z0:(expr && onTheHeap (Value.builtin "BaseException.__getattribute__"))=false:=by cases expr <;> rfl
 have z2:(Value.builtin "BaseException.__getattribute__" == Value.builtin "object.__getattribute__")=false:=by decide +kernel
 have z1:(onTheHeap (Value.ref C) && Value.builtin "BaseException.__getattribute__" == Value.builtin "object.__getattribute__")=false:=by rw [z2];rfl
 have L1:=PySem.W.looks_findIn (M:=model prog w) bf c.ga
 have L2:=PySem.W.looks_findIn (M:=model prog w) bf c.gn
 repeat (any_goals (first | assumption | (with_reducible refine wpAny_loadPart_at hx ?_;rw [hc]) | with_reducible refine L1.at ?_ | with_reducible refine L2.at ?_ | wp_step))
 refine codeAny_call_builtin F.attrBase_ValueError.ga.plain F.entry_bexc_ga (vJ bf c hx hc (vI bf c hx hc ?_))
 repeat (any_goals (first | assumption | wp_step))
theorem vL{Q:Option Value→Shared→Prop}(bf:K.In h)(c:e_ K C)(hx:h.get? a=some o)(hc:o.cls=.ref C)(hq:Q (some (.ref C)) ⟨h,g,d,t+1,os⟩) :
  wpAny (model prog w) A (getAttr? (.ref a) "__class__") Q E ⟨h,g,d,t,os⟩:=by
 unfold getAttr? getAttrBy?
 repeat (any_goals (first | assumption | with_reducible apply vK bf c hx hc | wp_step))
theorem vM(c:e_ K C):PySem.W.KitX K (.ref a) (.ref C) (ExcAt a C) where
 ty:=fun M h _ k=>by
  obtain ⟨oe,e1,e2,_⟩:=k
  exact e2▸(PySem.W.Looks.ld e1).andThen .now
 it:=fun M h bf _=>by
  obtain ⟨cd,hc,_⟩:=PySem.W.any_some c.ci
  unfold PySem.W.clsIn at hc
  split at hc
  ·rename_i look
   intro A' Q' E' s' k q
   unfold isType loadHead
   exact wpAny_bind (wpAny_loadPart (k _ _ (bf _ _ look)) (wpAny_pure q))
  ·cases hc
 ne:=fun h tp dd ae n sl bf vO=>by
  obtain ⟨cd,hc,_⟩:=PySem.W.any_some c.ci
  refine Bool.eq_false_iff.mpr fun q=>?_
  have e:C=tp:=Value.ref.inj (beq_iff_eq.mp q)
  subst e
  unfold PySem.W.clsIn at hc
  split at hc
  ·rename_i look
   have z:=(bf _ _ look).symm.trans vO
   cases z
  ·cases hc
 ca:=fun{prog w A E Q s} bf k z=>by
  obtain ⟨oe,e1,e2,_⟩:=k
  obtain ⟨h,g,d,t,os⟩:=s
  exact vL bf c e1 e2 z
end
def jD(a:Addr)(h:Heap):Prop:=∃o ep,h.get? a=some o∧o.ExactDict∧o.data=.dict #[] ep∧(a == sysModules)=false
theorem jD.jE{a:Addr}{h:Heap}(e:jD a h):PySem.W.KitAt a "dict" h:=by
 obtain ⟨o,_,e,c,_⟩:=e
 exact ⟨o,e,c.1⟩
def pH(a:Addr):HO:=.ext (jD a)
inductive iE (K:PySem.W.Frag) (H:Hp):V→Value→Prop where
 | of {x:V} {t:Value} (h:cF K H x t):iE K H x t
 | exc {a C:Addr} (e:H a=some (vF a C)) (c:e_ K C):iE K H (.ref a) (.ref C)
 | jF {a:Addr} (e:H a=some (pH a)):iE K H (.ref a) (.type "dict")
def pI:V→Value
 | .ty n=>.type n
 | .ref a=>.ref a
 | _=>.none
def vP:V→Bool
 | .ty _=>true
 | .ref _=>true
 | _=>false
def vQ(K:PySem.W.Frag):List V→Hp→VK→Prop:=fun xs H Q=>∃x c t b,xs=[x,c]∧vP c=true∧iE K H x t∧PySem.W.kitOne K t (pI c)=some b∧Q (.bl b) H
theorem jG{X:Cx}{K:PySem.W.Frag}(hK:X.K=K:=by rfl):cq X (.builtin "isinstance") (vQ K):=by
 intro pins s σ H xs us Q I r h
 subst hK
 obtain ⟨x,c,t,b,rfl,hc,ty,e,q⟩:=h
 obtain ⟨u,cv,rfl,rx,rc⟩:=vals2 r
 have ec:cv=pI c:=by
  cases c with
  | ty n=>exact rc
  | ref a=>exact rc
  | _=>cases hc
 subst ec
 cases ty with
 | of ty=>exact uB I rx ty e fun tk=>⟨.bl b,H,I.tok tk,rfl,q⟩
 | @jF a ea=>
  cases rx
  obtain ⟨k,_,_⟩:=(show a7 X.prog X.w H s.heap a (.ext (jD a)) from I.ao a _ ea)
  exact PySem.W.kia_one PySem.W.kitx_dict I.bE k.jE e (fun z=>nomatch z) fun tk=>⟨.bl b,H,I.tok tk,rfl,q⟩
 | @exc a C ea cc=>
  cases rx
  obtain ⟨k,_,_⟩:=(show a7 X.prog X.w H s.heap a (.ext (ExcAt a C)) from I.ao a _ ea)
  exact PySem.W.kia_one (vM cc) I.bE k e (fun z=>nomatch z) fun tk=>⟨.bl b,H,I.tok tk,rfl,q⟩
theorem boot_isinstance:bootBuiltins "isinstance" = some (.builtin "isinstance"):=by decide +kernel
theorem boot_min:bootBuiltins "min" = some (.builtin "min"):=by decide +kernel
theorem boot_max:bootBuiltins "max" = some (.builtin "max"):=by decide +kernel
theorem boot_int:bootBuiltins "int" = some (.type "int"):=by decide +kernel
theorem boot_bool:bootBuiltins "bool" = some (.type "bool"):=by decide +kernel
theorem boot_tuple:bootBuiltins "tuple" = some (.type "tuple"):=by decide +kernel
theorem boot_list:bootBuiltins "list" = some (.type "list"):=by decide +kernel
end L2
namespace My
open PySem L2
end My
namespace L2
open PySem PySem.Spec PyProof.Rows
abbrev Cx.aA (X:Cx) (N:List Str) (scope:Scope) (cl:List (Str×Addr)) (s₃:Shared) (H₃:Hp) (fp:List Addr):Cx:=
 {X with N:=N,s₀:=s₃,H₀:=H₃,env:=compEnvC scope cl s₃.heap.objs.size X.env,outer:=X.stack,stack:=X.stack,ex:=fp,fn:=fun _=>false,pn:=[],xe:=fun _ _=>False}
inductive dq (X:Cx):List Expr→TT→Prop where
 | nil:dq X [] (fun _ H Q=>Q true H)
 | one {c:Expr} {t:TT} (h:PT X c t):dq X [c] t
def cZ(wi:TI)(ρ:St→St)(tt:TT)(te:TE):TE:=fun σ H Q=>wi σ H fun J H1=>∀D,H1 D=none→∃W:Nat→Nat→List V→Hp→Prop,(∃m,W 0 m [] (upd H1 D (.lst []))) ∧
 ∀i m ys Hc,W i m ys Hc→Hc D=some (.lst ys)∧((J.stop i Hc∧Q (.ref D) Hc)∨(J.go i Hc∧∀x H',J.bu i Hc x H'→tt (some x::ρ σ) H' fun b H2=>
  if b=true then te (some x::ρ σ) H2 fun y H3=>H3 D=some (.lst ys)∧ys.length<sizeLine∧∃m',m'<m∧W (i+1) m' (ys++[y]) (upd H3 D (.lst (ys++[y]))) else ∃m',m'<m∧W (i+1) m' ys H2))
section
variable {X:Cx} {N:List Str} {scope:Scope} {cl:List (Str×Addr)} {x:Str} {px pos:Pos} {iter elt:Expr} {ifs:List Expr} {wi:TI} {ρ:St→St} {tt:TT} {te:TE}
structure pJ (X:Cx) (N:List Str) (scope:Scope) (cl:List (Str×Addr)) (x:Str) (ρ:St→St):Prop where
 gp:closureFor scope X.env=pure cl
 kind:scope.kind=.function
 jH:∀y∈scope.names,y.2≠.cell
 names:∀y∈scope.names,y.2=.local→scope.names.lookup y.1=some .local
 sub:∀p∈cl,X.env.cells.lookup p.1=some p.2
 has:∀y,((relabel scope X.env).names.lookup y=some .cell∨(relabel scope X.env).names.lookup y=some .free)→∃c,cl.lookup y=some c
 n0:N[0]?=some x
 nd:N.Nodup
 hx:scope.names.lookup x=some .local
 gq:∀(σ:St) (j:Nat) (v:V),(ρ σ)[j]?=some (some v)→∃(i:Nat) (y:Str),N[j+1]?=some y∧X.N[i]?=some y∧σ[i]?=some (some v)∧fU X.env.scope y∧(X.env.kindOf y=some .cell∨X.env.kindOf y=some .free)∧((relabel scope X.env).names.lookup y=some .cell∨(relabel scope X.env).names.lookup y=some .free)
 len:∀σ:St,σ.length=X.N.length→(ρ σ).length+1=N.length
theorem dW{names:List (Str×NameKind)}{cl:List (Str×Addr)}(h:(names.all fun q=>(q.2 != .cell && q.2 != .free) || (cl.lookup q.1).isSome)=true) :
  ∀y,(names.lookup y=some .cell∨names.lookup y=some .free)→∃c,cl.lookup y=some c:=fun y hy=>by
 have key:∀k:NameKind,(k != .cell && k != .free)=false→names.lookup y=some k→∃c,cl.lookup y=some c:=fun k hk e=>by
  have z:=List.all_eq_true.mp h (y,k) (PySem.mem_of_lookup e)
  rw [hk,Bool.false_or] at z
  exact Option.isSome_iff_exists.mp z
 rcases hy with e | e
 ·exact key .cell rfl e
 ·exact key .free rfl e
theorem join_some{o:Option (Option V)}{v:V}(h:some o.join=some (some v)):o=some (some v):=by
 cases o with
 | none=>cases h
 | some o=>cases h;rfl
theorem iF(B:pJ X N scope cl x ρ)(hc:X.calm=true)(hi:PI X (.Name x px) iter wi)(ht:∀s₃ H₃ fp,dq (X.aA N scope cl s₃ H₃ fp) ifs tt)(he:∀s₃ H₃ fp,PE (X.aA N scope cl s₃ H₃ fp) elt te)
  (hs:∀x,foldedSetIterable iter X.env x=pure x:=by intro _;rfl):PE X (.ListComp elt [⟨.Name x px,iter,ifs,0⟩] scope pos) (cZ wi ρ tt te):=by
 intro pins s σ H Q I h
 rw [eval_ListComp]
 refine wpAny_comprehension_free (use:=none) rfl hs B.gp B.kind B.names (ar (hi pins s σ H _ I h) fun v s1 h1=>ar h1 fun f_ s2 h2=>?_)
 obtain ⟨it,fp,tn,J,H2,rfl,I2,T,bU,f2,q2⟩:=h2
 have nD:H2 s2.heap.objs.size=none:=I2.ao.fresh (Nat.le_refl _)
 obtain ⟨W,⟨m0,w0⟩,turn⟩:=q2 _ nD
 refine wpAny_newObj_type (wpAny_newFunctionEnv B.jH (by intro y hy;simp at hy) (fun h₁ b3 cy=>?_) B.kind)
 dsimp only at b3 cy ⊢
 generalize hD:s2.heap.objs.size=D at nD w0 turn b3 cy ⊢
 generalize cb:({s2 with heap:=s2.heap.push {cls:=.type "list",dict:=none,data:=.seq ([]:List Value).toArray}}:Shared)=s3
 have I3:Inv X pins σ (upd H2 D (.lst [])) s3:=by
  subst hD cb
  exact I2.laid (t':=s2.toks) (fun b u e=>Heap.get?_push_of_some _ e) (Nat.le_refl _) ⟨Nat.zero_le _,[],_,.nil,Heap.get?_push_size _ rfl⟩
 have e3:s3.heap=s2.heap.push {cls:=.type "list",dict:=none,data:=.seq ([]:List Value).toArray}:=by rw [←cb]
 have bB:∀b o,s2.heap.get? b=some o→s3.heap.get? b=some o:=fun b o e=>by rw [e3];exact Heap.get?_push_of_some _ e
 rw [←e3] at b3 cy ⊢
 have below:∀b o,s3.heap.get? b=some o→b≠s3.heap.objs.size:=fun b o e=>Nat.ne_of_lt (Heap.lt_size e)
 have aY:∀b o,s3.heap.get? b=some o→h₁.get? b=some o:=fun b o e=>cy.extBut b o (below b o e) (Heap.get?_push_of_some _ e)
 have b4:∀b∈fp,∃o,s2.heap.get? b=some o∧∀v,o.data≠.cell v:=T.obj _ _ bU
 have fb:∀b∈fp,b≠D:=fun b hb z=>by
  obtain ⟨o,e,_⟩:=b4 b hb
  rw [z,←hD] at e
  exact absurd (Heap.lt_size e) (Nat.lt_irrefl _)
 have aM:∀y c,cl.lookup y=some c→X.env.cells.lookup y=some c:=fun y c e=>B.sub (y,c) (PySem.mem_of_lookup e)
 have ff:=I3.ic
 have c3:(X.aA N scope cl s3 (upd H2 D (.lst [])) fp).Ok:=by
  refine ⟨I.ok.mod,B.kind,I.ok.glob,I.ok.blt,Nat.le_refl _,fun a b c e1 e2=>I.ok.inj a b c (aM a c e1) (aM b c e2),fun y hy=>B.has y hy,(fun _ _ z _=>absurd z Bool.false_ne_true),(fun _=>I.ok.hd hc),I.ok.frames,.inl rfl,fun b hb=>⟨?_,fun y c e z=>?_⟩,fun b o e=>?_,Nat.le_trans I.ok.cp I3.sz,fun b o e hb=>?_,fun b hb z=>?_,I3.stack,ff⟩
  ·obtain ⟨o,e,_⟩:=b4 b hb
   exact below b o (bB b o e)
  ·exact (f2 b hb).2.2.2.2.1 y c (aM y c e) z
  ·exact I3.bs b o e
  ·rcases (f2 b hb).2.2.2.1 with z | z
   ·exact I.ok.d6 b o e z
   ·exact absurd (Nat.lt_of_lt_of_le (Heap.lt_size e) (Nat.le_trans I.ok.cp z)) (Nat.lt_irrefl _)
  ·rcases List.mem_cons.mp (I3.fW b z) with z | z
   ·exact (f2 b hb).2.1 z
   ·exact (f2 b hb).2.2.1 z
 have IB:∀tk:Nat,Inv (X.aA N scope cl s3 (upd H2 D (.lst [])) fp) [] (none::ρ σ) (upd H2 D (.lst [])) {s3 with heap:=h₁,toks:=tk}:=fun tk=>by
  refine ⟨c3,rfl,I3.bare,Un.kept aY,⟨_,b3,fun j y v e1 e2 e3=>?_⟩,fun y c e=>?_,?_,fun y c e=>I3.cD y c (aM y c e),(fun p hp=>nomatch hp),I3.ao.kept aY,?_⟩
  ·cases j with
   | zero=>cases e2
   | succ j=>
    obtain ⟨i,y',a1,a2,a3,a4,a5,a6⟩:=B.gq σ j v e2
    have eF:N[j+1]?=some y:=e1
    rw [eF] at a1
    cases a1
    obtain ⟨m,hn,hl⟩:=I3.loc
    obtain ⟨u,r,l⟩:=hl i y v a2 a3 a4
    refine ⟨u,r,.inr ⟨a6,?_⟩⟩
    obtain ⟨c,ec⟩:=B.has y a6
    rcases l with ⟨k,_⟩ | ⟨_,c',c4,z⟩
    ·rcases a5 with q | q <;> (rw [k] at q;cases q)
    ·have:=aM y c ec
     rw [this] at c4
     cases c4
     obtain ⟨o,ho,hd⟩:=z
     exact ⟨c,ec,o,aY _ _ ho,hd⟩
  ·obtain ⟨v,o,ho,hd⟩:=I3.cell y c (aM y c e)
   exact ⟨v,o,aY _ _ ho,hd⟩
  ·exact I3.ao.fresh (Nat.le_refl _)
  ·show (none::ρ σ).length=N.length
   rw [List.length_cons]
   exact B.len σ I.len
 have fin:∀{σ':St} {H':Hp} {s':Shared},Inv (X.aA N scope cl s3 (upd H2 D (.lst [])) fp) [] σ' H' s'→Q (.ref D) H'→compPost (model X.prog X.w) X.A X.xe none (EP X pins σ Q) (.ref D) s3.heap.objs.size (.ok .next) s':=fun{σ' H' s'} J q=>by
  obtain ⟨m,hn,_⟩:=J.loc
  refine ⟨m,hn,fun h' bL=>⟨.ref D,H',?_,rfl,q⟩⟩
  have old:∀b o,s3.heap.get? b=some o→b≠s3.heap.objs.size:=below
  have u1:Un (bD X.stack) fp (upd H2 D (.lst [])) H' s3.heap h':=by
   refine ⟨fun b o e n hb hx=>?_,fun b o e n hb hx=>?_,J.base.free,fun b o e hx=>?_,J.base.cL,J.base.cB,J.base.cM⟩
   ·exact (bL.2 b (old b o e)).trans (J.base.keep b o e n hb hx)
   ·obtain ⟨sl,z⟩:=J.base.slot b o e n hb hx
    exact ⟨sl,(bL.2 b (old b o e)).trans z⟩
   ·obtain ⟨o',z⟩:=J.base.there b o e hx
    exact ⟨o',(bL.2 b (old b o e)).trans z⟩
  have fg:aQ X.prog X.w H' h':=fun b u e=>by
   refine (J.ao b u e).cX (fun c v hc z=>(bL.2 c fun y=>?_).trans z) (fun _ z=>z) fun _ _ z=>z
   have fr:=J.free
   have y':c=s3.heap.objs.size:=y
   rcases hc with hc | hc
   ·rw [←hc,y'] at e
    exact absurd (fr.symm.trans e) (by simp)
   ·rw [y'] at hc
    exact absurd (fr.symm.trans hc) (by simp)
  refine I3.d8 (s':={s' with heap:=h'}) (ch:=fp) (J.os) u1 fg J.bare fun b hb=>?_
  obtain ⟨g0,g1,g2,g3,g4,g5⟩:=f2 b hb
  exact ⟨g3,g1,g4,g5⟩
 have bH:∀{H':Hp},(∀b∈fp,H' b=none)→∀b∈fp,dg (X.aA N scope cl s3 (upd H2 D (.lst [])) fp) [] H' b:=fun hn b hb=>by
  refine ⟨hn b hb,?_,?_,.inl hb,fun y c e z=>(f2 b hb).2.2.2.2.1 y c (aM y c e) z,fun p hp=>nomatch hp⟩
  ·obtain ⟨o,e,_⟩:=b4 b hb
   exact below b o (bB b o e)
  ·exact c3.d7 b hb
 have loop:∀tk:Nat,codeAny (model X.prog X.w) X.A (.compLoop (.ListComp elt [⟨.Name x px,iter,ifs,0⟩] scope pos) 0 (.ref it) (.ref D) (compEnvC scope cl s3.heap.objs.size X.env))
   (compPost (model X.prog X.w) X.A X.xe none (EP X pins σ Q) (.ref D) s3.heap.objs.size) {s3 with heap:=h₁,toks:=tk}:=fun tk=>by
  refine codeAny_compLoop_tests (fun n s'=>∃i ys o H',Inv (X.aA N scope cl s3 (upd H2 D (.lst [])) fp) [] (o::ρ σ) H' s'∧tn i s'.heap∧(∀b∈fp,H' b=none)∧W i n ys H') ?_ m0
   ⟨0,[],none,_,IB tk,T.keep _ _ _ bU fun b hb o e=>aY _ _ (bB _ _ e),fun b hb=>by rw [aD (fb b hb)];exact (f2 b hb).1,w0⟩
  rintro n s4 ⟨i,ys,o,H4,I4,c5,c6,w4⟩
  obtain ⟨lT,fh⟩:=turn i n ys H4 w4
  rcases fh with ⟨stop,qn⟩ | ⟨go,step⟩
  ·refine wpAny_mono (T.done (X.aA N scope cl s3 (upd H2 D (.lst [])) fp) rfl rfl rfl hc i [] s4 _ H4 (fun _ _=>False) I4 (bH c6) c5 stop) (fun r s5 ⟨hr,I5⟩=>?_) fun _ _ z=>z.elim
   subst hr
   exact fin I5 qn
  ·refine wpAny_mono (T.item (X.aA N scope cl s3 (upd H2 D (.lst [])) fp) rfl rfl rfl hc i [] s4 _ H4 (fun _ _=>False) I4 (bH c6) c5 go) (fun r s5 ⟨u,hr,h5⟩=>?_) fun _ _ z=>z.elim
   subst hr
   have z:letOwnedTupleGo (.Name x px) (.ref it) u=pure ():=rfl
   rw [z] at h5
   show wpAny _ _ ((pure ():Sem Unit) >>= fun _=>assign (.Name x px) (compEnvC scope cl s3.heap.objs.size X.env) u) _ _ s5
   refine wpAny_bind (wpAny_mono h5 (fun _ s5 ⟨y,H5,I5,r5,y5,bI,dH⟩=>?_) fun _ _ z=>z.elim)
   have dI:=I5.pinned (bH dH) (T.obj _ _ bI)
   have pg:PG (X.aA N scope cl s3 (upd H2 D (.lst [])) fp) (.Name x px) (aC 0):=bY (i:=0) B.nd B.n0 (.inl (lookup_relabel_local B.hx)) (.inr (lookup_relabel_local B.hx))
   have again:∀{σ7:St} {H7:Hp} {s7:Shared},Inv (X.aA N scope cl s3 (upd H2 D (.lst [])) fp) ([]++cP fp s5.heap) σ7 H7 s7→Inv (X.aA N scope cl s3 (upd H2 D (.lst [])) fp) [] σ7 H7 s7∧tn (i+1) s7.heap∧∀b∈fp,H7 b=none:=fun{σ7 H7 s7} I7=>by
    refine ⟨I7.eZ,T.keep _ _ _ bI fun b hb o e=>(I7.pin (b,o) (List.mem_append_right _ (List.mem_append_right _ (dh hb e)))).1,fun b hb=>?_⟩
    obtain ⟨o,e,d⟩:=T.obj _ _ bI b hb
    exact (I7.pin (b,o) (List.mem_append_right _ (List.mem_append_right _ (dh hb e)))).2.1
   refine wpAny_mono (pg _ s5 _ H5 y u (fun σ2 H6=>σ2=some y::ρ σ∧H6=H5) dI r5 ⟨rfl,rfl⟩) (fun _ s6 ⟨σ6,H6,I6,q6⟩=>?_) fun _ _ z=>z.elim
   obtain ⟨rfl,rfl⟩:=q6
   have fi:=step y _ y5
   have tests:∀{cf:TT},dq (X.aA N scope cl s3 (upd H2 D (.lst [])) fp) ifs cf→∀{R:Bool→Hp→Prop},cf (some y::ρ σ) H6 R→wpAny (model X.prog X.w) X.A
     (forIn ifs true fun c r=>if r=true then do let ok ←isTrue c (compEnvC scope cl s3.heap.objs.size X.env) (eval c (compEnvC scope cl s3.heap.objs.size X.env));pure (ForInStep.yield ok) else pure (ForInStep.yield r))
     (fun ok s7=>∃H7,Inv (X.aA N scope cl s3 (upd H2 D (.lst [])) fp) ([]++cP fp s5.heap) (some y::ρ σ) H7 s7∧R ok H7) (fun _ _=>False) s6:=fun{cf} p {R} hR=>by
    cases p with
    | nil=>exact wpAny_tests_nil ⟨_,I6,hR⟩
    | one p=>exact wpAny_tests_one (p _ s6 _ _ _ I6 hR)
   refine wpAny_mono (tests (ht s3 _ fp) fi) (fun ok s7 ⟨H7,I7,q7⟩=>?_) fun _ _ z=>z.elim
   cases ok with
   | false=>
    obtain ⟨m',cg,w7⟩:=q7
    obtain ⟨a1,a2,a3⟩:=again I7
    exact ⟨m',cg,i+1,ys,_,H7,a1,a2,a3,w7⟩
   | true=>
    refine wpAny_mono (he s3 _ fp _ s7 _ H7 _ I7 q7) (fun ev s8 ⟨z,H8,I8,r8,fj,hz,m',cg,w8⟩=>?_) fun _ _ z=>z.elim
    refine wpAny_mono (cQ (X:=X.aA N scope cl s3 (upd H2 D (.lst [])) fp) _ s8 _ H8 (.ref D) [z] (.ref D) [ev] (fun _ H9=>H9=upd H8 D (.lst (ys++[z]))) I8 rfl (.cons r8 .nil) ⟨D,ys,z,rfl,rfl,fj,hz,rfl⟩) (fun _ s9 ⟨_,H9,I9,_,q9⟩=>?_) fun _ _ z=>z.elim
    subst q9
    obtain ⟨a1,a2,a3⟩:=again I9
    exact ⟨m',cg,i+1,ys++[z],_,_,a1,a2,a3,w8⟩
 have start:=loop (s3.toks+([]:List (Str×Value)).length)
 have es:({s3 with heap:=h₁,toks:=s3.toks+([]:List (Str×Value)).length}:Shared)={s2 with heap:=h₁,toks:=s2.toks+([]:List (Str×Value)).length}:=by rw [←cb]
 rw [es] at start
 exact codeAny_compStart_list start (T.self _ 0 _ _ _ (T.keep _ _ _ bU fun b hb o e=>aY _ _ (bB _ _ e)) start)
end
def a9(i:Int):Prop:=i.natAbs<2 ^ 2048
theorem a9.log{i:Int}(h:a9 i):i.natAbs.log2<2048:=by
 by_cases z:i.natAbs=0
 ·rw [z];decide
 ·exact (Nat.log2_lt z).mpr h
theorem lU:∀{xs:List V} {us:List Value},xs.length=us.length→(∀(i:Nat) (x:V) (u:Value),xs[i]?=some x→us[i]?=some u→RelV x u)→Vals xs us
 | [],[],_,_=>.nil
 | [],_::_,h,_=>by simp at h
 | _::_,[],h,_=>by simp at h
 | x::xs,u::us,h,k=>.cons (k 0 x u rfl rfl) (lU (by simpa using h) fun i a b h1 h2=>k (i+1) a b (by simpa using h1) (by simpa using h2))
section
variable {X:Cx}
def vR(i j:Int):Prop:=0<j∧a9 j
theorem vS:aO X (binaryOp .FloorDiv) (rI vR fun i j=>.int (i / j)):=jo fun i j _ _ _ _ _ hc q=>
 floordiv_int (Int.ne_of_gt hc.1) (by rw [Int.fdiv_eq_ediv_of_nonneg i (Int.le_of_lt hc.1)];exact q) (.inl (PyProof.noPylong_of_log2 (Nat.lt_of_lt_of_le hc.2.log (by decide))))
def allR(K:PySem.W.Frag):List V→Hp→VK→Prop:=fun xs H Q=>∃(p:Addr) (bs:List Bool),xs=[.ref p]∧av K H p (bs.map V.bl)∧Q (.bl (bs.all id)) H
theorem vT{K:PySem.W.Frag}(hc:X.calm=true)(hK:X.K=K:=by rfl):cq X (.builtin "all") (allR K):=by
 intro pins s σ H xs us Q I r h
 subst hK
 obtain ⟨p,bs,rfl,hq,q⟩:=h
 obtain ⟨u,rfl,ru⟩:=vals1 r
 cases ru
 obtain ⟨ae,rv,pl,hz⟩:=I.list hq
 have vU:p≠s.heap.objs.size:=by
  obtain ⟨o,e,_⟩:=pl.isList
  exact Nat.ne_of_lt (Heap.lt_size e)
 have hl:ae.length=bs.length:=by rw [←rv.length,List.length_map]
 refine call_all_walk (wpAny_pyIter_list pl.isList ?_)
 refine ⟨s.heap.objs.size,_,_,_,_,_,fun i=>bs.getD i true,rfl,Walks.list (A:=X.A.in1) (show X.A.in1.handled=none from I.ok.hd hc) s.heap.objs.size p vU ae.toArray,⟨⟨_,Heap.get?_push_size _ rfl,rfl,rfl⟩,pl.isList.push _⟩,fun i v s' Q' E' hv gr=>?_,fun h' tk hk=>?_⟩
 ·have jI:ae[i]?=some v:=by simpa using hv
  cases eb:bs[i]? with
  | none=>
   have:=rv.none_of (i:=i) (by rw [List.getElem?_map,eb];rfl)
   rw [this] at jI
   cases jI
  | some b=>
   obtain ⟨u,hu,ru⟩:=rv.get (i:=i) (x:=V.bl b) (by rw [List.getElem?_map,eb];rfl)
   rw [hu] at jI
   cases jI
   cases ru
   have e:bs.getD i true=b:=by rw [List.getD_eq_getElem?_getD,eb];rfl
   have dX:Q' (bs.getD i true) s':=gr
   rw [e] at dX
   exact wpAny_truthy_bool dX
 ·refine ⟨.bl (bs.all id),H,I.kept fun b o e=>hk b o (fun z=>?_) (Heap.get?_push_of_some _ e),?_,q⟩
  ·exact absurd (Heap.lt_size e) (by rw [List.mem_singleton.mp z];exact Nat.lt_irrefl _)
  ·show Value.bool _=Value.bool _
   congr 1
   rw [List.size_toArray,hl]
   clear hk q rv pl hz hl hq
   induction bs with
   | nil=>rfl
   | cons b bs ih=>
    rw [List.length_cons,List.range_succ_eq_map,List.all_cons,List.all_map,List.all_cons]
    show (b && (List.range bs.length).all fun i=>bs.getD i true)=(b && bs.all id)
    rw [ih]
def vV:List V→Hp→VK→Prop:=fun xs H Q=>∃j:Int,xs=[.int j]∧∀p,H p=none→Q (.ref p) (upd H p (.cA 0 j))
theorem pK:cq X (.type "range") vV:=by
 intro pins s σ H xs us Q I r h
 obtain ⟨j,rfl,q⟩:=h
 obtain ⟨u,rfl,ru⟩:=vals1 r
 obtain ⟨t,rfl⟩:=ru
 refine call_range_1 ⟨.ref s.heap.objs.size,_,I.laid (o:=.cA 0 j) (fun b o e=>Heap.get?_push_of_some _ e) (Nat.le_refl _) ⟨_,_,_,Heap.get?_push_size _ rfl⟩,rfl,q _ (I.ao.fresh (Nat.le_refl _))⟩
def aZ(n:Nat):List V:=(List.range n).map fun i:Nat=>V.int (i:Int)
def vW:List V→Hp→VK→Prop:=fun xs H Q=>∃p n,xs=[.ref p]∧H p=some (.cA 0 (n:Nat))∧n≤10000∧∀l,H l=none→Q (.ref l) (upd H l (.lst (aZ n)))
theorem pL(hc:X.calm=true):cq X (.type "list") vW:=by
 intro pins s σ H xs us Q I r h
 obtain ⟨p,n,rfl,hp,hn,q⟩:=h
 obtain ⟨u,rfl,ru⟩:=vals1 r
 cases ru
 obtain ⟨t,u,v,e⟩:=(show a7 X.prog X.w H s.heap p (.cA 0 n) from I.ao p _ hp)
 refine call_list_range (n:=n) (I.ok.hd hc) e (small_one (by omega) (by omega) (by omega) (by omega)) (by rw [rangeSize_one];split <;> omega) (by omega) fun h' tk acc c hk hD hit=>?_
 refine ⟨.ref s.heap.objs.size,_,I.laid (o:=.lst (aZ n)) (fun b o e=>hk b o e) (Nat.le_refl _) ⟨?_,acc.toList,c,?_,?_⟩,rfl,q _ (I.ao.fresh (Nat.le_refl _))⟩
 ·unfold aZ
  rw [List.length_map,List.length_range]
  exact Nat.le_trans hn (by decide)
 ·refine lU ?_ fun i x u h1 h2=>?_
  ·unfold aZ
   rw [List.length_map,List.length_range,Array.length_toList,hit.1]
  ·have pM:acc[i]?=some u:=by simpa using h2
   obtain ⟨vX,e'⟩:=hit.2 i u pM
   unfold aZ at h1
   rw [List.getElem?_map] at h1
   have hi:i<n:=by
    have z:=(Array.getElem?_eq_some_iff.mp pM).1
    rw [hit.1] at z
    exact z
   rw [List.getElem?_range hi] at h1
   cases h1
   exact ⟨vX,by rw [e'];simp⟩
 ·rw [hD]
end
theorem boot_all:bootBuiltins "all" = some (.builtin "all"):=by decide +kernel
theorem pO:bootBuiltins "range" = some (.type "range"):=by decide +kernel
def pP:Expr→Bool
 | .Starred _ _=>false
 | _=>true
theorem vY{e:Expr}{es:List Expr}{env:Env}(h:pP e=true):starEach (e::es) env=(false,eval e env)::starEach es env:=by
 cases e <;> first | rfl | cases h
theorem aa{X:Cx}{e:Expr}{es:List Expr}{te:TE}{t:TA}(hs:pP e=true)(ha:PE X e te)(hr:PA X es t):PA X (e::es) (lE te t):=
 uD ha hr (vY hs)
theorem aJ{X:Cx}{pos:Pos}{i:Nat}{x:Str}{e:Expr}{te:TE}{pos':Pos}(hs:swapsWith e (some (.Name x pos')) pos.line X.env=pure false)(hf:X.fn x=true∨X.env.scope.names.lookup x=some .local)(hN:X.N.Nodup)(hi:X.N[i]?=some x)(hx:Loc X.env.scope x)(he:PE X e te) :
  PS X (.Assign [.Name x pos'] e pos) (f9 te (aC i)):=tX hN hi hx he hs hf
end L2
namespace My
open PySem L2
theorem pQ(a b:Int):decide (V.int a=V.int b)=decide (a=b):=by
 by_cases h:a=b
 ·subst h;simp
 ·rw [decide_eq_false h];exact decide_eq_false fun e=>h (V.int.inj e)
theorem vZ{K:PySem.W.Frag}{T:String}:PySem.W.kitOne K (.type T) (.type T)=some true:=by
 unfold PySem.W.kitOne
 rw [if_pos (beq_self_eq_true _)]
theorem aB{H:Hp}{p:Addr}{o:HO}(h:H p=none):ag H (upd H p o):=fun b u e=>by
 rw [aD (da e h)]
 exact e
theorem pR{α:Type}{xs:List α}{i:Int}(h0:0≤i)(h1:i<xs.length):∃v,cx xs i=some v∧v∈xs:=by
 obtain ⟨k,rfl⟩:∃k:Nat,i=(k:Int):=⟨i.toNat,by omega⟩
 have hk:k<xs.length:=by omega
 exact ⟨xs[k],dR (by simp [hk]),List.getElem_mem _⟩
inductive Any (H:Hp):V→Prop where
 | aw:Any H .aw
 | bl (b:Bool):Any H (.bl b)
 | int (i:Int):Any H (.int i)
 | str (x:Str):Any H (.str x)
 | lst {a:Addr} {xs:List V} (e:H a=some (.lst xs)):Any H (.ref a)
 | tup {a:Addr} {xs:List V} (e:H a=some (.tup xs)):Any H (.ref a)
 | jF {a:Addr} (e:H a=some (pH a)):Any H (.ref a)
def gs:V→Bool
 | .int _=>true
 | _=>false
def gu:V→Bool
 | .bl _=>true
 | _=>false
def jJ(H:Hp):V→Bool
 | .ref a=>(match H a with | some (.tup _)=>true | _=>false)
 | _=>false
theorem Any.jE{K:PySem.W.Frag}{H:Hp}{v:V}(h:Any H v):∃T:String,iE K H v (.type T)∧PySem.W.kitOne K (.type T) (.type "int")=some (gs v || gu v)∧PySem.W.kitOne K (.type T) (.type "bool")=some (gu v) ∧
  PySem.W.kitOne K (.type T) (.type "tuple")=some (jJ H v):=by
 cases h with
 | aw=>exact ⟨"NoneType",.of .aw,rfl,rfl,rfl⟩
 | bl b=>exact ⟨"bool",.of (.bl b),rfl,rfl,rfl⟩
 | int i=>exact ⟨"int",.of (.int i),rfl,rfl,rfl⟩
 | str x=>exact ⟨"str",.of (.str x),rfl,rfl,rfl⟩
 | lst e=>exact ⟨"list",.of (.lst e),rfl,rfl,by unfold jJ;dsimp only;rw [e];rfl⟩
 | tup e=>exact ⟨"tuple",.of (.tup e),rfl,rfl,by unfold jJ;dsimp only;rw [e];rfl⟩
 | jF e=>exact ⟨"dict",.jF e,rfl,rfl,by unfold jJ;dsimp only;rw [e];rfl⟩
theorem v9{v:V}(h:gu v=true):gs v=false:=by cases v <;> first | rfl | cases h
theorem a9.of_lt{i:Int}(h1:-(10 ^ 70)<i)(h2:i<10 ^ 70):a9 i:=by
 have h3:i.natAbs<2 ^ 240:=by omega
 exact Nat.lt_of_lt_of_le h3 (Nat.pow_le_pow_right (by decide) (by decide))
def v_:Sp:=fun vs H Q _=>∃v:V,vs=[v]∧Any H v∧Q (.bl (gs v)) H
def jK(K:PySem.W.Frag):Sp:=fun vs H Q _=>∃(a:Addr) (ns:List Int),vs=[.ref a]∧av K H a (ns.map V.int)∧ns.length≤63∧∀H',Q (.bl true) H'
theorem wa(xs:List V)(k:Nat):bZ xs none (some (k:Int))=xs.take k:=by
 unfold bZ
 rw [HT.uP,HT.uQ,List.drop_zero,Nat.sub_zero]
 rw [List.take_eq_take_iff]
 omega
theorem pS{xs:List V}{lo hi:Option Int}{v:V}(h:v∈bZ xs lo hi):v∈xs:=List.mem_of_mem_drop (List.mem_of_mem_take h)
end My
namespace L2
open PySem PySem.Spec PyProof.Rows
end L2
namespace My
open PySem L2
end My
namespace L2
open PySem PySem.Spec PyProof.Rows
section
variable {P:Program} {w:World} {K:PySem.W.Frag} {mg:Str→Option Value} {base:Heap}
end
section
variable {X:Cx} {CX:cw} {k:Nat} {f C:Addr} {fd:FuncData} {ps:List Str} {y:Str} {sp:Sp} {E:XK} {m:Str} {pos apos oT:Pos} {e e' o:Expr} {ta:TE} {t tk:TA}
end
end L2
namespace My
open PySem L2
end My
namespace L2
open PySem PySem.Spec PyProof.Rows
section
variable {X:Cx}
end
end L2
namespace My
open PySem L2
section
variable {C N z:Addr} {q:Int} {v u:V} {t b t' b':Int} {H:Hp} {Q:VK} {E:XK}
end
end My
namespace L2
open PySem PySem.Spec PyProof.Rows
structure fk (J:It) (xs:List V) (H1:Hp):Prop where
 go:∀i Hc,ag H1 Hc→i<xs.length→J.go i Hc
 bu:∀i Hc x H',ag H1 Hc→J.bu i Hc x H'→H'=Hc∧(i<xs.length→xs[i]?=some x)
 stop:∀i Hc,ag H1 Hc→xs.length≤i→J.stop i Hc
theorem iG{K:PySem.W.Frag}{a:Addr}{xs:List V}{H1:Hp}(h:av K H1 a xs):fk (eY K a) xs H1 where
 go:=fun i Hc s hi=>⟨xs,xs[i],s.seq h,by simp [hi]⟩
 bu:=fun i Hc x H' s y=>⟨y.1,fun _=>y.2 xs (s.seq h)⟩
 stop:=fun i Hc s hi=>⟨xs,s.seq h,hi⟩
theorem wb{lo:Int}{n:Nat}{H1:Hp}:fk (d_ lo n) ((List.range n).map fun i:Nat=>V.int (lo+(i:Int))) H1 where
 go:=fun i Hc s hi=>by
  have hi:i<n:=by simpa using hi
  exact hi
 bu:=fun i Hc x H' s y=>⟨y.1,fun hi=>by
  have hi:i<n:=by simpa using hi
  rw [y.2]
  simp [hi]⟩
 stop:=fun i Hc s hi=>by
  have hi:n≤i:=by simpa using hi
  exact hi
theorem cz{H H':Hp}{D:Addr}{o:HO}(s:ag H H')(n:H D=none):ag H (upd H' D o):=fun b u e=>by
 rw [aD (da e n)]
 exact s b u e
theorem pU{J:It}{xs:List V}{H1:Hp}{ρσ:St}{te:TE}{D:Addr}{Q:VK}(js:fk J xs H1)(nD:H1 D=none)(hn:xs.length<sizeLine)
  (P:Nat→V→Hp→Prop) (mono:∀i y H H' ys,P i y H→H D=some (.lst ys)→(∀b o,b≠D→H b=some o→H' b=some o)→P i y H')
  (step:∀i x,xs[i]?=some x→∀(Hc:Hp) (R:VK),ag H1 Hc→(∃ys,Hc D=some (.lst ys))→(∀y H3,ag Hc H3→P i y H3→R y H3)→te (some x::ρσ) Hc R)
  (fin:∀ys Hc,ag H1 Hc→ys.length=xs.length→(∀i y,ys[i]?=some y→P i y Hc)→Hc D=some (.lst ys)→Q (.ref D) Hc) :
  ∃W:Nat→Nat→List V→Hp→Prop,(∃m,W 0 m [] (upd H1 D (.lst []))) ∧
   ∀i m ys Hc,W i m ys Hc→Hc D=some (.lst ys)∧((J.stop i Hc∧Q (.ref D) Hc)∨(J.go i Hc∧∀x H',J.bu i Hc x H'→
    if true=true then te (some x::ρσ) H' fun y H3=>H3 D=some (.lst ys)∧ys.length<sizeLine∧∃m',m'<m∧W (i+1) m' (ys++[y]) (upd H3 D (.lst (ys++[y]))) else ∃m',m'<m∧W (i+1) m' ys H')):=by
 refine ⟨fun i m ys Hc=>m=xs.length-i∧i≤xs.length∧Hc D=some (.lst ys)∧ag H1 Hc∧ys.length=i∧∀j y,ys[j]?=some y→P j y Hc,⟨_,rfl,Nat.zero_le _,ak,cz (ag.refl H1) nD,rfl,fun j y e=>by simp at e⟩,?_⟩
 rintro i m ys Hc ⟨rfl,hi,eD,sH,el,hP⟩
 refine ⟨eD,?_⟩
 by_cases aG:i<xs.length
 ·refine .inr ⟨js.go i Hc sH aG,fun x H' hy=>?_⟩
  obtain ⟨rfl,hx⟩:=js.bu i Hc x H' sH hy
  rw [if_pos rfl]
  refine step i x (hx aG) _ _ sH ⟨ys,eD⟩ fun y H3 s3 hp=>?_
  have e3:=s3 _ _ eD
  refine ⟨e3,by omega,xs.length-(i+1),by omega,rfl,aG,ak,cz (sH.trans s3) nD,by simp [el],fun j y' e=>?_⟩
  have b5:∀b o,b≠D→H3 b=some o→upd H3 D (.lst (ys++[y])) b=some o:=fun b o nb e=>by rw [aD nb];exact e
  by_cases hj:j<i
  ·have e':ys[j]?=some y':=by rw [List.getElem?_append_left (by omega)] at e;exact e
   refine mono j y' H' _ ys (hP j y' e') eD fun b o nb e=>?_
   exact b5 b o nb (s3 _ _ e)
  ·have hj:j=i:=by
    have:=(List.getElem?_eq_some_iff.mp e).1
    simp at this
    omega
   subst hj
   have e':y'=y:=by rw [List.getElem?_append_right (by omega),el,Nat.sub_self] at e;simpa using e.symm
   subst e'
   exact mono _ _ H3 _ ys hp e3 b5
 ·have e:i=xs.length:=by omega
  subst e
  exact .inl ⟨js.stop _ Hc sH (Nat.le_refl _),fin ys Hc sH el hP eD⟩
theorem wc{wi:TI}{ρ:St→St}{te:TE}{σ:St}{H:Hp}{Q:VK}{xs:List V}(cI:∀R:It→Hp→Prop,(∀J H1,ag H H1→fk J xs H1→R J H1)→wi σ H R)(hn:xs.length<sizeLine)
  (P:Addr→Nat→V→Hp→Prop) (mono:∀D i y H H' ys,P D i y H→H D=some (.lst ys)→(∀b o,b≠D→H b=some o→H' b=some o)→P D i y H')
  (step:∀D i x,xs[i]?=some x→∀(Hc:Hp) (R:VK),ag H Hc→(∃ys,Hc D=some (.lst ys))→(∀y H3,ag Hc H3→P D i y H3→R y H3)→te (some x::ρ σ) Hc R)
  (fin:∀D ys Hc,ag H Hc→ys.length=xs.length→(∀i y,ys[i]?=some y→P D i y Hc)→Hc D=some (.lst ys)→Q (.ref D) Hc):cZ wi ρ (fun _ H Q=>Q true H) te σ H Q:=by
 refine cI _ fun J H1 s1 js=>?_
 intro D nD
 exact pU (ρσ:=ρ σ) (te:=te) (Q:=Q) js nD hn (P D) (mono D) (fun i x hx Hc R sc=>step D i x hx Hc R (s1.trans sc)) (fun ys Hc sc=>fin D ys Hc (s1.trans sc))
theorem lW{te:TE}{g:TG}{D:Ends}{σ:St}{H:Hp}(h:te σ H fun x H1=>g x σ H1 D.nx):f9 te g D σ H:=h
theorem a_{a b:TS}{D:Ends}{σ:St}{H:Hp}(h:a {D with nx:=fun σ H=>b D σ H} σ H):ot a b D σ H:=h
section
variable {X:Cx} {N:List Str} {scope:Scope} {cl:List (Str×Addr)} {x:Str} {px pos:Pos} {iter elt:Expr} {ifs:List Expr} {wi:TI} {ρ:St→St} {tt:TT} {te:TE}
theorem pV{y:Str}{py iH:Pos}{i0:Nat}(B:pJ X N scope cl x ρ)(hc:X.calm=true)(hN:X.N.Nodup)(lY:X.N[i0]?=some y)(hy:Loc X.env.scope y)(hi:PI X (.Name x px) iter wi)(ht:∀s₃ H₃ fp,dq (X.aA N scope cl s₃ H₃ fp) ifs tt)(he:∀s₃ H₃ fp,PE (X.aA N scope cl s₃ H₃ fp) elt te)
  (lZ:swapsWith (.ListComp elt [⟨.Name x px,iter,ifs,0⟩] scope pos) (some (.Name y py)) iH.line X.env=pure true:=by rfl) (hf:X.fn y=true∨X.env.scope.names.lookup y=some .local:=by first | exact .inl rfl | exact .inr rfl | assumption)
  (hs:∀x,foldedSetIterable iter X.env x=pure x:=by intro _;rfl):PS X (.Assign [.Name y py] (.ListComp elt [⟨.Name x px,iter,ifs,0⟩] scope pos) iH) (f9 (cZ wi ρ tt te) (aC i0)):=by
 intro pins s σ H D0 I h
 have h:cZ wi ρ tt te σ H (fun v H1=>D0.nx (σ.set i0 (some v)) H1):=h
 rw [exec_Assign_Name_used _ _ _ _ lZ]
 refine wpAny_bind (wpAny_standAt (wpAny_bind ?_))
 show wpAny _ X.A (do let _ ←comprehension (.ListComp elt [⟨.Name x px,iter,ifs,0⟩] scope pos) scope X.env _ (newList []) false (eval iter X.env) (some (assign (.Name y py) X.env))) _ _ s
 refine wpAny_bind (wpAny_mono (Q:=fun _ s'=>SP X pins D0 .next s') ?_ (fun _ s' hq=>wpAny_pure (wpAny_pure hq)) fun _ _ e=>e)
 refine wpAny_comprehension_free (use:=some (assign (.Name y py) X.env)) rfl hs B.gp B.kind B.names (ar (hi pins s σ H _ I h) fun v s1 h1=>ar h1 fun f_ s2 h2=>?_)
 obtain ⟨it,fp,tn,J,H2,rfl,I2,T,bU,f2,q2⟩:=h2
 have nD:H2 s2.heap.objs.size=none:=I2.ao.fresh (Nat.le_refl _)
 obtain ⟨W,⟨m0,w0⟩,turn⟩:=q2 _ nD
 refine wpAny_newObj_type (wpAny_newFunctionEnv B.jH (by intro y hy;simp at hy) (fun h₁ b3 cy=>?_) B.kind)
 dsimp only at b3 cy ⊢
 generalize hD:s2.heap.objs.size=D at nD w0 turn b3 cy ⊢
 generalize cb:({s2 with heap:=s2.heap.push {cls:=.type "list",dict:=none,data:=.seq ([]:List Value).toArray}}:Shared)=s3
 have I3:Inv X pins σ (upd H2 D (.lst [])) s3:=by
  subst hD cb
  exact I2.laid (t':=s2.toks) (fun b u e=>Heap.get?_push_of_some _ e) (Nat.le_refl _) ⟨Nat.zero_le _,[],_,.nil,Heap.get?_push_size _ rfl⟩
 have e3:s3.heap=s2.heap.push {cls:=.type "list",dict:=none,data:=.seq ([]:List Value).toArray}:=by rw [←cb]
 have bB:∀b o,s2.heap.get? b=some o→s3.heap.get? b=some o:=fun b o e=>by rw [e3];exact Heap.get?_push_of_some _ e
 rw [←e3] at b3 cy ⊢
 have below:∀b o,s3.heap.get? b=some o→b≠s3.heap.objs.size:=fun b o e=>Nat.ne_of_lt (Heap.lt_size e)
 have aY:∀b o,s3.heap.get? b=some o→h₁.get? b=some o:=fun b o e=>cy.extBut b o (below b o e) (Heap.get?_push_of_some _ e)
 have b4:∀b∈fp,∃o,s2.heap.get? b=some o∧∀v,o.data≠.cell v:=T.obj _ _ bU
 have fb:∀b∈fp,b≠D:=fun b hb z=>by
  obtain ⟨o,e,_⟩:=b4 b hb
  rw [z,←hD] at e
  exact absurd (Heap.lt_size e) (Nat.lt_irrefl _)
 have aM:∀y c,cl.lookup y=some c→X.env.cells.lookup y=some c:=fun y c e=>B.sub (y,c) (PySem.mem_of_lookup e)
 have ff:=I3.ic
 have c3:(X.aA N scope cl s3 (upd H2 D (.lst [])) fp).Ok:=by
  refine ⟨I.ok.mod,B.kind,I.ok.glob,I.ok.blt,Nat.le_refl _,fun a b c e1 e2=>I.ok.inj a b c (aM a c e1) (aM b c e2),fun y hy=>B.has y hy,(fun _ _ z _=>absurd z Bool.false_ne_true),(fun _=>I.ok.hd hc),I.ok.frames,.inl rfl,fun b hb=>⟨?_,fun y c e z=>?_⟩,fun b o e=>?_,Nat.le_trans I.ok.cp I3.sz,fun b o e hb=>?_,fun b hb z=>?_,I3.stack,ff⟩
  ·obtain ⟨o,e,_⟩:=b4 b hb
   exact below b o (bB b o e)
  ·exact (f2 b hb).2.2.2.2.1 y c (aM y c e) z
  ·exact I3.bs b o e
  ·rcases (f2 b hb).2.2.2.1 with z | z
   ·exact I.ok.d6 b o e z
   ·exact absurd (Nat.lt_of_lt_of_le (Heap.lt_size e) (Nat.le_trans I.ok.cp z)) (Nat.lt_irrefl _)
  ·rcases List.mem_cons.mp (I3.fW b z) with z | z
   ·exact (f2 b hb).2.1 z
   ·exact (f2 b hb).2.2.1 z
 have IB:∀tk:Nat,Inv (X.aA N scope cl s3 (upd H2 D (.lst [])) fp) [] (none::ρ σ) (upd H2 D (.lst [])) {s3 with heap:=h₁,toks:=tk}:=fun tk=>by
  refine ⟨c3,rfl,I3.bare,Un.kept aY,⟨_,b3,fun j y v e1 e2 e3=>?_⟩,fun y c e=>?_,?_,fun y c e=>I3.cD y c (aM y c e),(fun p hp=>nomatch hp),I3.ao.kept aY,?_⟩
  ·cases j with
   | zero=>cases e2
   | succ j=>
    obtain ⟨i,y',a1,a2,a3,a4,a5,a6⟩:=B.gq σ j v e2
    have eF:N[j+1]?=some y:=e1
    rw [eF] at a1
    cases a1
    obtain ⟨m,hn,hl⟩:=I3.loc
    obtain ⟨u,r,l⟩:=hl i y v a2 a3 a4
    refine ⟨u,r,.inr ⟨a6,?_⟩⟩
    obtain ⟨c,ec⟩:=B.has y a6
    rcases l with ⟨k,_⟩ | ⟨_,c',c4,z⟩
    ·rcases a5 with q | q <;> (rw [k] at q;cases q)
    ·have:=aM y c ec
     rw [this] at c4
     cases c4
     obtain ⟨o,ho,hd⟩:=z
     exact ⟨c,ec,o,aY _ _ ho,hd⟩
  ·obtain ⟨v,o,ho,hd⟩:=I3.cell y c (aM y c e)
   exact ⟨v,o,aY _ _ ho,hd⟩
  ·exact I3.ao.fresh (Nat.le_refl _)
  ·show (none::ρ σ).length=N.length
   rw [List.length_cons]
   exact B.len σ I.len
 have fm:∀b o,s3.heap.get? b=some o→b≠s3.heap.objs.size:=below
 have fin:∀{σ':St} {H':Hp} {s':Shared},Inv (X.aA N scope cl s3 (upd H2 D (.lst [])) fp) [] σ' H' s'→D0.nx (σ.set i0 (some (.ref D))) H'→compPost (model X.prog X.w) X.A X.xe (some (assign (.Name y py) X.env)) (fun _ s'=>SP X pins D0 .next s') (.ref D) s3.heap.objs.size (.ok .next) s':=fun{σ' H' s'} J q=>by
  obtain ⟨m,hn,_⟩:=J.loc
  have hn:s'.heap.Ns s3.heap.objs.size m:=hn
  have JC:H' s3.heap.objs.size=none:=J.free
  have u1:Un (bD X.stack) fp (upd H2 D (.lst [])) H' s3.heap s'.heap:=by
   refine ⟨fun b o e n hb hx=>J.base.keep b o e n hb hx,fun b o e n hb hx=>J.base.slot b o e n hb hx,J.base.free,fun b o e hx=>J.base.there b o e hx,J.base.cL,J.base.cB,J.base.cM⟩
  have IX:Inv X pins σ H' s':=I3.d8 (ch:=fp) (J.os) u1 J.ao J.bare fun b hb=>by
   obtain ⟨g0,g1,g2,g3,g4,g5⟩:=f2 b hb
   exact ⟨g3,g1,g4,g5⟩
  have nl:X.env.locals≠s3.heap.objs.size:=by
   obtain ⟨m3,⟨o3,_,_,e3,_⟩,_⟩:=I3.loc
   exact fm _ _ e3
  have nc:∀z c,X.env.cells.lookup z=some c→c≠s3.heap.objs.size:=fun z c e=>by
   obtain ⟨v3,o3,e3,_⟩:=I3.cell z c e
   exact fm _ _ e3
  refine wpAny_assign_Name (kM (v:=.ref D) IX hN lY hy rfl (fun dM fo fq=>?_) hf)
  obtain ⟨a,fq,ha⟩:=fq
  have na:s3.heap.objs.size≠a:=by
   rcases ha with rfl | e
   ·exact fun z=>nl z.symm
   ·exact fun z=>nc _ _ e z.symm
  refine ⟨m,hn.sameBut fq na,fun h' bL=>⟨σ.set i0 (some (.ref D)),H',?_,q⟩⟩
  have u2:Un (bD X.stack) [s3.heap.objs.size] H' H' dM.heap h':=by
   refine ⟨fun b o e n hb hx=>(bL.2 b (by simpa using hx)).trans e,fun b o e n hb hx=>⟨o.slots,(bL.2 b (by simpa using hx)).trans e⟩,fun b o e n hx=>n,fun b o e hx=>⟨o,(bL.2 b (by simpa using hx)).trans e⟩,fun b xs z=>z,fun b o u z=>z,fun b ps z=>⟨#[],by simpa using z⟩⟩
  have fg:aQ X.prog X.w H' h':=fun b u e=>by
   refine (fo.ao b u e).cX (fun c v hc z=>(bL.2 c fun y=>?_).trans z) (fun _ z=>z) fun _ _ z=>z
   have y':c=s3.heap.objs.size:=y
   rcases hc with hc | hc
   ·rw [←hc,y',JC] at e
    cases e
   ·rw [y',JC] at hc
    cases hc
  refine fo.d8 (s':={dM with heap:=h'}) (ch:=[s3.heap.objs.size]) rfl u2 fg fo.bare fun b hb=>?_
  have eb:b=s3.heap.objs.size:=by simpa using hb
  subst eb
  refine ⟨.inr I3.sz,fun z=>nl z.symm,fun z c e=>nc z c e,fun p hp=>?_⟩
  exact fm _ _ (I3.pin p hp).1
 have bH:∀{H':Hp},(∀b∈fp,H' b=none)→∀b∈fp,dg (X.aA N scope cl s3 (upd H2 D (.lst [])) fp) [] H' b:=fun hn b hb=>by
  refine ⟨hn b hb,?_,?_,.inl hb,fun y c e z=>(f2 b hb).2.2.2.2.1 y c (aM y c e) z,fun p hp=>nomatch hp⟩
  ·obtain ⟨o,e,_⟩:=b4 b hb
   exact below b o (bB b o e)
  ·exact c3.d7 b hb
 have loop:∀tk:Nat,codeAny (model X.prog X.w) X.A (.compLoop (.ListComp elt [⟨.Name x px,iter,ifs,0⟩] scope pos) 0 (.ref it) (.ref D) (compEnvC scope cl s3.heap.objs.size X.env))
   (compPost (model X.prog X.w) X.A X.xe (some (assign (.Name y py) X.env)) (fun _ s'=>SP X pins D0 .next s') (.ref D) s3.heap.objs.size) {s3 with heap:=h₁,toks:=tk}:=fun tk=>by
  refine codeAny_compLoop_tests (fun n s'=>∃i ys o H',Inv (X.aA N scope cl s3 (upd H2 D (.lst [])) fp) [] (o::ρ σ) H' s'∧tn i s'.heap∧(∀b∈fp,H' b=none)∧W i n ys H') ?_ m0
   ⟨0,[],none,_,IB tk,T.keep _ _ _ bU fun b hb o e=>aY _ _ (bB _ _ e),fun b hb=>by rw [aD (fb b hb)];exact (f2 b hb).1,w0⟩
  rintro n s4 ⟨i,ys,o,H4,I4,c5,c6,w4⟩
  obtain ⟨lT,fh⟩:=turn i n ys H4 w4
  rcases fh with ⟨stop,qn⟩ | ⟨go,step⟩
  ·refine wpAny_mono (T.done (X.aA N scope cl s3 (upd H2 D (.lst [])) fp) rfl rfl rfl hc i [] s4 _ H4 (fun _ _=>False) I4 (bH c6) c5 stop) (fun r s5 ⟨hr,I5⟩=>?_) fun _ _ z=>z.elim
   subst hr
   exact fin I5 qn
  ·refine wpAny_mono (T.item (X.aA N scope cl s3 (upd H2 D (.lst [])) fp) rfl rfl rfl hc i [] s4 _ H4 (fun _ _=>False) I4 (bH c6) c5 go) (fun r s5 ⟨u,hr,h5⟩=>?_) fun _ _ z=>z.elim
   subst hr
   have z:letOwnedTupleGo (.Name x px) (.ref it) u=pure ():=rfl
   rw [z] at h5
   show wpAny _ _ ((pure ():Sem Unit) >>= fun _=>assign (.Name x px) (compEnvC scope cl s3.heap.objs.size X.env) u) _ _ s5
   refine wpAny_bind (wpAny_mono h5 (fun _ s5 ⟨y,H5,I5,r5,y5,bI,dH⟩=>?_) fun _ _ z=>z.elim)
   have dI:=I5.pinned (bH dH) (T.obj _ _ bI)
   have pg:PG (X.aA N scope cl s3 (upd H2 D (.lst [])) fp) (.Name x px) (aC 0):=bY (i:=0) B.nd B.n0 (.inl (lookup_relabel_local B.hx)) (.inr (lookup_relabel_local B.hx))
   have again:∀{σ7:St} {H7:Hp} {s7:Shared},Inv (X.aA N scope cl s3 (upd H2 D (.lst [])) fp) ([]++cP fp s5.heap) σ7 H7 s7→Inv (X.aA N scope cl s3 (upd H2 D (.lst [])) fp) [] σ7 H7 s7∧tn (i+1) s7.heap∧∀b∈fp,H7 b=none:=fun{σ7 H7 s7} I7=>by
    refine ⟨I7.eZ,T.keep _ _ _ bI fun b hb o e=>(I7.pin (b,o) (List.mem_append_right _ (List.mem_append_right _ (dh hb e)))).1,fun b hb=>?_⟩
    obtain ⟨o,e,d⟩:=T.obj _ _ bI b hb
    exact (I7.pin (b,o) (List.mem_append_right _ (List.mem_append_right _ (dh hb e)))).2.1
   refine wpAny_mono (pg _ s5 _ H5 y u (fun σ2 H6=>σ2=some y::ρ σ∧H6=H5) dI r5 ⟨rfl,rfl⟩) (fun _ s6 ⟨σ6,H6,I6,q6⟩=>?_) fun _ _ z=>z.elim
   obtain ⟨rfl,rfl⟩:=q6
   have fi:=step y _ y5
   have tests:∀{cf:TT},dq (X.aA N scope cl s3 (upd H2 D (.lst [])) fp) ifs cf→∀{R:Bool→Hp→Prop},cf (some y::ρ σ) H6 R→wpAny (model X.prog X.w) X.A
     (forIn ifs true fun c r=>if r=true then do let ok ←isTrue c (compEnvC scope cl s3.heap.objs.size X.env) (eval c (compEnvC scope cl s3.heap.objs.size X.env));pure (ForInStep.yield ok) else pure (ForInStep.yield r))
     (fun ok s7=>∃H7,Inv (X.aA N scope cl s3 (upd H2 D (.lst [])) fp) ([]++cP fp s5.heap) (some y::ρ σ) H7 s7∧R ok H7) (fun _ _=>False) s6:=fun{cf} p {R} hR=>by
    cases p with
    | nil=>exact wpAny_tests_nil ⟨_,I6,hR⟩
    | one p=>exact wpAny_tests_one (p _ s6 _ _ _ I6 hR)
   refine wpAny_mono (tests (ht s3 _ fp) fi) (fun ok s7 ⟨H7,I7,q7⟩=>?_) fun _ _ z=>z.elim
   cases ok with
   | false=>
    obtain ⟨m',cg,w7⟩:=q7
    obtain ⟨a1,a2,a3⟩:=again I7
    exact ⟨m',cg,i+1,ys,_,H7,a1,a2,a3,w7⟩
   | true=>
    refine wpAny_mono (he s3 _ fp _ s7 _ H7 _ I7 q7) (fun ev s8 ⟨z,H8,I8,r8,fj,hz,m',cg,w8⟩=>?_) fun _ _ z=>z.elim
    refine wpAny_mono (cQ (X:=X.aA N scope cl s3 (upd H2 D (.lst [])) fp) _ s8 _ H8 (.ref D) [z] (.ref D) [ev] (fun _ H9=>H9=upd H8 D (.lst (ys++[z]))) I8 rfl (.cons r8 .nil) ⟨D,ys,z,rfl,rfl,fj,hz,rfl⟩) (fun _ s9 ⟨_,H9,I9,_,q9⟩=>?_) fun _ _ z=>z.elim
    subst q9
    obtain ⟨a1,a2,a3⟩:=again I9
    exact ⟨m',cg,i+1,ys++[z],_,_,a1,a2,a3,w8⟩
 have start:=loop (s3.toks+([]:List (Str×Value)).length)
 have es:({s3 with heap:=h₁,toks:=s3.toks+([]:List (Str×Value)).length}:Shared)={s2 with heap:=h₁,toks:=s2.toks+([]:List (Str×Value)).length}:=by rw [←cb]
 rw [es] at start
 exact codeAny_compStart_list start (T.self _ 0 _ _ _ (T.keep _ _ _ bU fun b hb o e=>aY _ _ (bB _ _ e)) start)
end
def l5(K:PySem.W.Frag)(l1 l2:Addr):It:=
  ⟨fun i H=>∃xs ys x y,av K H l1 xs∧av K H l2 ys∧xs[i]?=some x∧ys[i]?=some y,
   fun i H v H'=>∃T x y,H T=none∧v=.ref T∧H'=upd H T (.tup [x,y])∧∀xs ys,av K H l1 xs→av K H l2 ys→xs[i]?=some x∧ys[i]?=some y,
   fun i H=>∃xs ys,av K H l1 xs∧av K H l2 ys∧(xs.length≤i∨ys.length≤i)⟩
theorem wd{P:Program}{w:World}{K:PySem.W.Frag}{elts:List Expr}{k:Nat}{pos:Pos}{z TI TO i1 i2 l1 l2:Addr}(D:ZipApart z TI TO i1 i2 l1 l2):Turn P w K (.Tuple elts k pos) (l5 K l1 l2) [z,TI,TO,i1,i2] z
  (fun i h=>IsZip h z TI TO .none∧IsPair h TI (.ref i1) (.ref i2)∧(∃a b,IsPair h TO a b)∧h.IsListIter i1 l1 i∧h.IsListIter i2 l2 i) where
 mem:=by simp
 obj:=fun i h st b hb=>by
  obtain ⟨hz,dY,⟨a,c,eG⟩,h1,h2⟩:=st
  simp only [List.mem_cons,List.not_mem_nil,or_false] at hb
  rcases hb with rfl | rfl | rfl | rfl | rfl
  ·exact ⟨_,hz,fun v z=>by cases z⟩
  ·exact ⟨_,dY,fun v z=>by cases z⟩
  ·exact ⟨_,eG,fun v z=>by cases z⟩
  ·obtain ⟨o,e,c,d⟩:=h1
   exact ⟨o,e,fun v z=>by rw [d] at z;cases z⟩
  ·obtain ⟨o,e,c,d⟩:=h2
   exact ⟨o,e,fun v z=>by rw [d] at z;cases z⟩
 keep:=fun i h h' st k=>by
  obtain ⟨hz,dY,⟨a,c,eG⟩,h1,h2⟩:=st
  exact ⟨k _ (by simp) _ hz,k _ (by simp) _ dY,⟨a,c,k _ (by simp) _ eG⟩,h1.at fun o e=>k _ (by simp) o e,h2.at fun o e=>k _ (by simp) o e⟩
 item:=by
  intro X hP hw hK hc i pins s σ H E I hf st hg
  subst hP hw hK
  obtain ⟨hz,dY,⟨a,c,eG⟩,h1,h2⟩:=st
  obtain ⟨xs,ys,x,y,gv,dX,hx,hy⟩:=hg
  obtain ⟨ae,rv,p,_⟩:=I.list gv
  obtain ⟨pW,jL,p',_⟩:=I.list dX
  obtain ⟨u,hu,ru⟩:=rv.get hx
  obtain ⟨u',we,wg⟩:=jL.get hy
  refine wpAny_pyNext_zip_item D hz dY eG h1 h2 p.isList p'.isList (x:=u) (y:=u') (by simpa using hu) (by simpa using we) fun h' g1 g2 g3 g4 g5 g6 g7=>⟨_,rfl,?_⟩
  refine wpAny_letOwnedTupleGo_zip g1 fun iI q1 sb=>?_
  have pX:H s.heap.objs.size=none:=I.ao.fresh (Nat.le_refl _)
  have lt:∀b o,s.heap.get? b=some o→b≠s.heap.objs.size:=fun b o e=>Nat.ne_of_lt (Heap.lt_size e)
  have keep:∀b o,b∉[z,TI,TO,i1,i2]→s.heap.get? b=some o→iI.get? b=some o:=fun b o nb e=>by
   simp only [List.mem_cons,List.not_mem_nil,or_false,not_or] at nb
   exact sb.extBut _ _ nb.1 (g7 b o nb.1 nb.2.2.1 nb.2.2.2.1 nb.2.2.2.2 e)
  have wj:z≠s.heap.objs.size:=lt _ _ hz
  have pT:IsPair iI s.heap.objs.size u u':=sb.extBut _ _ wj.symm g5
  have iJ:∀{b:Addr} {o:HO} (e:H b=some o),upd H s.heap.objs.size (.tup [x,y]) b=some o:=fun e=>by rw [aD (da e pX)];exact e
  have ao:aQ X.prog X.w (upd H s.heap.objs.size (.tup [x,y])) iI:=fun b o e=>by
   by_cases hb:b=s.heap.objs.size
   ·subst hb
    rw [ak] at e
    cases e
    exact ⟨by show 2≤sizeLine;decide,[u,u'],.cons ru (.cons wg .nil),⟨_,pT,rfl,_,rfl⟩⟩
   ·rw [aD hb] at e
    refine (I.ao b o e).cX (fun c v cN q=>keep c v (fun m=>?_) q) (fun c q=>iJ q) fun c xs q=>iJ q
    have nn:=(hf c m).1
    rcases cN with rfl | cN
    ·rw [nn] at e;cases e
    ·rw [nn] at cN;cases cN
  have u1:Un (bD X.stack) [z,TI,TO,i1,i2] H (upd H s.heap.objs.size (.tup [x,y])) s.heap iI:=
   ⟨fun b o e n _ hx=>keep b o hx e,fun b o e n _ hx=>⟨o.slots,keep b o hx e⟩,fun b o e n hx=>by rw [aD (lt b o e)];exact n,fun b o e hx=>⟨o,keep b o hx e⟩,fun b xs e=>iJ e,fun b o u e=>iJ e,fun b ps e=>⟨#[],by rw [iJ e];simp⟩⟩
  refine ⟨.ref s.heap.objs.size,upd H s.heap.objs.size (.tup [x,y]),I.d8 (s':={s with heap:=iI}) (ch:=[z,TI,TO,i1,i2]) rfl u1 ao I.bare (fun b hb=>?_),rfl,⟨_,x,y,pX,rfl,rfl,fun as bs ha hb=>⟨by rw [I.kT ha gv];exact hx,by rw [I.kT hb dX];exact hy⟩⟩,?_,fun b hb=>?_⟩
  ·obtain ⟨f0,f1,f2,f3,f4,f5⟩:=hf b hb
   exact ⟨f3,f1,f4,f5⟩
  ·exact ⟨q1,sb.extBut _ _ D.TIz (g7 _ _ D.TIz D.TITO D.TIi1 D.TIi2 dY),⟨_,_,sb.extBut _ _ D.TOz g2⟩,g3.extBut sb.extBut D.i1z,g4.extBut sb.extBut D.i2z⟩
  ·have nb:b≠s.heap.objs.size:=by
    simp only [List.mem_cons,List.not_mem_nil,or_false] at hb
    rcases hb with rfl | rfl | rfl | rfl | rfl
    ·exact lt _ _ hz
    ·exact lt _ _ dY
    ·exact lt _ _ eG
    ·obtain ⟨o,e,_⟩:=h1;exact lt _ _ e
    ·obtain ⟨o,e,_⟩:=h2;exact lt _ _ e
   rw [aD nb]
   exact (hf b hb).1
 done:=by
  intro X hP hw hK hc i pins s σ H E I hf st hg
  subst hP hw hK
  obtain ⟨hz,dY,⟨a,c,eG⟩,h1,h2⟩:=st
  obtain ⟨xs,ys,gv,dX,hx⟩:=hg
  obtain ⟨ae,rv,p,_⟩:=I.list gv
  obtain ⟨pW,jL,p',_⟩:=I.list dX
  have hl:=rv.length
  have Cf:=jL.length
  refine wpAny_pyNext_zip_end (I.ok.hd hc) D hz dY eG h1 h2 p.isList p'.isList (hx.imp (fun h=>by simp;omega) fun h=>by simp;omega) fun h' g=>⟨rfl,?_⟩
  have keep:∀b o,b∉[z,TI,TO,i1,i2]→s.heap.get? b=some o→h'.get? b=some o:=fun b o nb e=>by
   simp only [List.mem_cons,List.not_mem_nil,or_false,not_or] at nb
   exact g b o nb.1 nb.2.2.1 nb.2.2.2.1 nb.2.2.2.2 e
  have ao:aQ X.prog X.w H h':=fun b o e=>by
   refine (I.ao b o e).cX (fun c v cN q=>keep c v (fun m=>?_) q) (fun c q=>q) fun c xs q=>q
   have nn:=(hf c m).1
   rcases cN with rfl | cN
   ·rw [nn] at e;cases e
   ·rw [nn] at cN;cases cN
  have u1:Un (bD X.stack) [z,TI,TO,i1,i2] H H s.heap h':=
   ⟨fun b o e n _ hx=>keep b o hx e,fun b o e n _ hx=>⟨o.slots,keep b o hx e⟩,fun b o e n hx=>n,fun b o e hx=>⟨o,keep b o hx e⟩,fun b xs e=>e,fun b o u e=>e,fun b ps e=>⟨#[],by rw [e];simp⟩⟩
  refine I.d8 (s':={s with heap:=h'}) (ch:=[z,TI,TO,i1,i2]) rfl u1 ao I.bare fun b hb=>?_
  obtain ⟨f0,f1,f2,f3,f4,f5⟩:=hf b hb
  exact ⟨f3,f1,f4,f5⟩
 self:=fun _ _ _ _ _ st h=>wpAny_pyIter_zip st.1 h
theorem boot_zip:bootBuiltins "zip" = some (.type "zip"):=by decide +kernel
def wk(K:PySem.W.Frag)(ta:TA):TI:=fun σ H R=>ta σ H fun vs H1=>∃l1 l2,vs=[.ref l1,.ref l2]∧(∃xs,av K H1 l1 xs)∧(∃ys,av K H1 l2 ys)∧R (l5 K l1 l2) H1
section
variable {X:Cx}
theorem wm{elts:List Expr}{k:Nat}{ju:Pos}{a b:Expr}{ta:TA}{p pos:Pos}(hg:Gl X "zip")(hm:X.mg "zip" = none)(ha:PA X [a,b] ta)(hs:starEach [a,b] X.env=[(false,eval a X.env),(false,eval b X.env)]:=by rfl)(il:starEach [b] X.env=[(false,eval b X.env)]:=by rfl) :
  PI X (.Tuple elts k ju) (.Call (.Name "zip" p) [a,b] [] pos) (wk X.K ta):=by
 intro pins s σ H R I h
 refine Call_ (fY I hg hm boot_zip (PyProof.Rows.callWith_type1 (ar (ha pos pins s σ H _ I h) fun us s1 ⟨vs,H1,I1,r1,q1⟩=>?_) (by rw [hs,il]) (by rw [il];rfl)))
 obtain ⟨l1,l2,e,⟨xs,gv⟩,⟨ys,dX⟩,q⟩:=q1
 subst e
 cases r1 with
 | cons r rr=>
  cases rr with
  | cons r' rr=>
   cases rr
   cases r
   cases r'
   obtain ⟨ae,rv,p1,_⟩:=I1.list gv
   obtain ⟨pW,jL,p2,_⟩:=I1.list dX
   have b1:l1<s1.heap.objs.size:=by obtain ⟨o,e,_⟩:=p1.isList;exact Heap.lt_size e
   have b2:l2<s1.heap.objs.size:=by obtain ⟨o,e,_⟩:=p2.isList;exact Heap.lt_size e
   refine call_zip_2 p1.isList p2.isList fun h' z1 z2 z3 z4 z5 z6 z7=>?_
   refine wpAny_pyIter_zip (s:={s1 with heap:=h'}) z1 ?_
   have D:ZipApart (s1.heap.objs.size+4) (s1.heap.objs.size+2) (s1.heap.objs.size+3) s1.heap.objs.size (s1.heap.objs.size+1) l1 l2:=by
    constructor <;> (intro h;have h:@Eq Nat _ _:=h;have b1:@LT.lt Nat _ l1 s1.heap.objs.size:=b1;have b2:@LT.lt Nat _ l2 s1.heap.objs.size:=b2;omega)
   refine ⟨_,_,_,_,H1,rfl,I1.kept (t':=s1.toks) z7,wd D,⟨z1,z2,⟨_,_,z3⟩,z4,z5⟩,fun b hb=>?_,q⟩
   have le:s1.heap.objs.size≤b:=by
    simp only [List.mem_cons,List.not_mem_nil,or_false] at hb
    rcases hb with rfl | rfl | rfl | rfl | rfl
    ·exact Nat.le_add_right ..
    ·exact Nat.le_add_right ..
    ·exact Nat.le_add_right ..
    ·exact Nat.le_refl _
    ·exact Nat.le_add_right ..
   exact I1.jl le (I1.ao.fresh le)
end
section
variable {prog:Program} {w:World} {A:Around} {R:Result→Shared→Prop} {s:Shared}
theorem wo{elt target iter:Expr}{ifs:List Expr}{scope:Scope}{pos:Pos}{it acc:Value}{env:Env}(I:Nat→Shared→Prop)
  (turn:∀n s,I n s→wpAny (model prog w) A (pyNext it) (fun r s₁=>match r with
   | none=>R (.ok .next) s₁
   | some v=>wpAny (model prog w) A (letOwnedTupleGo target it v) (fun _ s₁=>wpAny (model prog w) A (assign target env v) (fun _ s₂=>
     wpAny (model prog w) A (forIn ifs true fun c r=>if r=true then do let ok ←isTrue c env (eval c env);pure (ForInStep.yield ok) else pure (ForInStep.yield r)) (fun ok s₃=>
      if ok=true then wpAny (model prog w) A (eval elt env) (fun x s₄=>
       wpAny (model prog w) A (call (.builtin "list.append") [acc,x]) (fun _ s₅=>∃m,m<n∧I m s₅) (notedBy (model prog w) A env fun e s'=>R (.error e) s') s₄) (notedBy (model prog w) A env fun e s'=>R (.error e) s') s₃
      else ∃m,m<n∧I m s₃) (notedBy (model prog w) A env fun e s'=>R (.error e) s') s₂) (notedBy (model prog w) A env fun e s'=>R (.error e) s') s₁) (notedBy (model prog w) A env fun e s'=>R (.error e) s') s₁) (notedBy (model prog w) A env fun e s'=>R (.error e) s') s)
  (n:Nat) (h:I n s):codeAny (model prog w) A (.compLoop (.ListComp elt [⟨target,iter,ifs,0⟩] scope pos) 0 it acc env) R s:=by
 refine codeAny_loop rfl I (fun n s hI=>?_) n h
 show wpAny _ A ((compTurn (.ListComp elt [⟨target,iter,ifs,0⟩] scope pos) 0 it acc env).onRaise (fun x=>do noteFrame x env;theTreesLotGoes x)) _ _ s
 refine wpAny_noted ?_
 rw [compTurn_list]
 refine wpAny_bind (wpAny_standAt (wpAny_bind (wpAny_mono (turn n s hI) (fun r s₁ h₁=>?_) fun _ _ h'=>h')))
 cases r with
 | none=>exact wpAny_pure h₁
 | some v=>
  refine wpAny_bind (wpAny_mono h₁ (fun _ s₁ h₁=>?_) fun _ _ h'=>h')
  refine wpAny_bind (wpAny_mono h₁ (fun _ s₂ h₂=>wpAny_bind (wpAny_mono h₂ (fun ok s₃ h₃=>?_) fun _ _ h'=>h')) fun _ _ h'=>h')
  cases ok with
  | false=>exact wpAny_pure ⟨rfl,h₃⟩
  | true=>
   exact wpAny_bind (wpAny_bind (wpAny_mono h₃ (fun x s₄ h₄=>wpAny_bind (wpAny_mono h₄ (fun _ s₅ h₅=>wpAny_pure (wpAny_pure ⟨rfl,h₅⟩)) fun _ _ h'=>h')) fun _ _ h'=>h'))
end
def pY(K:PySem.W.Frag)(wi:TI)(ρ:St→St)(tt:TT)(te:TE):TE:=fun σ H Q=>wi σ H fun J H1=>∀D,H1 D=none→∃W:Nat→Nat→List V→Hp→Prop,(∃m,W 0 m [] (upd H1 D (.lst []))) ∧
 ∀i m ys Hc,W i m ys Hc→Hc D=some (.lst ys)∧((J.stop i Hc∧Q (.ref D) Hc)∨(J.go i Hc∧∀v H',J.bu i Hc v H'→∃T x1 x2,v=.ref T∧bF K H' T [x1,x2]∧tt (some x1::some x2::ρ σ) H' fun b H2=>
  if b=true then te (some x1::some x2::ρ σ) H2 fun y H3=>H3 D=some (.lst ys)∧ys.length<sizeLine∧∃m',m'<m∧W (i+1) m' (ys++[y]) (upd H3 D (.lst (ys++[y]))) else ∃m',m'<m∧W (i+1) m' ys H2))
section
variable {X:Cx} {N:List Str} {scope:Scope} {cl:List (Str×Addr)} {x y:Str} {px py pos tp:Pos} {iK:Nat} {iter elt:Expr} {ifs:List Expr} {wi:TI} {ρ:St→St} {tt:TT} {te:TE}
structure wq (X:Cx) (N:List Str) (scope:Scope) (cl:List (Str×Addr)) (x y:Str) (ρ:St→St):Prop where
 gp:closureFor scope X.env=pure cl
 kind:scope.kind=.function
 jH:∀y∈scope.names,y.2≠.cell
 names:∀y∈scope.names,y.2=.local→scope.names.lookup y.1=some .local
 sub:∀p∈cl,X.env.cells.lookup p.1=some p.2
 has:∀y,((relabel scope X.env).names.lookup y=some .cell∨(relabel scope X.env).names.lookup y=some .free)→∃c,cl.lookup y=some c
 n0:N[0]?=some x
 n1:N[1]?=some y
 nd:N.Nodup
 hx:scope.names.lookup x=some .local
 hy:scope.names.lookup y=some .local
 gq:∀(σ:St) (j:Nat) (v:V),(ρ σ)[j]?=some (some v)→∃(i:Nat) (y:Str),N[j+1+1]?=some y∧X.N[i]?=some y∧σ[i]?=some (some v)∧fU X.env.scope y∧(X.env.kindOf y=some .cell∨X.env.kindOf y=some .free)∧((relabel scope X.env).names.lookup y=some .cell∨(relabel scope X.env).names.lookup y=some .free)
 len:∀σ:St,σ.length=X.N.length→(ρ σ).length+1+1=N.length
theorem pZ(B:wq X N scope cl x y ρ)(hc:X.calm=true)(hi:PI X (.Tuple [.Name x px,.Name y py] iK tp) iter wi)(ht:∀s₃ H₃ fp,dq (X.aA N scope cl s₃ H₃ fp) ifs tt)(he:∀s₃ H₃ fp,PE (X.aA N scope cl s₃ H₃ fp) elt te)
  (hs:∀x,foldedSetIterable iter X.env x=pure x:=by intro _;rfl):PE X (.ListComp elt [⟨.Tuple [.Name x px,.Name y py] iK tp,iter,ifs,0⟩] scope pos) (pY X.K wi ρ tt te):=by
 intro pins s σ H Q I h
 rw [eval_ListComp]
 refine wpAny_comprehension_free (use:=none) rfl hs B.gp B.kind B.names (ar (hi pins s σ H _ I h) fun v s1 h1=>ar h1 fun f_ s2 h2=>?_)
 obtain ⟨it,fp,tn,J,H2,rfl,I2,T,bU,f2,q2⟩:=h2
 have nD:H2 s2.heap.objs.size=none:=I2.ao.fresh (Nat.le_refl _)
 obtain ⟨W,⟨m0,w0⟩,turn⟩:=q2 _ nD
 refine wpAny_newObj_type (wpAny_newFunctionEnv B.jH (by intro y hy;simp at hy) (fun h₁ b3 cy=>?_) B.kind)
 dsimp only at b3 cy ⊢
 generalize hD:s2.heap.objs.size=D at nD w0 turn b3 cy ⊢
 generalize cb:({s2 with heap:=s2.heap.push {cls:=.type "list",dict:=none,data:=.seq ([]:List Value).toArray}}:Shared)=s3
 have I3:Inv X pins σ (upd H2 D (.lst [])) s3:=by
  subst hD cb
  exact I2.laid (t':=s2.toks) (fun b u e=>Heap.get?_push_of_some _ e) (Nat.le_refl _) ⟨Nat.zero_le _,[],_,.nil,Heap.get?_push_size _ rfl⟩
 have e3:s3.heap=s2.heap.push {cls:=.type "list",dict:=none,data:=.seq ([]:List Value).toArray}:=by rw [←cb]
 have bB:∀b o,s2.heap.get? b=some o→s3.heap.get? b=some o:=fun b o e=>by rw [e3];exact Heap.get?_push_of_some _ e
 rw [←e3] at b3 cy ⊢
 have below:∀b o,s3.heap.get? b=some o→b≠s3.heap.objs.size:=fun b o e=>Nat.ne_of_lt (Heap.lt_size e)
 have aY:∀b o,s3.heap.get? b=some o→h₁.get? b=some o:=fun b o e=>cy.extBut b o (below b o e) (Heap.get?_push_of_some _ e)
 have b4:∀b∈fp,∃o,s2.heap.get? b=some o∧∀v,o.data≠.cell v:=T.obj _ _ bU
 have fb:∀b∈fp,b≠D:=fun b hb z=>by
  obtain ⟨o,e,_⟩:=b4 b hb
  rw [z,←hD] at e
  exact absurd (Heap.lt_size e) (Nat.lt_irrefl _)
 have aM:∀y c,cl.lookup y=some c→X.env.cells.lookup y=some c:=fun y c e=>B.sub (y,c) (PySem.mem_of_lookup e)
 have ff:=I3.ic
 have c3:(X.aA N scope cl s3 (upd H2 D (.lst [])) fp).Ok:=by
  refine ⟨I.ok.mod,B.kind,I.ok.glob,I.ok.blt,Nat.le_refl _,fun a b c e1 e2=>I.ok.inj a b c (aM a c e1) (aM b c e2),fun y hy=>B.has y hy,(fun _ _ z _=>absurd z Bool.false_ne_true),(fun _=>I.ok.hd hc),I.ok.frames,.inl rfl,fun b hb=>⟨?_,fun y c e z=>?_⟩,fun b o e=>?_,Nat.le_trans I.ok.cp I3.sz,fun b o e hb=>?_,fun b hb z=>?_,I3.stack,ff⟩
  ·obtain ⟨o,e,_⟩:=b4 b hb
   exact below b o (bB b o e)
  ·exact (f2 b hb).2.2.2.2.1 y c (aM y c e) z
  ·exact I3.bs b o e
  ·rcases (f2 b hb).2.2.2.1 with z | z
   ·exact I.ok.d6 b o e z
   ·exact absurd (Nat.lt_of_lt_of_le (Heap.lt_size e) (Nat.le_trans I.ok.cp z)) (Nat.lt_irrefl _)
  ·rcases List.mem_cons.mp (I3.fW b z) with z | z
   ·exact (f2 b hb).2.1 z
   ·exact (f2 b hb).2.2.1 z
 have IB:∀tk:Nat,Inv (X.aA N scope cl s3 (upd H2 D (.lst [])) fp) [] (none::none::ρ σ) (upd H2 D (.lst [])) {s3 with heap:=h₁,toks:=tk}:=fun tk=>by
  refine ⟨c3,rfl,I3.bare,Un.kept aY,⟨_,b3,fun j y v e1 e2 e3=>?_⟩,fun y c e=>?_,?_,fun y c e=>I3.cD y c (aM y c e),(fun p hp=>nomatch hp),I3.ao.kept aY,?_⟩
  ·cases j with
   | zero=>cases e2
   | succ j=>
   cases j with
   | zero=>cases e2
   | succ j=>
    obtain ⟨i,y',a1,a2,a3,a4,a5,a6⟩:=B.gq σ j v e2
    have eF:N[j+1+1]?=some y:=e1
    rw [eF] at a1
    cases a1
    obtain ⟨m,hn,hl⟩:=I3.loc
    obtain ⟨u,r,l⟩:=hl i y v a2 a3 a4
    refine ⟨u,r,.inr ⟨a6,?_⟩⟩
    obtain ⟨c,ec⟩:=B.has y a6
    rcases l with ⟨k,_⟩ | ⟨_,c',c4,z⟩
    ·rcases a5 with q | q <;> (rw [k] at q;cases q)
    ·have:=aM y c ec
     rw [this] at c4
     cases c4
     obtain ⟨o,ho,hd⟩:=z
     exact ⟨c,ec,o,aY _ _ ho,hd⟩
  ·obtain ⟨v,o,ho,hd⟩:=I3.cell y c (aM y c e)
   exact ⟨v,o,aY _ _ ho,hd⟩
  ·exact I3.ao.fresh (Nat.le_refl _)
  ·show (none::none::ρ σ).length=N.length
   rw [List.length_cons,List.length_cons]
   exact B.len σ I.len
 have fin:∀{σ':St} {H':Hp} {s':Shared},Inv (X.aA N scope cl s3 (upd H2 D (.lst [])) fp) [] σ' H' s'→Q (.ref D) H'→compPost (model X.prog X.w) X.A X.xe none (EP X pins σ Q) (.ref D) s3.heap.objs.size (.ok .next) s':=fun{σ' H' s'} J q=>by
  obtain ⟨m,hn,_⟩:=J.loc
  refine ⟨m,hn,fun h' bL=>⟨.ref D,H',?_,rfl,q⟩⟩
  have old:∀b o,s3.heap.get? b=some o→b≠s3.heap.objs.size:=below
  have u1:Un (bD X.stack) fp (upd H2 D (.lst [])) H' s3.heap h':=by
   refine ⟨fun b o e n hb hx=>?_,fun b o e n hb hx=>?_,J.base.free,fun b o e hx=>?_,J.base.cL,J.base.cB,J.base.cM⟩
   ·exact (bL.2 b (old b o e)).trans (J.base.keep b o e n hb hx)
   ·obtain ⟨sl,z⟩:=J.base.slot b o e n hb hx
    exact ⟨sl,(bL.2 b (old b o e)).trans z⟩
   ·obtain ⟨o',z⟩:=J.base.there b o e hx
    exact ⟨o',(bL.2 b (old b o e)).trans z⟩
  have fg:aQ X.prog X.w H' h':=fun b u e=>by
   refine (J.ao b u e).cX (fun c v hc z=>(bL.2 c fun y=>?_).trans z) (fun _ z=>z) fun _ _ z=>z
   have fr:=J.free
   have y':c=s3.heap.objs.size:=y
   rcases hc with hc | hc
   ·rw [←hc,y'] at e
    exact absurd (fr.symm.trans e) (by simp)
   ·rw [y'] at hc
    exact absurd (fr.symm.trans hc) (by simp)
  refine I3.d8 (s':={s' with heap:=h'}) (ch:=fp) (J.os) u1 fg J.bare fun b hb=>?_
  obtain ⟨g0,g1,g2,g3,g4,g5⟩:=f2 b hb
  exact ⟨g3,g1,g4,g5⟩
 have bH:∀{H':Hp},(∀b∈fp,H' b=none)→∀b∈fp,dg (X.aA N scope cl s3 (upd H2 D (.lst [])) fp) [] H' b:=fun hn b hb=>by
  refine ⟨hn b hb,?_,?_,.inl hb,fun y c e z=>(f2 b hb).2.2.2.2.1 y c (aM y c e) z,fun p hp=>nomatch hp⟩
  ·obtain ⟨o,e,_⟩:=b4 b hb
   exact below b o (bB b o e)
  ·exact c3.d7 b hb
 have loop:∀tk:Nat,codeAny (model X.prog X.w) X.A (.compLoop (.ListComp elt [⟨.Tuple [.Name x px,.Name y py] iK tp,iter,ifs,0⟩] scope pos) 0 (.ref it) (.ref D) (compEnvC scope cl s3.heap.objs.size X.env))
   (compPost (model X.prog X.w) X.A X.xe none (EP X pins σ Q) (.ref D) s3.heap.objs.size) {s3 with heap:=h₁,toks:=tk}:=fun tk=>by
  refine wo (fun n s'=>∃i ys o o2 H',Inv (X.aA N scope cl s3 (upd H2 D (.lst [])) fp) [] (o::o2::ρ σ) H' s'∧tn i s'.heap∧(∀b∈fp,H' b=none)∧W i n ys H') ?_ m0
   ⟨0,[],none,none,_,IB tk,T.keep _ _ _ bU fun b hb o e=>aY _ _ (bB _ _ e),fun b hb=>by rw [aD (fb b hb)];exact (f2 b hb).1,w0⟩
  rintro n s4 ⟨i,ys,o,o2,H4,I4,c5,c6,w4⟩
  obtain ⟨lT,fh⟩:=turn i n ys H4 w4
  rcases fh with ⟨stop,qn⟩ | ⟨go,step⟩
  ·refine wpAny_mono (T.done (X.aA N scope cl s3 (upd H2 D (.lst [])) fp) rfl rfl rfl hc i [] s4 _ H4 (fun _ _=>False) I4 (bH c6) c5 stop) (fun r s5 ⟨hr,I5⟩=>?_) fun _ _ z=>z.elim
   subst hr
   exact fin I5 qn
  ·refine wpAny_mono (T.item (X.aA N scope cl s3 (upd H2 D (.lst [])) fp) rfl rfl rfl hc i [] s4 _ H4 (fun _ _=>False) I4 (bH c6) c5 go) (fun r s5 ⟨u,hr,h5⟩=>?_) fun _ _ z=>z.elim
   subst hr
   refine wpAny_mono h5 (fun _ s5 ⟨y0,H5,I5,r5,y5,bI,dH⟩=>?_) fun _ _ z=>z.elim
   obtain ⟨Tt,x1,x2,e0,wt,fi⟩:=step y0 _ y5
   subst e0
   have dI:=I5.pinned (bH dH) (T.obj _ _ bI)
   have pg:PG (X.aA N scope cl s3 (upd H2 D (.lst [])) fp) (.Tuple [.Name x px,.Name y py] iK tp) (oz X.K 2 (kX (aC 0) (kX (aC 1) oy))):=
    kZ (X:=X.aA N scope cl s3 (upd H2 D (.lst [])) fp) hc (fZ (bY (i:=0) B.nd B.n0 (.inl (lookup_relabel_local B.hx)) (.inr (lookup_relabel_local B.hx))) (fZ (bY (i:=1) B.nd B.n1 (.inl (lookup_relabel_local B.hy)) (.inr (lookup_relabel_local B.hy))) kY))
   have again:∀{σ7:St} {H7:Hp} {s7:Shared},Inv (X.aA N scope cl s3 (upd H2 D (.lst [])) fp) ([]++cP fp s5.heap) σ7 H7 s7→Inv (X.aA N scope cl s3 (upd H2 D (.lst [])) fp) [] σ7 H7 s7∧tn (i+1) s7.heap∧∀b∈fp,H7 b=none:=fun{σ7 H7 s7} I7=>by
    refine ⟨I7.eZ,T.keep _ _ _ bI fun b hb o e=>(I7.pin (b,o) (List.mem_append_right _ (List.mem_append_right _ (dh hb e)))).1,fun b hb=>?_⟩
    obtain ⟨o,e,d⟩:=T.obj _ _ bI b hb
    exact (I7.pin (b,o) (List.mem_append_right _ (List.mem_append_right _ (dh hb e)))).2.1
   refine wpAny_mono (pg _ s5 _ H5 (.ref Tt) u (fun σ2 H6=>σ2=some x1::some x2::ρ σ∧H6=H5) dI r5 ⟨Tt,_,rfl,wt,rfl,_,_,rfl,_,_,rfl,rfl,rfl,rfl⟩) (fun _ s6 ⟨σ6,H6,I6,q6⟩=>?_) fun _ _ z=>z.elim
   obtain ⟨rfl,rfl⟩:=q6
   have tests:∀{cf:TT},dq (X.aA N scope cl s3 (upd H2 D (.lst [])) fp) ifs cf→∀{R:Bool→Hp→Prop},cf (some x1::some x2::ρ σ) H6 R→wpAny (model X.prog X.w) X.A
     (forIn ifs true fun c r=>if r=true then do let ok ←isTrue c (compEnvC scope cl s3.heap.objs.size X.env) (eval c (compEnvC scope cl s3.heap.objs.size X.env));pure (ForInStep.yield ok) else pure (ForInStep.yield r))
     (fun ok s7=>∃H7,Inv (X.aA N scope cl s3 (upd H2 D (.lst [])) fp) ([]++cP fp s5.heap) (some x1::some x2::ρ σ) H7 s7∧R ok H7) (fun _ _=>False) s6:=fun{cf} p {R} hR=>by
    cases p with
    | nil=>exact wpAny_tests_nil ⟨_,I6,hR⟩
    | one p=>exact wpAny_tests_one (p _ s6 _ _ _ I6 hR)
   refine wpAny_mono (tests (ht s3 _ fp) fi) (fun ok s7 ⟨H7,I7,q7⟩=>?_) fun _ _ z=>z.elim
   cases ok with
   | false=>
    obtain ⟨m',cg,w7⟩:=q7
    obtain ⟨a1,a2,a3⟩:=again I7
    exact ⟨m',cg,i+1,ys,_,_,H7,a1,a2,a3,w7⟩
   | true=>
    refine wpAny_mono (he s3 _ fp _ s7 _ H7 _ I7 q7) (fun ev s8 ⟨z,H8,I8,r8,fj,hz,m',cg,w8⟩=>?_) fun _ _ z=>z.elim
    refine wpAny_mono (cQ (X:=X.aA N scope cl s3 (upd H2 D (.lst [])) fp) _ s8 _ H8 (.ref D) [z] (.ref D) [ev] (fun _ H9=>H9=upd H8 D (.lst (ys++[z]))) I8 rfl (.cons r8 .nil) ⟨D,ys,z,rfl,rfl,fj,hz,rfl⟩) (fun _ s9 ⟨_,H9,I9,_,q9⟩=>?_) fun _ _ z=>z.elim
    subst q9
    obtain ⟨a1,a2,a3⟩:=again I9
    exact ⟨m',cg,i+1,ys++[z],_,_,_,a1,a2,a3,w8⟩
 have start:=loop (s3.toks+([]:List (Str×Value)).length)
 have es:({s3 with heap:=h₁,toks:=s3.toks+([]:List (Str×Value)).length}:Shared)={s2 with heap:=h₁,toks:=s2.toks+([]:List (Str×Value)).length}:=by rw [←cb]
 rw [es] at start
 exact codeAny_compStart_list start (T.self _ 0 _ _ _ (T.keep _ _ _ bU fun b hb o e=>aY _ _ (bB _ _ e)) start)
end
section
variable {X:Cx}
end
abbrev Cx.cj (X:Cx) (N:List Str) (scope:Scope) (cl:List (Str×Addr)) (x:Str) (s₃:Shared) (H₃:Hp) (fp:List Addr):Cx:=
 {X with N:=N,s₀:=s₃,H₀:=H₃,env:=compEnvC scope ((x,s₃.heap.objs.size+1)::cl) s₃.heap.objs.size X.env,outer:=X.stack,stack:=X.stack,ex:=fp,fn:=fun y=>y == x,pn:=[],xe:=fun _ _=>False}
section
variable {M:Model} {A:Around} {E:Value→Shared→Prop} {s:Shared}
theorem wu{scope:Scope}{globals:Addr}{cl:List (Str×Addr)}{qual x:Str}{env:Env}{Q:Env→Shared→Prop}
  (c1:∀n,cellsFrom n scope.names cl=(x,n)::cl) (p1:∀h:Heap,pushCells h scope.names=h.push {cls:=.type "cell",data:=.cell none})
  (hQ:Q (newEnv scope s.heap.objs.size globals ((x,s.heap.objs.size+1)::cl) qual none .none (some env) builtinsNs) {s with heap:=(s.heap.push {cls:=.type "dict",data:=.dict #[]}).push {cls:=.type "cell",data:=.cell none}}) :
  wpAny M A (newFunctionEnv scope globals cl [] qual none .none (some env)) Q E s:=by
 simp only [newFunctionEnv,Option.isSome_some,if_true]
 refine wpAny_bind (wpAny_alloc ?_)
 refine wpAny_bind (wpAny_layCells _ (fun name kind cells=>by cases wx:kind == NameKind.cell <;> simp [wx]) _ _ _ _ ?_)
 rw [show ({s with heap:=s.heap.push {cls:=.type "dict",data:=.dict #[]}}:Shared).heap.objs.size=s.heap.objs.size+1 from Heap.size_push ..,c1,p1]
 exact wpAny_bind (wpAny_pure (wpAny_pure hQ))
end
section
variable {X:Cx} {N:List Str} {scope:Scope} {cl:List (Str×Addr)} {x:Str} {px pos:Pos} {iter elt:Expr} {ifs:List Expr} {wi:TI} {ρ:St→St} {tt:TT} {te:TE}
theorem wy{names:List (Str×NameKind)}{cl:List (Str×Addr)}{x:Str}(h:(names.all fun q=>(q.2 != .cell && q.2 != .free) || ((cl.lookup q.1).isSome || q.1 == x))=true) :
  ∀y,y≠x→(names.lookup y=some .cell∨names.lookup y=some .free)→∃c,cl.lookup y=some c:=fun y hx hy=>by
 have key:∀k:NameKind,(k != .cell && k != .free)=false→names.lookup y=some k→∃c,cl.lookup y=some c:=fun k hk e=>by
  have z:=List.all_eq_true.mp h (y,k) (PySem.mem_of_lookup e)
  rw [hk,Bool.false_or,show ((y,k).1 == x)=false from beq_eq_false_iff_ne.mpr hx,Bool.or_false] at z
  exact Option.isSome_iff_exists.mp z
 rcases hy with e | e
 ·exact key .cell rfl e
 ·exact key .free rfl e
structure wz (X:Cx) (N:List Str) (scope:Scope) (cl:List (Str×Addr)) (x:Str) (ρ:St→St):Prop where
 gp:closureFor scope X.env=pure cl
 kind:scope.kind=.function
 wA:∀n,cellsFrom n scope.names cl=(x,n)::cl
 wB:∀h:Heap,pushCells h scope.names=h.push {cls:=.type "cell",data:=.cell none}
 names:∀y∈scope.names,y.2=.local→scope.names.lookup y.1=some .local
 sub:∀p∈cl,X.env.cells.lookup p.1=some p.2
 has:∀y,y≠x→((relabel scope X.env).names.lookup y=some .cell∨(relabel scope X.env).names.lookup y=some .free)→∃c,cl.lookup y=some c
 n0:N[0]?=some x
 nd:N.Nodup
 wC:(relabel scope X.env).names.lookup x=some .cell
 gq:∀(σ:St) (j:Nat) (v:V),(ρ σ)[j]?=some (some v)→∃(i:Nat) (y:Str),N[j+1]?=some y∧X.N[i]?=some y∧σ[i]?=some (some v)∧fU X.env.scope y∧(X.env.kindOf y=some .cell∨X.env.kindOf y=some .free)∧((relabel scope X.env).names.lookup y=some .cell∨(relabel scope X.env).names.lookup y=some .free)
 len:∀σ:St,σ.length=X.N.length→(ρ σ).length+1=N.length
end
def l6(K:PySem.W.Frag)(H:Hp):Nat→V→V→Prop
 | 0,v,u=>v=u∧cG v=true
 | n+1,v,u=>(v=u∧cG v=true)∨∃a b xs ys,v=.ref a∧u=.ref b∧((av K H a xs∧av K H b ys)∨(bF K H a xs∧bF K H b ys))∧xs.length=ys.length∧∀(j:Nat) (x y:V),xs[j]?=some x→ys[j]?=some y→l6 K H n x y
theorem l7{v:V}(h:cG v=true):bK v v=true:=by
 cases v with
 | aw=>rfl
 | bl b=>show (b == b)=true;simp
 | int i=>show (i == i)=true;simp
 | str x=>show (x == x)=true;simp
 | _=>cases h
theorem all_range(n:Nat):(List.range n).all (fun _=>true)=true:=by simp
section
variable {X:Cx} {pins:List (Addr×Obj)} {σ:St} {H:Hp} {s:Shared}
theorem jM(I:Inv X pins σ H s):∀(n:Nat) (A:Around) (v u:V) (a b:Value),l6 X.K H n v u→RelV v a→RelV u b→A.units+n<cLine→SeqAt.EqAt A s a b true
 | 0,A,v,u,a,b,h,ra,rb,hu=>by
  obtain ⟨rfl,hf⟩:=h
  have z:=gk (A:=A) (s:=s) ra rb hf hf
  rw [l7 hf] at z
  exact z
 | n+1,A,v,u,a,b,h,ra,rb,hu=>by
  rcases h with ⟨rfl,hf⟩ | ⟨p,q,xs,ys,rfl,rfl,hs,hl,hi⟩
  ·have z:=gk (A:=A) (s:=s) ra rb hf hf
   rw [l7 hf] at z
   exact z
  ·cases ra
   cases rb
   by_cases pq:p=q
   ·subst pq
    exact SeqAt.EqAt.same _
   rcases hs with ⟨h1,h2⟩ | ⟨h1,h2⟩
   ·obtain ⟨us,r1,t1,_⟩:=I.list h1
    obtain ⟨vs,r2,t2,_⟩:=I.list h2
    have l1:=r1.length
    have l2:=r2.length
    have z:=SeqAt.RcAt.lists (A:=A) (e:=fun _=>true) t1.isList t2.isList (by simp;omega) (by omega) (fun j z1 z2=>by
     have iL:j<us.length:=by simpa using z1
     have iM:j<vs.length:=by simpa using z2
     obtain ⟨x,ex⟩:∃x,xs[j]?=some x:=⟨xs[j],by simp [show j<xs.length by omega]⟩
     obtain ⟨y,ey⟩:∃y,ys[j]?=some y:=⟨ys[j],by simp [show j<ys.length by omega]⟩
     obtain ⟨x',cC,rx⟩:=r1.get ex
     obtain ⟨y',c7,ry⟩:=r2.get ey
     have e1:us.toArray[j]=x':=by simpa using (List.getElem?_eq_some_iff.mp cC).2
     have e2:vs.toArray[j]=y':=by simpa using (List.getElem?_eq_some_iff.mp c7).2
     rw [e1,e2]
     exact jM I n A.in1 x y x' y' (hi j x y ex ey) rx ry (by rw [Around.in1_units];omega))
    rw [all_range] at z
    exact SeqAt.EqAt.of_refs pq z
   ·obtain ⟨us,r1,t1,_⟩:=I.tuple h1
    obtain ⟨vs,r2,t2,_⟩:=I.tuple h2
    have l1:=r1.length
    have l2:=r2.length
    have z:=SeqAt.RcAt.tuples (A:=A) (e:=fun _=>true) t1 t2 (by omega) (fun j z1 z2=>by
     have iL:j<us.length:=by simpa using z1
     have iM:j<vs.length:=by simpa using z2
     obtain ⟨x,ex⟩:∃x,xs[j]?=some x:=⟨xs[j],by simp [show j<xs.length by omega]⟩
     obtain ⟨y,ey⟩:∃y,ys[j]?=some y:=⟨ys[j],by simp [show j<ys.length by omega]⟩
     obtain ⟨x',cC,rx⟩:=r1.get ex
     obtain ⟨y',c7,ry⟩:=r2.get ey
     have e1:us.toArray[j]=x':=by simpa using (List.getElem?_eq_some_iff.mp cC).2
     have e2:vs.toArray[j]=y':=by simpa using (List.getElem?_eq_some_iff.mp c7).2
     rw [e1,e2]
     exact jM I n A.in1 x y x' y' (hi j x y ex ey) rx ry (by rw [Around.in1_units];omega))
    have e3:(us.toArray.size == vs.toArray.size)=true:=by simp;omega
    rw [all_range,e3] at z
    exact SeqAt.EqAt.of_refs pq z
end
section
variable {X:Cx}
def p_(K:PySem.W.Frag)(n:Nat)(r:Bool):R2:=fun x y H Q=>∃a b xs ys,x=.ref a∧y=.ref b∧av K H a xs∧av K H b ys∧xs.length=ys.length∧(∀(j:Nat) (x y:V),xs[j]?=some x→ys[j]?=some y→l6 K H n x y)∧Q (.bl r) H
theorem Cg{n:Nat}(hu:X.A.units+64<cLine)(hn:n<60:=by decide):aO X (compareOp .Eq) (p_ X.K n true):=by
 intro pins s σ H x y v u Q I rx ry h
 obtain ⟨a,b,xs,ys,rfl,rfl,h1,h2,hl,hi,q⟩:=h
 cases rx
 cases ry
 obtain ⟨us,r1,t1,_⟩:=I.list h1
 obtain ⟨vs,r2,t2,_⟩:=I.list h2
 have l1:=r1.length
 have l2:=r2.length
 refine SeqAt.eq_listAt (e:=fun _=>true) t1.isList t2.isList (by simp;omega) (by omega) (fun j z1 z2=>?_) ?_
 ·have iL:j<us.length:=by simpa using z1
  have iM:j<vs.length:=by simpa using z2
  obtain ⟨x,ex⟩:∃x,xs[j]?=some x:=⟨xs[j],by simp [show j<xs.length by omega]⟩
  obtain ⟨y,ey⟩:∃y,ys[j]?=some y:=⟨ys[j],by simp [show j<ys.length by omega]⟩
  obtain ⟨x',cC,rx⟩:=r1.get ex
  obtain ⟨y',c7,ry⟩:=r2.get ey
  have e1:us.toArray[j]=x':=by simpa using (List.getElem?_eq_some_iff.mp cC).2
  have e2:vs.toArray[j]=y':=by simpa using (List.getElem?_eq_some_iff.mp c7).2
  rw [e1,e2]
  exact jM I n X.A.in1 x y x' y' (hi j x y ex ey) rx ry (by rw [Around.in1_units];omega)
 ·rw [all_range]
  exact ⟨.bl true,H,I,rfl,q⟩
theorem wD{n:Nat}(hu:X.A.units+64<cLine)(hn:n<60:=by decide):aO X (compareOp .NotEq) (p_ X.K n false):=by
 intro pins s σ H x y v u Q I rx ry h
 obtain ⟨a,b,xs,ys,rfl,rfl,h1,h2,hl,hi,q⟩:=h
 cases rx
 cases ry
 obtain ⟨us,r1,t1,_⟩:=I.list h1
 obtain ⟨vs,r2,t2,_⟩:=I.list h2
 have l1:=r1.length
 have l2:=r2.length
 refine SeqAt.RcNeAt.lists (e:=fun _=>true) t1.isList t2.isList (by simp;omega) (by omega) (fun j z1 z2=>?_) _ _ _ _ ?_
 ·have iL:j<us.length:=by simpa using z1
  have iM:j<vs.length:=by simpa using z2
  obtain ⟨x,ex⟩:∃x,xs[j]?=some x:=⟨xs[j],by simp [show j<xs.length by omega]⟩
  obtain ⟨y,ey⟩:∃y,ys[j]?=some y:=⟨ys[j],by simp [show j<ys.length by omega]⟩
  obtain ⟨x',cC,rx⟩:=r1.get ex
  obtain ⟨y',c7,ry⟩:=r2.get ey
  have e1:us.toArray[j]=x':=by simpa using (List.getElem?_eq_some_iff.mp cC).2
  have e2:vs.toArray[j]=y':=by simpa using (List.getElem?_eq_some_iff.mp c7).2
  rw [e1,e2]
  exact jM I n X.A.in1 x y x' y' (hi j x y ex ey) rx ry (by rw [Around.in1_units];omega)
 ·rw [all_range]
  exact ⟨.bl false,H,I,rfl,q⟩
end
section
variable {X:Cx} {N:List Str} {scope:Scope} {cl:List (Str×Addr)} {x:Str} {px pos:Pos} {iter elt:Expr} {ifs:List Expr} {wi:TI} {ρ:St→St} {tt:TT} {te:TE}
theorem wF{y:Str}{py iH:Pos}{i0:Nat}(B:wz X N scope cl x ρ)(hc:X.calm=true)(hN:X.N.Nodup)(lY:X.N[i0]?=some y)(hy:Loc X.env.scope y)(hi:PI X (.Name x px) iter wi)(ht:∀s₃ H₃ fp,dq (X.cj N scope cl x s₃ H₃ fp) ifs tt)(he:∀s₃ H₃ fp,PE (X.cj N scope cl x s₃ H₃ fp) elt te)
  (lZ:swapsWith (.ListComp elt [⟨.Name x px,iter,ifs,0⟩] scope pos) (some (.Name y py)) iH.line X.env=pure true:=by rfl) (hf:X.fn y=true∨X.env.scope.names.lookup y=some .local:=by first | exact .inl rfl | exact .inr rfl | assumption)
  (hs:∀x,foldedSetIterable iter X.env x=pure x:=by intro _;rfl):PS X (.Assign [.Name y py] (.ListComp elt [⟨.Name x px,iter,ifs,0⟩] scope pos) iH) (f9 (cZ wi ρ tt te) (aC i0)):=by
 intro pins s σ H D0 I h
 have h:cZ wi ρ tt te σ H (fun v H1=>D0.nx (σ.set i0 (some v)) H1):=h
 rw [exec_Assign_Name_used _ _ _ _ lZ]
 refine wpAny_bind (wpAny_standAt (wpAny_bind ?_))
 show wpAny _ X.A (do let _ ←comprehension (.ListComp elt [⟨.Name x px,iter,ifs,0⟩] scope pos) scope X.env _ (newList []) false (eval iter X.env) (some (assign (.Name y py) X.env))) _ _ s
 refine wpAny_bind (wpAny_mono (Q:=fun _ s'=>SP X pins D0 .next s') ?_ (fun _ s' hq=>wpAny_pure (wpAny_pure hq)) fun _ _ e=>e)
 refine wpAny_comprehension_free (use:=some (assign (.Name y py) X.env)) rfl hs B.gp B.kind B.names (ar (hi pins s σ H _ I h) fun v s1 h1=>ar h1 fun f_ s2 h2=>?_)
 obtain ⟨it,fp,tn,J,H2,rfl,I2,T,bU,f2,q2⟩:=h2
 have nD:H2 s2.heap.objs.size=none:=I2.ao.fresh (Nat.le_refl _)
 obtain ⟨W,⟨m0,w0⟩,turn⟩:=q2 _ nD
 refine wpAny_newObj_type (wu B.wA B.wB ?_)
 dsimp only
 generalize hD:s2.heap.objs.size=D at nD w0 turn ⊢
 generalize cb:({s2 with heap:=s2.heap.push {cls:=.type "list",dict:=none,data:=.seq ([]:List Value).toArray}}:Shared)=s3
 have I3:Inv X pins σ (upd H2 D (.lst [])) s3:=by
  subst hD cb
  exact I2.laid (t':=s2.toks) (fun b u e=>Heap.get?_push_of_some _ e) (Nat.le_refl _) ⟨Nat.zero_le _,[],_,.nil,Heap.get?_push_size _ rfl⟩
 have e3:s3.heap=s2.heap.push {cls:=.type "list",dict:=none,data:=.seq ([]:List Value).toArray}:=by rw [←cb]
 have bB:∀b o,s2.heap.get? b=some o→s3.heap.get? b=some o:=fun b o e=>by rw [e3];exact Heap.get?_push_of_some _ e
 rw [←e3]
 obtain ⟨h₁,eh⟩:∃h₁,h₁=(s3.heap.push {cls:=.type "dict",data:=.dict #[]}).push {cls:=.type "cell",data:=.cell none}:=⟨_,rfl⟩
 rw [←eh]
 have b3:h₁.Ns s3.heap.objs.size (fun _=>none):=by
  rw [eh]
  exact (Heap.Ns.new s3.heap (.type "dict")).keeps fun b o e=>Heap.get?_push_of_some _ e
 have wG:(s3.heap.push {cls:=.type "dict",data:=.dict #[]}).objs.size=s3.heap.objs.size+1:=Heap.size_push ..
 have wH:h₁.IsCell (s3.heap.objs.size+1) none:=by
  rw [eh,←wG]
  exact ⟨_,Heap.get?_push_size _ rfl,rfl⟩
 have below:∀b o,s3.heap.get? b=some o→b≠s3.heap.objs.size:=fun b o e=>Nat.ne_of_lt (Heap.lt_size e)
 have aY:∀b o,s3.heap.get? b=some o→h₁.get? b=some o:=fun b o e=>by rw [eh];exact Heap.get?_push_of_some _ (Heap.get?_push_of_some _ e)
 have b4:∀b∈fp,∃o,s2.heap.get? b=some o∧∀v,o.data≠.cell v:=T.obj _ _ bU
 have fb:∀b∈fp,b≠D:=fun b hb z=>by
  obtain ⟨o,e,_⟩:=b4 b hb
  rw [z,←hD] at e
  exact absurd (Heap.lt_size e) (Nat.lt_irrefl _)
 have aM:∀y c,cl.lookup y=some c→X.env.cells.lookup y=some c:=fun y c e=>B.sub (y,c) (PySem.mem_of_lookup e)
 have qa:∀y c,cl.lookup y=some c→c<s3.heap.objs.size:=fun y c e=>by
  obtain ⟨v,o,eo,_⟩:=I3.cell y c (aM y c e)
  exact Heap.lt_size eo
 have lk:∀y c,((x,s3.heap.objs.size+1)::cl).lookup y=some c→(y=x∧c=s3.heap.objs.size+1)∨(y≠x∧cl.lookup y=some c):=fun y c e=>by
  by_cases z:y=x
  ·subst z
   rw [List.lookup_cons,beq_self_eq_true] at e
   exact .inl ⟨rfl,(Option.some.inj e).symm⟩
  ·rw [List.lookup_cons,beq_eq_false_iff_ne.mpr z] at e
   exact .inr ⟨z,e⟩
 have qb:∀y c,y≠x→cl.lookup y=some c→((x,s3.heap.objs.size+1)::cl).lookup y=some c:=fun y c z e=>by
  rw [List.lookup_cons,beq_eq_false_iff_ne.mpr z]
  exact e
 have qc:∀b∈fp,b<s3.heap.objs.size:=fun b hb=>by
  obtain ⟨o,e,_⟩:=b4 b hb
  exact Heap.lt_size (bB b o e)
 have ff:=I3.ic
 have c3:(X.cj N scope cl x s3 (upd H2 D (.lst [])) fp).Ok:=by
  refine ⟨I.ok.mod,B.kind,I.ok.glob,I.ok.blt,Nat.le_refl _,fun a b c e1 e2=>?inj,fun y hy=>?has,(fun y c z e=>?eU),(fun _=>I.ok.hd hc),I.ok.frames,.inl rfl,fun b hb=>⟨?_,fun y c e z=>?_⟩,fun b o e=>?_,Nat.le_trans I.ok.cp I3.sz,fun b o e hb=>?_,fun b hb z=>?_,I3.stack,ff⟩
  case inj=>
   rcases lk a c e1 with ⟨z1,wI⟩ | ⟨_,f1⟩ <;> rcases lk b _ e2 with ⟨z2,ec⟩ | ⟨_,qd⟩
   ·rw [z1,z2]
   ·have:=qa _ _ qd
    rw [wI] at this
    exact absurd this (Nat.not_lt.mpr (Nat.le_succ _))
   ·have:=qa _ _ f1
    rw [ec] at this
    exact absurd this (Nat.not_lt.mpr (Nat.le_succ _))
   ·exact I.ok.inj a b c (aM a c f1) (aM b c qd)
  case has=>
   by_cases z:y=x
   ·subst z
    exact ⟨_,by rw [show (compEnvC scope ((y,s3.heap.objs.size+1)::cl) s3.heap.objs.size X.env).cells=(y,s3.heap.objs.size+1)::cl from rfl,List.lookup_cons,beq_self_eq_true]⟩
   ·obtain ⟨c,ec⟩:=B.has y z hy
    exact ⟨c,qb y c z ec⟩
  case eU=>
   have z:y=x:=by simpa using z
   rcases lk y c e with ⟨_,rfl⟩ | ⟨z',_⟩
   ·exact Nat.le_succ _
   ·exact absurd z z'
  ·obtain ⟨o,e,_⟩:=b4 b hb
   exact below b o (bB b o e)
  ·rcases lk y c e with ⟨rfl,rfl⟩ | ⟨_,e⟩
   ·rw [←z] at hb
    exact absurd (qc _ hb) (Nat.not_lt.mpr (Nat.le_succ _))
   ·exact (f2 b hb).2.2.2.2.1 y c (aM y c e) z
  ·exact I3.bs b o e
  ·rcases (f2 b hb).2.2.2.1 with z | z
   ·exact I.ok.d6 b o e z
   ·exact absurd (Nat.lt_of_lt_of_le (Heap.lt_size e) (Nat.le_trans I.ok.cp z)) (Nat.lt_irrefl _)
  ·rcases List.mem_cons.mp (I3.fW b z) with z | z
   ·exact (f2 b hb).2.1 z
   ·exact (f2 b hb).2.2.1 z
 have IB:∀tk:Nat,Inv (X.cj N scope cl x s3 (upd H2 D (.lst [])) fp) [] (none::ρ σ) (upd H2 D (.lst [])) {s3 with heap:=h₁,toks:=tk}:=fun tk=>by
  refine ⟨c3,rfl,I3.bare,Un.kept aY,⟨_,b3,fun j y v e1 e2 e3=>?_⟩,fun y c e=>?_,?_,fun y c e=>?fC,(fun p hp=>nomatch hp),I3.ao.kept aY,?_⟩
  ·cases j with
   | zero=>cases e2
   | succ j=>
    obtain ⟨i,y',a1,a2,a3,a4,a5,a6⟩:=B.gq σ j v e2
    have eF:N[j+1]?=some y:=e1
    rw [eF] at a1
    cases a1
    obtain ⟨m,hn,hl⟩:=I3.loc
    obtain ⟨u,r,l⟩:=hl i y v a2 a3 a4
    refine ⟨u,r,.inr ⟨a6,?_⟩⟩
    have yx:y≠x:=fun z=>by
     have n0:=B.n0
     rw [←z] at n0
     have:=(List.getElem?_inj (List.getElem?_eq_some_iff.mp n0).1 B.nd).mp (n0.trans eF.symm)
     omega
    obtain ⟨c,ec⟩:=B.has y yx a6
    rcases l with ⟨k,_⟩ | ⟨_,c',c4,z⟩
    ·rcases a5 with q | q <;> (rw [k] at q;cases q)
    ·have:=aM y c ec
     rw [this] at c4
     cases c4
     obtain ⟨o,ho,hd⟩:=z
     exact ⟨c,qb y c yx ec,o,aY _ _ ho,hd⟩
  case fC=>
   rcases lk y c e with ⟨rfl,rfl⟩ | ⟨_,e⟩
   ·exact I3.ao.fresh (Nat.le_succ _)
   ·exact I3.cD y c (aM y c e)
  ·rcases lk y c e with ⟨rfl,rfl⟩ | ⟨_,e⟩
   ·exact ⟨none,wH⟩
   ·obtain ⟨v,o,ho,hd⟩:=I3.cell y c (aM y c e)
    exact ⟨v,o,aY _ _ ho,hd⟩
  ·exact I3.ao.fresh (Nat.le_refl _)
  ·show (none::ρ σ).length=N.length
   rw [List.length_cons]
   exact B.len σ I.len
 have fm:∀b o,s3.heap.get? b=some o→b≠s3.heap.objs.size:=below
 have fin:∀{σ':St} {H':Hp} {s':Shared},Inv (X.cj N scope cl x s3 (upd H2 D (.lst [])) fp) [] σ' H' s'→D0.nx (σ.set i0 (some (.ref D))) H'→compPost (model X.prog X.w) X.A X.xe (some (assign (.Name y py) X.env)) (fun _ s'=>SP X pins D0 .next s') (.ref D) s3.heap.objs.size (.ok .next) s':=fun{σ' H' s'} J q=>by
  obtain ⟨m,hn,_⟩:=J.loc
  have hn:s'.heap.Ns s3.heap.objs.size m:=hn
  have JC:H' s3.heap.objs.size=none:=J.free
  have u1:Un (bD X.stack) fp (upd H2 D (.lst [])) H' s3.heap s'.heap:=by
   refine ⟨fun b o e n hb hx=>J.base.keep b o e n hb hx,fun b o e n hb hx=>J.base.slot b o e n hb hx,J.base.free,fun b o e hx=>J.base.there b o e hx,J.base.cL,J.base.cB,J.base.cM⟩
  have IX:Inv X pins σ H' s':=I3.d8 (ch:=fp) (J.os) u1 J.ao J.bare fun b hb=>by
   obtain ⟨g0,g1,g2,g3,g4,g5⟩:=f2 b hb
   exact ⟨g3,g1,g4,g5⟩
  have nl:X.env.locals≠s3.heap.objs.size:=by
   obtain ⟨m3,⟨o3,_,_,e3,_⟩,_⟩:=I3.loc
   exact fm _ _ e3
  have nc:∀z c,X.env.cells.lookup z=some c→c≠s3.heap.objs.size:=fun z c e=>by
   obtain ⟨v3,o3,e3,_⟩:=I3.cell z c e
   exact fm _ _ e3
  refine wpAny_assign_Name (kM (v:=.ref D) IX hN lY hy rfl (fun dM fo fq=>?_) hf)
  obtain ⟨a,fq,ha⟩:=fq
  have na:s3.heap.objs.size≠a:=by
   rcases ha with rfl | e
   ·exact fun z=>nl z.symm
   ·exact fun z=>nc _ _ e z.symm
  refine ⟨m,hn.sameBut fq na,fun h' bL=>⟨σ.set i0 (some (.ref D)),H',?_,q⟩⟩
  have u2:Un (bD X.stack) [s3.heap.objs.size] H' H' dM.heap h':=by
   refine ⟨fun b o e n hb hx=>(bL.2 b (by simpa using hx)).trans e,fun b o e n hb hx=>⟨o.slots,(bL.2 b (by simpa using hx)).trans e⟩,fun b o e n hx=>n,fun b o e hx=>⟨o,(bL.2 b (by simpa using hx)).trans e⟩,fun b xs z=>z,fun b o u z=>z,fun b ps z=>⟨#[],by simpa using z⟩⟩
  have fg:aQ X.prog X.w H' h':=fun b u e=>by
   refine (fo.ao b u e).cX (fun c v hc z=>(bL.2 c fun y=>?_).trans z) (fun _ z=>z) fun _ _ z=>z
   have y':c=s3.heap.objs.size:=y
   rcases hc with hc | hc
   ·rw [←hc,y',JC] at e
    cases e
   ·rw [y',JC] at hc
    cases hc
  refine fo.d8 (s':={dM with heap:=h'}) (ch:=[s3.heap.objs.size]) rfl u2 fg fo.bare fun b hb=>?_
  have eb:b=s3.heap.objs.size:=by simpa using hb
  subst eb
  refine ⟨.inr I3.sz,fun z=>nl z.symm,fun z c e=>nc z c e,fun p hp=>?_⟩
  exact fm _ _ (I3.pin p hp).1
 have bH:∀{H':Hp},(∀b∈fp,H' b=none)→∀b∈fp,dg (X.cj N scope cl x s3 (upd H2 D (.lst [])) fp) [] H' b:=fun hn b hb=>by
  refine ⟨hn b hb,?_,?_,.inl hb,fun y c e z=>?sc,fun p hp=>nomatch hp⟩
  case sc=>
   rcases lk y c e with ⟨rfl,rfl⟩ | ⟨_,e⟩
   ·rw [←z] at hb
    exact absurd (qc _ hb) (Nat.not_lt.mpr (Nat.le_succ _))
   ·exact (f2 b hb).2.2.2.2.1 y c (aM y c e) z
  ·obtain ⟨o,e,_⟩:=b4 b hb
   exact below b o (bB b o e)
  ·exact c3.d7 b hb
 have loop:∀tk:Nat,codeAny (model X.prog X.w) X.A (.compLoop (.ListComp elt [⟨.Name x px,iter,ifs,0⟩] scope pos) 0 (.ref it) (.ref D) (compEnvC scope ((x,s3.heap.objs.size+1)::cl) s3.heap.objs.size X.env))
   (compPost (model X.prog X.w) X.A X.xe (some (assign (.Name y py) X.env)) (fun _ s'=>SP X pins D0 .next s') (.ref D) s3.heap.objs.size) {s3 with heap:=h₁,toks:=tk}:=fun tk=>by
  refine codeAny_compLoop_tests (fun n s'=>∃i ys o H',Inv (X.cj N scope cl x s3 (upd H2 D (.lst [])) fp) [] (o::ρ σ) H' s'∧tn i s'.heap∧(∀b∈fp,H' b=none)∧W i n ys H') ?_ m0
   ⟨0,[],none,_,IB tk,T.keep _ _ _ bU fun b hb o e=>aY _ _ (bB _ _ e),fun b hb=>by rw [aD (fb b hb)];exact (f2 b hb).1,w0⟩
  rintro n s4 ⟨i,ys,o,H4,I4,c5,c6,w4⟩
  obtain ⟨lT,fh⟩:=turn i n ys H4 w4
  rcases fh with ⟨stop,qn⟩ | ⟨go,step⟩
  ·refine wpAny_mono (T.done (X.cj N scope cl x s3 (upd H2 D (.lst [])) fp) rfl rfl rfl hc i [] s4 _ H4 (fun _ _=>False) I4 (bH c6) c5 stop) (fun r s5 ⟨hr,I5⟩=>?_) fun _ _ z=>z.elim
   subst hr
   exact fin I5 qn
  ·refine wpAny_mono (T.item (X.cj N scope cl x s3 (upd H2 D (.lst [])) fp) rfl rfl rfl hc i [] s4 _ H4 (fun _ _=>False) I4 (bH c6) c5 go) (fun r s5 ⟨u,hr,h5⟩=>?_) fun _ _ z=>z.elim
   subst hr
   have z:letOwnedTupleGo (.Name x px) (.ref it) u=pure ():=rfl
   rw [z] at h5
   show wpAny _ _ ((pure ():Sem Unit) >>= fun _=>assign (.Name x px) (compEnvC scope ((x,s3.heap.objs.size+1)::cl) s3.heap.objs.size X.env) u) _ _ s5
   refine wpAny_bind (wpAny_mono h5 (fun _ s5 ⟨y,H5,I5,r5,y5,bI,dH⟩=>?_) fun _ _ z=>z.elim)
   have dI:=I5.pinned (bH dH) (T.obj _ _ bI)
   have pg:PG (X.cj N scope cl x s3 (upd H2 D (.lst [])) fp) (.Name x px) (aC 0):=bY (i:=0) B.nd B.n0 (.inr B.wC) (.inl (by show (x == x)=true;simp))
   have again:∀{σ7:St} {H7:Hp} {s7:Shared},Inv (X.cj N scope cl x s3 (upd H2 D (.lst [])) fp) ([]++cP fp s5.heap) σ7 H7 s7→Inv (X.cj N scope cl x s3 (upd H2 D (.lst [])) fp) [] σ7 H7 s7∧tn (i+1) s7.heap∧∀b∈fp,H7 b=none:=fun{σ7 H7 s7} I7=>by
    refine ⟨I7.eZ,T.keep _ _ _ bI fun b hb o e=>(I7.pin (b,o) (List.mem_append_right _ (List.mem_append_right _ (dh hb e)))).1,fun b hb=>?_⟩
    obtain ⟨o,e,d⟩:=T.obj _ _ bI b hb
    exact (I7.pin (b,o) (List.mem_append_right _ (List.mem_append_right _ (dh hb e)))).2.1
   refine wpAny_mono (pg _ s5 _ H5 y u (fun σ2 H6=>σ2=some y::ρ σ∧H6=H5) dI r5 ⟨rfl,rfl⟩) (fun _ s6 ⟨σ6,H6,I6,q6⟩=>?_) fun _ _ z=>z.elim
   obtain ⟨rfl,rfl⟩:=q6
   have fi:=step y _ y5
   have tests:∀{cf:TT},dq (X.cj N scope cl x s3 (upd H2 D (.lst [])) fp) ifs cf→∀{R:Bool→Hp→Prop},cf (some y::ρ σ) H6 R→wpAny (model X.prog X.w) X.A
     (forIn ifs true fun c r=>if r=true then do let ok ←isTrue c (compEnvC scope ((x,s3.heap.objs.size+1)::cl) s3.heap.objs.size X.env) (eval c (compEnvC scope ((x,s3.heap.objs.size+1)::cl) s3.heap.objs.size X.env));pure (ForInStep.yield ok) else pure (ForInStep.yield r))
     (fun ok s7=>∃H7,Inv (X.cj N scope cl x s3 (upd H2 D (.lst [])) fp) ([]++cP fp s5.heap) (some y::ρ σ) H7 s7∧R ok H7) (fun _ _=>False) s6:=fun{cf} p {R} hR=>by
    cases p with
    | nil=>exact wpAny_tests_nil ⟨_,I6,hR⟩
    | one p=>exact wpAny_tests_one (p _ s6 _ _ _ I6 hR)
   refine wpAny_mono (tests (ht s3 _ fp) fi) (fun ok s7 ⟨H7,I7,q7⟩=>?_) fun _ _ z=>z.elim
   cases ok with
   | false=>
    obtain ⟨m',cg,w7⟩:=q7
    obtain ⟨a1,a2,a3⟩:=again I7
    exact ⟨m',cg,i+1,ys,_,H7,a1,a2,a3,w7⟩
   | true=>
    refine wpAny_mono (he s3 _ fp _ s7 _ H7 _ I7 q7) (fun ev s8 ⟨z,H8,I8,r8,fj,hz,m',cg,w8⟩=>?_) fun _ _ z=>z.elim
    refine wpAny_mono (cQ (X:=X.cj N scope cl x s3 (upd H2 D (.lst [])) fp) _ s8 _ H8 (.ref D) [z] (.ref D) [ev] (fun _ H9=>H9=upd H8 D (.lst (ys++[z]))) I8 rfl (.cons r8 .nil) ⟨D,ys,z,rfl,rfl,fj,hz,rfl⟩) (fun _ s9 ⟨_,H9,I9,_,q9⟩=>?_) fun _ _ z=>z.elim
    subst q9
    obtain ⟨a1,a2,a3⟩:=again I9
    exact ⟨m',cg,i+1,ys++[z],_,_,a1,a2,a3,w8⟩
 have start:=loop s3.toks
 have es:({s3 with heap:=h₁,toks:=s3.toks}:Shared)={s2 with heap:=h₁}:=by rw [←cb]
 rw [es] at start
 exact codeAny_compStart_list start (T.self _ 0 _ _ _ (T.keep _ _ _ bU fun b hb o e=>aY _ _ (bB _ _ e)) start)
end
theorem wJ{wi:TI}{ρ:St→St}{te:TE}{σ:St}{H:Hp}{Q:VK}{xs:List V}(cI:∀R:It→Hp→Prop,(∀J H1,ag H H1→fk J xs H1→R J H1)→wi σ H R)(hn:xs.length<sizeLine)
  (P:Addr→Nat→V→Hp→Prop) (mono:∀D i y H H' ys,P D i y H→H D=some (.lst ys)→(∀b o,b≠D→H b=some o→H' b=some o)→P D i y H')
  (step:∀D i x,xs[i]?=some x→∀(Hc:Hp) (R:VK),ag H Hc→(∃ys,Hc D=some (.lst ys))→(∀y H3,ag Hc H3→P D i y H3→R y H3)→te (some x::ρ σ) Hc R)
  (fin:∀D ys Hc,H D=none→ag H Hc→ys.length=xs.length→(∀(i:Nat) (y:V),ys[i]?=some y→P D i y Hc)→Hc D=some (.lst ys)→Q (.ref D) Hc):cZ wi ρ (fun _ H Q=>Q true H) te σ H Q:=by
 refine cI _ fun J H1 s1 js=>?_
 intro D nD
 have hD:H D=none:=by
  cases e:H D with
  | none=>rfl
  | some o=>rw [s1 _ _ e] at nD;cases nD
 exact pU (ρσ:=ρ σ) (te:=te) (Q:=Q) js nD hn (P D) (mono D) (fun i x hx Hc R sc=>step D i x hx Hc R (s1.trans sc)) (fun ys Hc sc=>fin D ys Hc hD (s1.trans sc))
section
variable {X:Cx} {K:PySem.W.Frag}
theorem l8(hK:X.K=K:=by rfl):iy X (o7 K):=by
 subst hK
 exact eC
theorem wK(hK:X.K=K:=by rfl):iy X (o6 K):=by
 subst hK
 exact aT
theorem wL{tg l:Expr}{tl:TE}(hl:PE X l tl)(hK:X.K=K:=by rfl):PI X tg l (oB K tl):=by
 subst hK
 exact ee hl
end
end L2
namespace My
open PySem L2
theorem wM{r:List V→Hp→VK→Prop}{te:TE}{σ:St}{H:Hp}{Q:VK}(h:te σ H fun x H1=>r [x] H1 Q):lG r (lE te iu) σ H Q:=h
theorem qe{te:TE}{D:Ends}{σ:St}{H:Hp}(h:te σ H D.rt):ou te D σ H:=h
theorem none_of{H H':Hp}{b:Addr}(s:ag H H')(h:H' b=none):H b=none:=by
 cases e:H b with
 | none=>rfl
 | some o=>rw [s _ _ e] at h;cases h
theorem getD_at{α:Type}{xs:List α}{d:α}{i:Nat}(hi:i<xs.length):xs.getD i d=xs[i]:=by
 rw [List.getD_eq_getElem?_getD,show xs[i]?=some xs[i] by simp [hi]]
 rfl
def er(P:Addr)(H:Hp):Hp:=fun b=>if b=P then none else H b
theorem iN{P:Addr}{H:Hp}:ag (er P H) H:=fun b o e=>by
 unfold er at e
 split at e
 ·cases e
 ·exact e
theorem bM{P b:Addr}{H:Hp}(h:b≠P):er P H b=H b:=if_neg h
theorem l9{P b:Addr}{H:Hp}{o:HO}(h:b≠P)(e:H b=some o):er P H b=some o:=by rw [bM h];exact e
theorem jN{P:Addr}{H H':Hp}(s:ag H H'):ag (er P H) (er P H'):=fun b o e=>by
 unfold er at e ⊢
 split at e
 ·cases e
 ·rename_i h
  rw [if_neg h]
  exact s _ _ e
theorem qf{P:Addr}{H:Hp}{o:HO}:er P (upd H P o)=er P H:=funext fun b=>by
 unfold er
 split
 ·rfl
 ·rename_i h
  exact aD h
def aF(H:Hp)(P a:Addr):Prop:=∃x y:Int,H P=some (.lst [.ref a,.int x,.int y])∧0≤x∧0≤y
theorem aF.mono{H H':Hp}{P a:Addr}(h:aF H P a)(s:ag H H'):aF H' P a:=by
 obtain ⟨x,y,e,h1,h2⟩:=h
 exact ⟨x,y,s _ _ e,h1,h2⟩
theorem aF.upd{H:Hp}{P a D:Addr}{o:HO}(h:aF H P a)(n:D≠P):aF (L2.upd H D o) P a:=by
 obtain ⟨x,y,e,h1,h2⟩:=h
 exact ⟨x,y,by rw [aD n.symm];exact e,h1,h2⟩
theorem aF.ne{H:Hp}{P a D:Addr}(h:aF H P a)(n:H D=none):D≠P:=fun z=>by
 obtain ⟨x,y,e,_⟩:=h
 rw [z,e] at n
 cases n
def aj(P:Addr)(H H':Hp):Prop:=ag (er P H) (er P H')
theorem aj.refl{P:Addr}(H:Hp):aj P H H:=ag.refl _
theorem aj.trans{P:Addr}{H H' H2:Hp}(s:aj P H H')(t:aj P H' H2):aj P H H2:=ag.trans s t
theorem aj.of{P:Addr}{H H':Hp}(s:ag H H'):aj P H H':=jN s
theorem aj.dr{P:Addr}{H:Hp}{o:HO}:aj P H (upd H P o):=by
 unfold aj
 rw [qf]
 exact ag.refl _
theorem aj.but{P D:Addr}{H H':Hp}{o:HO}(s:aj P H H')(n:H D=none):aj P H (upd H' D o):=fun b u e=>by
 have e0:=s b u e
 have nb:b≠P:=fun z=>by unfold er at e;rw [if_pos z] at e;cases e
 rw [bM nb] at e e0 ⊢
 rw [aD (da e n)]
 exact e0
theorem aj.at{P b:Addr}{H H':Hp}{o:HO}(s:aj P H H')(nb:b≠P)(e:H b=some o):H' b=some o:=by
 have z:=s b o (l9 nb e)
 rw [bM nb] at z
 exact z
end My
namespace L2
open PySem PySem.Spec PyProof.Rows
end L2
namespace My
open PySem L2
def wN:Sp:=fun vs H Q _=>∃c a:Int,vs=[.int c,.int a]∧0≤a∧∀r:Int,0≤r→Q (.int r) H
def wO(K:PySem.W.Frag):Sp:=fun vs H Q _=>∃(P a:Addr) (ns:List Int) (many:Int),vs=[.ref P,.int many]∧aF H P a∧av K (er P H) a (ns.map V.int)∧1≤many∧a9 many∧∀(r:Int) (H':Hp),0≤r→r<many→aj P H H'→aF H' P a→Q (.int r) H'
end My
namespace L2
open PySem PySem.Spec PyProof.Rows
end L2
namespace My
open PySem L2
end My
namespace L2
open PySem PySem.Spec PyProof.Rows
section
variable {X:Cx}
end
end L2
namespace My
open PySem L2
end My
namespace L2
open PySem PySem.Spec PyProof.Rows
section
variable {X:Cx} {tg:Expr}
end
theorem qg(ae:List Value):∀(L:List Nat),(∀x∈L,x<ae.length)→L.filterMap (fun x=>ae.toArray[x]?)=L.map fun x=>ae.getD x .none
 | [],_=>rfl
 | x::L,h=>by
  have hx:=h x List.mem_cons_self
  rw [List.filterMap_cons_some (b:=ae.getD x .none),List.map_cons,qg ae L fun y hy=>h y (List.mem_cons_of_mem _ hy)]
  rw [List.getD_eq_getElem?_getD,show ae[x]?=some ae[x] by simp [hx]]
  simp [hx]
theorem wQ(ae:List Value):slicePick ae.toArray none none (some (-1))=ae.reverse.toArray:=by
 unfold slicePick
 have e:sliceRange (sliceBounds none none (some (-1)) ae.toArray.size).fst (sliceBounds none none (some (-1)) ae.toArray.size).snd.fst (sliceBounds none none (some (-1)) ae.toArray.size).snd.snd=(List.range ae.length).map fun k=>ae.length-1-k:=by
  simp only [sliceBounds,Option.getD_some,show ¬((-1:Int)>0) by decide,if_false,List.size_toArray]
  unfold sliceRange
  simp only [show ¬((-1:Int)>0) by decide,if_false]
  have c:(if (ae.length:Int)-1 > -1 then ((ae.length:Int)-1 - -1 - -1-1) / - -1 else 0).toNat=ae.length:=by
   split
   ·rw [show (- -1:Int)=1 from rfl,Int.ediv_one]
    omega
   ·omega
  rw [c]
  refine List.map_congr_left fun k hk=>?_
  omega
 rw [e,qg ae _ fun x hx=>?_]
 ·congr 1
  rw [List.map_map]
  refine List.ext_getElem (by simp) fun k h1 h2=>?_
  rw [List.getElem_map,List.getElem_range,List.getElem_reverse]
  have hk:ae.length-1-k<ae.length:=by simp at h2;omega
  show ae.getD (ae.length-1-k) .none=_
  rw [List.getD_eq_getElem?_getD,show ae[ae.length-1-k]?=some ae[ae.length-1-k] by simp [hk]]
  rfl
 ·obtain ⟨k,hk,rfl⟩:=List.mem_map.mp hx
  have:=List.mem_range.mp hk
  omega
theorem Vals.rev{xs:List V}{us:List Value}(h:Vals xs us):Vals xs.reverse us.reverse:=by
 have hl:=h.length
 refine lU (by simp [hl]) fun i x u h1 h2=>?_
 have hi:i<xs.length:=by simpa using (List.getElem?_eq_some_iff.mp h1).1
 rw [List.getElem?_reverse hi] at h1
 rw [List.getElem?_reverse (by omega),←hl] at h2
 obtain ⟨u',e,r⟩:=h.get h1
 rw [h2] at e
 cases e
 exact r
section
variable {X:Cx} {e:Expr} {te:TE} {pos p2:Pos}
def wR(K:PySem.W.Frag)(te ts:TE):TE:=fun σ H Q=>te σ H fun x H1=>ts σ H1 fun y H2=>y=.int (-1)∧∃a xs,x=.ref a∧av K H2 a xs∧∀p,H2 p=none→Q (.ref p) (upd H2 p (.lst xs.reverse))
theorem wU{st:Expr}{ts:TE}(he:PE X e te)(k4:PE X st ts):PE X (.Subscript e (.Slice none none (some st) p2) pos) (wR X.K te ts):=by
 intro pins s σ H Q I h
 refine Subscript_ (ar (he pins s σ H _ I h) fun v s1 ⟨x,H1,I1,r1,q1⟩=>?_)
 refine wpAny_Slice ?_
 rw [evalPart_none]
 refine wpAny_pure ?_
 refine wpAny_pure ?_
 rw [evalPart_some]
 refine ar (k4 pins s1 σ H1 _ I1 q1) fun u s3 ⟨y,H3,I3,r3,q3⟩=>?_
 obtain ⟨rfl,a,xs,rfl,hx,q⟩:=q3
 obtain ⟨t,rfl⟩:=r3
 cases r1
 have I4:Inv X pins σ H3 {s3 with heap:=s3.heap.push {cls:=.type "slice",data:=.fields #[.none,.none,.int (-1) t]}}:=I3.kept (t':=s3.toks) fun b ob q=>Heap.get?_push_of_some _ q
 obtain ⟨ae,r,ht,hz⟩:=I4.list hx
 have hlen:=r.length
 show wpAny (model X.prog X.w) X.A (subscriptTail e (.Slice none none (some st) p2) (.ref a) (.ref s3.heap.objs.size)) (EP X pins σ Q) X.xe {s3 with heap:=s3.heap.push {cls:=.type "slice",data:=.fields #[.none,.none,.int (-1) t]}}
 refine tail_any (ops:=[.ref a,.ref s3.heap.objs.size]) ht.isList.typeIs slot_list_getitem.lookup ?_ (by with_unfolding_all rfl)
 refine wpAny_getItem_list_slice ht.isList (Heap.IsSliceOf.new ..) .none .none (.int (-1) t) (by simp) ?_ (by rw [List.size_toArray] <;> omega)
 rw [wQ]
 refine ⟨.ref (s3.heap.push {cls:=.type "slice",data:=.fields #[.none,.none,.int (-1) t]}).objs.size,_,I4.laid (t':=s3.toks) (o:=.lst xs.reverse) (fun b ob q=>Heap.get?_push_of_some _ q) (Nat.le_refl _) ?_,rfl,q _ (I4.ao.fresh (Nat.le_refl _))⟩
 exact ⟨by rw [List.length_reverse];exact hz,_,0,r.rev,Heap.get?_push_size _ rfl⟩
end
end L2
namespace My
open PySem L2
theorem wV{wi:TI}{ρ:St→St}{te:TE}{σ:St}{H:Hp}{Q:VK}{xs:List V}{n:Nat}(hl:xs.length=n)(cI:∀R:It→Hp→Prop,(∀J H1,ag H H1→fk J xs H1→R J H1)→wi σ H R)(hn:n<sizeLine)
  (P:Addr→Nat→Addr→Hp→Prop) (mono:∀D i y H H' ys,P D i y H→y≠D→H D=some (.lst ys)→(∀b o,b≠D→H b=some o→H' b=some o)→P D i y H')
  (step:∀D (i:Nat) (x:V),xs[i]?=some x→∀(Hc:Hp) (R:VK),ag H Hc→(∃ys,Hc D=some (.lst ys))→(∀y H3,ag Hc H3→Hc y=none→(∃o,H3 y=some o)→P D i y H3→R (.ref y) H3)→te (some x::ρ σ) Hc R)
  (fin:∀D (A:Nat→Addr) Hc,H D=none→ag H Hc→(∀i j,i<n→j<n→A i=A j→i=j)→(∀i,i<n→P D i (A i) Hc∧A i≠D)→Hc D=some (.lst ((List.range n).map fun i=>V.ref (A i)))→Q (.ref D) Hc):cZ wi ρ (fun _ H Q=>Q true H) te σ H Q:=by
 refine cI _ fun J H1 s1 js=>?_
 intro D nD
 have hD:H D=none:=by
  cases e:H D with
  | none=>rfl
  | some o=>rw [s1 _ _ e] at nD;cases nD
 refine ⟨fun i m ys Hc=>m=n-i∧i≤n∧Hc D=some (.lst ys)∧ag H1 Hc∧∃A:Nat→Addr,ys=(List.range i).map (fun j=>V.ref (A j))∧(∀a b,a<i→b<i→A a=A b→a=b)∧∀j,j<i→P D j (A j) Hc∧A j≠D∧∃o,Hc (A j)=some o,⟨_,rfl,Nat.zero_le _,ak,cz (ag.refl H1) nD,fun _=>D,rfl,(fun a b h=>by omega),fun j h=>by omega⟩,?_⟩
 rintro i m ys Hc ⟨rfl,hi,eD,sH,A,rfl,inj,hA⟩
 refine ⟨eD,?_⟩
 by_cases aG:i<n
 ·refine .inr ⟨js.go i Hc sH (by omega),fun x H' hy=>?_⟩
  obtain ⟨rfl,hx⟩:=js.bu i Hc x H' sH hy
  rw [if_pos rfl]
  refine step D i x (hx (by omega)) _ _ (s1.trans sH) ⟨_,eD⟩ fun y H3 s3 ny ⟨o,ho⟩ hp=>?_
  have e3:=s3 _ _ eD
  have yD:y≠D:=fun e=>by rw [e,eD] at ny;cases ny
  have b5:∀b o,b≠D→H3 b=some o→upd H3 D (.lst ((List.range i).map (fun j=>V.ref (A j))++[.ref y])) b=some o:=fun b o nb e=>by rw [aD nb];exact e
  have nA:∀j,j<i→A j≠y:=fun j hj e=>by
   obtain ⟨_,_,o',h'⟩:=hA j hj
   rw [e,ny] at h'
   cases h'
  refine ⟨e3,by simp;omega,n-(i+1),by omega,rfl,aG,ak,cz (sH.trans s3) nD,fun j=>if j=i then y else A j,?_,fun a b ha hb e=>?_,fun j hj=>?_⟩
  ·rw [List.range_succ,List.map_append]
   congr 1
   ·refine List.map_congr_left fun j hj=>?_
    dsimp only
    rw [if_neg (by have:=List.mem_range.mp hj;omega)]
   ·simp
  ·dsimp only at e
   by_cases z1:a=i
   ·by_cases z2:b=i
    ·omega
    ·rw [if_pos z1,if_neg z2] at e
     exact absurd e.symm (nA b (by omega))
   ·by_cases z2:b=i
    ·rw [if_neg z1,if_pos z2] at e
     exact absurd e (nA a (by omega))
    ·rw [if_neg z1,if_neg z2] at e
     exact inj a b (by omega) (by omega) e
  ·dsimp only
   by_cases z:j=i
   ·rw [if_pos z,z]
    exact ⟨mono D i y H3 _ _ hp yD e3 b5,yD,o,b5 _ _ yD ho⟩
   ·rw [if_neg z]
    obtain ⟨h1,h2,o',h3⟩:=hA j (by omega)
    exact ⟨mono D j (A j) H' _ _ h1 h2 eD (fun b o nb e=>b5 b o nb (s3 _ _ e)),h2,o',b5 _ _ h2 (s3 _ _ h3)⟩
 ·have e:i=n:=by omega
  subst e
  exact .inl ⟨js.stop _ Hc sH (by omega),fin D A Hc hD (s1.trans sH) inj (fun j hj=>⟨(hA j hj).1,(hA j hj).2.1⟩) eD⟩
end My
namespace L2
open PySem PySem.Spec PyProof.Rows
theorem wW{xs ys:List Int}(h:xs.length=ys.length):((List.range xs.length).all fun j=>bK (.int (xs.getD j 0)) (.int (ys.getD j 0)))=decide (xs=ys):=by
 by_cases e:xs=ys
 ·subst e
  rw [decide_eq_true rfl,List.all_eq_true]
  intro j _
  exact l7 rfl
 ·rw [decide_eq_false e]
  cases z:((List.range xs.length).all fun j=>bK (.int (xs.getD j 0)) (.int (ys.getD j 0))) with
  | false=>rfl
  | true=>
   refine absurd (List.ext_getElem h fun j h1 h2=>?_) e
   have:=List.all_eq_true.mp z j (List.mem_range.mpr h1)
   have this:(xs.getD j 0 == ys.getD j 0)=true:=this
   rw [beq_iff_eq,List.getD_eq_getElem?_getD,List.getD_eq_getElem?_getD] at this
   simpa [h1,h2] using this
end L2
namespace My
open PySem L2
end My
namespace L2
open PySem PySem.Spec PyProof.Rows
theorem wX{X:Cx}{K:PySem.W.Frag}(hK:X.K=K:=by rfl):lI X (lJ K):=by
 subst hK
 exact dS
end L2
namespace My
open PySem L2
end My
namespace L2
open PySem PySem.Spec PyProof.Rows
section
variable {X:Cx}
end
end L2
namespace My
open PySem L2
end My
namespace L2
open PySem PySem.Spec PyProof.Rows
end L2
namespace My
open PySem L2
end My
namespace L2
open PySem PySem.Spec PyProof.Rows
section
variable {X:Cx} {N:List Str} {scope:Scope} {cl:List (Str×Addr)} {x y:Str} {px py pos tp:Pos} {iK:Nat} {iter elt:Expr} {ifs:List Expr} {wi:TI} {ρ:St→St} {tt:TT} {te:TE}
end
section
variable {X:Cx} {pins:List (Addr×Obj)} {σ:St} {H:Hp} {s:Shared}
end
end L2
namespace My
open PySem PySem.W PyProof.Rows
def KH{α:Type}(n:Nat)(c:Nat→Int):KasT α→(α→Prop)→Prop
 | .ret a,Q=>Q a
 | .ask i j k,Q=>i<n∧j<n∧KH n c (k (decide (c i<c j))) Q
section
variable {n:Nat} {c:Nat→Int}
theorem KH.bind{α β:Type}{f:α→KasT β}{Q:β→Prop}:∀(t:KasT α),KH n c t (fun a=>KH n c (f a) Q)→KH n c (t.bind f) Q
 | .ret _,h=>h
 | .ask _ _ k,h=>⟨h.1,h.2.1,KH.bind (k _) h.2.2⟩
theorem KH.wp{α:Type}{cmp:Nat→Nat→(Bool→Shared→Prop)→Shared→Prop}{s:Shared}(hc:∀i j (C:Bool→Shared→Prop),i<n→j<n→C (decide (c i<c j)) s→cmp i j C s){Q:α→Shared→Prop}:∀(t:KasT α),KH n c t (fun a=>Q a s)→t.kasWp cmp Q s
 | .ret _,h=>h
 | .ask i j k,h=>hc i j _ h.1 h.2.1 (KH.wp hc (k _) h.2.2)
def aN(n:Nat)(p:Array Nat):Prop:=p.Perm (List.toArray (List.range n))
theorem aN.size{p:Array Nat}(h:aN n p):p.size=n:=by
 rw [Array.Perm.size_eq h]
 simp
theorem aN.lt{p:Array Nat}(h:aN n p){i:Nat}(hn:0<n):p.getD i 0<n:=by
 by_cases z:i<p.size
 ·have e:p.getD i 0=p[i]:=by simp [Array.getD,z]
  rw [e]
  have m:p[i]∈(List.toArray (List.range n)):=(Array.Perm.mem_iff h).mp (Array.getElem_mem z)
  simpa using m
 ·have e:p.getD i 0=0:=by simp [Array.getD,z]
  omega
def vN(c:Nat→Int)(p:Array Nat)(i:Nat):Int:=c (p.getD i 0)
theorem iO(p:Array Nat)(i:Nat):p.getD i 0=p[i]?.getD 0:=by
 by_cases z:i<p.size <;> simp [Array.getD,z]
theorem l_{p:Array Nat}{i j:Nat}(hj:j≤p.size)(k:Nat):vN c (kas_rev p i j) k=if i≤k∧k<j then vN c p (i+j-1-k) else vN c p k:=by
 have e:=getElem?_mirror_all (i:=i) hj k
 unfold vN kas_rev
 rw [iO,e]
 split <;> rw [iO]
theorem aN.rev{p:Array Nat}(h:aN n p)(i j:Nat):aN n (kas_rev p i j):=Array.Perm.trans (mirror_perm p i j _) h
theorem aN.wY{p:Array Nat}(h:aN n p)(k d:Nat):aN n (bubble p k d):=Array.Perm.trans (bubble_perm p k d) h
def ba(c:Nat→Int)(p:Array Nat)(k:Nat):Prop:=∀a b,a≤b→b<k→vN c p a≤vN c p b
def dt(c:Nat→Int)(p:Array Nat)(k:Nat):Prop:=∀a b,a≤b→b<k→vN c p b≤vN c p a
theorem ba.one(p:Array Nat):ba c p 1:=fun a b h1 h2=>by
 obtain rfl:a=b:=by omega
 exact Int.le_refl _
theorem ba.more{p:Array Nat}{k:Nat}(h:ba c p k)(hk:vN c p (k-1)≤vN c p k)(k1:1≤k):ba c p (k+1):=fun a b h1 h2=>by
 by_cases z:b<k
 ·exact h a b h1 z
 ·obtain rfl:b=k:=by omega
  by_cases y:a=b
  ·rw [y];exact Int.le_refl _
  ·exact Int.le_trans (h a (b-1) (by omega) (by omega)) hk
theorem dt.more{p:Array Nat}{k:Nat}(h:dt c p k)(hk:vN c p k≤vN c p (k-1))(k1:1≤k):dt c p (k+1):=fun a b h1 h2=>by
 by_cases z:b<k
 ·exact h a b h1 z
 ·obtain rfl:b=k:=by omega
  by_cases y:a=b
  ·rw [y];exact Int.le_refl _
  ·exact Int.le_trans hk (h a (b-1) (by omega) (by omega))
theorem ma{p:Array Nat}(P:aN n p)(n0:0<n){Q:Nat→Prop}:∀(f m:Nat),1≤m→ba c p m→(∀k,m≤k→k≤m+f→ba c p k→(k<m+f→vN c p k<vN c p (k-1))→Q k)→KH n c (kas_asc p f m) Q
 | 0,m,_,hu,k=>k m (Nat.le_refl _) (Nat.le_refl _) hu fun z=>absurd z (Nat.lt_irrefl _)
 | f+1,m,m1,hu,k=>by
  refine ⟨P.lt n0,P.lt n0,?_⟩
  by_cases z:c (p.getD m 0)<c (p.getD (m-1) 0)
  ·rw [decide_eq_true z]
   dsimp only
   rw [if_pos rfl]
   exact k m (Nat.le_refl _) (by omega) hu fun _=>z
  ·rw [decide_eq_false z]
   dsimp only
   rw [if_neg (by simp)]
   refine ma P n0 f (m+1) (by omega) (hu.more (Int.not_lt.mp z) m1) fun j h1 h2 h3 h4=>k j (by omega) (by omega) h3 fun z=>h4 (by omega)
def iP(c:Nat→Int)(p:Array Nat)(a b:Nat):Prop:=∀i,a≤i→i<b→vN c p i=vN c p a
theorem md{p:Array Nat}{i j:Nat}(hj:j≤p.size)(h:iP c p i j)(k:Nat):vN c (kas_rev p i j) k=vN c p k:=by
 rw [l_ hj]
 split
 ·rw [h _ (by omega) (by omega),h k (by omega) (by omega)]
 ·rfl
theorem jO(n0:0<n){Q:Array Nat×Nat×Nat→Prop}:∀(f:Nat) (p:Array Nat) (m q:Nat),aN n p→1≤m→m+f≤n→q+1≤m→dt c p m→iP c p (m-(q+1)) m→(∀p' k q',aN n p'→m≤k→k≤m+f→q'+1≤k→dt c p' k→iP c p' (k-(q'+1)) k→Q (p',k,q'))→KH n c (kas_desc f p m q) Q
 | 0,p,m,q,P,_,_,hq,hd,he,k=>k p m q P (Nat.le_refl _) (Nat.le_refl _) hq hd he
 | f+1,p,m,q,P,m1,hm,hq,hd,he,k=>by
  refine ⟨P.lt n0,P.lt n0,?_⟩
  have sz:=P.size
  have one:∀(p:Array Nat),iP c p (m+1-(0+1)) (m+1):=fun p i h1 h2=>by
   obtain rfl:i=m+1-(0+1):=by omega
   rfl
  by_cases z:c (p.getD m 0)<c (p.getD (m-1) 0)
  ·rw [decide_eq_true z]
   dsimp only
   rw [if_pos rfl]
   split
   ·rename_i q0
    have same:=md (c:=c) (p:=p) (i:=m-(q+1)) (j:=m) (by omega) he
    refine jO n0 f _ (m+1) 0 (P.rev _ _) (by omega) (by omega) (by omega) ?_ (one _) fun p' j q' a1 a2 a3 a4 a5 a6=>k p' j q' a1 (by omega) (by omega) a4 a5 a6
    refine dt.more (fun a b h1 h2=>?_) ?_ m1
    ·rw [same,same]
     exact hd a b h1 h2
    ·rw [same,same]
     exact Int.le_of_lt z
   ·exact jO n0 f p (m+1) 0 P (by omega) (by omega) (by omega) (hd.more (Int.le_of_lt z) m1) (one _) fun p' j q' a1 a2 a3 a4 a5 a6=>k p' j q' a1 (by omega) (by omega) a4 a5 a6
  ·rw [decide_eq_false z]
   dsimp only
   rw [if_neg (by simp)]
   refine ⟨P.lt n0,P.lt n0,?_⟩
   by_cases y:c (p.getD (m-1) 0)<c (p.getD m 0)
   ·rw [decide_eq_true y]
    dsimp only
    rw [if_pos rfl]
    exact k p m q P (Nat.le_refl _) (by omega) hq hd he
   ·rw [decide_eq_false y]
    dsimp only
    rw [if_neg (by simp)]
    have e:vN c p m=vN c p (m-1):=Int.le_antisymm (Int.not_lt.mp y) (Int.not_lt.mp z)
    refine jO n0 f p (m+1) (q+1) P (by omega) (by omega) (by omega) (hd.more (Int.le_of_eq e) m1) (fun i h1 h2=>?_) fun p' j q' a1 a2 a3 a4 a5 a6=>k p' j q' a1 (by omega) (by omega) a4 a5 a6
    rw [show m+1-(q+1+1)=m-(q+1) by omega] at h1 ⊢
    by_cases x:i<m
    ·exact he i h1 x
    ·rw [show i=m by omega,e]
     exact he (m-1) (by omega) (by omega)
theorem qh{p:Array Nat}{m:Nat}(P:aN n p)(n0:0<n)(m1:1≤m)(hm:m≤n)(hd:dt c p m){Q:Nat×Array Nat→Prop}(k:∀j p',aN n p'→m≤j→j≤n→ba c p' j→Q (j,p')):KH n c (kas_tail3 m n p) Q:=by
 have sz:=P.size
 have P':=P.rev 0 m
 refine KH.bind _ (ma P' n0 (n-m) m m1 (fun a b h1 h2=>?_) fun j h1 h2 h3 _=>k j _ P' h1 (by omega) h3)
 rw [l_ (by omega),l_ (by omega),if_pos (by omega),if_pos (by omega)]
 exact hd _ _ (by omega) (by omega)
theorem qi{p:Array Nat}{m:Nat}(P:aN n p)(n0:0<n)(m1:1≤m)(hm:m+1≤n)(hd:dt c p (m+1)){Q:Nat×Array Nat→Prop}(k:∀j p',aN n p'→m≤j→j≤n→ba c p' j→Q (j,p')):KH n c (kas_descPart m n p) Q:=by
 refine KH.bind _ (jO n0 (n-(m+1)) p (m+1) 0 P (by omega) (by omega) (by omega) hd (fun i h1 h2=>by
  obtain rfl:i=m+1-(0+1):=by omega
  rfl) fun p' j q' P' h1 h2 h3 h4 h5=>?_)
 have sz:=P'.size
 dsimp only
 split
 ·have same:=md (c:=c) (p:=p') (i:=j-(q'+1)) (j:=j) (by omega) h5
  exact qh (P'.rev _ _) n0 (by omega) (by omega) (fun a b y1 y2=>by rw [same,same];exact h4 a b y1 y2) fun i x a1 a2 a3 a4=>k i x a1 (by omega) a3 a4
 ·exact qh P' n0 (by omega) (by omega) h4 fun i x a1 a2 a3 a4=>k i x a1 (by omega) a3 a4
theorem wZ{p:Array Nat}(P:aN n p)(n0:0<n){Q:Nat×Array Nat→Prop}(k:∀j p',aN n p'→1≤j→j≤n→ba c p' j→Q (j,p')):KH n c (kas_count n p) Q:=by
 have sz:=P.size
 refine KH.bind _ (ma P n0 (n-1) 1 (Nat.le_refl 1) (ba.one p) fun j h1 h2 h3 h4=>?_)
 split
 ·exact k j p P h1 (by omega) h3
 ·rename_i z
  have jn:j<n:=by
   have:j≠n:=fun e=>z (by rw [e];simp)
   omega
  have lt:=h4 (by omega)
  split
  ·rename_i j1
   refine ⟨P.lt n0,P.lt n0,?_⟩
   by_cases y:c (p.getD 0 0)<c (p.getD (j-1) 0)
   ·rw [decide_eq_true y]
    dsimp only
    rw [if_pos rfl]
    exact k j p P h1 (by omega) h3
   ·rw [decide_eq_false y]
    dsimp only
    rw [if_neg (by simp)]
    have eq:iP c p 0 j:=fun i a1 a2=>Int.le_antisymm (Int.le_trans (h3 i (j-1) (by omega) (by omega)) (Int.not_lt.mp y)) (h3 0 i (by omega) a2)
    have same:=md (c:=c) (p:=p) (i:=0) (j:=j) (by omega) eq
    refine qi (P.rev 0 j) n0 h1 (by omega) ?_ fun i x a1 a2 a3 a4=>k i x a1 (by omega) a3 a4
    refine dt.more (fun a b a1 a2=>?_) (by rw [same,same];exact Int.le_of_lt lt) h1
    rw [same,same,eq a (by omega) (by omega),eq b (by omega) a2]
    exact Int.le_refl _
  ·refine qi P n0 h1 (by omega) ?_ fun i x a1 a2 a3 a4=>k i x a1 (by omega) a3 a4
   refine dt.more (fun a b a1 a2=>?_) (Int.le_of_lt lt) h1
   obtain rfl:a=b:=by omega
   exact Int.le_refl _
theorem me{p:Array Nat}{k:Nat}(P:aN n p)(n0:0<n){Q:Nat→Prop}(hu:ba c p k):∀(f l r:Nat),l≤r→r≤k→r-l≤f→(∀i,i<l→vN c p i≤vN c p k)→(∀i,r≤i→i<k→vN c p k≤vN c p i)→(∀l,l≤k→(∀i,i<l→vN c p i≤vN c p k)→(∀i,l≤i→i<k→vN c p k≤vN c p i)→Q l)→KH n c (kas_place p k f l r) Q
 | 0,l,r,h1,h2,h3,h4,h5,kk=>kk l (by omega) h4 fun i a1 a2=>h5 i (by omega) a2
 | f+1,l,r,h1,h2,h3,h4,h5,kk=>by
  unfold kas_place
  split
  ·exact kk l (by omega) h4 fun i a1 a2=>h5 i (by omega) a2
  ·refine ⟨P.lt n0,P.lt n0,?_⟩
   by_cases z:c (p.getD k 0)<c (p.getD ((l+r) / 2) 0)
   ·rw [decide_eq_true z]
    dsimp only
    rw [if_pos rfl]
    exact me P n0 hu f l ((l+r) / 2) (by omega) (by omega) (by omega) h4 (fun i a1 a2=>Int.le_trans (Int.le_of_lt z) (hu _ i a1 a2)) kk
   ·rw [decide_eq_false z]
    dsimp only
    rw [if_neg (by simp)]
    exact me P n0 hu f ((l+r) / 2+1) r (by omega) h2 (by omega) (fun i a1=>Int.le_trans (hu i ((l+r) / 2) (by omega) (by omega)) (Int.not_lt.mp z)) h5 kk
theorem qj{p:Array Nat}{k d:Nat}(hk:k<p.size)(hd:d≤k)(i:Nat):vN c (bubble p k d) i=if i=k-d then vN c p k else if k-d<i∧i≤k then vN c p (i-1) else vN c p i:=by
 have e:=getElem?_bubble hk d hd i
 unfold vN
 rw [iO,e]
 by_cases z:i=k-d
 ·rw [if_pos z,if_pos z,iO]
 ·rw [if_neg z,if_neg z]
  split <;> rw [iO]
theorem qk(n0:0<n){Q:Array Nat→Prop}:∀(f:Nat) (p:Array Nat) (k:Nat),aN n p→k+f=n→ba c p k→(∀p',aN n p'→ba c p' n→Q p')→KH n c (kas_bin f p k) Q
 | 0,p,k,P,e,hu,kk=>by
  obtain rfl:k=n:=by omega
  exact kk p P hu
 | f+1,p,k,P,e,hu,kk=>by
  have sz:=P.size
  refine KH.bind _ (me P n0 hu k 0 k (Nat.zero_le _) (Nat.le_refl _) (by omega) (fun i h=>by omega) (fun i h1 h2=>by omega) fun l hl h1 h2=>?_)
  refine qk n0 f _ (k+1) (P.wY k (k-l)) (by omega) (fun a b y1 y2=>?_) kk
  rw [qj (by omega) (by omega),qj (by omega) (by omega),show k-(k-l)=l by omega]
  by_cases a1:a=l
  ·rw [if_pos a1]
   by_cases b1:b=l
   ·rw [if_pos b1];exact Int.le_refl _
   ·rw [if_neg b1,if_pos (by omega)]
    exact h2 (b-1) (by omega) (by omega)
  ·rw [if_neg a1]
   by_cases a2:l<a∧a≤k
   ·rw [if_pos a2,if_neg (by omega),if_pos (by omega)]
    exact hu _ _ (by omega) (by omega)
   ·rw [if_neg a2]
    by_cases b1:b=l
    ·rw [if_pos b1]
     exact h1 a (by omega)
    ·rw [if_neg b1]
     split
     ·exact hu _ _ (by omega) (by omega)
     ·exact hu _ _ (by omega) (by omega)
theorem w5(n0:0<n){Q:Array Nat→Prop}(k:∀p,aN n p→ba c p n→Q p):KH n c (kas_sort n) Q:=by
 refine KH.bind _ (wZ (p:=List.toArray (List.range n)) (Array.Perm.refl _) n0 fun j p P h1 h2 h3=>?_)
 dsimp only
 split
 ·rw [show max j 1=j by omega]
  exact qk n0 _ p j P (by omega) h3 k
 ·obtain rfl:j=n:=by omega
  exact k p P h3
end
section
variable {prog:Program} {w:World} {A:Around} {E:Value→Shared→Prop} {s:Shared}
def c8(h:Heap)(v:Value)(x y:Int):Prop:=∃a o t u e,v=.ref a∧h.get? a=some o∧o.cls=.type "tuple"∧o.data=.seq #[.int x t,.int y u] e
theorem w6{v v':Value}{x y x' y':Int}(h1:c8 s.heap v x y)(h2:c8 s.heap v' x' y'){Q:Bool→Shared→Prop}(h:Q (decide (x<x'∨x=x'∧y<y')) s):wpAny (model prog w) A (keyLt' (tuples' true) v v') Q E s:=by
 obtain ⟨a,o,t,u,e,rfl,g,_,d⟩:=h1
 obtain ⟨a',o',t',u',e',rfl,g',_,d'⟩:=h2
 refine kat_lt g d g' d' ?_
 show KatLex prog w A true (decide (2<2)) Q [(.int x t,.int x' t'),(.int y u,.int y' u')] 0 s
 refine kat_cons (wpAny_eqBool_int ?_)
 by_cases z:x=x'
 ·subst z
  rw [show (x == x)=true by simp]
  refine kat_yes (kat_cons (wpAny_eqBool_int ?_))
  by_cases z2:y=y'
  ·subst z2
   rw [show (y == y)=true by simp]
   refine kat_yes (kat_nil ?_)
   rw [decide_eq_false (by omega)] at h
   exact h
  ·rw [show (y == y')=false by simp [z2]]
   refine kat_no ?_
   show wpAny (model prog w) A (oneLt' false (.int y u) (.int y' u')) Q _ s
   refine kat_one _ _ (lt_int ?_)
   show Q (decide (y<y')) s
   rw [show decide (y<y')=decide (x<x∨x=x∧y<y') from decide_eq_decide.mpr (by omega)]
   exact h
 ·rw [show (x == x')=false by simp [z]]
  refine kat_no ?_
  show wpAny (model prog w) A (oneLt' true (.int x t) (.int x' t')) Q _ s
  refine oneLt_int ?_
  rw [show decide (x<x')=decide (x<x'∨x=x'∧y<y') from decide_eq_decide.mpr (by omega)]
  exact h
theorem ql{h:Heap}:∀{vs:List Value},(∀v∈vs,∃x y,c8 h v x y)→∃fs:List Value,KatTups h vs fs∧fs.length=vs.length∧∀f∈fs,∃n t,f=.int n t
 | [],_=>⟨[],.nil,rfl,fun f hf=>by cases hf⟩
 | v::vs,hv=>by
  obtain ⟨fs,k,l,i⟩:=ql (vs:=vs) fun v h=>hv v (List.mem_cons_of_mem _ h)
  obtain ⟨x,y,a,o,t,u,e,rfl,g,c,d⟩:=hv v List.mem_cons_self
  refine ⟨.int x t::fs,.cons g c d rfl k,by rw [List.length_cons,List.length_cons,l],fun f hf=>?_⟩
  rcases List.mem_cons.mp hf with rfl | hf
  ·exact ⟨x,t,rfl⟩
  ·exact i f hf
theorem w9{vs:List Value}{x y:Nat→Int}(h2:2≤vs.length)(gw:vs.length<64)(hv:∀i v,vs[i]?=some v→c8 s.heap v (x i) (y i)∧0≤y i∧y i<1000){Q:SortSt→Shared→Prop}
  (hQ:∀(p:Array Nat) (st:SortSt),aN vs.length p→ba (fun i=>x i*1000+y i) p vs.length→(arrOf st).map (·.2)=List.toArray (p.toList.map fun i=>vs.getD i Value.none)→failedOf st=none→Q st s) :
  wpAny (model prog w) A (sortRuns'.run (SortSt.mk' (tuples' true) (vs.toArray.zip vs.toArray) #[] 7 none)) (fun r s'=>Q r.2 s') E s:=by
 refine kat_run (G:=fun p s'=>s'=s∧aN vs.length p∧ba (fun i=>x i*1000+y i) p vs.length) rfl h2 gw (fun p st s' _ ha hf hg=>?_) ?_
 ·obtain ⟨rfl,hp,hu⟩:=hg
  exact hQ p st hp hu (kat_snds rfl ha) hf
 ·refine KH.wp (n:=vs.length) (c:=fun i=>x i*1000+y i) (fun i j C hi hj hC=>?_) _ (w5 (by omega) fun p hp hu=>⟨rfl,hp,hu⟩)
  have gi:vs[i]?=some vs[i]:=by simp [hi]
  have gj:vs[j]?=some vs[j]:=by simp [hj]
  obtain ⟨pi,y0,y1⟩:=hv i _ gi
  obtain ⟨pj,y2,y3⟩:=hv j _ gj
  unfold kas_ask
  rw [show vs.getD i Value.none=vs[i] by simp [hi],show vs.getD j Value.none=vs[j] by simp [hj]]
  refine w6 pi pj ?_
  rw [show decide (x i<x j∨x i=x j∧y i<y j)=decide (x i*1000+y i<x j*1000+y j) from decide_eq_decide.mpr (by omega)]
  exact hC
theorem w_{vs:List Value}{Q:SortKind→Shared→Prop}(h1:1≤vs.length)(hv:∀v∈vs,∃x y,c8 s.heap v x y)(h:Q (tuples' true) s):wpAny (model prog w) A (keyKind' vs.toArray) Q E s:=by
 obtain ⟨fs,k,l,i⟩:=ql hv
 refine kat_kind (T:=Value.type "int") k (by omega) (fun v hv=>?_) rfl h
 obtain ⟨n,t,rfl⟩:=i v hv
 exact .now
theorem c8.mono{h h':Heap}{v:Value}{x y:Int}(k:∀b o,h.get? b=some o→h'.get? b=some o)(p:c8 h v x y):c8 h' v x y:=by
 obtain ⟨a,o,t,u,e,rfl,g,c,d⟩:=p
 exact ⟨a,o,t,u,e,rfl,k _ _ g,c,d⟩
theorem xa{a:Addr}{vs:List Value}{n:Nat}{x y:Nat→Int}{P:PySem.Fin→Shared→Prop}(ho:s.heap.get? a=some (seqObj "list" vs.toArray n))(gw:vs.length<64)(hv:∀i v,vs[i]?=some v→c8 s.heap v (x i) (y i)∧0≤y i∧y i<1000)
  (h:∀(p:Array Nat),aN vs.length p→ba (fun i=>x i*1000+y i) p vs.length→P (.done (.ret .none)) {s with heap:=sortedHeap s.heap a vs (List.toArray (p.toList.map fun i=>vs.getD i Value.none))}) :
  wpAny (model prog w) A (Builtin.«list.sort» ⟨[.ref a],[]⟩) P E s:=by
 have sl:vs.length≤sizeLine:=by rw [sizeLine_eq];omega
 have lt:=Heap.lt_size ho
 obtain ⟨e1,g1⟩:∃e,(s.heap.update a (Obj.mapSeq fun _=>#[])).get? a=some (seqObj "list" #[] e):=⟨_,get?_update_seq ho fun _=>#[]⟩
 have z1:(s.heap.update a (Obj.mapSeq fun _=>#[])).objs.size=s.heap.objs.size:=Heap.size_update _ _ _
 have up:∀b u,b<s.heap.objs.size→(s.heap.update a (Obj.mapSeq fun _=>#[])).get? b=some u→(((s.heap.update a (Obj.mapSeq fun _=>#[])).push (seqObj "tuple" vs.toArray 0)).push (seqObj "list" #[] 0)).get? b=some u:=fun b u hb hu=>by
  rw [Heap.get?_push_ne _ _ _ (Nat.ne_of_lt (by rw [size_push',z1];exact Nat.lt_succ_of_lt hb)),Heap.get?_push_ne _ _ _ (Nat.ne_of_lt (by rw [z1];exact hb))]
  exact hu
 have g3:=up a _ lt g1
 have qm:∀i v,vs[i]?=some v→c8 (((s.heap.update a (Obj.mapSeq fun _=>#[])).push (seqObj "tuple" vs.toArray 0)).push (seqObj "list" #[] 0)) v (x i) (y i)∧0≤y i∧y i<1000:=fun i v hi=>by
  obtain ⟨⟨b,o,t,u,e,rfl,g,cc,d⟩,y0⟩:=hv i v hi
  have nb:b≠a:=fun q=>by
   rw [q,ho] at g
   cases g
   exact absurd (Value.type.inj cc) (by decide)
  refine ⟨⟨b,o,t,u,e,rfl,up b o (Heap.lt_size g) ?_,cc,d⟩,y0⟩
  rw [Heap.get?_update_ne _ _ _ _ nb]
  exact g
 rw [list_sort_plain]
 refine wpAny_bind (listItems_at ho rfl (wpAny_bind (listUpdate_at ho rfl ?_ (by rw [List.size_toArray];omega) (Nat.zero_le _))))
 refine wpAny_bind (seqEpoch_at g1 rfl (wpAny_bind (wpAny_newTuple ?_ (by show vs.length≤_;omega))))
 refine wpAny_bind (wpAny_newList (wpAny_holding ?_) (Nat.zero_le _))
 show wpAny (model prog w) A _ P E {s with heap:=((s.heap.update a (Obj.mapSeq fun _=>#[])).push (seqObj "tuple" vs.toArray 0)).push (seqObj "list" #[] 0)}
 dsimp only
 have fin:∀(st:SortSt) (p:Array Nat),aN vs.length p→ba (fun i=>x i*1000+y i) p vs.length→(arrOf st).map (·.2)=List.toArray (p.toList.map fun i=>vs.getD i Value.none)→failedOf st=none→
   wpAny (model prog w) A (do
    let touched:=(←seqEpoch a) != e1
    Builtin.List.listUpdate (.ref a) fun _=>(arrOf st).map (·.2)
    if let some e:=failedOf st then rule "list.sort.comparison-raised";throw e
    if touched then rule "list.sort.modified";raiseError "ValueError" "list modified during sort"
    ret .none) P E {s with heap:=((s.heap.update a (Obj.mapSeq fun _=>#[])).push (seqObj "tuple" vs.toArray 0)).push (seqObj "list" #[] 0)}:=fun st p hp hu ha hf=>by
  refine wpAny_bind (seqEpoch_at g3 rfl (wpAny_bind (listUpdate_at g3 rfl ?_ (Nat.zero_le _) ?_)))
  ·rw [hf,ha]
   simp only [bne_self_eq_false,Bool.false_eq_true,if_false]
   exact wpAny_pure (h p hp hu)
  ·rw [ha,List.size_toArray,List.length_map,Array.length_toList,hp.size]
   omega
 by_cases z:vs.toArray.size<2
 ·rw [if_pos z,if_pos z]
  refine wpAny_bind (wpAny_pure ?_)
  rw [StateT.run_pure]
  refine wpAny_bind (wpAny_pure ?_)
  have len:vs.length<2:=by simpa using z
  refine fin _ (List.toArray (List.range vs.length)) (Array.Perm.refl _) (fun a b h1 h2=>by
   obtain rfl:a=b:=by omega
   exact Int.le_refl _) ?_ rfl
  match vs,len with
  | [],_=>
   show Array.map (·.2) ((#[]:Array Value).zip #[])=_
   simp
  | [v],_=>
   show Array.map (·.2) (#[v].zip #[v])=_
   simp
 ·rw [if_neg z,if_neg z]
  have len:2≤vs.length:=by simpa using z
  refine wpAny_bind (w_ (by omega) (fun v hm=>?_) ?_)
  ·obtain ⟨i,hi,rfl⟩:=List.getElem_of_mem hm
   exact ⟨_,_,(qm i _ (by simp [hi])).1⟩
  ·refine wpAny_bind (wpAny_mono (w9 (Q:=fun st s'=>s'={s with heap:=((s.heap.update a (Obj.mapSeq fun _=>#[])).push (seqObj "tuple" vs.toArray 0)).push (seqObj "list" #[] 0)}∧∃p,aN vs.length p∧ba (fun i=>x i*1000+y i) p vs.length∧(arrOf st).map (·.2)=List.toArray (p.toList.map fun i=>vs.getD i Value.none)∧failedOf st=none) len gw qm fun p st a1 a2 a3 a4=>⟨rfl,p,a1,a2,a3,a4⟩) ?_ fun _ _ e=>e)
   rintro ⟨⟨⟩,st⟩ s' ⟨rfl,p,a1,a2,a3,a4⟩
   exact fin st p a1 a2 a3 a4
end
section
variable {prog:Program} {w:World} {A:Around} {E:Value→Shared→Prop} {s:Shared}
theorem xb{l:Addr}{vs:List Value}{x y:Nat→Int}{Q:Value→Shared→Prop}(hl:s.heap.IsList l vs.toArray)(gw:vs.length<64)(hv:∀i v,vs[i]?=some v→c8 s.heap v (x i) (y i)∧0≤y i∧y i<1000)
  (h:∀(p:Array Nat) (h':Heap) (c:Nat),aN vs.length p→ba (fun i=>x i*1000+y i) p vs.length→(∀b o,s.heap.get? b=some o→h'.get? b=some o)→h'.get? (s.heap.objs.size+1)=some (seqObj "list" (List.toArray (p.toList.map fun i=>vs.getD i Value.none)) c)→Q (.ref (s.heap.objs.size+1)) {s with heap:=h'}) :
  wpAny (model prog w) A (call (.builtin "sorted") [.ref l]) Q E s:=by
 have sl:vs.length≤sizeLine:=by rw [sizeLine_eq];omega
 refine Calls.call_function_entry kind_sorted plain_sorted entry_sorted (args_sorted1 _) ?_
 unfold Builtin.«sorted»
 refine wpAny_bind (m:=checkCount "sorted" 1 1 _) (wpAny_pure (wpAny_bind (collect_list hl (wpAny_bind (wpAny_newList ?_ sl)) sl)))
 have zz:((s.heap.push (seqObj "list" #[] 0)).update s.heap.objs.size (Obj.mapSeq (·++vs.toArray))).objs.size=s.heap.objs.size+1:=by rw [Heap.size_update,size_push']
 have kp:∀b o,s.heap.get? b=some o→(((s.heap.push (seqObj "list" #[] 0)).update s.heap.objs.size (Obj.mapSeq (·++vs.toArray))).push (seqObj "list" vs.toArray 0)).get? b=some o:=fun b o g=>by
  have lt:=Heap.lt_size g
  rw [Heap.get?_push_ne _ _ _ (Nat.ne_of_lt (by rw [zz];exact Nat.lt_succ_of_lt lt)),Heap.get?_update_ne _ _ _ _ (Nat.ne_of_lt lt),Heap.get?_push_ne _ _ _ (Nat.ne_of_lt lt)]
  exact g
 have gL:(((s.heap.push (seqObj "list" #[] 0)).update s.heap.objs.size (Obj.mapSeq (·++vs.toArray))).push (seqObj "list" vs.toArray 0)).get? (s.heap.objs.size+1)=some (seqObj "list" vs.toArray 0):=by
  rw [←zz]
  exact Heap.get?_push_size _ rfl
 show wpAny _ _ _ _ _ {s with heap:=((s.heap.push (seqObj "list" #[] 0)).update s.heap.objs.size (Obj.mapSeq (·++vs.toArray))).push (seqObj "list" vs.toArray 0)}
 rw [zz]
 generalize ((s.heap.push (seqObj "list" #[] 0)).update s.heap.objs.size (Obj.mapSeq (·++vs.toArray))).push (seqObj "list" vs.toArray 0)=h1 at kp gL
 refine wpAny_bind (wpAny_holding (wpAny_call_entry slot_list_sort ⟨_,gL,rfl⟩ entry_list_sort (xa (s:={s with heap:=h1}) gL gw (fun i v hi=>⟨(hv i v hi).1.mono kp,(hv i v hi).2⟩) fun p hp hu=>⟨_,rfl,?_⟩) (args_list_sort _)))
 have xc:=Heap.lt_size gL
 have z1:(h1.update (s.heap.objs.size+1) (Obj.mapSeq fun _=>#[])).objs.size=h1.objs.size:=Heap.size_update _ _ _
 obtain ⟨e1,g1⟩:∃e,(h1.update (s.heap.objs.size+1) (Obj.mapSeq fun _=>#[])).get? (s.heap.objs.size+1)=some (seqObj "list" #[] e):=⟨_,get?_update_seq gL fun _=>#[]⟩
 have up:∀b u,b<h1.objs.size→(h1.update (s.heap.objs.size+1) (Obj.mapSeq fun _=>#[])).get? b=some u→(((h1.update (s.heap.objs.size+1) (Obj.mapSeq fun _=>#[])).push (seqObj "tuple" vs.toArray 0)).push (seqObj "list" #[] 0)).get? b=some u:=fun b u hb hu=>by
  rw [Heap.get?_push_ne _ _ _ (Nat.ne_of_lt (by rw [size_push',z1];exact Nat.lt_succ_of_lt hb)),Heap.get?_push_ne _ _ _ (Nat.ne_of_lt (by rw [z1];exact hb))]
  exact hu
 have g3:=up _ _ xc g1
 refine wpAny_pure ⟨_,rfl,h p _ _ hp hu (fun b o g=>?_) (get?_update_seq g3 fun _=>List.toArray (p.toList.map fun i=>vs.getD i Value.none))⟩
 have g':=kp b o g
 have ne:b≠s.heap.objs.size+1:=Nat.ne_of_lt (Nat.lt_succ_of_lt (Heap.lt_size g))
 show (Heap.update _ _ _).get? b=some o
 rw [Heap.get?_update_ne _ _ _ _ ne]
 refine up b o (Heap.lt_size g') ?_
 rw [Heap.get?_update_ne _ _ _ _ ne]
 exact g'
end
end My
namespace L2
open PySem PySem.W PyProof.Rows My
def qo:List V→Hp→VK→Prop:=fun xs H Q=>∃(a:Addr) (vs:List V) (x y:Nat→Int),xs=[.ref a]∧H a=some (.lst vs)∧vs.length<64∧(∀(i:Nat) (v:V),vs[i]?=some v→(∃b,v=.ref b∧H b=some (.tup [.int (x i),.int (y i)]))∧0≤y i∧y i<1000) ∧
 ∀(p:Array Nat) (l:Addr),aN vs.length p→ba (fun i=>x i*1000+y i) p vs.length→H l=none→Q (.ref l) (upd H l (.lst (p.toList.map fun i=>vs.getD i .aw)))
theorem qp{xs:List V}{us:List Value}(r:Vals xs us):∀(ns:List Nat),(∀i∈ns,i<xs.length)→Vals (ns.map fun i=>xs.getD i .aw) (ns.map fun i=>us.getD i Value.none)
 | [],_=>.nil
 | i::ns,h=>by
  have hi:=h i List.mem_cons_self
  obtain ⟨u,e,ru⟩:=r.get (i:=i) (x:=xs[i]) (by simp [hi])
  refine .cons ?_ (qp r ns fun j hj=>h j (List.mem_cons_of_mem _ hj))
  dsimp only
  rw [show xs.getD i .aw=xs[i] by simp [hi],show us.getD i Value.none=u by rw [List.getD_eq_getElem?_getD,e];rfl]
  exact ru
theorem mf{X:Cx}:cq X (.builtin "sorted") qo:=by
 intro pins s σ H xs us Q I r h
 obtain ⟨a,vs,x,y,rfl,ha,gw,hv,k⟩:=h
 obtain ⟨u,rfl,ru⟩:=vals1 r
 cases ru
 obtain ⟨ae,rv,pl,hz⟩:=I.list (.of ha)
 have hl:=rv.length
 refine xb (x:=x) (y:=y) pl.isList (by omega) (fun i v hi=>?_) fun p h' c hp hu kp g=>?_
 ·have b6:i<vs.length:=by
   have:=(List.getElem?_eq_some_iff.mp hi).1
   omega
  have gi:vs[i]?=some vs[i]:=by simp [b6]
  obtain ⟨⟨b,eb,hb⟩,xf⟩:=hv i _ gi
  obtain ⟨u,eu,ru⟩:=rv.get gi
  rw [hi] at eu
  cases eu
  rw [eb] at ru
  cases ru
  obtain ⟨_,eE,r2,o,g,cl,e,d⟩:=(show a7 X.prog X.w H s.heap b (.tup [.int (x i),.int (y i)]) from I.ao b _ hb)
  obtain ⟨u1,u2,rfl,q1,q2⟩:=vals2 r2
  obtain ⟨t1,rfl⟩:=q1
  obtain ⟨t2,rfl⟩:=q2
  exact ⟨⟨b,o,t1,t2,e,rfl,g,cl,d⟩,xf⟩
 ·rw [←hl] at hp hu
  have sz:=hp.size
  refine ⟨.ref (s.heap.objs.size+1),_,I.laid (t':=s.toks) (o:=.lst (p.toList.map fun i=>vs.getD i .aw)) kp (Nat.le_succ _) ⟨?_,p.toList.map fun i=>ae.getD i Value.none,c,?_,g⟩,rfl,k p _ hp hu (I.ao.fresh (Nat.le_succ _))⟩
  ·rw [List.length_map,Array.length_toList,sz]
   exact hz
  ·refine qp rv _ fun i hi=>?_
   have m:i∈List.toArray (List.range vs.length):=(Array.Perm.mem_iff hp).mp (Array.mem_toList_iff.mp hi)
   simpa using m
end L2
namespace My
open PySem L2
def xg(K:PySem.W.Frag):R2:=fun x y H Q=>∃a b xs,x=.ref a∧y=.ref b∧av K H a xs∧H b=some (.lst [])∧Q (.bl (!xs.isEmpty)) H
theorem mh{X:Cx}(hu:X.A.units+64<cLine):aO X (compareOp .NotEq) (xg X.K):=by
 intro pins s σ H x y v u Q I rx ry h
 obtain ⟨a,b,xs,rfl,rfl,h1,h2,q⟩:=h
 cases rx
 cases ry
 obtain ⟨us,r1,t1,_⟩:=I.list h1
 obtain ⟨vs,r2,t2,_⟩:=I.list (av.of h2)
 have l1:=r1.length
 have l2:=r2.length
 cases xs with
 | nil=>
  refine SeqAt.RcNeAt.lists (e:=fun _=>true) t1.isList t2.isList (by simp at l1 l2 ⊢;omega) (by omega) (fun j z1 z2=>?_) _ _ _ _ ?_
  ·simp at l1
   have:us=[]:=List.length_eq_zero_iff.mp l1.symm
   subst this
   simp at z1
  ·rw [all_range]
   exact ⟨.bl false,H,I,rfl,q⟩
 | cons w ws=>
  refine SeqAt.RcNeAt.lists_lengths t1.isList t2.isList ?_ (by omega) _ _ _ _ ⟨.bl true,H,I,rfl,q⟩
  simp at l1 l2 ⊢
  omega
theorem mi{c:TT}{t u:TS}{D:Ends}{σ:St}{H:Hp}(M:St→Hp→Prop)(hM:∀σ H,M σ H→D.nx σ H)(k:∀R:St→Hp→Prop,(∀σ H,M σ H→R σ H)→kU c t u {D with nx:=R} σ H):kU c t u D σ H:=k D.nx hM
def xh(K:PySem.W.Frag):Sp:=fun vs H Q _=>∃(P a l:Addr) (ns:List Int) (xs:List V),vs=[.ref P,.ref l]∧aF H P a∧av K (er P H) a (ns.map V.int)∧l≠P∧H l=some (.lst xs)∧xs.length≤100 ∧
 ∀(r:Addr) (ys:List V) (H':Hp),aj P H H'→aF H' P a→er P H r=none→r≠P→H' r=some (.lst ys)→ys.Perm xs→Q (.ref r) H'
def xj(K:PySem.W.Frag):Sp:=fun vs H Q _=>∃(P a:Addr) (ns:List Int) (way size wide i j:Int),vs=[.ref P,.int way,.int size,.int wide,.int i,.int j]∧aF H P a∧av K (er P H) a (ns.map V.int) ∧
 ∀(b:Bool) (H':Hp),aj P H H'→aF H' P a→Q (.bl b) H'
theorem qq{α:Type}:∀(zs:List α) (k:Nat) (h:k<zs.length),(zs[k]::zs.eraseIdx k).Perm zs
 | _::_,0,_=>.refl _
 | z::zs,k+1,h=>(List.Perm.swap _ _ _).trans ((qq zs k (by simpa using h)).cons z)
def ax(H:Hp)(vs:List V)(L:List (Int×Int)):Prop:=vs.length=L.length∧∀(k:Nat) (v:V) (p:Int×Int),vs[k]?=some v→L[k]?=some p→∃b,v=.ref b∧H b=some (.tup [.int p.1,.int p.2])
theorem ax.nil(H:Hp):ax H [] []:=⟨rfl,fun k v p h=>by simp at h⟩
theorem ax.mono{H H':Hp}{vs:List V}{L:List (Int×Int)}(h:ax H vs L)(s:ag H H'):ax H' vs L:=⟨h.1,fun k v p h1 h2=>by
 obtain ⟨b,e,g⟩:=h.2 k v p h1 h2
 exact ⟨b,e,s _ _ g⟩⟩
theorem ax.b5{H H':Hp}{vs:List V}{L:List (Int×Int)}{r:Addr}{xs:List V}(h:ax H vs L)(e:H r=some (.lst xs))(k:∀b o,b≠r→H b=some o→H' b=some o):ax H' vs L:=⟨h.1,fun i v p h1 h2=>by
 obtain ⟨b,eb,g⟩:=h.2 i v p h1 h2
 refine ⟨b,eb,k b _ (fun z=>?_) g⟩
 rw [z,e] at g
 cases g⟩
theorem ax.push{H:Hp}{vs:List V}{L:List (Int×Int)}{b:Addr}{p:Int×Int}(h:ax H vs L)(e:H b=some (.tup [.int p.1,.int p.2])):ax H (vs++[.ref b]) (L++[p]):=⟨by simp [h.1],fun k v q h1 h2=>by
 have hl:=h.1
 by_cases z:k<vs.length
 ·rw [List.getElem?_append_left z] at h1
  rw [List.getElem?_append_left (by omega)] at h2
  exact h.2 k v q h1 h2
 ·have hk:=(List.getElem?_eq_some_iff.mp h1).1
  rw [List.length_append,List.length_singleton] at hk
  obtain rfl:k=vs.length:=by omega
  rw [List.getElem?_append_right (Nat.le_refl _),Nat.sub_self] at h1
  rw [List.getElem?_append_right (by omega),show vs.length-L.length=0 by omega] at h2
  cases h1
  cases h2
  exact ⟨b,rfl,e⟩⟩
structure cR (n:Nat) (L:List (Int×Int)):Prop where
 nd:L.Nodup
 lt:∀p∈L,0≤p.1∧p.1<p.2∧p.2<n
 bb:L.length≤n*n / 2
def lexLt(p q:Int×Int):Prop:=p.1<q.1∨p.1=q.1∧p.2<q.2
theorem xk{M:List (Int×Int)}{p:Array Nat}(P:aN M.length p)(U:ba (fun i=>(M.getD i (0,0)).1*1000+(M.getD i (0,0)).2) p M.length)(nd:M.Nodup)(b:∀q∈M,0≤q.2∧q.2<1000) :
  (p.toList.map fun i=>M.getD i (0,0)).Perm M∧(p.toList.map fun i=>M.getD i (0,0)).Pairwise lexLt:=by
 have pm:p.toList.Perm (List.range M.length):=Array.perm_iff_toList_perm.mp P
 have pn:p.toList.Nodup:=pm.nodup_iff.mpr List.nodup_range
 have lt:∀i∈p.toList,i<M.length:=fun i hi=>List.mem_range.mp (pm.mem_iff.mp hi)
 refine ⟨?_,?_⟩
 ·have e:((List.range M.length).map fun i=>M.getD i (0,0))=M:=by
   refine List.ext_getElem (by simp) fun i h1 h2=>?_
   rw [List.getElem_map,List.getElem_range,getD_at h2]
  have:=pm.map fun i=>M.getD i (0,0)
  rw [e] at this
  exact this
 ·rw [List.pairwise_iff_getElem]
  intro i j hi hj lb
  rw [List.length_map] at hi hj
  rw [List.getElem_map,List.getElem_map]
  have sz:=P.size
  have li:p.toList[i]<M.length:=lt _ (List.getElem_mem _)
  have lj:p.toList[j]<M.length:=lt _ (List.getElem_mem _)
  have u:=U i j (by omega) (by rw [←sz,←Array.length_toList];exact hj)
  unfold vN at u
  have gi:p.getD i 0=p.toList[i]:=by
   have:i<p.size:=by rw [←Array.length_toList];exact hi
   simp [Array.getD,this]
  have gj:p.getD j 0=p.toList[j]:=by
   have:j<p.size:=by rw [←Array.length_toList];exact hj
   simp [Array.getD,this]
  rw [gi,gj] at u
  dsimp only at u
  rw [getD_at li,getD_at lj] at u
  rw [getD_at li,getD_at lj]
  have ne:M[p.toList[i]]≠M[p.toList[j]]:=fun e=>by
   have e1:=(List.getElem_inj nd).mp e
   have e2:=(List.getElem_inj pn).mp e1
   omega
  have b1:=b _ (List.getElem_mem li)
  have b2:=b _ (List.getElem_mem lj)
  generalize M[p.toList[i]]=x at u ne b1
  generalize M[p.toList[j]]=y at u ne b2
  obtain ⟨x1,x2⟩:=x
  obtain ⟨y1,y2⟩:=y
  unfold lexLt
  dsimp only at u b1 b2 ⊢
  by_cases z:x1<y1
  ·exact .inl z
  ·right
   have e1:x1=y1:=by omega
   subst e1
   refine ⟨rfl,?_⟩
   by_cases y:x2=y2
   ·subst y
    exact absurd rfl ne
   ·omega
theorem jP{α β:Type}{f:α→β}:∀{L:List α},L.Nodup→(∀p q,p∈L→q∈L→f p=f q→p=q)→(L.map f).Nodup
 | [],_,_=>List.nodup_nil
 | x::L,h,k=>by
  obtain ⟨h1,h2⟩:=List.nodup_cons.mp h
  refine List.nodup_cons.mpr ⟨fun m=>?_,jP h2 fun p q hp hq=>k p q (List.mem_cons_of_mem _ hp) (List.mem_cons_of_mem _ hq)⟩
  obtain ⟨y,hy,e⟩:=List.mem_map.mp m
  have:=k y x (List.mem_cons_of_mem _ hy) List.mem_cons_self e
  rw [this] at hy
  exact h1 hy
def ck(nm:Nat→Int)(p:Int×Int):Int×Int:=(min (nm p.1.toNat) (nm p.2.toNat),max (nm p.1.toNat) (nm p.2.toNat))
structure mj (n:Nat) (nm:Nat→Int):Prop where
 lt:∀i,i<n→0≤nm i∧nm i<n
 inj:∀i j,i<n→j<n→nm i=nm j→i=j
theorem xl{n:Nat}{nm:Nat→Int}{L:List (Int×Int)}(h:cR n L)(N:mj n nm):cR n (L.map (ck nm)) where
 nd:=by
  refine jP h.nd fun p q hp hq e=>?_
  have a:=h.lt p hp
  have b:=h.lt q hq
  obtain ⟨p1,p2⟩:=p
  obtain ⟨q1,q2⟩:=q
  obtain ⟨i,rfl⟩:=Int.eq_ofNat_of_zero_le (show 0≤p1 by dsimp only at a;omega)
  obtain ⟨j,rfl⟩:=Int.eq_ofNat_of_zero_le (show 0≤p2 by dsimp only at a;omega)
  obtain ⟨k,rfl⟩:=Int.eq_ofNat_of_zero_le (show 0≤q1 by dsimp only at b;omega)
  obtain ⟨l,rfl⟩:=Int.eq_ofNat_of_zero_le (show 0≤q2 by dsimp only at b;omega)
  dsimp only at a b
  have e1:=congrArg Prod.fst e
  have e2:=congrArg Prod.snd e
  unfold ck at e1 e2
  simp only [Int.toNat_natCast] at e1 e2
  have ij:nm i≠nm j:=fun z=>by have:=N.inj i j (by omega) (by omega) z;omega
  have kl:nm k≠nm l:=fun z=>by have:=N.inj k l (by omega) (by omega) z;omega
  by_cases z:nm i=nm k
  ·have e3:nm j=nm l:=by omega
   have i1:=N.inj i k (by omega) (by omega) z
   have i2:=N.inj j l (by omega) (by omega) e3
   rw [i1,i2]
  ·have e3:nm i=nm l:=by omega
   have e4:nm j=nm k:=by omega
   have i1:=N.inj i l (by omega) (by omega) e3
   have i2:=N.inj j k (by omega) (by omega) e4
   omega
 lt:=fun p hp=>by
  obtain ⟨q,hq,rfl⟩:=List.mem_map.mp hp
  have a:=h.lt q hq
  have n1:=N.lt q.1.toNat (by omega)
  have n2:=N.lt q.2.toNat (by omega)
  have ne:nm q.1.toNat≠nm q.2.toNat:=fun z=>by have:=N.inj _ _ (by omega) (by omega) z;omega
  unfold ck
  dsimp only
  omega
 bb:=by rw [List.length_map];exact h.bb
theorem cR.perm{n:Nat}{L L':List (Int×Int)}(h:cR n L)(p:L'.Perm L):cR n L':=⟨p.nodup_iff.mpr h.nd,fun q hq=>h.lt q (p.mem_iff.mp hq),by rw [p.length_eq];exact h.bb⟩
def b7(H:Hp)(t:Addr)(n:Nat)(L:List (Int×Int)):Prop:=∃(lt:Addr) (us:List V),H t=some (.tup [.int (n:Int),.ref lt])∧H lt=some (.tup us)∧ax H us L
def xm:Sp:=fun vs H Q _=>∃(l r:Addr) (n:Nat) (us ws:List V) (L:List (Int×Int)) (nm:Nat→Int),vs=[.int (n:Int),.ref l,.ref r]∧H l=some (.lst us)∧ax H us L∧cR n L∧n≤10∧H r=some (.lst ws)∧ws.length=n∧(∀i,i<n→ws[i]?=some (.int (nm i)))∧mj n nm ∧
 ∀(t:Addr) (L':List (Int×Int)) (H':Hp),ag H H'→H t=none→b7 H' t n L'→cR n L'→L'.Pairwise lexLt→L'.Perm (L.map (ck nm))→Q (.ref t) H'
theorem ax.pick{H:Hp}{us:List V}{M:List (Int×Int)}(h:ax H us M)(ns:List Nat)(hn:∀i∈ns,i<M.length):ax H (ns.map fun i=>us.getD i .aw) (ns.map fun i=>M.getD i (0,0)):=⟨by simp,fun k v p h1 h2=>by
 have hl:=h.1
 have hk:k<ns.length:=by
  have:=(List.getElem?_eq_some_iff.mp h1).1
  simpa using this
 have hi:=hn ns[k] (List.getElem_mem hk)
 rw [List.getElem?_map,List.getElem?_eq_getElem hk] at h1 h2
 cases h1
 cases h2
 dsimp only
 have b6:ns[k]<us.length:=by omega
 rw [getD_at hi]
 have e:us.getD ns[k] .aw=us[ns[k]]:=by simp [b6]
 rw [e]
 exact h.2 ns[k] _ _ (by simp [b6]) (by simp [hi])⟩
theorem xn{K:PySem.W.Frag}{wi:TI}{ρ:St→St}{tt:TT}{te:TE}{σ:St}{H:Hp}{Q:VK}{P a l:Addr}{xs:List V}(hn:xs.length<sizeLine)(nl:l≠P)(el:H l=some (.lst xs))(pc:aF H P a)
  (cI:∀R:It→Hp→Prop,R (eY K l) H→wi σ H R)
  (test:∀(i:Nat) (x:V),xs[i]?=some x→∀(Hc:Hp) (R:Bool→Hp→Prop),aj P H Hc→aF Hc P a→(∀b H3,aj P Hc H3→aF H3 P a→R b H3)→tt (some x::ρ σ) Hc R)
  (elem:∀(x:V) (Hc:Hp) (R:VK),R x Hc→te (some x::ρ σ) Hc R)
  (fin:∀(D:Addr) (ys:List V) (Hc:Hp),D≠P→er P H D=none→aj P H Hc→aF Hc P a→ys.Sublist xs→Hc D=some (.lst ys)→Q (.ref D) Hc):cZ wi ρ tt te σ H Q:=by
 refine cI _ fun D nD=>?_
 have nP:=pc.ne nD
 have lD:l≠D:=fun e=>by rw [e,nD] at el;cases el
 refine ⟨fun i m ys Hc=>m=xs.length-i∧i≤xs.length∧Hc D=some (.lst ys)∧aj P H Hc∧aF Hc P a∧ys.Sublist (xs.take i),⟨_,rfl,Nat.zero_le _,ak,(aj.refl H).but nD,pc.upd nP,by simp⟩,?_⟩
 rintro i m ys Hc ⟨rfl,hi,eD,sH,qr,sub⟩
 refine ⟨eD,?_⟩
 have du:=sH.at nl el
 by_cases aG:i<xs.length
 ·refine .inr ⟨⟨xs,xs[i],.of du,by simp [aG]⟩,fun x H' hy=>?_⟩
  obtain ⟨rfl,hx⟩:=hy
  have ex:=hx xs (.of du)
  refine test i x ex _ _ sH qr fun b H3 s3 p3=>?_
  have tk:xs.take (i+1)=xs.take i++[x]:=by rw [List.take_succ,ex];rfl
  have e3:=s3.at nP eD
  cases b with
  | true=>
   rw [if_pos rfl]
   refine elem x H3 _ ⟨e3,?_,xs.length-(i+1),by omega,rfl,aG,ak,(sH.trans s3).but nD,p3.upd nP,?_⟩
   ·have:=sub.length_le
    rw [List.length_take] at this
    omega
   ·rw [tk]
    exact sub.append (List.Sublist.refl _)
  | false=>
   rw [if_neg (by simp)]
   refine ⟨xs.length-(i+1),by omega,rfl,aG,e3,sH.trans s3,p3,?_⟩
   rw [tk]
   exact sub.trans (List.sublist_append_left _ _)
 ·have e:i=xs.length:=by omega
  subst e
  rw [List.take_length] at sub
  exact .inl ⟨⟨xs,.of du,by omega⟩,fin D ys Hc nP (by rw [bM nP];exact nD) sH qr sub eD⟩
def bS(k:Nat)(d:List Nat):Prop:=d.Pairwise (fun a b=>b<a)∧∀x∈d,x<k
theorem bS.len:∀{d:List Nat} {k:Nat},bS k d→d.length≤k
 | [],_,_=>Nat.zero_le _
 | x::d,k,h=>by
  obtain ⟨h1,h2⟩:=List.pairwise_cons.mp h.1
  have:=bS.len (k:=x) ⟨h2,fun y hy=>h1 y hy⟩
  have:=h.2 x List.mem_cons_self
  rw [List.length_cons]
  omega
theorem bS.nil(k:Nat):bS k []:=⟨List.Pairwise.nil,fun x hx=>by cases hx⟩
theorem bS.sub{k:Nat}{d e:List Nat}(h:bS k d)(s:e.Sublist d):bS k e:=⟨h.1.sublist s,fun x hx=>h.2 x (s.subset hx)⟩
theorem bS.put{j k:Nat}{d:List Nat}(h:bS k d)(hk:k<j):bS j (k::d):=⟨List.pairwise_cons.mpr ⟨h.2,h.1⟩,fun x hx=>by
 rcases List.mem_cons.mp hx with rfl | hx
 ·exact hk
 ·have:=h.2 x hx
  omega⟩
theorem bS.nd{k:Nat}{d:List Nat}(h:bS k d):d.Nodup:=h.1.imp fun h=>by omega
def bC(d:List Nat):List V:=d.map fun(x:Nat)=>V.int (x:Int)
theorem ml:∀{d:List Nat} {ys:List V},ys.Sublist (bC d)→∃e:List Nat,e.Sublist d∧ys=bC e
 | [],ys,h=>⟨[],List.Sublist.refl _,by
  have h:ys.Sublist []:=h
  rw [List.sublist_nil.mp h]
  rfl⟩
 | x::d,ys,h=>by
  have h:ys.Sublist (V.int (x:Int)::bC d):=h
  cases h with
  | cons _ h=>
   obtain ⟨e,h1,h2⟩:=ml h
   exact ⟨e,h1.cons _,h2⟩
  | cons_cons _ h=>
   obtain ⟨e,h1,h2⟩:=ml h
   exact ⟨x::e,.cons_cons _ h1,by rw [h2];rfl⟩
structure dZ (j:Nat) (L:List (Int×Int)):Prop where
 nd:L.Nodup
 lt:∀p∈L,0≤p.1∧p.1<p.2∧p.2<j
 bb:2*L.length≤j*(j-1)
theorem dZ.nil:dZ 1 []:=⟨List.nodup_nil,(fun p hp=>by cases hp),by simp⟩
theorem dZ.ok{n:Nat}{L:List (Int×Int)}(h:dZ n L):cR n L:=⟨h.nd,h.lt,by
 have:=h.bb
 have:n*(n-1)≤n*n:=Nat.mul_le_mul_left _ (by omega)
 omega⟩
theorem dZ.more{j:Nat}{L:List (Int×Int)}{d:List Nat}(h:dZ j L)(hd:bS j d):dZ (j+1) (L++d.map fun(x:Nat)=>((x:Int),(j:Int))) where
 nd:=by
  refine List.nodup_append.mpr ⟨h.nd,jP hd.nd fun p q _ _ e=>by
   have:=congrArg Prod.fst e
   dsimp only at this
   omega,fun p hp q hq e=>?_⟩
  obtain ⟨x,_,rfl⟩:=List.mem_map.mp hq
  have:=h.lt p hp
  rw [e] at this
  dsimp only at this
  omega
 lt:=fun p hp=>by
  rcases List.mem_append.mp hp with hp | hp
  ·have:=h.lt p hp
   omega
  ·obtain ⟨x,hx,rfl⟩:=List.mem_map.mp hp
   have:=hd.2 x hx
   dsimp only
   omega
 bb:=by
  have a:=h.bb
  have b:=hd.len
  rw [List.length_append,List.length_map,Nat.add_sub_cancel]
  cases j with
  | zero=>
   rw [Nat.zero_mul] at a
   rw [Nat.mul_zero]
   omega
  | succ j=>
   rw [Nat.add_sub_cancel] at a
   have e:(j+1+1)*(j+1)=(j+1)*j+2*(j+1):=by grind
   rw [e]
   omega
def xo(K:PySem.W.Frag):Sp:=fun vs H Q _=>∃(P a:Addr) (ns:List Int) (n:Nat),vs=[.ref P,.int (n:Int)]∧aF H P a∧av K (er P H) a (ns.map V.int)∧1≤n∧n≤10 ∧
 ∀(r:Addr) (us:List V) (L:List (Int×Int)) (H':Hp),aj P H H'→aF H' P a→er P H r=none→r≠P→H' r=some (.lst us)→ax (er P H') us L→cR n L→Q (.ref r) H'
def xp(H:Hp)(vs:List V)(j:Nat)(D:Nat→List Nat):Prop:=vs.length=j∧∀k,k<j→bS k (D k)∧∃b,vs[k]?=some (.ref b)∧H b=some (.lst (bC (D k)))
theorem mq{P r:Addr}{H:Hp}{o:HO}:∀b o',b≠r→er P H b=some o'→er P (upd H r o) b=some o':=fun b o' nb e=>by
 by_cases z:b=P
 ·subst z
  unfold er at e
  rw [if_pos rfl] at e
  cases e
 ·rw [bM z] at e ⊢
  rw [aD nb]
  exact e
theorem ax.cat{H:Hp}{us zs:List V}{L M:List (Int×Int)}(h:ax H us L)(g:ax H zs M):ax H (us++zs) (L++M):=⟨by simp [h.1,g.1],fun k v p h1 h2=>by
 have hl:=h.1
 by_cases z:k<us.length
 ·rw [List.getElem?_append_left z] at h1
  rw [List.getElem?_append_left (by omega)] at h2
  exact h.2 k v p h1 h2
 ·rw [List.getElem?_append_right (by omega)] at h1
  rw [List.getElem?_append_right (by omega),show k-L.length=k-us.length by omega] at h2
  exact g.2 _ v p h1 h2⟩
theorem xq{d:List Nat}{i:Nat}{x:V}(h:(bC d)[i]?=some x):∃y,d[i]?=some y∧x=.int (y:Int):=by
 unfold bC at h
 rw [List.getElem?_map] at h
 cases e:d[i]? with
 | none=>rw [e] at h;cases h
 | some y=>rw [e] at h;cases h;exact ⟨y,rfl,rfl⟩
theorem iQ{P a b:Addr}{H:Hp}{xs:List V}(p:aF H P a)(e:H b=some (.tup xs)):er P H b=some (.tup xs):=by
 refine l9 (fun z=>?_) e
 obtain ⟨x,y,eP,_⟩:=p
 rw [z,eP] at e
 cases e
structure b8 (j i:Nat) (L:List (Int×Int)):Prop where
 nd:L.Nodup
 lt:∀p∈L,0≤p.1∧p.1<p.2∧(p.2<j∨p.2=j∧p.1<i)
 bb:2*L.length≤j*(j-1)+2*i
theorem b8.start:b8 0 0 []:=⟨List.nodup_nil,(fun p hp=>by cases hp),by simp⟩
theorem b8.skip{j i:Nat}{L:List (Int×Int)}(h:b8 j i L):b8 j (i+1) L:=⟨h.nd,fun p hp=>by
 have:=h.lt p hp
 omega,by
 have:=h.bb
 omega⟩
theorem b8.push{j i:Nat}{L:List (Int×Int)}(h:b8 j i L)(hi:i<j):b8 j (i+1) (L++[((i:Int),(j:Int))]) where
 nd:=by
  refine List.nodup_append.mpr ⟨h.nd,by simp,fun p hp q hq e=>?_⟩
  rw [List.mem_singleton.mp hq] at e
  have:=h.lt p hp
  rw [e] at this
  dsimp only at this
  omega
 lt:=fun p hp=>by
  rcases List.mem_append.mp hp with hp | hp
  ·have:=h.lt p hp
   omega
  ·rw [List.mem_singleton.mp hp]
   dsimp only
   omega
 bb:=by
  have:=h.bb
  rw [List.length_append,List.length_singleton]
  omega
theorem b8.next{j:Nat}{L:List (Int×Int)}(h:b8 j j L):b8 (j+1) 0 L:=⟨h.nd,fun p hp=>by
 have:=h.lt p hp
 omega,by
 have a:=h.bb
 rw [Nat.add_sub_cancel]
 cases j with
 | zero=>omega
 | succ j=>
  rw [Nat.add_sub_cancel] at a
  have e:(j+1+1)*(j+1)=(j+1)*j+2*(j+1):=by grind
  rw [e]
  omega⟩
theorem b8.ok{n:Nat}{L:List (Int×Int)}(h:b8 n 0 L):cR n L:=⟨h.nd,fun p hp=>by
 have:=h.lt p hp
 omega,by
 have:=h.bb
 have:n*(n-1)≤n*n:=Nat.mul_le_mul_left _ (by omega)
 omega⟩
theorem xr(n:Nat):(aZ n).Nodup:=jP List.nodup_range fun p q _ _ e=>by
 have:=V.int.inj e
 omega
theorem xt{n:Nat}{ys:List V}(h:ys.Perm (aZ n)):∃nm:Nat→Int,ys.length=n∧(∀i,i<n→ys[i]?=some (.int (nm i)))∧mj n nm:=by
 have ln:ys.length=n:=by rw [h.length_eq];unfold aZ;simp
 have nd:ys.Nodup:=h.nodup_iff.mpr (xr n)
 have each:∀i,∃x:Int,i<n→ys[i]?=some (.int x)∧0≤x∧x<n:=fun i=>by
  by_cases hi:i<n
  ·have b6:i<ys.length:=by omega
   have m:ys[i]∈aZ n:=h.mem_iff.mp (List.getElem_mem b6)
   obtain ⟨k,hk,e⟩:=List.mem_map.mp m
   have:=List.mem_range.mp hk
   exact ⟨(k:Int),fun _=>⟨by rw [e];simp [b6],by omega,by omega⟩⟩
  ·exact ⟨0,fun z=>absurd z hi⟩
 obtain ⟨nm,hn⟩:=Classical.axiomOfChoice each
 refine ⟨nm,ln,fun i hi=>(hn i hi).1,fun i hi=>(hn i hi).2,fun i j hi hj e=>?_⟩
 have a:=(hn i hi).1
 have b:=(hn j hj).1
 rw [e] at a
 have b6:i<ys.length:=by omega
 have qs:j<ys.length:=by omega
 rw [List.getElem?_eq_getElem b6] at a
 rw [List.getElem?_eq_getElem qs] at b
 exact (List.getElem_inj nd).mp ((Option.some.inj a).trans (Option.some.inj b).symm)
def xu(K:PySem.W.Frag):Sp:=fun vs H Q _=>∃(P a:Addr) (ns:List Int) (most:Nat),vs=[.ref P,.int (most:Int)]∧aF H P a∧av K (er P H) a (ns.map V.int)∧1≤most∧most≤10 ∧
 ∀(t:Addr) (n:Nat) (L:List (Int×Int)) (H':Hp),aj P H H'→aF H' P a→er P H t=none→t≠P→b7 (er P H') t n L→cR n L→L.Pairwise lexLt→1≤n→n≤most→Q (.ref t) H'
theorem ax.er{P a:Addr}{H:Hp}{us:List V}{L:List (Int×Int)}(h:ax H us L)(p:aF H P a):ax (er P H) us L:=⟨h.1,fun k v q h1 h2=>by
 obtain ⟨b,e,g⟩:=h.2 k v q h1 h2
 exact ⟨b,e,iQ p g⟩⟩
theorem b7.er{P a t:Addr}{H:Hp}{n:Nat}{L:List (Int×Int)}(h:b7 H t n L)(p:aF H P a):b7 (er P H) t n L:=by
 obtain ⟨lt,us,h1,h2,h3⟩:=h
 exact ⟨lt,us,iQ p h1,iQ p h2,h3.er p⟩
theorem b7.mono{t:Addr}{H H':Hp}{n:Nat}{L:List (Int×Int)}(h:b7 H t n L)(s:ag H H'):b7 H' t n L:=by
 obtain ⟨lt,us,h1,h2,h3⟩:=h
 exact ⟨lt,us,s _ _ h1,s _ _ h2,h3.mono s⟩
end My
namespace L2
open PySem PySem.Spec PyProof.Rows
end L2
namespace My
open PySem L2
end My
namespace L2
open PySem PySem.Spec PyProof.Rows
section
variable (P:Program) (w:World)
end
section
variable {P:Program} {w:World} {H H':Hp} {h h':Heap} {a:Addr} {o:HO}
end
section
variable {P:Program} {w:World} {H:Hp} {h h':Heap} {x e:Addr} {o':HO}
end
section
variable {fs kK ex cC:List Addr} {H H1 H2:Hp} {h h1 h2 h':Heap} {a x e:Addr} {o:HO}
end
section
variable {X:Cx} {pins:List (Addr×Obj)} {σ:List (Option V)} {H H':Hp} {s:Shared} {h':Heap}
end
section
variable {X:Cx}
variable {a b:Expr} {ta tb:TE} {pos:Pos}
variable {tA ik:TT} {rest:List Expr}
end
section
variable {X:Cx} {pins:List (Addr×Obj)} {σ:St} {H:Hp} {s:Shared} {a:Addr} {xs ys:List V}
end
section
variable {X:Cx} {pins:List (Addr×Obj)} {σ:St} {H:Hp} {s:Shared} {E:Value→Shared→Prop}
end
section
variable {X:Cx} {st:Stmt} {rest:List Stmt} {t u:TS} {e:Expr} {te:TE} {pos:Pos}
end
section
variable {X:Cx} {pos:Pos}
end
section
variable {X:Cx} {pos:Pos}
end
section
variable {X:Cx} {tg:Expr}
end
section
variable {X:Cx} {a b c:Expr} {ta tb tc:TE} {pos:Pos}
end
section
variable {X:Cx} {a b c:Expr} {ta tb tc:TE} {pos:Pos}
end
section
variable {prog:Program} {w:World} {A:Around} {E:Value→Shared→Prop} {s:Shared} {K:PySem.W.Frag} {x dx C f:Addr} {mA:Str→Option Value} {name:Str} {v:Value}
end
section
variable {P:Program} {w:World} {H H':Hp} {h h':Heap} {a C dx:Addr} {fs kK:List (Str×V)}
end
section
variable {X:Cx} {pins:List (Addr×Obj)} {σ:St} {H:Hp} {s:Shared} {a C dx:Addr} {fs:List (Str×V)} {f:Str} {v:V} {A:Around} {E:Value→Shared→Prop}
end
section
variable {X:Cx} {o e value:Expr} {f:Str} {pos pos' ju:Pos} {ta tv:TE}
end
section
variable {X:Cx} {pins:List (Addr×Obj)} {σ:St} {H:Hp} {s:Shared} {A:Around} {E:Value→Shared→Prop} {Q:Value→Shared→Prop} {c:Value} {b:Bool}
end
section
variable {X:Cx} {e:Expr} {es:List Expr} {te:TE} {t:TA} {pos:Pos}
end
section
variable {X:Cx} {pins:List (Addr×Obj)} {σ:St} {H:Hp} {s s':Shared}
end
section
variable {X:Cx} {CX:cw} {k:Nat} {f C:Addr} {fd:FuncData} {ps:List Str} {sp:Sp} {dj:List V} {ds:List Value} {E:XK} {x m:Str} {p pos apos:Pos} {e o:Expr} {es:List Expr} {ta:TE} {t:TA}
end
section
variable {X:Cx} {CX:cw} {k:Nat} {f C:Addr} {fd:FuncData} {ps ks:List Str} {sp:Sp} {E:XK} {x m:Str} {p pos apos oT:Pos} {e o:Expr} {es:List Expr} {uK:List Keyword} {te ta:TE} {t tk:TA} {nm:Option Str}
variable {g:List Value→List Value→List Value} {gV:List V→List V→List V}
end
section
variable {X:Cx} {x:Str} {p pos:Pos} {e:Expr} {es:List Expr} {t:TA} {id T:String} {r:List V→Hp→VK→Prop}
end
section
variable {κ:Type} [DecidableEq κ]
end
section
variable {P:Program} {w:World} {H:Hp} {h:Heap} {a:Addr}
end
section
variable {X:Cx} {pins:List (Addr×Obj)} {σ:St} {H:Hp} {s:Shared} {a:Addr} {y v:V} {u r:Value} {o:Option V} {A:Around} {E:Value→Shared→Prop}
end
section
variable {X:Cx} {pins:List (Addr×Obj)} {σ:St} {H:Hp} {s:Shared} {a:Addr} {aW:List (Key×V)} {k:Key} {u:Value} {A:Around} {E:Value→Shared→Prop}
end
section
variable {X:Cx} {o i e value:Expr} {pos pos' ju:Pos} {td ty tv:TE}
end
section
variable {X:Cx} {pos:Pos}
end
section
variable {X:Cx} {pins:List (Addr×Obj)} {σ:St} {H:Hp} {s:Shared} {a:Addr} {y d:V} {u r:Value} {o:Option V} {A:Around} {E:Value→Shared→Prop}
end
section
variable {X:Cx} {o e f:Expr} {apos dU:Pos} {td ty tx:TE}
end
section
variable {X:Cx} {pins:List (Addr×Obj)} {σ:St} {H:Hp} {s:Shared} {a:Addr} {aW:List (Key×V)} {A:Around} {E:Value→Shared→Prop}
end
section
variable {X:Cx} {pins:List (Addr×Obj)} {σ:St} {H:Hp} {s:Shared} {a:Addr} {y:V} {u:Value} {A:Around} {E:Value→Shared→Prop}
end
end L2
namespace jy
open PySem PySem.W PySem.Calls PyProof.Rows
section
variable {prog:Program} {w:World} {A:Around} {E:Value→Shared→Prop} {s:Shared} {K:Frag}
end
end jy
namespace L2
open PySem PySem.Spec PyProof.Rows
section
variable {P:Program} {w:World} {K:PySem.W.Frag} {mg:Str→Option Value} {base:Heap}
end
section
variable {X:Cx}
end
section
variable {κ:Type} [DecidableEq κ]
end
section
variable {X:Cx} {pins:List (Addr×Obj)} {σ:St} {H:Hp} {s:Shared}
end
section
variable {X:Cx} {tg:Expr}
end
end L2
namespace My
open PySem L2
def jQ(f:Nat→List Nat)(i:Nat)(ks:List Nat):Nat→List Nat:=fun j=>if j=i then ks else f j
def ft(n:Nat)(L:List (Int×Int)):Prop:=∀p∈L,0≤p.1∧p.1<(n:Int)∧0≤p.2∧p.2<(n:Int)
def eH(n:Nat)(L:List (Int×Int))(f:Nat→List Nat):Prop:=∀i j:Nat,i<n→(j∈f i↔((i:Int),(j:Int))∈L∨((j:Int),(i:Int))∈L)
theorem eH.nil(n:Nat):eH n [] (fun _=>[]):=fun i j _=>by simp
end My
namespace L2
open PySem PySem.Spec PyProof.Rows
def qt(K:PySem.W.Frag):R2:=fun x y H Q=>∃(a b:Addr) (xs ys:List Int),x=.ref a∧y=.ref b∧av K H a (xs.map V.int)∧av K H b (ys.map V.int)∧Q (.bl (decide (xs=ys))) H
theorem xv{X:Cx}(hu:X.A.units+64<cLine):aO X (compareOp .Eq) (qt X.K):=by
 intro pins s σ H x y v u Q I rx ry h
 obtain ⟨a,b,xs,ys,rfl,rfl,h1,h2,q⟩:=h
 cases rx
 cases ry
 obtain ⟨us,r1,t1,_⟩:=I.list h1
 obtain ⟨vs,r2,t2,_⟩:=I.list h2
 have l1:=r1.length
 have l2:=r2.length
 rw [List.length_map] at l1 l2
 by_cases hl:xs.length=ys.length
 ·refine SeqAt.RcAt.lists (e:=fun j=>bK (.int (xs.getD j 0)) (.int (ys.getD j 0))) t1.isList t2.isList (by simp;omega) (by omega) (fun j z1 z2=>?_) _ _ _ _ ?_
  ·have iL:j<us.length:=by simpa using z1
   have iM:j<vs.length:=by simpa using z2
   have ex:(xs.map V.int)[j]?=some (.int (xs.getD j 0)):=by
    rw [List.getElem?_map,List.getD_eq_getElem?_getD]
    simp [show j<xs.length by omega]
   have ey:(ys.map V.int)[j]?=some (.int (ys.getD j 0)):=by
    rw [List.getElem?_map,List.getD_eq_getElem?_getD]
    simp [show j<ys.length by omega]
   obtain ⟨x',cC,rx⟩:=r1.get ex
   obtain ⟨y',c7,ry⟩:=r2.get ey
   have e1:us.toArray[j]=x':=by simpa using (List.getElem?_eq_some_iff.mp cC).2
   have e2:vs.toArray[j]=y':=by simpa using (List.getElem?_eq_some_iff.mp c7).2
   rw [e1,e2]
   exact gk rx ry rfl rfl
  ·rw [show us.toArray.size=xs.length by simp;omega,wW hl]
   exact ⟨.bl (decide (xs=ys)),H,I,rfl,q⟩
 ·rw [decide_eq_false (fun e=>hl (by rw [e]))] at q
  refine SeqAt.RcAt.lists_lengths t1.isList t2.isList ?_ (by omega) _ _ _ _ ⟨.bl false,H,I,rfl,q⟩
  simp
  omega
end L2
namespace My
open PySem L2
theorem xw{H H1:Hp}(s:ag H H1){D:Addr}(e:H1 D=none):H D=none:=by
 cases z:H D with
 | none=>rfl
 | some o=>rw [s _ _ z] at e;cases e
theorem jR{H H1:Hp}(s:ag H H1){D:Addr}{o:HO}(e:H1 D=none):ag H (upd H1 D o):=cz s (xw s e)
theorem iR{n:Nat}{g:Nat→V}{p:Nat}(h:p<n):cx ((List.range n).map g) (p:Int)=some (g p):=dR (by rw [List.getElem?_map,List.getElem?_range h];rfl)
end My
namespace L2
open PySem PySem.Spec PyProof.Rows
section
variable {X:Cx} {pins:List (Addr×Obj)} {σ:St} {H:Hp} {s:Shared}
end
end L2
namespace My
open PySem L2
end My
namespace L2
open PySem PySem.Spec PyProof.Rows
end L2
namespace My
open PySem L2
end My
namespace L2
open PySem PySem.Spec PyProof.Rows
end L2
namespace My
open PySem L2
end My
namespace L2
open PySem PySem.Spec PyProof.Rows
end L2
namespace My
open PySem L2
end My
namespace L2
open PySem PySem.Spec PyProof.Rows
theorem iS{X:Cx}{K:PySem.W.Frag}(hk:X.K=K:=by rfl):aO X (compareOp .In) (jx K false):=by
 subst hk
 exact o9
end L2
namespace My
open PySem L2
theorem Ci(xs:List V)(k:Nat)(h:k≤xs.length):bZ xs none (some (k:Int))=xs.take k:=by
 unfold bZ HT.br
 simp only
 rw [if_neg (by omega),Int.toNat_natCast,Nat.min_eq_left h,Nat.sub_zero]
 rfl
theorem xx(xs:List V)(k:Nat)(h:k≤xs.length):bZ xs (some (k:Int)) none=xs.drop k:=by
 unfold bZ HT.br
 simp only
 rw [if_neg (by omega),Int.toNat_natCast,Nat.min_eq_left h]
 exact List.take_of_length_le (by rw [List.length_drop];exact Nat.le_refl _)
variable {n:Nat} {Cj:Nat→Nat→Prop} {Ck:Nat→Prop} {s:Nat}
end My
namespace L2
open PySem PySem.Spec PyProof.Rows
theorem xy{X:Cx}{K:PySem.W.Frag}(hk:X.K=K:=by rfl):aO X (compareOp .NotIn) (jx K true):=by
 subst hk
 exact u0
end L2
namespace My
open PySem L2
def d0(g:Nat→List Nat)(i j:Nat):Nat→List Nat:=jQ g i (g i++[j])
theorem qu{g:Nat→List Nat}{i j a b:Nat}:b∈d0 g i j a↔b∈g a∨(a=i∧b=j):=by
 unfold d0 jQ
 by_cases e:a=i
 ·subst e
  rw [if_pos rfl,List.mem_append,List.mem_singleton]
  simp
 ·rw [if_neg e]
  simp [e]
theorem mr{g:Nat→List Nat}{i j a:Nat}:(d0 g i j a).length≤(g a).length+1:=by
 unfold d0 jQ
 by_cases e:a=i
 ·subst e
  rw [if_pos rfl,List.length_append]
  exact Nat.le_refl _
 ·rw [if_neg e];omega
theorem eH.snoc{n:Nat}{L:List (Int×Int)}{g:Nat→List Nat}(h:eH n L g){i j:Nat}:eH n (L++[((i:Int),(j:Int))]) (d0 (d0 g i j) j i):=fun a b ha=>by
 rw [qu,qu,h a b ha]
 simp only [List.mem_append,List.mem_singleton,Prod.mk.injEq]
 constructor
 ·rintro (((e | e) | ⟨rfl,rfl⟩) | ⟨rfl,rfl⟩)
  ·exact .inl (.inl e)
  ·exact .inr (.inl e)
  ·exact .inl (.inr ⟨rfl,rfl⟩)
  ·exact .inr (.inr ⟨rfl,rfl⟩)
 ·rintro ((e | ⟨e1,e2⟩) | (e | ⟨e1,e2⟩))
  ·exact .inl (.inl (.inl e))
  ·exact .inl (.inr ⟨by omega,by omega⟩)
  ·exact .inl (.inl (.inr e))
  ·exact .inr ⟨by omega,by omega⟩
structure eI (H:Hp) (D:Addr) (n:Nat) (rs:Nat→Addr) (g:Nat→List Nat):Prop where
 lst:H D=some (.lst ((List.range n).map fun i=>V.ref (rs i)))
 inj:∀i j,i<n→j<n→rs i=rs j→i=j
 ne:∀i,i<n→rs i≠D
 at':∀i,i<n→H (rs i)=some (.lst ((g i).map fun k:Nat=>V.int (k:Int)))
theorem eI.snoc{H:Hp}{D:Addr}{n:Nat}{rs:Nat→Addr}{g:Nat→List Nat}(h:eI H D n rs g){i:Nat}(j:Nat)(hi:i<n):eI (upd H (rs i) (.lst (((g i).map fun k:Nat=>V.int (k:Int))++[V.int (j:Int)]))) D n rs (d0 g i j):=by
 refine ⟨by rw [aD (Ne.symm (h.ne i hi))];exact h.lst,h.inj,h.ne,fun a ha=>?_⟩
 unfold d0 jQ
 by_cases e:a=i
 ·subst e
  rw [if_pos rfl,ak,List.map_append]
  rfl
 ·rw [if_neg e,aD (fun z=>e (h.inj a i ha hi z))]
  exact h.at' a ha
end My
namespace L2
open PySem PySem.Spec PyProof.Rows
theorem xA(l:List Int):∀(i:Nat) (k:Int),i≤l.length→((firstMet (fun i=>l.getD i 0) i).any (· == k)=true↔k∈l.take i):=by
 intro i k hi
 rw [firstMet_any,List.any_eq_true]
 constructor
 ·rintro ⟨x,hx,e⟩
  obtain ⟨j,hj,rfl⟩:=List.mem_map.mp hx
  have qs:=List.mem_range.mp hj
  have:=eq_of_beq e
  subst this
  rw [List.mem_take_iff_getElem]
  exact ⟨j,by omega,by simp [List.getD_eq_getElem?_getD,show j<l.length by omega]⟩
 ·intro h
  obtain ⟨j,hj,rfl⟩:=List.mem_take_iff_getElem.mp h
  exact ⟨_,List.mem_map.mpr ⟨j,List.mem_range.mpr (by omega),rfl⟩,by simp [List.getD_eq_getElem?_getD,show j<l.length by omega]⟩
theorem qv(l:List Int):∀i:Nat,i≤l.length→((firstMet (fun i=>l.getD i 0) i).length=i↔(l.take i).Nodup)
 | 0,_=>by simp [firstMet_zero]
 | i+1,hi=>by
  have ih:=qv l i (by omega)
  have le:=firstMet_length_le (fun i=>l.getD i 0) i
  rw [firstMet_succ,step_length]
  have tk:l.take (i+1)=l.take i++[l.getD i 0]:=by
   rw [List.take_succ,List.getD_eq_getElem?_getD]
   simp [show i<l.length by omega]
  rw [tk,List.nodup_append]
  have m:=xA l i (l.getD i 0) (by omega)
  by_cases z:(firstMet (fun i=>l.getD i 0) i).any (· == l.getD i 0)=true
  ·rw [if_pos z]
   constructor
   ·intro h;omega
   ·rintro ⟨_,_,h⟩
    exact absurd rfl (h _ (m.mp z) _ (List.mem_singleton.mpr rfl))
  ·rw [if_neg z]
   constructor
   ·intro h
    refine ⟨ih.mp (by omega),by simp,fun a ha b hb e=>z (m.mpr ?_)⟩
    rw [List.mem_singleton] at hb
    rw [←hb,←e]
    exact ha
   ·rintro ⟨h,_,_⟩
    have:=ih.mpr h
    omega
theorem qw:∀{zs:List Int} {us:List Value},Vals (zs.map V.int) us→IntsAre us zs
 | [],_,r=>by cases r;exact .nil
 | z::zs,_,r=>by
  cases r with
  | cons h t=>
   obtain ⟨k,rfl⟩:=h
   exact .cons _ _ (qw t)
def xB(K:PySem.W.Frag):List V→Hp→VK→Prop:=fun xs H Q=>∃(a:Addr) (zs:List Int),xs=[.ref a]∧av K H a (zs.map V.int)∧zs.length<1000∧∀(l:Addr) (S:Int→Bool) (n:Nat),H l=none→n≤zs.length→(n=zs.length↔zs.Nodup)→Q (.ref l) (upd H l (.set S n))
theorem qx{X:Cx}{K:PySem.W.Frag}(hc:X.calm=true)(hK:X.K=K:=by rfl):cq X (.type "set") (xB K):=by
 intro pins s σ H xs us Q I r h
 subst hK
 obtain ⟨p,zs,rfl,hq,hz,q⟩:=h
 obtain ⟨u,rfl,ru⟩:=vals1 r
 cases ru
 obtain ⟨ae,rv,pl,_⟩:=I.list hq
 have hl:ae.length=zs.length:=by rw [←rv.length,List.length_map]
 refine call_set_list (items:=ae.toArray) (ns:=zs) (I.ok.hd hc) pl.isList (by simpa using qw rv) (by rw [List.size_toArray];unfold scanBound;omega) fun h' tk hS hk=>?_
 have el:=List.size_toArray (as:=ae)
 rw [el,hl] at hS
 refine ⟨.ref s.heap.objs.size,_,I.laid (t':=tk) (o:=.set (fun k'=>(firstMet (fun i=>zs.getD i 0) zs.length).any (· == k')) (firstMet (fun i=>zs.getD i 0) zs.length).length) (fun b u e=>hk b u (Heap.lt_size e) e) (Nat.le_refl _) hS,rfl,q _ _ _ (I.ao.fresh (Nat.le_refl _)) (firstMet_length_le _ _) ?_⟩
 have:=qv zs zs.length (Nat.le_refl _)
 rw [List.take_length] at this
 exact this
theorem qy{X:Cx}:cq X (.builtin "len") (fun xs H Q=>∃p S n,xs=[.ref p]∧H p=some (.set S n)∧n<1000∧Q (.int (n:Int)) H):=by
 intro pins s σ H xs us Q I r h
 obtain ⟨p,S,n,rfl,hq,n1,q⟩:=h
 obtain ⟨u,rfl,rx⟩:=vals1 r
 cases rx
 have hS:s.heap.SetOf (intKind X.prog X.w) p S n:=I.ao p _ hq
 obtain ⟨o,ho,xC⟩:=hS.objOf
 obtain ⟨hex,es,ep,t,hd,_,_,hn,hf⟩:=xC
 subst hn
 exact call_len_set ho hex hd hf (Int.lt_of_lt_of_le (Int.ofNat_lt.mpr n1) (by decide)) ⟨.int (es.size:Int),H,I.tok _,⟨s.toks+1,rfl⟩,q⟩
theorem boot_set:bootBuiltins "set" = some (.type "set"):=by decide +kernel
end L2
namespace My
open PySem L2
def xD(K:PySem.W.Frag):R2:=fun x y H Q=>∃(a b:Addr) (us ws:List V) (L M:List (Int×Int)),x=.ref a∧y=.ref b∧av K H a us∧av K H b ws∧ax H us L∧ax H ws M∧Q (.bl (decide (L=M))) H
theorem xE{X:Cx}{pins:List (Addr×Obj)}{σ:St}{H:Hp}{s:Shared}(I:Inv X pins σ H s){A:Around}(hu:A.units<cLine){p q:Addr}{x y:Int×Int}(e:H p=some (.tup [.int x.1,.int x.2]))(e':H q=some (.tup [.int y.1,.int y.2])):SeqAt.EqAt A s (.ref p) (.ref q) (decide (x=y)):=by
 by_cases pq:p=q
 ·subst pq
  rw [e] at e'
  cases x
  cases y
  simp only [Option.some.injEq,HO.tup.injEq,List.cons.injEq,V.int.injEq,and_true] at e'
  rw [decide_eq_true (Prod.ext e'.1 e'.2)]
  exact SeqAt.EqAt.same _
 obtain ⟨us,r1,t1,_⟩:=I.tuple (.of e)
 obtain ⟨vs,r2,t2,_⟩:=I.tuple (.of e')
 obtain ⟨a1,a2,rfl,xF,xG⟩:=vals2 r1
 obtain ⟨b1,b2,rfl,xH,xI⟩:=vals2 r2
 have z:=SeqAt.RcAt.tuples (A:=A) (e:=fun j=>if j=0 then bK (.int x.1) (.int y.1) else bK (.int x.2) (.int y.2)) t1 t2 hu (fun j z1 z2=>by
  have:j<2:=z1
  match j with
  | 0=>exact gk xF xH rfl rfl
  | 1=>exact gk xG xI rfl rfl)
 have ec:decide (x=y)=((List.range (min ([a1,a2]:List Value).toArray.size ([b1,b2]:List Value).toArray.size)).all (fun j=>if j=0 then bK (.int x.1) (.int y.1) else bK (.int x.2) (.int y.2)) && ([a1,a2]:List Value).toArray.size == ([b1,b2]:List Value).toArray.size):=by
  cases x
  cases y
  simp only [Prod.mk.injEq]
  show _=((List.range 2).all _ && true)
  simp [List.range_succ,bK]
  rfl
 rw [ec]
 exact SeqAt.EqAt.of_refs pq z
theorem qA{X:Cx}(hu:X.A.units+64<cLine):aO X (compareOp .Eq) (xD X.K):=by
 intro pins s σ H x y v u Q I rx ry h
 obtain ⟨a,b,xs,ys,L,M,rfl,rfl,h1,h2,k1,k2,q⟩:=h
 cases rx
 cases ry
 obtain ⟨us,r1,t1,_⟩:=I.list h1
 obtain ⟨vs,r2,t2,_⟩:=I.list h2
 have l1:=r1.length
 have l2:=r2.length
 have m1:=k1.1
 have m2:=k2.1
 by_cases hl:L.length=M.length
 ·refine SeqAt.RcAt.lists (e:=fun j=>decide (L.getD j (0,0)=M.getD j (0,0))) t1.isList t2.isList (by simp;omega) (by omega) (fun j z1 z2=>?_) _ _ _ _ ?_
  ·have iL:j<us.length:=by simpa using z1
   have iM:j<vs.length:=by simpa using z2
   obtain ⟨p,ep,hp⟩:=k1.2 j xs[j] (L.getD j (0,0)) (by simp) (by simp [List.getD_eq_getElem?_getD,show j<L.length by omega])
   obtain ⟨p',ig,xJ⟩:=k2.2 j ys[j] (M.getD j (0,0)) (by simp) (by simp [List.getD_eq_getElem?_getD,show j<M.length by omega])
   obtain ⟨x',cC,rx⟩:=r1.get (i:=j) (x:=xs[j]) (by simp)
   obtain ⟨y',c7,ry⟩:=r2.get (i:=j) (x:=ys[j]) (by simp)
   have e1:us.toArray[j]=x':=by simpa using (List.getElem?_eq_some_iff.mp cC).2
   have e2:vs.toArray[j]=y':=by simpa using (List.getElem?_eq_some_iff.mp c7).2
   rw [e1,e2]
   rw [ep] at rx
   rw [ig] at ry
   cases rx
   cases ry
   exact xE I (by rw [Around.in1_units];omega) hp xJ
  ·have ea:(List.range us.toArray.size).all (fun j=>decide (L.getD j (0,0)=M.getD j (0,0)))=decide (L=M):=by
    rw [show us.toArray.size=L.length by simp;omega]
    by_cases e:L=M
    ·subst e
     simp
    ·rw [decide_eq_false e,Bool.eq_false_iff]
     intro h
     rw [List.all_eq_true] at h
     refine e (List.ext_getElem hl fun j g1 g2=>?_)
     have:=h j (List.mem_range.mpr g1)
     simpa [List.getD_eq_getElem?_getD,g1,g2] using this
   rw [ea]
   exact ⟨.bl (decide (L=M)),H,I,rfl,q⟩
 ·rw [decide_eq_false (fun e=>hl (by rw [e]))] at q
  refine SeqAt.RcAt.lists_lengths t1.isList t2.isList ?_ (by omega) _ _ _ _ ⟨.bl false,H,I,rfl,q⟩
  simp
  omega
def xK:Sp:=fun vs H Q _=>∃(z:Int) (n:Nat),vs=[.int z,.int (n:Int)]∧Q (.bl (decide (0≤z∧z<n))) H
def bT(zs:List Int):List (Int×Int):=(List.range zs.length).map fun k=>(min (zs.getD k 0) (zs.getD ((k+1) % zs.length) 0),max (zs.getD k 0) (zs.getD ((k+1) % zs.length) 0))
def gx(L:List (Int×Int))(zs:List Int):List (Int×Int):=L.filter fun p=>decide (p.1∈zs) && decide (p.2∈zs)
def qB(H H':Hp)(l:Addr)(L:List (Int×Int)):Prop:=ag H H'∧H l=none∧∃us,H' l=some (.lst us)∧ax H' us L
def xM(K:PySem.W.Frag):Sp:=fun vs H Q _=>∃(a:Addr) (zs:List Int),vs=[.ref a]∧av K H a (zs.map V.int)∧1≤zs.length∧zs.length≤40∧∀H' l,qB H H' l (bT zs)→Q (.ref l) H'
def xN(K:PySem.W.Frag):Sp:=fun vs H Q _=>∃(tp a:Addr) (n:Nat) (L:List (Int×Int)) (zs:List Int),vs=[.ref tp,.ref a]∧b7 H tp n L∧L.length≤200∧av K H a (zs.map V.int)∧∀H' l,qB H H' l (gx L zs)→Q (.ref l) H'
end My
namespace L2
open PySem PySem.Spec PyProof.Rows My
structure jS (J:It) (Z:List (Int×Int)) (H1:Hp):Prop where
 go:∀i Hc,ag H1 Hc→i<Z.length→J.go i Hc
 bu:∀i Hc v H',ag H1 Hc→J.bu i Hc v H'→ag Hc H'∧∀z,Z[i]?=some z→∃T,v=.ref T∧H' T=some (.tup [.int z.1,.int z.2])
 stop:∀i Hc,ag H1 Hc→Z.length≤i→J.stop i Hc
theorem qC{K:PySem.W.Frag}{a:Addr}{us:List V}{Z:List (Int×Int)}{H1:Hp}(h:H1 a=some (.tup us))(hZ:ax H1 us Z):jS (gb K a) Z H1 where
 go:=fun i Hc s hi=>⟨us,us[i]'(by rw [hZ.1];exact hi),.of (s _ _ h),by simp⟩
 bu:=fun i Hc v H' s y=>by
  obtain ⟨rfl,hy⟩:=y
  refine ⟨ag.refl _,fun z hz=>?_⟩
  obtain ⟨b,e,g⟩:=hZ.2 i v z (hy us (.of (s _ _ h))) hz
  exact ⟨b,e,s _ _ g⟩
 stop:=fun i Hc s hi=>⟨us,.of (s _ _ h),by rw [hZ.1];exact hi⟩
theorem xO{K:PySem.W.Frag}{a b:Addr}{xs ys:List Int}{H1:Hp}(h1:av K H1 a (xs.map V.int))(h2:av K H1 b (ys.map V.int)):jS (l5 K a b) (xs.zip ys) H1 where
 go:=fun i Hc s hi=>by
  have hi:i<min xs.length ys.length:=by simpa using hi
  exact ⟨_,_,.int xs[i],.int ys[i],s.seq h1,s.seq h2,by simp [show i<xs.length by omega],by simp [show i<ys.length by omega]⟩
 bu:=fun i Hc v H' s y=>by
  obtain ⟨T,x,y,nT,ev,rfl,hx⟩:=y
  refine ⟨aB nT,fun z hz=>⟨T,ev,?_⟩⟩
  obtain ⟨e1,e2⟩:=hx _ _ (s.seq h1) (s.seq h2)
  obtain ⟨g1,g2⟩:=List.getElem?_zip_eq_some.mp hz
  rw [List.getElem?_map,g1] at e1
  rw [List.getElem?_map,g2] at e2
  cases e1
  cases e2
  exact ak
 stop:=fun i Hc s hi=>by
  have hi:min xs.length ys.length≤i:=by simpa using hi
  exact ⟨_,_,s.seq h1,s.seq h2,by rw [List.length_map,List.length_map];omega⟩
theorem qD{K:PySem.W.Frag}{wi:TI}{ρ:St→St}{tt:TT}{te:TE}{σ:St}{H:Hp}{Q:VK}{Z:List (Int×Int)}(pr:Int×Int→Bool)(f:Int×Int→Int×Int)(cI:∀R:It→Hp→Prop,(∀J H1,ag H H1→jS J Z H1→R J H1)→wi σ H R)(hn:Z.length<sizeLine)
  (test:∀z∈Z,∀(Hc:Hp) (R:Bool→Hp→Prop),ag H Hc→R (pr z) Hc→tt (some (.int z.1)::some (.int z.2)::ρ σ) Hc R)
  (step:∀z∈Z,∀(Hc:Hp) (R:VK),ag H Hc→(∀T H3,ag Hc H3→H3 T=some (.tup [.int (f z).1,.int (f z).2])→R (.ref T) H3)→te (some (.int z.1)::some (.int z.2)::ρ σ) Hc R)
  (fin:∀D us Hc,H D=none→ag H Hc→ax Hc us ((Z.filter pr).map f)→Hc D=some (.lst us)→Q (.ref D) Hc):pY K wi ρ tt te σ H Q:=by
 refine cI _ fun J H1 s1 js=>?_
 intro D nD
 refine ⟨fun i m us Hc=>m=Z.length-i∧i≤Z.length∧Hc D=some (.lst us)∧ag H1 Hc∧us.length≤i∧ax Hc us (((Z.take i).filter pr).map f),⟨_,rfl,Nat.zero_le _,ak,cz (ag.refl H1) nD,Nat.le_refl _,ax.nil _⟩,?_⟩
 rintro i m us Hc ⟨rfl,hi,eD,sH,lu,hL⟩
 refine ⟨eD,?_⟩
 by_cases aG:i<Z.length
 ·refine .inr ⟨js.go i Hc sH aG,fun v H' hy=>?_⟩
  obtain ⟨s',k⟩:=js.bu i Hc v H' sH hy
  obtain ⟨T,rfl,eT⟩:=k Z[i] (by simp [aG])
  have tk:Z.take (i+1)=Z.take i++[Z[i]]:=by rw [List.take_succ,List.getElem?_eq_getElem aG];rfl
  have mz:Z[i]∈Z:=List.getElem_mem aG
  generalize Z[i]=z at eT tk mz
  refine ⟨T,_,_,rfl,.of eT,test z mz _ _ (s1.trans (sH.trans s')) ?_⟩
  cases e:pr z with
  | true=>
   rw [if_pos rfl]
   refine step z mz _ _ (s1.trans (sH.trans s')) fun w H3 s3 ew=>?_
   have e3:=s3 _ _ (s' _ _ eD)
   refine ⟨e3,by omega,Z.length-(i+1),by omega,rfl,aG,ak,cz (sH.trans (s'.trans s3)) nD,by simp;omega,?_⟩
   rw [tk,List.filter_append,List.map_append,show [z].filter pr=[z] by simp [e]]
   exact ((hL.mono (s'.trans s3)).push ew).b5 e3 fun b o nb e=>by rw [aD nb];exact e
  | false=>
   rw [if_neg (by simp)]
   refine ⟨Z.length-(i+1),by omega,rfl,aG,s' _ _ eD,sH.trans s',by omega,?_⟩
   rw [tk,List.filter_append,show [z].filter pr=[] by simp [e],List.append_nil]
   exact hL.mono s'
 ·have e:i=Z.length:=by omega
  subst e
  rw [List.take_length] at hL
  exact .inl ⟨js.stop _ Hc sH (Nat.le_refl _),fin D us Hc (none_of s1 nD) (s1.trans sH) hL eD⟩
end L2
namespace My
open PySem L2
def c9(z:Int×Int):Int×Int:=(if z.2<z.1 then z.2 else z.1,if z.2>z.1 then z.2 else z.1)
theorem qE(a b:Int):c9 (a,b)=(min a b,max a b):=by
 unfold c9
 refine Prod.ext ?_ ?_
 ·show (if b<a then b else a)=min a b
  split <;> omega
 ·show (if b>a then b else a)=max a b
  split <;> omega
theorem xP{zs:List Int}(h:1≤zs.length):((zs.zip (zs.drop 1++zs.take 1)).filter fun _=>true).map c9=bT zs:=by
 rw [List.filter_eq_self.mpr (fun _ _=>rfl)]
 unfold bT
 refine List.ext_getElem ?_ fun k h1 h2=>?_
 ·simp
  omega
 ·have hk:k<zs.length:=by simpa using h2
  rw [List.getElem_map,List.getElem_map,List.getElem_zip,List.getElem_range,qE]
  have e1:zs.getD k 0=zs[k]:=by simp [List.getD_eq_getElem?_getD,hk]
  have e2:zs.getD ((k+1) % zs.length) 0=(zs.drop 1++zs.take 1)[k]'(by simp;omega):=by
   by_cases z:k+1<zs.length
   ·rw [Nat.mod_eq_of_lt z,List.getElem_append_left (by simp;omega)]
    simp [List.getD_eq_getElem?_getD,z,Nat.add_comm]
   ·have:k+1=zs.length:=by omega
    rw [this,Nat.mod_self,List.getElem_append_right (by simp;omega)]
    simp [List.getD_eq_getElem?_getD,show 0<zs.length by omega,show k-(zs.length-1)=0 by omega]
  rw [e1,e2]
theorem gy(z:Int)(zs:List Int):jw (.int z) (zs.map V.int)=decide (z∈zs):=by
 unfold jw
 rw [List.any_map]
 by_cases h:z∈zs
 ·rw [decide_eq_true h,List.any_eq_true]
  exact ⟨z,h,by simp [bK]⟩
 ·rw [decide_eq_false h,List.any_eq_false]
  intro x hx e
  have:x=z:=by simpa [bK] using e
  exact h (this▸hx)
theorem jT(zs:List Int):(zs.map V.int).all cG=true:=by
 rw [List.all_eq_true]
 intro x hx
 obtain ⟨z,_,rfl⟩:=List.mem_map.mp hx
 rfl
theorem xQ(zs:List Int)(k:Nat):bZ (zs.map V.int) none (some (k:Int))=(zs.take k).map V.int:=by
 rw [wa,List.map_take]
theorem xR(zs:List Int)(k:Nat)(h:k≤zs.length):bZ (zs.map V.int) (some (k:Int)) none=(zs.drop k).map V.int:=by
 rw [xx _ _ (by rw [List.length_map];exact h),List.map_drop]
def c_(L:List (Int×Int))(zs:List Int):Prop:=4≤zs.length∧zs.Nodup∧(bT zs).Perm (gx L zs)
instance (L:List (Int×Int)) (zs:List Int):Decidable (c_ L zs):=by unfold c_;exact inferInstance
theorem iT(zs:List Int):(bT zs).length=zs.length:=by unfold bT;simp
theorem xS{zs:List Int}{p:Int×Int}(h:p∈bT zs):∃x y,x∈zs∧y∈zs∧p=(min x y,max x y)∧(zs.Nodup→2≤zs.length→x≠y):=by
 unfold bT at h
 obtain ⟨k,hk,rfl⟩:=List.mem_map.mp h
 have hk:=List.mem_range.mp hk
 have hm:(k+1) % zs.length<zs.length:=Nat.mod_lt _ (by omega)
 have e1:zs.getD k 0=zs[k]:=by simp [List.getD_eq_getElem?_getD,hk]
 have e2:zs.getD ((k+1) % zs.length) 0=zs[(k+1) % zs.length]:=by simp [List.getD_eq_getElem?_getD,hm]
 refine ⟨zs.getD k 0,zs.getD ((k+1) % zs.length) 0,by rw [e1];exact List.getElem_mem _,by rw [e2];exact List.getElem_mem _,rfl,fun nd l2 e=>?_⟩
 rw [e1,e2] at e
 have:=(List.getElem_inj nd).mp e
 by_cases z:k+1<zs.length
 ·rw [Nat.mod_eq_of_lt z] at this
  omega
 ·rw [show k+1=zs.length by omega,Nat.mod_self] at this
  omega
theorem xT{zs:List Int}{z:Int}(h:z∈zs):∃p∈bT zs,p.1=z∨p.2=z:=by
 obtain ⟨k,hk,rfl⟩:=List.getElem_of_mem h
 refine ⟨_,List.mem_map.mpr ⟨k,List.mem_range.mpr hk,rfl⟩,?_⟩
 have e1:zs.getD k 0=zs[k]:=by simp [List.getD_eq_getElem?_getD,hk]
 rw [e1]
 dsimp only
 omega
theorem c_.xU{n:Nat}{L:List (Int×Int)}{zs:List Int}(h:c_ L zs)(ok:ft n L):∀z∈zs,0≤z∧z<n:=fun z hz=>by
 obtain ⟨p,hp,e⟩:=xT hz
 have:=(List.mem_filter.mp (h.2.2.mem_iff.mp hp)).1
 have:=ok p this
 omega
def gz(p q:Int×Int):Prop:=p.1*1000+p.2≤q.1*1000+q.2
theorem xV{M:List (Int×Int)}{p:Array Nat}(P:aN M.length p)(U:ba (fun i=>(M.getD i (0,0)).1*1000+(M.getD i (0,0)).2) p M.length) :
  (p.toList.map fun i=>M.getD i (0,0)).Perm M∧(p.toList.map fun i=>M.getD i (0,0)).Pairwise gz:=by
 have pm:p.toList.Perm (List.range M.length):=Array.perm_iff_toList_perm.mp P
 have lt:∀i∈p.toList,i<M.length:=fun i hi=>List.mem_range.mp (pm.mem_iff.mp hi)
 refine ⟨?_,?_⟩
 ·have e:((List.range M.length).map fun i=>M.getD i (0,0))=M:=by
   refine List.ext_getElem (by simp) fun i h1 h2=>?_
   rw [List.getElem_map,List.getElem_range,getD_at h2]
  have:=pm.map fun i=>M.getD i (0,0)
  rw [e] at this
  exact this
 ·rw [List.pairwise_iff_getElem]
  intro i j hi hj lb
  rw [List.length_map] at hi hj
  rw [List.getElem_map,List.getElem_map]
  have sz:=P.size
  have u:=U i j (by omega) (by rw [←sz,←Array.length_toList];exact hj)
  unfold vN at u
  have gi:p.getD i 0=p.toList[i]:=by
   have:i<p.size:=by rw [←Array.length_toList];exact hi
   simp [Array.getD,this]
  have gj:p.getD j 0=p.toList[j]:=by
   have:j<p.size:=by rw [←Array.length_toList];exact hj
   simp [Array.getD,this]
  rw [gi,gj] at u
  exact u
theorem qF{M N R:List (Int×Int)}(p:M.Perm R)(oM:M.Pairwise gz)(oN:N.Pairwise lexLt)(bR:∀q∈R,0≤q.2∧q.2<1000)(bN:∀q∈N,0≤q.2∧q.2<1000):decide (M=N)=decide (R.Perm N):=by
 by_cases h:R.Perm N
 ·rw [decide_eq_true h]
  refine decide_eq_true ?_
  have xW:N.Pairwise gz:=List.Pairwise.imp_of_mem (fun{a b} ha hb l=>by
   have h1:=bN a ha
   have h2:=bN b hb
   unfold lexLt at l
   unfold gz
   omega) oN
  refine (p.trans h).eq_of_pairwise (fun a b ha hb h1 h2=>?_) oM xW
  have b1:=bR a (p.mem_iff.mp ha)
  have b2:=bN b hb
  unfold gz at h1 h2
  exact Prod.ext (by omega) (by omega)
 ·rw [decide_eq_false h]
  refine decide_eq_false fun e=>h ?_
  subst e
  exact p.symm
theorem qG{n:Nat}{L:List (Int×Int)}{zs:List Int}(ok:ft n L)(n1:n≤1000):∀q∈gx L zs,0≤q.2∧q.2<1000:=fun q hq=>by
 have:=ok q (List.mem_filter.mp hq).1
 omega
theorem qH{L:List (Int×Int)}{zs:List Int}(h:L.Pairwise lexLt):(gx L zs).Pairwise lexLt:=h.filter _
def xX(K:PySem.W.Frag):Sp:=fun vs H Q _=>∃(tp a:Addr) (n:Nat) (L:List (Int×Int)) (zs:List Int),vs=[.ref tp,.ref a]∧b7 H tp n L∧ft n L∧L.Pairwise lexLt∧n≤1000∧L.length≤200∧av K H a (zs.map V.int)∧zs.length≤40∧(∀z∈zs,-1≤z∧z<1000)∧∀H',ag H H'→Q (.bl (decide (c_ L zs))) H'
theorem qI{H:Hp}{l:Addr}{us:List V}{M:List (Int×Int)}{Q:VK}(el:H l=some (.lst us))(hM:ax H us M)(Cm:M.length<64)(b:∀q∈M,0≤q.2∧q.2<1000)
  (k:∀(l':Addr) (ws:List V) (N:List (Int×Int)) (H':Hp),ag H H'→H l'=none→H' l'=some (.lst ws)→ax H' ws N→N.Perm M→N.Pairwise gz→Q (.ref l') H'):qo [.ref l] H Q:=by
 have lX:=hM.1
 refine ⟨l,us,fun i=>(M.getD i (0,0)).1,fun i=>(M.getD i (0,0)).2,rfl,el,by omega,fun i v hv=>?_,fun p l' hp hu d2=>?_⟩
 ·have hi:i<M.length:=by
   rw [←lX]
   exact (List.getElem?_eq_some_iff.mp hv).1
  obtain ⟨c,rfl,ec⟩:=hM.2 i v M[i] hv (by simp [hi])
  dsimp only
  rw [getD_at hi]
  exact ⟨⟨c,rfl,ec⟩,b _ (List.getElem_mem hi)⟩
 ·rw [lX] at hp hu
  obtain ⟨pm,pw⟩:=xV hp hu
  have hP:ax H (p.toList.map fun i=>us.getD i .aw) (p.toList.map fun i=>M.getD i (0,0)):=hM.pick _ fun i hi=>by
   have:p.toList.Perm (List.range M.length):=Array.perm_iff_toList_perm.mp hp
   exact List.mem_range.mp (this.mem_iff.mp hi)
  exact k l' _ _ _ (aB d2) d2 ak (hP.mono (aB d2)) pm pw
theorem jU{zs:List Int}(nd:zs.Nodup)(h2:2≤zs.length)(b:∀z∈zs,-1≤z∧z<1000):∀q∈bT zs,0≤q.2∧q.2<1000:=fun q hq=>by
 obtain ⟨x,y,hx,hy,rfl,ne⟩:=xS hq
 have h1:=b x hx
 have h3:=b y hy
 have:=ne nd h2
 dsimp only
 omega
def xY:Sp:=fun vs H Q _=>∃(tp a:Addr) (n:Nat) (L:List (Int×Int)) (zs:List Int),vs=[.ref tp,.ref a]∧b7 H tp n L∧ft n L∧L.Pairwise lexLt∧n≤1000∧L.length≤200∧H a=some (.lst (zs.map V.int))∧zs.length≤40∧(∀z∈zs,-1≤z∧z<1000)∧∀H',ag H H'→Q (.bl (decide (c_ L zs))) H'
theorem xZ{zs:List Int}{k:Nat}(h:k<zs.length):(bT zs).take (k+1)=(bT zs).take k++[c9 (zs.getD k 0,zs.getD ((k+1) % zs.length) 0)]:=by
 rw [List.take_succ,List.getElem?_eq_getElem (by rw [iT];exact h),qE]
 unfold bT
 simp
theorem jV{zs:List Int}{k:Nat}(h:k<zs.length):cx (zs.map V.int) (k:Int)=some (.int (zs.getD k 0)):=by
 refine dR ?_
 rw [List.getElem?_map,List.getElem?_eq_getElem h,List.getD_eq_getElem?_getD,List.getElem?_eq_getElem h]
 rfl
end My
namespace L2
open PySem PySem.Spec PyProof.Rows My
theorem x3{wi:TI}{ρ:St→St}{tt:TT}{te:TE}{σ:St}{H:Hp}{Q:VK}{Z:List (Int×Int)}(pr:Int×Int→Bool)(cI:∀R:It→Hp→Prop,(∀J H1,ag H H1→jS J Z H1→R J H1)→wi σ H R)(hn:Z.length<sizeLine)
  (test:∀z∈Z,∀(T:Addr) (Hc:Hp) (R:Bool→Hp→Prop),ag H Hc→Hc T=some (.tup [.int z.1,.int z.2])→R (pr z) Hc→tt (some (.ref T)::ρ σ) Hc R)
  (step:∀(T:Addr) (Hc:Hp) (R:VK),R (.ref T) Hc→te (some (.ref T)::ρ σ) Hc R)
  (fin:∀D us Hc,H D=none→ag H Hc→ax Hc us (Z.filter pr)→Hc D=some (.lst us)→Q (.ref D) Hc):cZ wi ρ tt te σ H Q:=by
 refine cI _ fun J H1 s1 js=>?_
 intro D nD
 refine ⟨fun i m us Hc=>m=Z.length-i∧i≤Z.length∧Hc D=some (.lst us)∧ag H1 Hc∧us.length≤i∧ax Hc us ((Z.take i).filter pr),⟨_,rfl,Nat.zero_le _,ak,cz (ag.refl H1) nD,Nat.le_refl _,ax.nil _⟩,?_⟩
 rintro i m us Hc ⟨rfl,hi,eD,sH,lu,hL⟩
 refine ⟨eD,?_⟩
 by_cases aG:i<Z.length
 ·refine .inr ⟨js.go i Hc sH aG,fun v H' hy=>?_⟩
  obtain ⟨s',k⟩:=js.bu i Hc v H' sH hy
  obtain ⟨T,rfl,eT⟩:=k Z[i] (by simp [aG])
  have tk:Z.take (i+1)=Z.take i++[Z[i]]:=by rw [List.take_succ,List.getElem?_eq_getElem aG];rfl
  have mz:Z[i]∈Z:=List.getElem_mem aG
  generalize Z[i]=z at eT tk mz
  refine test z mz T _ _ (s1.trans (sH.trans s')) eT ?_
  cases e:pr z with
  | true=>
   rw [if_pos rfl]
   refine step T _ _ ?_
   have e3:=s' _ _ eD
   refine ⟨e3,by omega,Z.length-(i+1),by omega,rfl,aG,ak,cz (sH.trans s') nD,by simp;omega,?_⟩
   rw [tk,List.filter_append,show [z].filter pr=[z] by simp [e]]
   exact ((hL.mono s').push eT).b5 e3 fun b o nb e=>by rw [aD nb];exact e
  | false=>
   rw [if_neg (by simp)]
   refine ⟨Z.length-(i+1),by omega,rfl,aG,s' _ _ eD,sH.trans s',by omega,?_⟩
   rw [tk,List.filter_append,show [z].filter pr=[] by simp [e],List.append_nil]
   exact hL.mono s'
 ·have e:i=Z.length:=by omega
  subst e
  rw [List.take_length] at hL
  exact .inl ⟨js.stop _ Hc sH (Nat.le_refl _),fin D us Hc (none_of s1 nD) (s1.trans sH) hL eD⟩
theorem mw{wi:TI}{ρ:St→St}{tt:TT}{te:TE}{σ:St}{H:Hp}{Q:VK}{xs:List V}(cI:∀R:It→Hp→Prop,(∀J H1,ag H H1→fk J xs H1→R J H1)→wi σ H R)(hn:xs.length<sizeLine)
  (test:∀x∈xs,∀(Hc:Hp) (R:Bool→Hp→Prop),ag H Hc→(∀b H3,ag Hc H3→R b H3)→tt (some x::ρ σ) Hc R)
  (elem:∀(x:V) (Hc:Hp) (R:VK),R x Hc→te (some x::ρ σ) Hc R)
  (fin:∀D ys Hc,H D=none→ag H Hc→ys.length≤xs.length→(∀y∈ys,y∈xs)→Hc D=some (.lst ys)→Q (.ref D) Hc):cZ wi ρ tt te σ H Q:=by
 refine cI _ fun J H1 s1 js=>?_
 intro D nD
 refine ⟨fun i m ys Hc=>m=xs.length-i∧i≤xs.length∧Hc D=some (.lst ys)∧ag H1 Hc∧ys.length≤i∧∀y∈ys,y∈xs,⟨_,rfl,Nat.zero_le _,ak,cz (ag.refl H1) nD,Nat.le_refl _,fun y h=>by cases h⟩,?_⟩
 rintro i m ys Hc ⟨rfl,hi,eD,sH,ly,hP⟩
 refine ⟨eD,?_⟩
 by_cases aG:i<xs.length
 ·refine .inr ⟨js.go i Hc sH aG,fun x H' hy=>?_⟩
  obtain ⟨rfl,hx⟩:=js.bu i Hc x H' sH hy
  have mx:x∈xs:=List.mem_of_getElem? (hx aG)
  refine test x mx _ _ (s1.trans sH) fun b H3 s3=>?_
  have e3:=s3 _ _ eD
  cases b with
  | true=>
   rw [if_pos rfl]
   refine elem x _ _ ⟨e3,by omega,xs.length-(i+1),by omega,rfl,aG,ak,cz (sH.trans s3) nD,by simp;omega,fun y hy=>?_⟩
   rcases List.mem_append.mp hy with h | h
   ·exact hP y h
   ·rw [List.mem_singleton.mp h]
    exact mx
  | false=>
   rw [if_neg (by simp)]
   exact ⟨xs.length-(i+1),by omega,rfl,aG,e3,sH.trans s3,by omega,hP⟩
 ·have e:i=xs.length:=by omega
  subst e
  exact .inl ⟨js.stop _ Hc sH (Nat.le_refl _),fin D ys Hc (none_of s1 nD) (s1.trans sH) ly hP eD⟩
theorem x4{X:Cx}{K:PySem.W.Frag}(hu:X.A.units+64<cLine)(hk:X.K=K:=by rfl):aO X (compareOp .Eq) (qt K):=by
 subst hk
 exact xv hu
end L2
namespace My
open PySem L2
def bj(n:Nat)(xs:List V):Prop:=∃ms:List Nat,xs=ms.map (fun k:Nat=>V.int (k:Int))∧∀k∈ms,k<n
theorem bj.sub{n:Nat}{xs ys:List V}(h:bj n xs)(s:∀y∈ys,y∈xs):bj n ys:=by
 obtain ⟨ms,rfl,hm⟩:=h
 induction ys with
 | nil=>exact ⟨[],rfl,fun k h=>by cases h⟩
 | cons y ys ih=>
  obtain ⟨ks,rfl,hk⟩:=ih fun z hz=>s z (List.mem_cons_of_mem _ hz)
  obtain ⟨k,x5,rfl⟩:=List.mem_map.mp (s y (List.mem_cons_self ..))
  refine ⟨k::ks,rfl,fun j hj=>?_⟩
  rcases List.mem_cons.mp hj with rfl | h
  ·exact hm _ x5
  ·exact hk j h
theorem bj.at{n:Nat}{xs:List V}(h:bj n xs){i:Nat}(hi:i<xs.length):∃k:Nat,k<n∧xs[i]?=some (.int (k:Int)):=by
 obtain ⟨ms,rfl,hm⟩:=h
 have b6:i<ms.length:=by simpa using hi
 exact ⟨ms[i],hm _ (List.getElem_mem _),by simp [b6]⟩
theorem bj.snoc{n k:Nat}{xs:List V}(h:bj n xs)(hk:k<n):bj n (xs++[.int (k:Int)]):=by
 obtain ⟨ms,rfl,hm⟩:=h
 refine ⟨ms++[k],by simp,fun j hj=>?_⟩
 rcases List.mem_append.mp hj with h | h
 ·exact hm j h
 ·rw [List.mem_singleton.mp h]
  exact hk
theorem bj.flat{n:Nat}{xs:List V}(h:bj n xs):xs.all cG=true:=by
 obtain ⟨ms,rfl,_⟩:=h
 rw [List.all_eq_true]
 intro x hx
 obtain ⟨z,_,rfl⟩:=List.mem_map.mp hx
 rfl
theorem bj.ints{n:Nat}{xs:List V}(h:bj n xs):∃zs:List Int,xs=zs.map V.int∧∀z∈zs,0≤z∧z<n:=by
 obtain ⟨ms,rfl,hm⟩:=h
 refine ⟨ms.map fun k:Nat=>(k:Int),by rw [List.map_map];rfl,fun z hz=>?_⟩
 obtain ⟨k,hk,rfl⟩:=List.mem_map.mp hz
 have:=hm k hk
 omega
def x6(K:PySem.W.Frag):Sp:=fun vs H Q _=>∃(P a tp:Addr) (ns:List Int) (n:Nat) (L:List (Int×Int)),vs=[.ref P,.ref tp]∧aF H P a∧av K (er P H) a (ns.map V.int)∧tp≠P∧b7 H tp n L∧ft n L∧1≤n∧n≤10∧L.length≤200 ∧
 ∀(l:Addr) (xs:List V) (H':Hp),aj P H H'→aF H' P a→l≠P→H l=none→H' l=some (.lst xs)→bj n xs→1≤xs.length→xs.length≤8→Q (.ref l) H'
def x9:Sp:=fun vs H Q _=>∃(t:Addr) (n:Nat) (L:List (Int×Int)),vs=[.ref t]∧b7 H t n L∧ft n L∧n≤60∧L.length≤200 ∧
 ∀(H':Hp) (D:Addr) (rs:Nat→Addr) (g:Nat→List Nat),ag H H'→H D=none→(∀i,i<n→H (rs i)=none)→eI H' D n rs g→eH n L g→(∀i,(g i).length≤2*L.length)→Q (.ref D) H'
theorem qJ{xs:List V}{v:V}(h1:1≤xs.length)(h:xs[xs.length-1]?=some v):cx xs (-1)=some v:=by
 unfold cx
 have e:dQ xs.length (-1)=some (xs.length-1):=by
  unfold dQ
  split
  ·rename_i hh;omega
  ·split
   ·congr 1
    omega
   ·rename_i h2 h3
    omega
 rw [e]
 exact h
def GL(n m:Nat)(H:Hp)(r:Addr):Prop:=∃zs:List Int,H r=some (.lst (zs.map V.int))∧(∀z∈zs,-1≤z∧z≤n)∧zs.length≤m
theorem GL.mono{n m:Nat}{H H':Hp}{r:Addr}(h:GL n m H r)(s:ag H H'):GL n m H' r:=by
 obtain ⟨zs,e,b,l⟩:=h
 exact ⟨zs,s _ _ e,b,l⟩
theorem GL.monoE{n m:Nat}{H H':Hp}{r P:Addr}(h:GL n m H r)(s:aj P H H')(nr:r≠P):GL n m H' r:=by
 obtain ⟨zs,e,b,l⟩:=h
 exact ⟨zs,s.at nr e,b,l⟩
theorem GL.le{n m m':Nat}{H:Hp}{r:Addr}(h:GL n m H r)(l:m≤m'):GL n m' H r:=by
 obtain ⟨zs,e,b,l'⟩:=h
 exact ⟨zs,e,b,Nat.le_trans l' l⟩
theorem gA{n m:Nat}{K:PySem.W.Frag}{H:Hp}{r:Addr}{lo hi:Option Int}{Q:VK}(h:GL n m H r)(k:∀p H',ag H H'→H p=none→GL n m H' p→Q (.ref p) H'):lJ K (.ref r) lo hi H Q:=by
 obtain ⟨zs,e,b,l⟩:=h
 refine ⟨r,_,rfl,.of e,fun p np=>k p _ (aB np) np ?_⟩
 have ec:bZ (zs.map V.int) lo hi=((zs.drop (HT.br (zs.map V.int).length 0 lo)).take (HT.br (zs.map V.int).length (zs.map V.int).length hi-HT.br (zs.map V.int).length 0 lo)).map V.int:=by
  unfold bZ
  rw [List.map_take,List.map_drop]
 refine ⟨_,by rw [ak,ec],fun z hz=>b z (List.mem_of_mem_drop (List.mem_of_mem_take hz)),?_⟩
 rw [List.length_take,List.length_drop]
 omega
theorem eJ{n m m':Nat}{H:Hp}{r r':Addr}{Q:VK}(h:GL n m H r)(h':GL n m' H r')(hm:m+m'≤1000)(k:∀p H',ag H H'→H p=none→GL n (m+m') H' p→Q (.ref p) H'):ph (.ref r) (.ref r') H Q:=by
 obtain ⟨zs,e,b,l⟩:=h
 obtain ⟨ws,e',b',l'⟩:=h'
 refine ⟨r,r',_,_,rfl,rfl,e,e',?_,fun p np=>k p _ (aB np) np ⟨zs++ws,by rw [ak,List.map_append],fun z hz=>?_,by rw [List.length_append];omega⟩⟩
 ·rw [List.length_map,List.length_map]
  exact Nat.le_of_lt (bA (by omega))
 ·rcases List.mem_append.mp hz with h | h
  ·exact b z h
  ·exact b' z h
def x_(K:PySem.W.Frag):Sp:=fun vs H Q _=>∃(P a tp r:Addr) (ns:List Int) (n:Nat) (L:List (Int×Int)) (xs:List V),vs=[.ref P,.ref tp,.ref r]∧aF H P a∧av K (er P H) a (ns.map V.int)∧tp≠P∧r≠P∧b7 H tp n L∧1≤n∧n≤10∧H r=some (.lst xs)∧bj n xs∧1≤xs.length∧xs.length≤8 ∧
 ∀(l:Addr) (H':Hp),aj P H H'→aF H' P a→l≠P→GL n 20 H' l→Q (.ref l) H'
theorem jW{n:Nat}{H:Hp}{z:Int}{p:Addr}(hz:-1≤z∧z≤n)(np:H p=none):ag H (upd H p (.lst [.int z]))∧GL n 1 (upd H p (.lst [.int z])) p:=
 ⟨aB np,⟨[z],ak,fun y hy=>by rw [List.mem_singleton.mp hy];exact hz,Nat.le_refl _⟩⟩
theorem ya{n m:Nat}{H:Hp}{xs:List V}{r p:Addr}(h:GL n m H r)(e:H r=some (.lst xs))(np:H p=none):ag H (upd H p (.lst xs.reverse))∧GL n m (upd H p (.lst xs.reverse)) p:=by
 obtain ⟨zs,e',b,l⟩:=h
 rw [e] at e'
 cases e'
 exact ⟨aB np,⟨zs.reverse,by rw [ak,List.map_reverse],fun z hz=>b z (List.mem_reverse.mp hz),by rw [List.length_reverse];exact l⟩⟩
theorem yb{n:Nat}{ys:List V}(h:ys.Perm (aZ n)):bj n ys:=by
 refine bj.sub (xs:=aZ n) ⟨List.range n,by unfold aZ;rfl,fun k hk=>List.mem_range.mp hk⟩ fun y hy=>h.mem_iff.mp hy
theorem bj.gl{n m:Nat}{H:Hp}{r:Addr}{xs:List V}(h:bj n xs)(e:H r=some (.lst xs))(l:xs.length≤m):GL n m H r:=by
 obtain ⟨zs,rfl,b⟩:=h.ints
 exact ⟨zs,e,fun z hz=>by have:=b z hz;omega,by rw [List.length_map] at l;exact l⟩
end My
set_option maxRecDepth 100000
set_option maxHeartbeats 4000000
namespace My
open PySem L2
def top(i:Nat):Stmt:=PySem.Challenge.pw_bandwright_k22_bare_rings_looked_at.main.body.getD i (.Pass ⟨0,0,0,0⟩)
abbrev jX:Stmt:=top 1
abbrev jY:Stmt:=top 3
abbrev jZ:Stmt:=top 5
abbrev j4:Stmt:=top 6
abbrev j6:Stmt:=top 7
abbrev j7:Stmt:=top 9
abbrev j8:Stmt:=top 10
abbrev j9:Stmt:=top 11
abbrev j_:Stmt:=top 12
abbrev ka:Stmt:=top 13
abbrev kb:Stmt:=top 14
abbrev kd:Stmt:=top 15
abbrev ke:Stmt:=top 16
abbrev kf:Stmt:=top 17
abbrev kg:Stmt:=top 18
abbrev kh:Stmt:=top 19
abbrev ki:Stmt:=top 20
structure my where
 fu:Addr
 gB:FuncData
 fv:Addr
 gC:FuncData
 fw:Addr
 gD:FuncData
 fz:Addr
 gE:FuncData
 fA:Addr
 gF:FuncData
 fB:Addr
 gG:FuncData
 fD:Addr
 gH:FuncData
 fE:Addr
 gI:FuncData
 fF:Addr
 gJ:FuncData
 fG:Addr
 gK:FuncData
 fH:Addr
 gM:FuncData
 fI:Addr
 gN:FuncData
 fJ:Addr
 gO:FuncData
 fK:Addr
 gP:FuncData
 fL:Addr
 gQ:FuncData
 fM:Addr
 gR:FuncData
 eK:Addr
 fN:FuncData
structure Txt (K:PySem.W.Frag) (mg:Str→Option Value) (t:my):Prop where
 gS:aI K "is_whole" "is_whole" jX t.fu t.gB
 qK:Binds K t.gB ["thing"] []
 qL:mg "is_whole" = some (.ref t.fu)
 gT:aI K "is_place" "is_place" jY t.fv t.gC
 qM:Binds K t.gC ["thing","n"] []
 qN:mg "is_place" = some (.ref t.fv)
 gU:aI K "ring_links" "ring_links" jZ t.fw t.gD
 qO:Binds K t.gD ["places"] []
 qP:mg "ring_links" = some (.ref t.fw)
 gW:aI K "links_among" "links_among" j4 t.fz t.gE
 qQ:Binds K t.gE ["shape","places"] []
 qR:mg "links_among" = some (.ref t.fz)
 gX:aI K "is_bare_ring" "is_bare_ring" j6 t.fA t.gF
 qS:Binds K t.gF ["shape","places"] []
 qT:mg "is_bare_ring" = some (.ref t.fA)
 gY:aI K "_law_fill" "_law_fill" j7 t.fB t.gG
 qU:Binds K t.gG ["_law_cell","_law_at"] []
 qV:mg "_law_fill" = some (.ref t.fB)
 bp:aI K "_law_next" "_law_next" j8 t.fD t.gH
 bO:Binds K t.gH ["_law_pen","_law_many"] []
 bP:mg "_law_next" = some (.ref t.fD)
 fO:aI K "_law_turned" "_law_turned" j9 t.fE t.gI
 mB:Binds K t.gI ["_law_pen","_law_some"] []
 mC:mg "_law_turned" = some (.ref t.fE)
 gZ:aI K "_law_tied_by" "_law_tied_by" j_ t.fF t.gJ
 qW:Binds K t.gJ ["_law_pen","_law_way","_law_size","_law_wide","_law_i","_law_j"] []
 qX:mg "_law_tied_by" = some (.ref t.fF)
 g8:aI K "_law_grown_links" "_law_grown_links" ka t.fG t.gK
 qY:Binds K t.gK ["_law_pen","_law_size"] []
 qZ:mg "_law_grown_links" = some (.ref t.fG)
 g9:aI K "_law_drawn" "_law_drawn" kb t.fH t.gM
 q5:Binds K t.gM ["_law_pen","_law_most"] []
 q8:mg "_law_drawn" = some (.ref t.fH)
 g_:aI K "_law_named" "_law_named" kd t.fI t.gN
 q_:Binds K t.gN ["_law_size","_law_links","_law_names"] []
 rd:mg "_law_named" = some (.ref t.fI)
 hE:aI K "_law_beside" "_law_beside" ke t.fJ t.gO
 rf:Binds K t.gO ["_law_shape"] []
 rh:mg "_law_beside" = some (.ref t.fJ)
 hG:aI K "_law_bare" "_law_bare" kf t.fK t.gP
 rj:Binds K t.gP ["_law_shape","_law_places"] []
 rk:mg "_law_bare" = some (.ref t.fK)
 hJ:aI K "_law_round" "_law_round" kg t.fL t.gQ
 rl:Binds K t.gQ ["_law_pen","_law_shape"] []
 rm:mg "_law_round" = some (.ref t.fL)
 hV:aI K "_law_bent" "_law_bent" kh t.fM t.gR
 rn:Binds K t.gR ["_law_pen","_law_shape","_law_places"] []
 rp:mg "_law_bent" = some (.ref t.fM)
 hW:aI K "law" "law" ki t.eK t.fN
 yc:Binds K t.fN ["script"] []
 rq:mg "law" = some (.ref t.eK)
 b9:mg "len" = none
 iU:mg "isinstance" = none
 rz:mg "int" = none
 mD:mg "bool" = none
 rA:mg "tuple" = none
 h6:mg "list" = none
 dv:mg "range" = none
 rB:mg "all" = none
 kj:mg "min" = none
 km:mg "max" = none
 ko:mg "sorted" = none
 rC:mg "zip" = none
 mE:mg "set" = none
section
variable {P:Program} {w:World} {K:PySem.W.Frag} {mg:Str→Option Value} {base:Heap} {t:my}
theorem yd:bx ["thing"] ["thing"] (a8 jX):=⟨rfl,rfl,rfl,by decide +kernel,rfl,by decide +kernel,by decide +kernel⟩
theorem ye(T:Txt K mg t):a0 P w K mg base bh 1 t.fu t.gB ["thing"] v_:=by
 have S:=yd
 refine T.gS.ok S (fun vs H Q E h=>?_) (fun aE A outer s H vs Q E hr h=>?_)
 ·obtain ⟨v,rfl,_⟩:=h
  rfl
 ·obtain ⟨v,rfl,ha,k⟩:=h
  refine ⟨_,(@az _ _ _ (@aV _ _ _ _ (@oq _ _ _ _ _ _ _ (aU (jG (K:=K)) rfl T.iU boot_isinstance (@aa _ _ _ _ _ (by rfl) (pv 0) (@aa _ _ _ _ _ (by rfl) (jh (v:=.ty "int") rfl T.rz boot_int rfl) ai))) (@kS _ _ _ _ _ (@tS _ _ _ _ (aU (jG (K:=K)) rfl T.iU boot_isinstance (@aa _ _ _ _ _ (by rfl) (pv 0) (@aa _ _ _ _ _ (by rfl) (jh (v:=.ty "bool") rfl T.mD boot_bool rfl) ai)))))))),?_⟩
  obtain ⟨Ty,ty,k1,k2,_⟩:=ha.jE (K:=K)
  refine ⟨_,rfl,_,_,_,_,rfl,rfl,ty,k1,_,rfl,aX (fun h1=>?_) (fun h1=>?_)⟩
  ·refine ⟨_,rfl,_,_,_,_,rfl,rfl,ty,k2,_,rfl,?_⟩
   have e:(!gu v)=gs v:=by
    cases h2:gu v with
    | true=>rw [v9 h2];rfl
    | false=>rw [h2,Bool.or_false] at h1;rw [h1];rfl
   show Q (.bl (!gu v)) H
   rw [e]
   exact k
  ·have e:gs v=false:=by
    cases h2:gs v with
    | true=>rw [h2] at h1;exact absurd rfl h1
    | false=>rfl
   rw [e] at k
   exact k
theorem yf:bx ["thing","n"] ["thing","n"] (a8 jY):=⟨rfl,rfl,rfl,by decide +kernel,rfl,by decide +kernel,by decide +kernel⟩
theorem yg(T:Txt K mg t):a0 P w K mg base bh 2 t.fv t.gC ["thing","n"] xK:=by
 have S:=yf
 have yh:=ye (P:=P) (w:=w) (base:=base) T
 refine T.gT.ok S (fun vs H Q E h=>?_) (fun aE A outer s H vs Q E hr h=>?_)
 ·obtain ⟨z,n,rfl,_⟩:=h
  rfl
 ·obtain ⟨z,n,rfl,k⟩:=h
  refine ⟨_,(@az _ _ _ (@aV _ _ _ _ (@oq _ _ _ _ _ _ _ (aK yh (hr.mono (by decide)) rfl T.qL T.gS.kp T.qK .nil aL (@aa _ _ _ _ _ (by rfl) (pv 0) ai)) (@kS _ _ _ _ _ (ux oQ gf aq (pv 0) (pv 1)))))),?_⟩
  refine ⟨_,rfl,.int z,rfl,.int z,true,rfl,pE ?_⟩
  refine ⟨_,rfl,0,z,rfl,rfl,_,rfl,aX (fun h1=>?_) (fun h1=>?_)⟩
  ·refine ⟨_,rfl,z,(n:Int),rfl,rfl,?_⟩
   have mF:=of_decide_eq_true h1
   rw [show decide (0≤z∧z<(n:Int))=decide (z<(n:Int)) by simp [mF]] at k
   exact k
  ·have mF:¬(0≤z):=fun e=>h1 (decide_eq_true e)
   rw [show decide (0≤z∧z<(n:Int))=false by simp [mF]] at k
   exact k
theorem yi:bx ["places"] ["places"] (a8 jZ):=⟨rfl,rfl,rfl,by decide +kernel,rfl,by decide +kernel,by decide +kernel⟩
theorem yj(T:Txt K mg t):a0 P w K mg base bh 1 t.fw t.gD ["places"] (xM K):=by
 have S:=yi
 refine T.gU.ok S (fun vs H Q E h=>?_) (fun aE A outer s H vs Q E hr h=>?_)
 ·obtain ⟨a,zs,rfl,_⟩:=h
  rfl
 ·obtain ⟨a,zs,rfl,ea,z1,mG,kk⟩:=h
  refine ⟨_,(@az _ _ _ (@aV _ _ _ _ (pZ (N:=["one","other"]) (ρ:=(fun σ=>[])) ⟨rfl,rfl,by decide +kernel,by decide +kernel,(List.forall_mem_nil _),dW (by rfl),rfl,rfl,by decide +kernel,rfl,rfl,(fun σ j v h=>match j,h with | j,h=>by cases h),(fun _ _=>rfl)⟩ rfl (wm rfl T.rC (@aa _ _ _ _ _ (by rfl) (pv 0) (@aa _ _ _ _ _ (by rfl) (@ay _ _ _ _ _ _ _ _ dn (@dP _ _ _ _ _ _ _ _ _ _ dS (pv 0) (dk aq) eB) (@dP _ _ _ _ _ _ _ _ _ _ dS (pv 0) eB (dk aq))) ai))) (fun s₃ H₃ fp=>.nil) (fun s₃ H₃ fp=>(@e8 _ _ _ _ _ (@aa _ _ _ _ _ (by rfl) (aU (lA rfl) rfl T.kj boot_min (@aa _ _ _ _ _ (by rfl) (pv 0) (@aa _ _ _ _ _ (by rfl) (pv 1) ai))) (@aa _ _ _ _ _ (by rfl) (aU (lx rfl) rfl T.km boot_max (@aa _ _ _ _ _ (by rfl) (pv 0) (@aa _ _ _ _ _ (by rfl) (pv 1) ai))) ai))))))),?_⟩
  refine qe (qD (Z:=zs.zip (zs.drop 1++zs.take 1)) (fun _=>true) c9 ?_ (bA (by rw [List.length_zip];omega)) ?_ ?_ ?_)
  ·intro R h
   refine ⟨_,rfl,_,rfl,1,rfl,a,_,rfl,ea,fun p np=>?_⟩
   refine ⟨_,rfl,1,rfl,a,_,rfl,(aB np).seq ea,fun q nq=>?_⟩
   have c1:=xR zs 1 z1
   have c2:=xQ zs 1
   have pq:p≠q:=fun z=>by rw [←z,ak] at nq;cases nq
   refine ⟨p,q,(zs.drop 1).map V.int,(zs.take 1).map V.int,rfl,rfl,by rw [aD pq,ak];exact congrArg _ (congrArg _ c1),by rw [ak];exact congrArg _ (congrArg _ c2),?_,fun r nr=>?_⟩
   ·rw [List.length_map,List.length_map,List.length_drop,List.length_take]
    exact Nat.le_of_lt (bA (by omega))
   ·have sH:=jR (o:=.lst ((zs.drop 1).map V.int++(zs.take 1).map V.int)) (jR (jR (ag.refl H) np) nq) nr
    have eL:=sH.seq ea
    refine ⟨a,r,rfl,⟨_,eL⟩,⟨_,.of ak⟩,h _ _ sH (xO eL (.of ?_))⟩
    rw [ak,List.map_append]
  ·intro z hz Hc R sc k
   exact k
  ·intro z hz Hc R sc k
   exact ⟨_,rfl,_,rfl,_,_,rfl,_,rfl,_,rfl,_,_,rfl,by show 2≤sizeLine;decide,fun tp cJ=>k tp _ (aB cJ) ak⟩
  ·intro D us Hc nD sc hL eD
   rw [xP z1] at hL
   exact kk _ _ ⟨sc,nD,us,eD,hL⟩
theorem yk:bx ["shape","places"] ["shape","places"] (a8 j4):=⟨rfl,rfl,rfl,by decide +kernel,rfl,by decide +kernel,by decide +kernel⟩
theorem yl(T:Txt K mg t):a0 P w K mg base bh 2 t.fz t.gE ["shape","places"] (xN K):=by
 have S:=yk
 refine T.gW.ok S (fun vs H Q E h=>?_) (fun aE A outer s H vs Q E hr h=>?_)
 ·obtain ⟨tp,a,n,L,zs,rfl,_⟩:=h
  rfl
 ·obtain ⟨tp,a,n,L,zs,rfl,⟨lt,us,bW,elt,hL⟩,l2,ea,kk⟩:=h
  refine ⟨_,(@az _ _ _ (@aV _ _ _ _ (pZ (N:=["i","j","places"]) (ρ:=(fun σ=>[σ[1]?.join])) ⟨rfl,rfl,by decide +kernel,by decide +kernel,(List.forall_mem_cons.mpr ⟨rfl,(List.forall_mem_nil _)⟩),dW (by rfl),rfl,rfl,by decide +kernel,rfl,rfl,(fun σ j v h=>match j,h with | 0,h=>⟨1,_,rfl,rfl,join_some h,Or.inr (Or.inl rfl),.inl rfl,.inl rfl⟩ | j+1,h=>by cases h),(fun _ _=>rfl)⟩ rfl (lh (@aH _ _ _ _ _ _ _ eC (pv 0) aq (fun _ _=>rfl))) (fun s₃ H₃ fp=>(.one (PW.pt (pw_and (@aS _ _ _ _ _ _ _ _ (iS (K:=K)) (pv 0) (pv 2) rfl) (pw_and1 (@aS _ _ _ _ _ _ _ _ (iS (K:=K)) (pv 1) (pv 2) rfl)))))) (fun s₃ H₃ fp=>(@e8 _ _ _ _ _ (@aa _ _ _ _ _ (by rfl) (pv 0) (@aa _ _ _ _ _ (by rfl) (pv 1) ai))))))),?_⟩
  refine qe (qD (Z:=L) (fun p=>decide (p.1∈zs) && decide (p.2∈zs)) id ?_ (bA (by omega)) ?_ ?_ ?_)
  ·intro R h
   exact ⟨_,rfl,tp,_,_,_,rfl,rfl,.of bW,rfl,lt,rfl,⟨_,.of elt⟩,h _ _ (ag.refl _) (qC elt hL)⟩
  ·intro z hz Hc R sc k
   have rD:=sc.seq ea
   refine ⟨_,rfl,_,rfl,a,_,rfl,.inl rD,rfl,jT _,_,rfl,aX (fun h1=>?_) (fun h1=>?_)⟩
   ·refine ⟨_,rfl,_,rfl,a,_,rfl,.inl rD,rfl,jT _,?_⟩
    have h2:decide (z.1∈zs)=true:=by rw [←gy];exact h1
    rw [h2,Bool.true_and,←gy] at k
    exact ⟨_,rfl,k⟩
   ·have h2:decide (z.1∈zs)=false:=by rw [←gy];exact Bool.eq_false_iff.mpr h1
    rw [h2,Bool.false_and] at k
    exact k
  ·intro z hz Hc R sc k
   exact ⟨_,rfl,_,rfl,by show 2≤sizeLine;decide,fun tp cJ=>k tp _ (aB cJ) ak⟩
  ·intro D us Hc nD sc hL eD
   rw [List.map_id] at hL
   exact kk _ _ ⟨sc,nD,us,eD,hL⟩
theorem ym:bx ["shape","places"] ["shape","places"] (a8 j6):=⟨rfl,rfl,rfl,by decide +kernel,rfl,by decide +kernel,by decide +kernel⟩
theorem yn(T:Txt K mg t):a0 P w K mg base bh 3 t.fA t.gF ["shape","places"] (xX K):=by
 have S:=ym
 have yo:=yg (P:=P) (w:=w) (base:=base) T
 have yp:=yj (P:=P) (w:=w) (base:=base) T
 have yq:=yl (P:=P) (w:=w) (base:=base) T
 refine T.gX.ok S (fun vs H Q E h=>?_) (fun aE A outer s H vs Q E hr h=>?_)
 ·obtain ⟨tp,a,n,L,zs,rfl,_⟩:=h
  rfl
 ·obtain ⟨tp,a,n,L,zs,rfl,cS,cT,pw,n1,l2,ea,mG,bz,k⟩:=h
  have cU:=hr.units
  refine ⟨_,(@au _ _ _ _ _ (@bG _ _ _ _ _ _ _ _ (PW.pt (@pw_or _ _ _ _ _ _ _ (@aS _ _ _ _ _ _ _ _ gf (aU cH rfl T.b9 boot_len (@aa _ _ _ _ _ (by rfl) (pv 1) ai)) aq (aP _)) (@pw_or1 _ _ _ _ (@aS _ _ _ _ _ _ _ _ oP (aU qy rfl T.b9 boot_len (@aa _ _ _ _ _ (by rfl) (dO (qx (K:=K) rfl) rfl T.mE boot_set (@aa _ _ _ _ _ (by rfl) (pv 1) ai)) ai)) (aU cH rfl T.b9 boot_len (@aa _ _ _ _ _ (by rfl) (pv 1) ai)) (aP _))))) (@az _ _ _ (@aV _ _ _ _ fX)) bQ)
   (@au _ _ _ _ _ (@bG _ _ _ _ _ _ _ _ (@kP _ _ _ _ (ji (aU (vT (K:=K) rfl) rfl T.rB boot_all (@aa _ _ _ _ _ (by rfl) (iF (N:=["place","shape"]) (ρ:=(fun σ=>[σ[0]?.join])) ⟨rfl,rfl,by decide +kernel,by decide +kernel,(List.forall_mem_cons.mpr ⟨rfl,(List.forall_mem_nil _)⟩),dW (by rfl),rfl,by decide +kernel,rfl,(fun σ j v h=>match j,h with | 0,h=>⟨0,_,rfl,rfl,join_some h,Or.inr (Or.inl rfl),.inl rfl,.inl rfl⟩ | j+1,h=>by cases h),(fun _ _=>rfl)⟩ rfl (ee (pv 1)) (fun s₃ H₃ fp=>.nil) (fun s₃ H₃ fp=>(aK yo (hr.mono (by decide)) rfl T.qN T.gT.kp T.qM .nil aL (@aa _ _ _ _ _ (by rfl) (pv 0) (@aa _ _ _ _ _ (by rfl) (@aH _ _ _ _ _ _ _ (l8 (K:=K)) (pv 1) aq (fun _ _=>rfl)) ai))))) ai)))) (@az _ _ _ (@aV _ _ _ _ fX)) bQ)
   (@az _ _ _ (@aV _ _ _ _ (@en _ _ _ _ _ _ _ _ (qA cU) (aU mf rfl T.ko PyProof.Rows.boot_sorted (@aa _ _ _ _ _ (by rfl) (aK yp (hr.mono (by decide)) rfl T.qP T.gU.kp T.qO .nil aL (@aa _ _ _ _ _ (by rfl) (pv 1) ai)) ai)) (aK yq (hr.mono (by decide)) rfl T.qR T.gW.kp T.qQ .nil aL (@aa _ _ _ _ _ (by rfl) (pv 0) (@aa _ _ _ _ _ (by rfl) (pv 1) ai))) (aP _)))))),?_⟩
  have no:∀H',ag H H'→¬c_ L zs→Q (.bl false) H':=fun H' s' h=>by
   have:=k H' s'
   rw [decide_eq_false h] at this
   exact this
  refine a_ ?_
  refine ⟨_,rfl,a,_,rfl,.inl ea,_,_,rfl,rfl,_,rfl,aX (fun h4=>?_) (fun h4=>?_)⟩
  ·have iV:((zs.map V.int).length:Int)<4:=of_decide_eq_true h4
   rw [List.length_map] at iV
   exact no _ (ag.refl _) fun h=>by have:=h.1;omega
  ·have iV:¬((zs.map V.int).length:Int)<4:=fun e=>h4 (decide_eq_true e)
   rw [List.length_map] at iV
   refine ⟨_,rfl,a,zs,rfl,ea,by omega,fun l S m nl mH iW=>?_⟩
   have s1:ag H (upd H l (.set S m)):=aB nl
   refine ⟨l,S,m,rfl,ak,by omega,?_⟩
   generalize upd H l (.set S m)=H1 at s1 ⊢
   refine ⟨_,rfl,a,_,rfl,.inl (s1.seq ea),rfl,_,rfl,aX (fun hn=>?_) (fun hn=>?_)⟩
   ·refine no _ s1 fun h=>?_
    rw [pQ,List.length_map,decide_eq_true (by rw [iW.mpr h.2.1])] at hn
    cases hn
   ·have nd:zs.Nodup:=iW.mp (by
     by_cases e:m=zs.length
     ·exact e
     ·exfalso
      rw [pQ,List.length_map,decide_eq_false (by omega)] at hn
      exact hn rfl)
    dsimp only [df]
    unfold oo tB
    obtain ⟨lt,us,bW,elt,hL⟩:=id cS
    refine a_ (wM (wc (xs:=zs.map V.int) (fun R h=>⟨_,rfl,a,rfl,⟨_,s1.seq ea⟩,h _ _ (ag.refl _) (iG (s1.seq ea))⟩) (by rw [List.length_map];exact bA (by omega)) (fun _ i y _=>y=.bl (decide (0≤zs.getD i 0∧zs.getD i 0<(n:Int)))) (fun _ _ _ _ _ _ h _ _=>h) ?_ ?_))
    ·intro D i v hi Hc R sc _ kc
     rw [List.getElem?_map] at hi
     obtain ⟨z,ez,rfl⟩:=Option.map_eq_some_iff.mp hi
     have e0:zs.getD i 0=z:=by rw [List.getD_eq_getElem?_getD,ez];rfl
     exact ⟨_,rfl,_,rfl,tp,_,_,_,rfl,rfl,.of (s1.trans sc _ _ bW),rfl,z,n,rfl,kc _ Hc (ag.refl _) (by rw [e0])⟩
    ·intro D ys Hc sc yr hP eD
     have ey:ys=(zs.map fun z=>decide (0≤z∧z<(n:Int))).map V.bl:=by
      refine List.ext_getElem (by simpa using yr) fun i h1 h2=>?_
      have hi:i<zs.length:=by simpa using h2
      rw [hP i ys[i] (by simp),List.getElem_map,List.getElem_map,show zs.getD i 0=zs[i] by simp [List.getD_eq_getElem?_getD,hi]]
     have s2:=s1.trans sc
     refine ⟨D,_,rfl,.of (by rw [eD,ey]),?_⟩
     refine ⟨_,rfl,aX (fun hb=>?_) (fun hb=>?_)⟩
     ·refine no _ s2 fun h=>?_
      have h2:=h.xU cT
      rw [show ((zs.map fun z=>decide (0≤z∧z<(n:Int))).all id)=true by
       rw [List.all_map,List.all_eq_true]
       intro z hz
       exact decide_eq_true (h2 z hz)] at hb
      cases hb
     ·dsimp only [df]
      refine ⟨_,rfl,a,zs,rfl,s2.seq ea,by omega,mG,fun H2 l ⟨s3,nl,Cn,el,hR⟩=>?_⟩
      dsimp only [iu]
      refine qI el hR (by rw [iT];omega) (jU nd (by omega) bz) fun l' ws N H3 s4 d2 du hN pN oN=>?_
      have s5:=(s2.trans s3).trans s4
      refine ⟨_,rfl,_,rfl,tp,a,n,L,zs,rfl,cS.mono s5,l2,s5.seq ea,fun H4 l4 ⟨s6,yt,mI,mJ,hA⟩=>?_⟩
      refine ⟨l',l4,ws,mI,N,_,rfl,rfl,.of (s6 _ _ du),.of mJ,hN.mono s6,hA,?_⟩
      rw [qF pN oN (qH pw) (jU nd (by omega) bz) (qG cT n1),show decide ((bT zs).Perm (gx L zs))=decide (c_ L zs) from decide_eq_decide.mpr ⟨fun h=>⟨by omega,nd,h⟩,fun h=>h.2.2⟩]
      exact k _ (s5.trans s6)
theorem yu:bx ["_law_cell","_law_at","_law_x"] ["_law_cell","_law_at"] (a8 j7):=⟨rfl,rfl,rfl,by decide +kernel,rfl,by decide +kernel,by decide +kernel⟩
theorem yv(T:Txt K mg t):a0 P w K mg base bh 1 t.fB t.gG ["_law_cell","_law_at"] wN:=by
 have S:=yu
 refine T.gY.ok S (fun vs H Q E h=>?_) (fun aE A outer s H vs Q E hr h=>?_)
 ·obtain ⟨c,a,rfl,_⟩:=h
  rfl
 ·obtain ⟨c,a,rfl,ha,k⟩:=h
  refine ⟨_,(@au _ _ _ _ _ (@bG _ _ _ _ _ _ _ _ (@aS _ _ _ _ _ _ _ _ uv (pv 0) (@ay _ _ _ _ _ _ _ _ uo aq aq) (aP _)) (@az _ _ _ (@aV _ _ _ _ (pv 0))) bQ)
   (@au _ _ _ _ _ (@aJ _ _ 2 _ _ _ _ (by rfl) (by first | exact .inl rfl | exact .inr rfl | assumption) S.nd rfl (Or.inl rfl) (@ay _ _ _ _ _ _ _ _ ei (@ay _ _ _ _ _ _ _ _ cu (@ay _ _ _ _ _ _ _ _ cu (@ay _ _ _ _ _ _ _ _ dJ (@ay _ _ _ _ _ _ _ _ ei (pv 0) aq) aq) (@ay _ _ _ _ _ _ _ _ dJ (pv 1) aq)) aq) aq))
   (@au _ _ _ _ _ (@aJ _ _ 2 _ _ _ _ (by rfl) (by first | exact .inl rfl | exact .inr rfl | assumption) S.nd rfl (Or.inl rfl) (@ay _ _ _ _ _ _ _ _ ei (@ay _ _ _ _ _ _ _ _ cu (@ay _ _ _ _ _ _ _ _ cu (@ay _ _ _ _ _ _ _ _ dJ (pv 2) (pv 2)) (@ay _ _ _ _ _ _ _ _ dJ aq (pv 2))) (pv 1)) aq))
   (@az _ _ _ (@aV _ _ _ _ (@ay _ _ _ _ _ _ _ _ cu (@ay _ _ _ _ _ _ _ _ dJ (pv 2) aq) (@ay _ _ _ _ _ _ _ _ ei (@ay _ _ _ _ _ _ _ _ cu (@ay _ _ _ _ _ _ _ _ dJ (pv 2) (pv 2)) (@ay _ _ _ _ _ _ _ _ dJ aq (pv 1))) aq))))))),?_⟩
  refine ⟨_,rfl,_,_,rfl,rfl,⟨by decide,by decide,by decide⟩,_,_,rfl,rfl,_,rfl,aX (fun h=>?_) (fun h=>?_)⟩
  ·have h:=of_decide_eq_true h
   exact ⟨_,rfl,k _ (Int.le_trans (by decide) h)⟩
  ·refine ⟨_,rfl,_,_,rfl,rfl,(by show (0:Int)<2147483647;decide),_,_,rfl,rfl,.inr ⟨by decide,by decide⟩,_,rfl,_,_,rfl,rfl,.inr ⟨by decide,by decide⟩,_,_,rfl,rfl,_,_,rfl,rfl,_,_,rfl,rfl,(by show (0:Int)<2147483629;decide),?_⟩
   have b0:=Int.emod_nonneg (c % 2147483647*48271+a*69621+11) (show (2147483629:Int)≠0 by decide)
   have b1:=Int.emod_lt_of_pos (c % 2147483647*48271+a*69621+11) (show (0:Int)<2147483629 by decide)
   generalize (c % 2147483647*48271+a*69621+11) % 2147483629=x at b0 b1 ⊢
   refine ⟨_,rfl,_,rfl,_,_,rfl,rfl,.inl ⟨by omega,by omega⟩,_,rfl,_,_,rfl,rfl,.inl ⟨by decide,by decide⟩,_,_,rfl,rfl,_,rfl,_,_,rfl,rfl,_,_,rfl,rfl,(by show (0:Int)<2147483587;decide),?_⟩
   have c0:=Int.emod_nonneg (x*x+48271*x+a) (show (2147483587:Int)≠0 by decide)
   have c1:=Int.emod_lt_of_pos (x*x+48271*x+a) (show (0:Int)<2147483587 by decide)
   generalize (x*x+48271*x+a) % 2147483587=y at c0 c1 ⊢
   refine ⟨_,rfl,_,_,rfl,rfl,.inr ⟨by decide,by decide⟩,_,rfl,_,rfl,_,_,rfl,rfl,.inl ⟨by omega,by omega⟩,_,rfl,_,_,rfl,rfl,.inl ⟨by decide,by decide⟩,_,_,rfl,rfl,_,_,rfl,rfl,(by show (0:Int)<2147483579;decide),_,_,rfl,rfl,k _ (Int.add_nonneg (Int.mul_nonneg (Int.emod_nonneg _ (by decide)) (by decide)) (Int.emod_nonneg _ (by decide)))⟩
theorem yw:bx ["_law_pen","_law_many","_law_at","_law_cell","_law_found"] ["_law_pen","_law_many"] (a8 j8):=⟨rfl,rfl,rfl,by decide +kernel,rfl,by decide +kernel,by decide +kernel⟩
theorem fQ(T:Txt K mg t):a0 P w K mg base bh 2 t.fD t.gH ["_law_pen","_law_many"] (wO K):=by
 have S:=yw
 have yy:=yv (P:=P) (w:=w) (base:=base) T
 refine T.bp.ok S (fun vs H Q E h=>?_) (fun aE A outer s H vs Q E hr h=>?_)
 ·obtain ⟨P0,a,ns,many,rfl,_⟩:=h
  rfl
 ·obtain ⟨P0,a,ns,many,rfl,⟨x,y,eP,hx,hy⟩,hS,m1,mm,k⟩:=h
  have cU:=hr.units
  refine ⟨_,(@au _ _ _ _ _ (@bG _ _ _ _ _ _ _ _ (@aS _ _ _ _ _ _ _ _ gf (@aH _ _ _ _ _ _ _ aT (pv 0) aq (fun _ _=>rfl)) (pv 1) (aP _)) (@au _ _ _ _ _ (@aJ _ _ 2 _ _ _ _ (by rfl) (by first | exact .inl rfl | exact .inr rfl | assumption) S.nd rfl (Or.inl rfl) (@aH _ _ _ _ _ _ _ aT (pv 0) aq (fun _ _=>rfl)))
   (@au _ _ _ _ _ (@aJ _ _ 3 _ _ _ _ (by rfl) (by first | exact .inl rfl | exact .inr rfl | assumption) S.nd rfl (Or.inl rfl) aq)
   (@au _ _ _ _ _ (@bG _ _ _ _ _ _ _ _ (@aS _ _ _ _ _ _ _ _ gf (pv 2) (aU cH rfl T.b9 boot_len (@aa _ _ _ _ _ (by rfl) (@aH _ _ _ _ _ _ _ aT (pv 0) aq (fun _ _=>rfl)) ai)) (aP _)) (@az _ _ _ (@aJ _ _ 3 _ _ _ _ (by rfl) (by first | exact .inl rfl | exact .inr rfl | assumption) S.nd rfl (Or.inl rfl) (@aH _ _ _ _ _ _ _ aT (@aH _ _ _ _ _ _ _ aT (pv 0) aq (fun _ _=>rfl)) (pv 2) (fun _ _=>rfl)))) (@az _ _ _ (@bG _ _ _ _ _ _ _ _ (@aS _ _ _ _ _ _ _ _ ir (aU cH rfl T.b9 boot_len (@aa _ _ _ _ _ (by rfl) (@aH _ _ _ _ _ _ _ aT (pv 0) aq (fun _ _=>rfl)) ai)) aq (aP _)) (@az _ _ _ (@aJ _ _ 3 _ _ _ _ (by rfl) (by first | exact .inl rfl | exact .inr rfl | assumption) S.nd rfl (Or.inl rfl) (@ay _ _ _ _ _ _ _ _ cu (@ay _ _ _ _ _ _ _ _ ei (@aH _ _ _ _ _ _ _ aT (@aH _ _ _ _ _ _ _ aT (pv 0) aq (fun _ _=>rfl)) (@ay _ _ _ _ _ _ _ _ ei (@ay _ _ _ _ _ _ _ _ dJ (pv 2) aq) (aU cH rfl T.b9 boot_len (@aa _ _ _ _ _ (by rfl) (@aH _ _ _ _ _ _ _ aT (pv 0) aq (fun _ _=>rfl)) ai))) (fun _ _=>rfl)) aq) (@ay _ _ _ _ _ _ _ _ dJ (pv 2) aq)))) bQ)))
   (@au _ _ _ _ _ (@k8 _ _ _ _ _ _ (@ay _ _ _ _ _ _ _ _ cu (pv 2) aq) (k6 (pv 0) aq set_list) (by rfl) (by rfl) (by rfl))
   (@az _ _ _ (@k8 _ _ _ _ _ _ (aK yy (hr.mono (by decide)) rfl T.qV T.gY.kp T.qU .nil aL (@aa _ _ _ _ _ (by rfl) (pv 3) (@aa _ _ _ _ _ (by rfl) (pv 2) ai))) (k6 (pv 0) aq set_list) (by rfl) (by rfl) (by rfl))))))) bQ)
   (@au _ _ _ _ _ (@aJ _ _ 4 _ _ _ _ (by rfl) (by first | exact .inl rfl | exact .inr rfl | assumption) S.nd rfl (Or.inl rfl) (@ay _ _ _ _ _ _ _ _ ei (@aH _ _ _ _ _ _ _ aT (pv 0) aq (fun _ _=>rfl)) (pv 1)))
   (@au _ _ _ _ _ (@k8 _ _ _ _ _ _ (@ay _ _ _ _ _ _ _ _ vS (@aH _ _ _ _ _ _ _ aT (pv 0) aq (fun _ _=>rfl)) (pv 1)) (k6 (pv 0) aq set_list) (by rfl) (by rfl) (by rfl))
   (@az _ _ _ (@aV _ _ _ _ (pv 4)))))),?_⟩
  have kq:=iN.seq hS
  refine ⟨_,rfl,P0,_,_,_,rfl,rfl,.of eP,rfl,_,rfl,_,_,rfl,rfl,_,rfl,aX (fun aG=>?_) (fun aG=>?_)⟩
  ·refine ⟨_,rfl,P0,_,_,_,rfl,rfl,.of eP,rfl,?_⟩
   refine ⟨_,rfl,_,rfl,P0,_,_,_,rfl,rfl,.of eP,rfl,a,ns.map V.int,rfl,.inl kq,_,_,rfl,rfl,_,rfl,aX (fun h1=>?_) (fun h1=>?_)⟩
   ·have h1:x<((ns.map V.int).length:Int):=of_decide_eq_true h1
    obtain ⟨v,hv,mv⟩:=pR (xs:=ns.map V.int) hx h1
    obtain ⟨c,_,rfl⟩:=List.mem_map.mp mv
    refine ⟨_,rfl,P0,_,_,_,rfl,rfl,.of eP,rfl,_,rfl,a,ns.map V.int,_,_,rfl,rfl,kq,hv,?_⟩
    refine ⟨_,rfl,_,_,rfl,rfl,_,rfl,P0,_,1,1,rfl,rfl,eP,rfl,?_⟩
    refine ⟨_,rfl,_,rfl,c,x,rfl,hx,fun r eL=>⟨_,rfl,P0,_,2,2,rfl,rfl,ak,rfl,?_⟩⟩
    have q0:=Int.emod_nonneg (r) (show many≠0 by omega)
    have q1:=Int.emod_lt_of_pos (r) (show 0<many by omega)
    have q2:=Int.ediv_nonneg (eL) (show 0≤many by omega)
    refine ⟨_,rfl,P0,_,_,_,rfl,rfl,.of ak,rfl,_,rfl,_,_,rfl,rfl,(show 0<many by omega),?_⟩
    refine ⟨_,rfl,P0,_,_,_,rfl,rfl,.of ak,rfl,_,rfl,_,_,rfl,rfl,⟨show 0<many by omega,mm⟩,_,rfl,P0,_,2,2,rfl,rfl,ak,rfl,?_⟩
    exact ⟨_,rfl,k _ _ q0 q1 (((aj.refl H).trans aj.dr).trans (aj.dr.trans aj.dr)) ⟨x+1,r / many,ak,by omega,q2⟩⟩
   ·refine ⟨_,rfl,P0,_,_,_,rfl,rfl,.of eP,rfl,a,ns.map V.int,rfl,.inl kq,_,_,rfl,rfl,_,rfl,?_⟩
    have kr:=eP
    have rE:=kq
    have sl:=ag.refl H
    refine aX (fun h2=>?_) (fun h2=>?_)
    ·have hl:0<(ns.map V.int).length:=by
      have:=of_decide_eq_true h2
      omega
     have yz:=Int.emod_nonneg (x*7) (show ((ns.map V.int).length:Int)≠0 by omega)
     have yA:=Int.emod_lt_of_pos (x*7) (show (0:Int)<((ns.map V.int).length:Int) by omega)
     obtain ⟨v,hv,mv⟩:=pR (xs:=ns.map V.int) yz yA
     obtain ⟨c,_,rfl⟩:=List.mem_map.mp mv
     refine ⟨_,rfl,P0,_,_,_,rfl,rfl,.of kr,rfl,_,rfl,_,_,rfl,rfl,.inr ⟨by decide,by decide⟩,_,rfl,P0,_,_,_,rfl,rfl,.of kr,rfl,a,ns.map V.int,rfl,.inl rE,_,_,rfl,rfl,(show (0:Int)<((ns.map V.int).length:Int) by omega),a,ns.map V.int,_,_,rfl,rfl,rE,hv,_,_,rfl,rfl,(show (0:Int)<1000003 by decide),_,rfl,_,_,rfl,rfl,.inr ⟨by decide,by decide⟩,_,_,rfl,rfl,?_⟩
     refine ⟨_,rfl,_,_,rfl,rfl,_,rfl,P0,_,1,1,rfl,rfl,kr,rfl,?_⟩
     refine ⟨_,rfl,_,rfl,_,x,rfl,hx,fun r eL=>⟨_,rfl,P0,_,2,2,rfl,rfl,ak,rfl,?_⟩⟩
     have q0:=Int.emod_nonneg (r) (show many≠0 by omega)
     have q1:=Int.emod_lt_of_pos (r) (show 0<many by omega)
     have q2:=Int.ediv_nonneg (eL) (show 0≤many by omega)
     refine ⟨_,rfl,P0,_,_,_,rfl,rfl,.of ak,rfl,_,rfl,_,_,rfl,rfl,(show 0<many by omega),?_⟩
     refine ⟨_,rfl,P0,_,_,_,rfl,rfl,.of ak,rfl,_,rfl,_,_,rfl,rfl,⟨show 0<many by omega,mm⟩,_,rfl,P0,_,2,2,rfl,rfl,ak,rfl,?_⟩
     exact ⟨_,rfl,k _ _ q0 q1 (((aj.of sl).trans aj.dr).trans (aj.dr.trans aj.dr)) ⟨x+1,r / many,ak,by omega,q2⟩⟩
    ·
     refine ⟨_,rfl,_,_,rfl,rfl,_,rfl,P0,_,1,1,rfl,rfl,kr,rfl,?_⟩
     refine ⟨_,rfl,_,rfl,0,x,rfl,hx,fun r eL=>⟨_,rfl,P0,_,2,2,rfl,rfl,ak,rfl,?_⟩⟩
     have q0:=Int.emod_nonneg (r) (show many≠0 by omega)
     have q1:=Int.emod_lt_of_pos (r) (show 0<many by omega)
     have q2:=Int.ediv_nonneg (eL) (show 0≤many by omega)
     refine ⟨_,rfl,P0,_,_,_,rfl,rfl,.of ak,rfl,_,rfl,_,_,rfl,rfl,(show 0<many by omega),?_⟩
     refine ⟨_,rfl,P0,_,_,_,rfl,rfl,.of ak,rfl,_,rfl,_,_,rfl,rfl,⟨show 0<many by omega,mm⟩,_,rfl,P0,_,2,2,rfl,rfl,ak,rfl,?_⟩
     exact ⟨_,rfl,k _ _ q0 q1 (((aj.of sl).trans aj.dr).trans (aj.dr.trans aj.dr)) ⟨x+1,r / many,ak,by omega,q2⟩⟩
  ·dsimp only [df]
   have q0:=Int.emod_nonneg (y) (show many≠0 by omega)
   have q1:=Int.emod_lt_of_pos (y) (show 0<many by omega)
   have q2:=Int.ediv_nonneg (hy) (show 0≤many by omega)
   refine ⟨_,rfl,P0,_,_,_,rfl,rfl,.of eP,rfl,_,rfl,_,_,rfl,rfl,(show 0<many by omega),?_⟩
   refine ⟨_,rfl,P0,_,_,_,rfl,rfl,.of eP,rfl,_,rfl,_,_,rfl,rfl,⟨show 0<many by omega,mm⟩,_,rfl,P0,_,2,2,rfl,rfl,eP,rfl,?_⟩
   exact ⟨_,rfl,k _ _ q0 q1 (aj.dr) ⟨x,y / many,ak,hx,q2⟩⟩
theorem yB:bx ["_law_pen","_law_some","_law_left","_law_found"] ["_law_pen","_law_some"] (a8 j9):=⟨rfl,rfl,rfl,by decide +kernel,rfl,by decide +kernel,by decide +kernel⟩
theorem rF(T:Txt K mg t):a0 P w K mg base bh 3 t.fE t.gI ["_law_pen","_law_some"] (xh K):=by
 have S:=yB
 have bc:=fQ (P:=P) (w:=w) (base:=base) T
 refine T.fO.ok S (fun vs H Q E h=>?_) (fun aE A outer s H vs Q E hr h=>?_)
 ·obtain ⟨P0,a,l,ns,xs,rfl,_⟩:=h
  rfl
 ·obtain ⟨P0,a,l,ns,xs,rfl,pc,hS,nl,el,Co,kk⟩:=h
  have cU:=hr.units
  refine ⟨_,(@au _ _ _ _ _ (@aJ _ _ 2 _ _ _ _ (by rfl) (by first | exact .inl rfl | exact .inr rfl | assumption) S.nd rfl (Or.inl rfl) (dO o_ rfl T.h6 boot_list (@aa _ _ _ _ _ (by rfl) (pv 1) ai)))
   (@au _ _ _ _ _ (@aJ _ _ 3 _ _ _ _ (by rfl) (by first | exact .inl rfl | exact .inr rfl | assumption) S.nd rfl (Or.inl rfl) (@bg _ _ _ _ ai))
   (@au _ _ _ _ _ (@t_ _ _ _ _ _ _ PassesOwn.never (@aS _ _ _ _ _ _ _ _ (mh cU) (pv 2) (@bg _ _ _ _ ai) (aP _)) (@az _ _ _ (dF (dm PySem.F.plainAttrs_list PySem.F.slot_list_append PySem.F.type_list_append cQ (pv 3) (@aa _ _ _ _ _ (by rfl) (dm PySem.F.plainAttrs_list PySem.F.slot_list_pop PySem.F.type_list_pop vn (pv 2) (@aa _ _ _ _ _ (by rfl) (aK bc (hr.mono (by decide)) rfl T.bP T.bp.kp T.bO .nil aL (@aa _ _ _ _ _ (by rfl) (pv 0) (@aa _ _ _ _ _ (by rfl) (aU cH rfl T.b9 boot_len (@aa _ _ _ _ _ (by rfl) (pv 2) ai)) ai))) ai)) ai)))))
   (@az _ _ _ (@aV _ _ _ _ (pv 3)))))),?_⟩
  refine ⟨_,rfl,l,xs,rfl,.inl (.of el),fun l1 n1=>?_⟩
  have s1:ag H (upd H l1 (.lst xs)):=aB n1
  have e1:upd H l1 (.lst xs) l1=some (.lst xs):=ak
  dsimp only [aC]
  generalize upd H l1 (.lst xs)=H1 at s1 e1 ⊢
  refine ⟨by show 0≤sizeLine;decide,fun l2 n2=>?_⟩
  have s2:ag H1 (upd H1 l2 (.lst [])):=aB n2
  have e2:upd H1 l2 (.lst []) l2=some (.lst []):=ak
  dsimp only [aC]
  generalize upd H1 l2 (.lst [])=H2 at s2 e2 ⊢
  have rG:l1≠P0:=pc.ne n1
  have ku:l2≠P0:=(pc.mono s1).ne n2
  have kv:H l2=none:=none_of s1 n2
  have kx:l1≠l2:=fun e=>by rw [e,n2] at e1;cases e1
  refine a_ ⟨fun m σ Hc=>∃zs ys:List V,σ=[some (.ref P0),some (.ref l),some (.ref l1),some (.ref l2)]∧m=zs.length∧Hc l1=some (.lst zs)∧Hc l2=some (.lst ys)∧(zs++ys).Perm xs∧aj P0 H Hc∧aF Hc P0 a,⟨_,xs,[],rfl,rfl,s2 _ _ e1,e2,by rw [List.append_nil],aj.of (s1.trans s2),(pc.mono s1).mono s2⟩,?_⟩
  rintro m σ Hc ⟨zs,ys,rfl,rfl,ez,ey,pm,sc,p1⟩
  have lz:zs.length≤100:=by
   have:=pm.length_eq
   rw [List.length_append] at this
   omega
  have ly:ys.length≤100:=by
   have:=pm.length_eq
   rw [List.length_append] at this
   omega
  refine ⟨_,rfl,by show 0≤sizeLine;decide,fun le mH=>?_⟩
  have s3:ag Hc (upd Hc le (.lst [])):=aB mH
  have e3:upd Hc le (.lst []) le=some (.lst []):=ak
  generalize upd Hc le (.lst [])=H3 at s3 e3 ⊢
  refine ⟨l1,le,zs,rfl,rfl,.of (s3 _ _ ez),e3,_,rfl,aX (fun hz=>?_) (fun hz=>?_)⟩
  ·have z0:1≤zs.length:=by
    cases zs with
    | nil=>cases hz
    | cons=>simp
   have rH:=sc.trans (aj.of s3)
   refine ⟨_,fun _ _ h=>h,?_⟩
   refine ⟨_,rfl,.inl ⟨rfl,_,.of (s3 _ _ ey)⟩,_,rfl,.inl ⟨rfl,_,.of (s3 _ _ ez)⟩,_,rfl,_,rfl,l1,zs,rfl,.inl (.of (s3 _ _ ez)),P0,a,ns,(zs.length:Int),rfl,p1.mono s3,ag.seq rH hS,by omega,a9.of_lt (by omega) (by omega),fun c H4 c0 c1 s4 p4=>?_⟩
   obtain ⟨k,rfl⟩:=Int.eq_ofNat_of_zero_le c0
   have hk:k<zs.length:=by omega
   have yC:=s4.at rG (s3 _ _ ez)
   have yE:=s4.at ku (s3 _ _ ey)
   have sx:seqIndex? (k:Int) zs.length=some k:=by
    unfold seqIndex?
    simp
    omega
   refine ⟨l1,zs,(k:Int),k,zs[k],rfl,rfl,yC,by omega,by omega,sx,by simp [hk],?_⟩
   have nn:l2≠l1:=fun e=>kx e.symm
   refine ⟨l2,ys,zs[k],rfl,rfl,by rw [aD nn];exact yE,bA (by omega),?_⟩
   refine ⟨_,?_,zs.eraseIdx k,ys++[zs[k]],rfl,rfl,by rw [aD kx,ak],ak,?_,?_,?_⟩
   ·rw [List.length_eraseIdx_of_lt hk]
    omega
   ·refine List.Perm.trans ?_ pm
    rw [←List.append_assoc]
    refine (List.perm_append_comm).trans ?_
    show (zs[k]::(zs.eraseIdx k++ys)).Perm (zs++ys)
    exact (qq zs k hk).append_right ys
   ·exact ((rH.trans s4).but n1).but kv
   ·exact ((p4.upd rG).upd ku)
  ·have z0:zs=[]:=by
    cases zs with
    | nil=>rfl
    | cons=>exact absurd rfl hz
   subst z0
   refine ⟨_,rfl,kk l2 ys H3 (sc.trans (aj.of s3)) (p1.mono s3) ?_ ku (s3 _ _ ey) pm⟩
   rw [bM ku]
   exact kv
theorem yF:bx ["_law_pen","_law_way","_law_size","_law_wide","_law_i","_law_j"] ["_law_pen","_law_way","_law_size","_law_wide","_law_i","_law_j"] (a8 j_):=⟨rfl,rfl,rfl,by decide +kernel,rfl,by decide +kernel,by decide +kernel⟩
theorem yG(T:Txt K mg t):a0 P w K mg base bh 3 t.fF t.gJ ["_law_pen","_law_way","_law_size","_law_wide","_law_i","_law_j"] (xj K):=by
 have S:=yF
 have bc:=fQ (P:=P) (w:=w) (base:=base) T
 refine T.gZ.ok S (fun vs H Q E h=>?_) (fun aE A outer s H vs Q E hr h=>?_)
 ·obtain ⟨P0,a,ns,way,size,wide,i,j,rfl,_⟩:=h
  rfl
 ·obtain ⟨P0,a,ns,way,size,wide,i,j,rfl,pc,hS,kk⟩:=h
  refine ⟨_,(@au _ _ _ _ _ (@bG _ _ _ _ _ _ _ _ (@aS _ _ _ _ _ _ _ _ di (pv 1) aq (aP _)) (@az _ _ _ (@aV _ _ _ _ (@en _ _ _ _ _ _ _ _ di (aK bc (hr.mono (by decide)) rfl T.bP T.bp.kp T.bO .nil aL (@aa _ _ _ _ _ (by rfl) (pv 0) (@aa _ _ _ _ _ (by rfl) aq ai))) aq (aP _)))) bQ)
   (@au _ _ _ _ _ (@bG _ _ _ _ _ _ _ _ (@aS _ _ _ _ _ _ _ _ di (pv 1) aq (aP _)) (@az _ _ _ (@aV _ _ _ _ (@en _ _ _ _ _ _ _ _ di (aK bc (hr.mono (by decide)) rfl T.bP T.bp.kp T.bO .nil aL (@aa _ _ _ _ _ (by rfl) (pv 0) (@aa _ _ _ _ _ (by rfl) aq ai))) aq (aP _)))) bQ)
   (@au _ _ _ _ _ (@bG _ _ _ _ _ _ _ _ (@aS _ _ _ _ _ _ _ _ di (pv 1) aq (aP _)) (@az _ _ _ (@aV _ _ _ _ (@en _ _ _ _ _ _ _ _ ir (aK bc (hr.mono (by decide)) rfl T.bP T.bp.kp T.bO .nil aL (@aa _ _ _ _ _ (by rfl) (pv 0) (@aa _ _ _ _ _ (by rfl) aq ai))) aq (aP _)))) bQ)
   (@au _ _ _ _ _ (@bG _ _ _ _ _ _ _ _ (@aS _ _ _ _ _ _ _ _ di (pv 1) aq (aP _)) (@az _ _ _ (@aV _ _ _ _ (tR (@en _ _ _ _ _ _ _ _ di (@ay _ _ _ _ _ _ _ _ iq (pv 5) (pv 4)) aq (aP _)) (@kS _ _ _ _ _ (@en _ _ _ _ _ _ _ _ di (@ay _ _ _ _ _ _ _ _ iq (pv 5) (pv 4)) (@ay _ _ _ _ _ _ _ _ iq (pv 2) aq) (aP _)))))) bQ)
   (@az _ _ _ (@aV _ _ _ _ (@en _ _ _ _ _ _ _ _ oQ (@ay _ _ _ _ _ _ _ _ iq (pv 5) (pv 4)) (pv 3) (aP _)))))))),?_⟩
  refine ⟨_,rfl,rfl,_,rfl,aX (fun _=>?_) (fun _=>?_)⟩
  ·exact ⟨_,rfl,P0,a,ns,2,rfl,pc,hS,by decide,a9.of_lt (by decide) (by decide),fun c H1 _ _ s1 p1=>⟨rfl,kk _ H1 s1 p1⟩⟩
  dsimp only [df]
  refine ⟨_,rfl,rfl,_,rfl,aX (fun _=>?_) (fun _=>?_)⟩
  ·exact ⟨_,rfl,P0,a,ns,4,rfl,pc,hS,by decide,a9.of_lt (by decide) (by decide),fun c H1 _ _ s1 p1=>⟨rfl,kk _ H1 s1 p1⟩⟩
  dsimp only [df]
  refine ⟨_,rfl,rfl,_,rfl,aX (fun _=>?_) (fun _=>?_)⟩
  ·exact ⟨_,rfl,P0,a,ns,4,rfl,pc,hS,by decide,a9.of_lt (by decide) (by decide),fun c H1 _ _ s1 p1=>⟨_,_,rfl,rfl,kk _ H1 s1 p1⟩⟩
  dsimp only [df]
  refine ⟨_,rfl,rfl,_,rfl,aX (fun _=>?_) (fun _=>?_)⟩
  ·refine ⟨_,rfl,_,rfl,_,_,rfl,rfl,rfl,_,rfl,aX (fun _=>?_) (fun _=>?_)⟩
   ·exact kk _ H (aj.refl _) pc
   ·exact ⟨_,rfl,_,rfl,_,_,rfl,rfl,_,rfl,_,_,rfl,rfl,rfl,kk _ H (aj.refl _) pc⟩
  dsimp only [df]
  exact ⟨_,rfl,_,rfl,_,_,rfl,rfl,_,rfl,_,_,rfl,rfl,kk _ H (aj.refl _) pc⟩
theorem yH:bx ["_law_size","_law_links","_law_names","_law_found","_law_i","_law_j","_law_one"] ["_law_size","_law_links","_law_names"] (a8 kd):=⟨rfl,rfl,rfl,by decide +kernel,rfl,by decide +kernel,by decide +kernel⟩
theorem yI(T:Txt K mg t):a0 P w K mg base bh 3 t.fI t.gN ["_law_size","_law_links","_law_names"] xm:=by
 have S:=yH
 refine T.g_.ok S (fun vs H Q E h=>?_) (fun aE A outer s H vs Q E hr h=>?_)
 ·obtain ⟨l,r,n,us,ws,L,nm,rfl,_⟩:=h
  rfl
 ·obtain ⟨l,r,n,us,ws,L,nm,rfl,el,hL,ok,dw,dy,lw,hw,N,kk⟩:=h
  refine ⟨_,(@au _ _ _ _ _ (@aJ _ _ 3 _ _ _ _ (by rfl) (by first | exact .inl rfl | exact .inr rfl | assumption) S.nd rfl (Or.inl rfl) (@bg _ _ _ _ ai))
   (@au _ _ _ _ _ (dG PassesOwn.never rfl (ee (pv 1)) (kZ rfl (fZ (bY (i:=4) S.nd rfl (Or.inl rfl)) (fZ (bY (i:=5) S.nd rfl (Or.inl rfl)) kY)))
    (@au _ _ _ _ _ (@aJ _ _ 6 _ _ _ _ (by rfl) (by first | exact .inl rfl | exact .inr rfl | assumption) S.nd rfl (Or.inl rfl) (aU (lA rfl) rfl T.kj boot_min (@aa _ _ _ _ _ (by rfl) (@aH _ _ _ _ _ _ _ aT (pv 2) (pv 4) (fun _ _=>rfl)) (@aa _ _ _ _ _ (by rfl) (@aH _ _ _ _ _ _ _ aT (pv 2) (pv 5) (fun _ _=>rfl)) ai))))
   (@az _ _ _ (dF (dm PySem.F.plainAttrs_list PySem.F.slot_list_append PySem.F.type_list_append cQ (pv 3) (@aa _ _ _ _ _ (by rfl) (@e8 _ _ _ _ _ (@aa _ _ _ _ _ (by rfl) (pv 6) (@aa _ _ _ _ _ (by rfl) (aU (lx rfl) rfl T.km boot_max (@aa _ _ _ _ _ (by rfl) (@aH _ _ _ _ _ _ _ aT (pv 2) (pv 4) (fun _ _=>rfl)) (@aa _ _ _ _ _ (by rfl) (@aH _ _ _ _ _ _ _ aT (pv 2) (pv 5) (fun _ _=>rfl)) ai))) ai))) ai))))))
   (@az _ _ _ (@aV _ _ _ _ (@e8 _ _ _ _ _ (@aa _ _ _ _ _ (by rfl) (pv 0) (@aa _ _ _ _ _ (by rfl) (dO u3 rfl T.rA boot_tuple (@aa _ _ _ _ _ (by rfl) (aU mf rfl T.ko PyProof.Rows.boot_sorted (@aa _ _ _ _ _ (by rfl) (pv 3) ai)) ai)) ai))))))),?_⟩
  refine ⟨by show 0≤sizeLine;decide,fun fd bw=>?_⟩
  have s0:ag H (upd H fd (.lst [])):=aB bw
  have iX:upd H fd (.lst []) fd=some (.lst []):=ak
  dsimp only [aC]
  generalize upd H fd (.lst [])=H1 at s0 iX ⊢
  refine ⟨_,rfl,l,rfl,⟨_,.of (s0 _ _ el)⟩,?_⟩
  refine oF (K:=K) (a:=l) (xs:=us) (fun k σ Hc=>∃(xs:List V) (v4 v5 v6:Option V),σ=[some (.int (n:Int)),some (.ref l),some (.ref r),some (.ref fd),v4,v5,v6]∧ag H Hc∧Hc fd=some (.lst xs)∧ax Hc xs ((L.take k).map (ck nm))) ⟨[],_,_,_,rfl,s0,iX,ax.nil _⟩ (fun k σ Hc _ ⟨_,_,_,_,_,sc,_⟩=>.of (sc _ _ el)) ?_ ?_
  ·rintro k x σ Hc hx ⟨xs,v4,v5,v6,rfl,sc,ef,hX⟩
   have hk:k<L.length:=by
    rw [←hL.1]
    exact (List.getElem?_eq_some_iff.mp hx).1
   obtain ⟨b,rfl,eb⟩:=(hL.mono sc).2 k x L[k] hx (by simp [hk])
   have pk:=ok.lt L[k] (List.getElem_mem hk)
   have tk:(L.take (k+1)).map (ck nm)=(L.take k).map (ck nm)++[ck nm L[k]]:=by
    rw [List.take_succ,List.getElem?_eq_getElem hk,List.map_append]
    rfl
   have lX:=hX.1
   rw [List.length_map,List.length_take] at lX
   have bb:L.length≤50:=Nat.le_trans ok.bb (by
    have:n*n≤10*10:=Nat.mul_le_mul dw dw
    omega)
   generalize L[k]=p at eb pk tk
   obtain ⟨p1,p2⟩:=p
   dsimp only at pk
   obtain ⟨i,rfl⟩:=Int.eq_ofNat_of_zero_le pk.1
   obtain ⟨j,rfl⟩:=Int.eq_ofNat_of_zero_le (show 0≤p2 by omega)
   have rJ:cx ws (i:Int)=some (.int (nm i)):=dR (hw i (by omega))
   have at2:cx ws (j:Int)=some (.int (nm j)):=dR (hw j (by omega))
   have iY:=sc _ _ dy
   refine ⟨b,_,rfl,.of eb,rfl,_,_,rfl,_,_,rfl,rfl,?_⟩
   refine ⟨_,rfl,_,rfl,r,ws,_,.int (nm i),rfl,rfl,.of iY,rJ,_,rfl,_,rfl,r,ws,_,.int (nm j),rfl,rfl,.of iY,at2,nm i,nm j,rfl,?_⟩
   dsimp only [aC]
   refine ⟨_,rfl,.inl ⟨rfl,_,.of ef⟩,_,rfl,_,rfl,_,rfl,r,ws,_,.int (nm i),rfl,rfl,.of iY,rJ,_,rfl,_,rfl,r,ws,_,.int (nm j),rfl,rfl,.of iY,at2,nm i,nm j,rfl,by show 2≤sizeLine;decide,fun tp cJ=>?_⟩
   have eq:ck nm ((i:Int),(j:Int))=(if nm j<nm i then nm j else nm i,if nm j>nm i then nm j else nm i):=by
    unfold ck
    simp only [Int.toNat_natCast]
    refine Prod.ext ?_ ?_
    ·show min (nm i) (nm j)=_
     split <;> omega
    ·show max (nm i) (nm j)=_
     split <;> omega
   have st:ag Hc (upd Hc tp (.tup [.int (if nm j<nm i then nm j else nm i),.int (if nm j>nm i then nm j else nm i)])):=aB cJ
   have bW:upd Hc tp (.tup [.int (if nm j<nm i then nm j else nm i),.int (if nm j>nm i then nm j else nm i)]) tp=some (.tup [.int (ck nm ((i:Int),(j:Int))).1,.int (ck nm ((i:Int),(j:Int))).2]):=by rw [ak,eq]
   generalize upd Hc tp (.tup [.int (if nm j<nm i then nm j else nm i),.int (if nm j>nm i then nm j else nm i)])=Hd at st bW ⊢
   have bX:=st _ _ ef
   refine ⟨fd,xs,_,rfl,rfl,bX,bA (by omega),xs++[.ref tp],_,_,_,rfl,cz (sc.trans st) bw,ak,?_⟩
   rw [tk]
   exact ((hX.mono st).push bW).b5 bX fun b o nb e=>by rw [aD nb];exact e
  ·rintro σ Hc ⟨xs,v4,v5,v6,rfl,sc,ef,hX⟩
   rw [hL.1,List.take_length] at hX
   have ky:=xl ok N
   have lX:=hX.1
   have bb:L.length≤50:=Nat.le_trans ok.bb (by
    have:n*n≤10*10:=Nat.mul_le_mul dw dw
    omega)
   have lM:(L.map (ck nm)).length=L.length:=List.length_map ..
   have small:∀q∈L.map (ck nm),0≤q.2∧q.2<1000:=fun q hq=>by
    have:=ky.lt q hq
    omega
   generalize hM:L.map (ck nm)=M at hX ky lX lM small kk
   dsimp only
   refine ⟨_,rfl,_,rfl,fd,xs,fun i=>(M.getD i (0,0)).1,fun i=>(M.getD i (0,0)).2,rfl,ef,by omega,fun i v hv=>?_,fun p l' hp hu d2=>?_⟩
   ·have hi:i<M.length:=by
     rw [←lX]
     exact (List.getElem?_eq_some_iff.mp hv).1
    obtain ⟨b,rfl,eb⟩:=hX.2 i v M[i] hv (by simp [hi])
    dsimp only
    rw [getD_at hi]
    exact ⟨⟨b,rfl,eb⟩,small _ (List.getElem_mem hi)⟩
   rw [lX] at hp hu
   obtain ⟨pm,pw⟩:=xk hp hu ky.nd small
   have sl:ag Hc (upd Hc l' (.lst (p.toList.map fun i=>xs.getD i .aw))):=aB d2
   have hP:ax Hc (p.toList.map fun i=>xs.getD i .aw) (p.toList.map fun i=>M.getD i (0,0)):=hX.pick _ fun i hi=>by
    have:p.toList.Perm (List.range M.length):=Array.perm_iff_toList_perm.mp hp
    exact List.mem_range.mp (this.mem_iff.mp hi)
   generalize (p.toList.map fun i=>xs.getD i .aw)=zs at sl hP ⊢
   refine ⟨l',zs,rfl,.inl ⟨.of ak,fun lt yJ=>?_⟩⟩
   have kA:=sl.trans (aB (o:=.tup zs) yJ)
   have elt:upd (upd Hc l' (.lst zs)) lt (.tup zs) lt=some (.tup zs):=ak
   generalize upd (upd Hc l' (.lst zs)) lt (.tup zs)=Hd at kA elt ⊢
   refine ⟨by show 2≤sizeLine;decide,fun tp cJ=>?_⟩
   have st:ag Hd (upd Hd tp (.tup [.int (n:Int),.ref lt])):=aB cJ
   have sT:=sc.trans (kA.trans st)
   exact kk tp _ _ sT (none_of (sc.trans kA) cJ) ⟨lt,zs,ak,st _ _ elt,(hP.mono kA).mono st⟩ (ky.perm pm) pw pm
theorem yK:bx ["_law_pen","_law_size","_law_ahead","_law_found","_law_j","_law_at","_law_some"] ["_law_pen","_law_size"] (a8 ka):=⟨rfl,rfl,rfl,by decide +kernel,rfl,by decide +kernel,by decide +kernel⟩
theorem yL(T:Txt K mg t):a0 P w K mg base bh 3 t.fG t.gK ["_law_pen","_law_size"] (xo K):=by
 have S:=yK
 have bc:=fQ (P:=P) (w:=w) (base:=base) T
 refine T.g8.ok S (fun vs H Q E h=>?_) (fun aE A outer s H vs Q E hr h=>?_)
 ·obtain ⟨P0,a,ns,n,rfl,_⟩:=h
  rfl
 ·obtain ⟨P0,a,ns,n,rfl,pc,hS,n1,dw,kk⟩:=h
  refine ⟨_,(@au _ _ _ _ _ (@aJ _ _ 2 _ _ _ _ (by rfl) (by first | exact .inl rfl | exact .inr rfl | assumption) S.nd rfl (Or.inl rfl) (@bg _ _ _ _ (@aa _ _ _ _ _ (by rfl) (@bg _ _ _ _ ai) ai)))
   (@au _ _ _ _ _ (@aJ _ _ 3 _ _ _ _ (by rfl) (by first | exact .inl rfl | exact .inr rfl | assumption) S.nd rfl (Or.inl rfl) (@bg _ _ _ _ ai))
   (@au _ _ _ _ _ (dG PassesOwn.never rfl (ug rfl T.dv (@aa _ _ _ _ _ (by rfl) aq (@aa _ _ _ _ _ (by rfl) (pv 1) ai))) (bY (i:=4) S.nd rfl (Or.inr rfl))
    (@au _ _ _ _ _ (@aJ _ _ 5 _ _ _ _ (by rfl) (by first | exact .inl rfl | exact .inr rfl | assumption) S.nd rfl (Or.inl rfl) (aK bc (hr.mono (by decide)) rfl T.bP T.bp.kp T.bO .nil aL (@aa _ _ _ _ _ (by rfl) (pv 0) (@aa _ _ _ _ _ (by rfl) (pv 4) ai))))
   (@au _ _ _ _ _ (@aJ _ _ 6 _ _ _ _ (by rfl) (by first | exact .inl rfl | exact .inr rfl | assumption) S.nd rfl (Or.inl rfl) (@ay _ _ _ _ _ _ _ _ dn (@bg _ _ _ _ (@aa _ _ _ _ _ (by rfl) (pv 5) ai)) (iF (N:=["_law_i","_law_pen"]) (ρ:=(fun σ=>[σ[0]?.join])) ⟨rfl,rfl,by decide +kernel,by decide +kernel,(List.forall_mem_cons.mpr ⟨rfl,(List.forall_mem_nil _)⟩),dW (by rfl),rfl,by decide +kernel,rfl,(fun σ j v h=>match j,h with | 0,h=>⟨0,_,rfl,rfl,join_some h,Or.inr (Or.inl rfl),.inl rfl,.inl rfl⟩ | j+1,h=>by cases h),(fun _ _=>rfl)⟩ rfl (ee (@aH _ _ _ _ _ _ _ aT (pv 2) (pv 5) (fun _ _=>rfl))) (fun s₃ H₃ fp=>(.one (@aS _ _ _ _ _ _ _ _ ir (aK bc (hr.mono (by decide)) rfl T.bP T.bp.kp T.bO .nil aL (@aa _ _ _ _ _ (by rfl) (pv 1) (@aa _ _ _ _ _ (by rfl) aq ai))) aq (aP _)))) (fun s₃ H₃ fp=>(pv 0)))))
   (@au _ _ _ _ _ (@bG _ _ _ _ _ _ _ _ (@aS _ _ _ _ _ _ _ _ di (aK bc (hr.mono (by decide)) rfl T.bP T.bp.kp T.bO .nil aL (@aa _ _ _ _ _ (by rfl) (pv 0) (@aa _ _ _ _ _ (by rfl) aq ai))) aq (aP _)) (@az _ _ _ (@aJ _ _ 6 _ _ _ _ (by rfl) (by first | exact .inl rfl | exact .inr rfl | assumption) S.nd rfl (Or.inl rfl) (@bg _ _ _ _ ai))) bQ)
   (@au _ _ _ _ _ (dF (dm PySem.F.plainAttrs_list PySem.F.slot_list_append PySem.F.type_list_append cQ (pv 2) (@aa _ _ _ _ _ (by rfl) (pv 6) ai)))
   (@az _ _ _ (dF (dm PySem.F.plainAttrs_list PySem.F.slot_list_extend PySem.F.type_list_extend vh (pv 3) (@aa _ _ _ _ _ (by rfl) (iF (N:=["_law_i","_law_j"]) (ρ:=(fun σ=>[σ[4]?.join])) ⟨rfl,rfl,by decide +kernel,by decide +kernel,(List.forall_mem_cons.mpr ⟨rfl,(List.forall_mem_nil _)⟩),dW (by rfl),rfl,by decide +kernel,rfl,(fun σ j v h=>match j,h with | 0,h=>⟨4,_,rfl,rfl,join_some h,Or.inr (Or.inl rfl),.inl rfl,.inl rfl⟩ | j+1,h=>by cases h),(fun _ _=>rfl)⟩ rfl (ee (pv 6)) (fun s₃ H₃ fp=>.nil) (fun s₃ H₃ fp=>(@e8 _ _ _ _ _ (@aa _ _ _ _ _ (by rfl) (pv 0) (@aa _ _ _ _ _ (by rfl) (pv 1) ai))))) ai)))))))))
   (@az _ _ _ (@aV _ _ _ _ (pv 3)))))),?_⟩
  refine ⟨by show 0≤sizeLine;decide,fun l0 kB=>⟨by show 1≤sizeLine;decide,fun la iZ=>?_⟩⟩
  have s1:ag H (upd H l0 (.lst [])):=aB kB
  have e0:upd H l0 (.lst []) l0=some (.lst []):=ak
  generalize upd H l0 (.lst [])=H1 at s1 e0 iZ ⊢
  have s2:ag H1 (upd H1 la (.lst [.ref l0])):=aB iZ
  have ea:upd H1 la (.lst [.ref l0]) la=some (.lst [.ref l0]):=ak
  dsimp only [aC]
  generalize upd H1 la (.lst [.ref l0])=H2 at s2 ea ⊢
  refine ⟨by show 0≤sizeLine;decide,fun fd bw=>?_⟩
  have s3:ag H2 (upd H2 fd (.lst [])):=aB bw
  have ef:upd H2 fd (.lst []) fd=some (.lst []):=ak
  dsimp only [aC]
  generalize upd H2 fd (.lst [])=H3 at s3 ef ⊢
  have d3:=s1.trans (s2.trans s3)
  have i3:la≠P0:=(pc.mono s1).ne iZ
  have cK:fd≠P0:=((pc.mono s1).mono s2).ne bw
  have yM:l0≠P0:=pc.ne kB
  have yN:H la=none:=none_of s1 iZ
  have kC:H fd=none:=none_of (s1.trans s2) bw
  have af:la≠fd:=fun e=>by rw [e,bw] at ea;cases ea
  refine ⟨_,rfl,_,_,rfl,⟨by decide,by decide,by omega,by omega⟩,?_⟩
  rw [show ((n:Int)-1).toNat=n-1 by omega]
  refine gd (fun k σ Hc=>∃(vs us:List V) (L:List (Int×Int)) (D:Nat→List Nat) (v4 v5 v6:Option V),σ=[some (.ref P0),some (.int (n:Int)),some (.ref la),some (.ref fd),v4,v5,v6]∧aj P0 H Hc∧aF Hc P0 a∧Hc la=some (.lst vs)∧xp (er P0 Hc) vs (k+1) D∧(∀(i:Nat) (b:Addr),vs[i]?=some (V.ref b)→b≠la∧b≠fd)∧Hc fd=some (.lst us)∧ax (er P0 Hc) us L∧dZ (k+1) L) ?_ ?_ ?_
  ·refine ⟨[.ref l0],[],[],fun _=>[],_,_,_,rfl,aj.of d3,pc.mono d3,s3 _ _ ea,⟨rfl,fun k hk=>⟨bS.nil k,l0,by rw [show k=0 by omega];rfl,?_⟩⟩,fun i b hb=>?_,ef,ax.nil _,dZ.nil⟩
   ·rw [bM yM]
    exact s3 _ _ (s2 _ _ e0)
   ·match i,hb with
    | 0,hb=>
     cases hb
     exact ⟨(fun e=>by rw [e,iZ] at e0;cases e0),(fun e=>by rw [←e] at bw;rw [s2 _ _ e0] at bw;cases bw)⟩
    | i+1,hb=>simp at hb
  ·rintro k σ Hc hk ⟨vs,us,L,D,v4,v5,v6,rfl,sc,p1,kD,ah,ap,bX,hL,ok⟩
   refine ⟨_,rfl,_,rfl,P0,a,ns,1+(k:Int),rfl,p1,ag.seq sc hS,by omega,a9.of_lt (by omega) (by omega),fun c H4 c0 c1 s4 p4=>?_⟩
   obtain ⟨c,rfl⟩:=Int.eq_ofNat_of_zero_le c0
   have hc:c<k+1:=by omega
   obtain ⟨fc,b,yO,i4⟩:=ah.2 c hc
   have yP:b≠P0:=fun z=>by
    rw [z] at i4
    unfold er at i4
    rw [if_pos rfl] at i4
    cases i4
   have yQ:=ah.1
   have yR:=sc.trans s4
   have yS:=s4.at i3 kD
   have rK:H4 b=some (.lst (bC (D c))):=iN _ _ (s4 _ _ i4)
   dsimp only [aC]
   simp only [List.set_cons_zero,List.set_cons_succ]
   refine ⟨_,rfl,by show 1≤sizeLine;decide,fun eM rL=>?_⟩
   have s5:ag H4 (upd H4 eM (.lst [.int (c:Int)])):=aB rL
   have e5:upd H4 eM (.lst [.int (c:Int)]) eM=some (.lst [.int (c:Int)]):=ak
   have yT:eM≠P0:=p4.ne rL
   generalize upd H4 eM (.lst [.int (c:Int)])=H5 at s5 e5 ⊢
   have lD:(D c).length≤10:=Nat.le_trans fc.len (by omega)
   have lV:(bC (D c)).length≤10:=by unfold bC;rw [List.length_map];exact lD
   have rM:=yR.trans (aj.of s5)
   refine xn (K:=K) (l:=b) (xs:=bC (D c)) (bA (by omega)) yP (s5 _ _ rK) (p4.mono s5) (fun R h=>⟨_,rfl,_,rfl,la,vs,_,.ref b,rfl,rfl,.of (s5 _ _ yS),dR yO,b,rfl,⟨_,.of (s5 _ _ rK)⟩,h⟩) (fun i x hx Hx R sx px k=>⟨_,rfl,P0,a,ns,3,rfl,px,ag.seq (rM.trans sx) hS,by decide,a9.of_lt (by decide) (by decide),fun c' H' _ _ s' p'=>⟨_,_,rfl,rfl,_,rfl,k _ H' s' p'⟩⟩) (fun x Hx R h=>⟨_,rfl,h⟩) fun D' ys Hx Cp Cq sx px sub yU=>?_
   obtain ⟨e,pF,rfl⟩:=ml sub
   have fe:=(fc.sub pF).put hc
   have Cr:(bC e).length≤10:=Nat.le_trans sub.length_le lV
   refine ⟨eM,D',_,_,rfl,rfl,sx.at yT e5,yU,Nat.le_trans (show _≤100 by simp;omega) (by decide),fun c2 n2=>?_⟩
   have s6:ag Hx (upd Hx c2 (.lst ([.int (c:Int)]++bC e))):=aB n2
   have e6:upd Hx c2 (.lst ([.int (c:Int)]++bC e)) c2=some (.lst (bC (c::e))):=ak
   have kE:=(rM.trans sx).trans (aj.of s6)
   have p6:=px.mono s6
   have mK:aj P0 H4 (upd Hx c2 (.lst ([.int (c:Int)]++bC e))):=(aj.of s5).trans (sx.trans (aj.of s6))
   have mL:c2≠P0:=px.ne n2
   have f2:er P0 Hc c2=none:=none_of (s4.trans ((aj.of s5).trans sx)) (by rw [bM mL];exact n2)
   dsimp only [aC]
   generalize upd Hx c2 (.lst ([.int (c:Int)]++bC e))=H6 at s6 e6 kE p6 mK ⊢
   simp only [List.set_cons_zero,List.set_cons_succ]
   refine a_ (mi (fun σ Hy=>∃(lc:Addr) (d:List Nat),σ=[some (.ref P0),some (.int (n:Int)),some (.ref la),some (.ref fd),some (.int (1+(k:Int))),some (.int (c:Int)),some (.ref lc)]∧aj P0 Hc Hy∧aF Hy P0 a∧Hy lc=some (.lst (bC d))∧bS (k+1) d∧lc≠P0∧er P0 Hc lc=none) ?_ ?_)
   ·rintro σ Hy ⟨lc,d,rfl,sy,py,yV,mM,h7,kF⟩
    have ly:lc≠la:=fun z=>by rw [z,bM i3,kD] at kF;cases kF
    have lf:lc≠fd:=fun z=>by rw [z,bM cK,bX] at kF;cases kF
    have mN:=sy.at i3 kD
    have yW:=sy.at cK bX
    have Cs:d.length≤10:=Nat.le_trans mM.len (by omega)
    dsimp only
    refine ⟨_,rfl,.inl ⟨rfl,_,.of mN⟩,_,rfl,la,vs,_,rfl,rfl,mN,bA (by omega),?_⟩
    have e7:upd Hy la (.lst (vs++[.ref lc])) la=some (.lst (vs++[.ref lc])):=ak
    have k7:∀b o,b≠la→Hy b=some o→upd Hy la (.lst (vs++[.ref lc])) b=some o:=fun b o nb e=>by rw [aD nb];exact e
    have p7:=py.upd (o:=.lst (vs++[.ref lc])) i3
    have r7:=mq (P:=P0) (H:=Hy) (r:=la) (o:=.lst (vs++[.ref lc]))
    have rN:aj P0 H (upd Hy la (.lst (vs++[.ref lc]))):=(sc.trans sy).but yN
    generalize upd Hy la (.lst (vs++[.ref lc]))=H7 at e7 k7 p7 r7 rN ⊢
    have mO:=k7 fd _ (fun z=>af z.symm) yW
    have mP:=k7 lc _ ly yV
    have yX:(bC d).length=d.length:=by unfold bC;rw [List.length_map]
    refine ⟨_,rfl,.inl ⟨rfl,_,.of mO⟩,wJ (xs:=bC d) (fun R h=>⟨_,rfl,lc,rfl,⟨_,.of mP⟩,h _ _ (ag.refl _) (iG (.of mP))⟩) (bA (by omega)) (fun _ i y Hz=>∃(b:Addr) (x:Nat),y=.ref b∧d[i]?=some x∧Hz b=some (.tup [.int (x:Int),.int (1+(k:Int))])) (fun Dd i y Ha Hb ys ⟨b,x,h1,h2,h3⟩ e f=>⟨b,x,h1,h2,f b _ (fun z=>by rw [z,e] at h3;cases h3) h3⟩) ?_ ?_⟩
    ·intro Dd i x hx Hz R sz _ kz
     obtain ⟨y,hy,rfl⟩:=xq hx
     refine ⟨_,rfl,_,rfl,by show 2≤sizeLine;decide,fun tp cJ=>?_⟩
     exact kz _ _ (aB cJ) ⟨tp,y,rfl,hy,ak⟩
    ·intro Dd zs H8 Ct s8 yY yZ y4
     have lL:=hL.1
     have l2:us.length≤50:=by
      have:=ok.bb
      have:(k+1)*(k+1-1)≤10*10:=Nat.mul_le_mul (by omega) (by omega)
      omega
     refine ⟨fd,Dd,us,zs,rfl,rfl,s8 _ _ mO,y4,Nat.le_trans (show _≤100 by omega) (by decide),?_⟩
     have k9:∀b o,b≠fd→H8 b=some o→upd H8 fd (.lst (us++zs)) b=some o:=fun b o nb e=>by rw [aD nb];exact e
     have p8:=p7.mono s8
     have r9:=mq (P:=P0) (H:=H8) (r:=fd) (o:=.lst (us++zs))
     have rO:er P0 H8 fd=some (.lst us):=by rw [bM cK];exact s8 _ _ mO
     have y6:er P0 Hy la=some (.lst vs):=by rw [bM i3];exact mN
     refine ⟨vs++[.ref lc],us++zs,L++d.map fun(x:Nat)=>((x:Int),((k+1:Nat):Int)),fun i=>if i=k+1 then d else D i,_,_,_,rfl,(rN.trans (aj.of s8)).but kC,p8.upd cK,k9 la _ af (s8 _ _ e7),⟨by simp [yQ],fun i hi=>?_⟩,fun i b' i5=>?_,ak,?_,ok.more mM⟩
     ·dsimp only
      by_cases z:i=k+1
      ·subst z
       rw [if_pos rfl]
       refine ⟨mM,lc,by rw [List.getElem?_append_right (by omega),show k+1-vs.length=0 by omega];rfl,?_⟩
       exact r9 _ _ lf (by rw [bM h7];exact s8 _ _ mP)
      ·rw [if_neg z]
       obtain ⟨f1,b1,v1,h1⟩:=ah.2 i (by omega)
       obtain ⟨a1,a2⟩:=ap i b1 v1
       refine ⟨f1,b1,by rw [List.getElem?_append_left (by omega)];exact v1,?_⟩
       exact r9 _ _ a2 (jN s8 _ _ (r7 _ _ a1 (sy _ _ h1)))
     ·by_cases z:i<vs.length
      ·rw [List.getElem?_append_left z] at i5
       exact ap i b' i5
      ·have b6:=(List.getElem?_eq_some_iff.mp i5).1
       rw [List.length_append,List.length_singleton] at b6
       rw [List.getElem?_append_right (by omega),show i-vs.length=0 by omega] at i5
       cases i5
       exact ⟨ly,lf⟩
     ·refine ax.cat ?_ ?_
      ·exact (((hL.mono sy).b5 y6 r7).mono (jN s8)).b5 rO r9
      ·refine ax.b5 (H:=er P0 H8) ⟨by rw [yY,yX,List.length_map],fun i v p h1 h2=>?_⟩ rO r9
       obtain ⟨b',x,rfl,hx,e'⟩:=yZ i v h1
       rw [List.getElem?_map,hx] at h2
       cases h2
       refine ⟨b',rfl,?_⟩
       rw [show (((k+1:Nat):Int))=1+(k:Int) by omega]
       exact iQ p8 e'
   ·intro R hR
    refine ⟨_,rfl,P0,a,ns,9,rfl,p6,ag.seq kE hS,by decide,a9.of_lt (by decide) (by decide),fun c' H7 _ _ s7 p7=>⟨rfl,_,rfl,aX (fun _=>?_) (fun _=>?_)⟩⟩
    ·refine ⟨by show 0≤sizeLine;decide,fun lc h7=>?_⟩
     have nP:=p7.ne h7
     have rQ:=s4.trans (mK.trans s7)
     exact hR _ _ ⟨lc,[],rfl,rQ.trans (aj.of (aB h7)),p7.mono (aB h7),ak,bS.nil _,nP,none_of rQ (by rw [bM nP];exact h7)⟩
    ·exact hR _ _ ⟨c2,c::e,rfl,s4.trans (mK.trans s7),p7,s7.at mL e6,fe,mL,f2⟩
  ·rintro σ Hc ⟨vs,us,L,D,v4,v5,v6,rfl,sc,p1,kD,ah,ap,bX,hL,ok⟩
   rw [show n-1+1=n by omega] at ok
   exact ⟨_,rfl,kk fd us L Hc sc p1 (by rw [bM cK];exact kC) cK bX hL ok.ok⟩
theorem y7:bx ["_law_pen","_law_most","_law_size","_law_way","_law_wide","_law_links","_law_j","_law_i"] ["_law_pen","_law_most"] (a8 kb):=⟨rfl,rfl,rfl,by decide +kernel,rfl,by decide +kernel,by decide +kernel⟩
theorem y8(T:Txt K mg t):a0 P w K mg base bh 4 t.fH t.gM ["_law_pen","_law_most"] (xu K):=by
 have S:=y7
 have bc:=fQ (P:=P) (w:=w) (base:=base) T
 have y9:=yG (P:=P) (w:=w) (base:=base) T
 have y_:=yL (P:=P) (w:=w) (base:=base) T
 have mQ:=rF (P:=P) (w:=w) (base:=base) T
 have za:=yI (P:=P) (w:=w) (base:=base) T
 refine T.g9.ok S (fun vs H Q E h=>?_) (fun aE A outer s H vs Q E hr h=>?_)
 ·obtain ⟨P0,a,ns,most,rfl,_⟩:=h
  rfl
 ·obtain ⟨P0,a,ns,most,rfl,pc,hS,m1,Cu,kk⟩:=h
  refine ⟨_,(@au _ _ _ _ _ (@aJ _ _ 2 _ _ _ _ (by rfl) (by first | exact .inl rfl | exact .inr rfl | assumption) S.nd rfl (Or.inl rfl) (@ay _ _ _ _ _ _ _ _ cu aq (aK bc (hr.mono (by decide)) rfl T.bP T.bp.kp T.bO .nil aL (@aa _ _ _ _ _ (by rfl) (pv 0) (@aa _ _ _ _ _ (by rfl) (pv 1) ai)))))
   (@au _ _ _ _ _ (@aJ _ _ 3 _ _ _ _ (by rfl) (by first | exact .inl rfl | exact .inr rfl | assumption) S.nd rfl (Or.inl rfl) (aK bc (hr.mono (by decide)) rfl T.bP T.bp.kp T.bO .nil aL (@aa _ _ _ _ _ (by rfl) (pv 0) (@aa _ _ _ _ _ (by rfl) aq ai))))
   (@au _ _ _ _ _ (@aJ _ _ 4 _ _ _ _ (by rfl) (by first | exact .inl rfl | exact .inr rfl | assumption) S.nd rfl (Or.inl rfl) (aK bc (hr.mono (by decide)) rfl T.bP T.bp.kp T.bO .nil aL (@aa _ _ _ _ _ (by rfl) (pv 0) (@aa _ _ _ _ _ (by rfl) (pv 2) ai))))
   (@au _ _ _ _ _ (@aJ _ _ 5 _ _ _ _ (by rfl) (by first | exact .inl rfl | exact .inr rfl | assumption) S.nd rfl (Or.inl rfl) (@bg _ _ _ _ ai))
   (@au _ _ _ _ _ (dG PassesOwn.never rfl (gc rfl T.dv (@aa _ _ _ _ _ (by rfl) (pv 2) ai)) (bY (i:=6) S.nd rfl (Or.inl rfl))
    (@az _ _ _ (dG PassesOwn.never rfl (gc rfl T.dv (@aa _ _ _ _ _ (by rfl) (pv 6) ai)) (bY (i:=7) S.nd rfl (Or.inl rfl))
    (@az _ _ _ (@bG _ _ _ _ _ _ _ _ (ji (aK y9 (hr.mono (by decide)) rfl T.qX T.gZ.kp T.qW .nil aL (@aa _ _ _ _ _ (by rfl) (pv 0) (@aa _ _ _ _ _ (by rfl) (pv 3) (@aa _ _ _ _ _ (by rfl) (pv 2) (@aa _ _ _ _ _ (by rfl) (pv 4) (@aa _ _ _ _ _ (by rfl) (pv 7) (@aa _ _ _ _ _ (by rfl) (pv 6) ai)))))))) (@az _ _ _ (dF (dm PySem.F.plainAttrs_list PySem.F.slot_list_append PySem.F.type_list_append cQ (pv 5) (@aa _ _ _ _ _ (by rfl) (@e8 _ _ _ _ _ (@aa _ _ _ _ _ (by rfl) (pv 7) (@aa _ _ _ _ _ (by rfl) (pv 6) ai))) ai)))) bQ)))))
   (@au _ _ _ _ _ (@bG _ _ _ _ _ _ _ _ (@aS _ _ _ _ _ _ _ _ di (pv 3) aq (aP _)) (@az _ _ _ (@aJ _ _ 5 _ _ _ _ (by rfl) (by first | exact .inl rfl | exact .inr rfl | assumption) S.nd rfl (Or.inl rfl) (aK y_ (hr.mono (by decide)) rfl T.qZ T.g8.kp T.qY .nil aL (@aa _ _ _ _ _ (by rfl) (pv 0) (@aa _ _ _ _ _ (by rfl) (pv 2) ai))))) bQ)
   (@az _ _ _ (@aV _ _ _ _ (aK za (hr.mono (by decide)) rfl T.rd T.g_.kp T.q_ .nil aL (@aa _ _ _ _ _ (by rfl) (pv 2) (@aa _ _ _ _ _ (by rfl) (pv 5) (@aa _ _ _ _ _ (by rfl) (aK mQ (hr.mono (by decide)) rfl T.mC T.fO.kp T.mB .nil aL (@aa _ _ _ _ _ (by rfl) (pv 0) (@aa _ _ _ _ _ (by rfl) (dO (pL rfl) rfl T.h6 boot_list (@aa _ _ _ _ _ (by rfl) (dO pK rfl T.dv pO (@aa _ _ _ _ _ (by rfl) (pv 2) ai)) ai)) ai))) ai)))))))))))),?_⟩
  refine ⟨_,rfl,_,rfl,P0,a,ns,(most:Int),rfl,pc,hS,by omega,a9.of_lt (by omega) (by omega),fun c H1 c0 c1 s1 p1=>⟨_,_,rfl,rfl,?_⟩⟩
  obtain ⟨c,rfl⟩:=Int.eq_ofNat_of_zero_le c0
  dsimp only [aC]
  rw [show 1+(c:Int)=((c+1:Nat):Int) by omega]
  have n1:1≤c+1:=by omega
  have nm:c+1≤most:=by omega
  generalize c+1=n at n1 nm ⊢
  have cV:av K (er P0 H1) a (ns.map V.int):=ag.seq s1 hS
  refine ⟨_,rfl,P0,a,ns,6,rfl,p1,cV,by decide,a9.of_lt (by decide) (by decide),fun way H2 _ _ s2 p2=>?_⟩
  have dz:=s1.trans s2
  dsimp only [aC]
  refine ⟨_,rfl,_,rfl,P0,a,ns,(n:Int),rfl,p2,ag.seq dz hS,by omega,a9.of_lt (by omega) (by omega),fun wide H3 _ _ s3 p3=>?_⟩
  have d3:=dz.trans s3
  dsimp only [aC]
  refine ⟨by show 0≤sizeLine;decide,fun fd bw=>?_⟩
  have s4:ag H3 (upd H3 fd (.lst [])):=aB bw
  have ef:upd H3 fd (.lst []) fd=some (.lst []):=ak
  dsimp only [aC]
  generalize upd H3 fd (.lst [])=H4 at s4 ef ⊢
  have i6:=d3.trans (aj.of s4)
  have p4:=p3.mono s4
  have cK:fd≠P0:=p3.ne bw
  have rR:er P0 H fd=none:=none_of d3 (by rw [bM cK];exact bw)
  have kC:H fd=none:=by rw [bM cK] at rR;exact rR
  refine ⟨_,rfl,(n:Int),rfl,by omega,by omega,?_⟩
  rw [Int.toNat_natCast]
  refine gd (fun j σ Hc=>∃(us:List V) (L:List (Int×Int)) (v6 v7:Option V),σ=[some (.ref P0),some (.int (most:Int)),some (.int (n:Int)),some (.int way),some (.int wide),some (.ref fd),v6,v7]∧aj P0 H Hc∧aF Hc P0 a∧Hc fd=some (.lst us)∧ax (er P0 Hc) us L∧b8 j 0 L) ⟨[],[],_,_,rfl,i6,p4,ef,ax.nil _,b8.start⟩ ?_ ?_
  ·rintro j σ Hc hj ⟨us,L,v6,v7,rfl,sc,p5,bX,hL,ok⟩
   dsimp only [aC]
   simp only [List.set_cons_zero,List.set_cons_succ]
   refine ⟨_,rfl,(j:Int),by rw [Int.zero_add],by omega,by omega,?_⟩
   rw [Int.toNat_natCast]
   refine gd (fun i σ Hd=>∃(us:List V) (L:List (Int×Int)) (v7:Option V),σ=[some (.ref P0),some (.int (most:Int)),some (.int (n:Int)),some (.int way),some (.int wide),some (.ref fd),some (.int (0+(j:Int))),v7]∧aj P0 H Hd∧aF Hd P0 a∧Hd fd=some (.lst us)∧ax (er P0 Hd) us L∧b8 j i L) ⟨us,L,_,rfl,sc,p5,bX,hL,ok⟩ ?_ ?_
   ·rintro i σ Hd hi ⟨us,L,v7,rfl,sd,p6,bX,hL,ok⟩
    refine ⟨_,rfl,_,rfl,_,rfl,_,rfl,_,rfl,_,rfl,P0,a,ns,way,(n:Int),wide,0+(i:Int),0+(j:Int),rfl,p6,ag.seq sd hS,fun b He se pe=>?_⟩
    have mR:=se.at cK bX
    have rS:=hL.mono se
    have lL:=hL.1
    have l2:us.length≤100:=by
     have:=ok.bb
     have:j*(j-1)≤10*10:=Nat.mul_le_mul (by omega) (by omega)
     omega
    cases b with
    | true=>
     refine ⟨true,rfl,pE ?_⟩
     refine ⟨_,rfl,.inl ⟨rfl,_,.of mR⟩,_,rfl,_,rfl,by show 2≤sizeLine;decide,fun tp cJ=>?_⟩
     have st:ag He (upd He tp (.tup [.int (0+(i:Int)),.int (0+(j:Int))])):=aB cJ
     have et:upd He tp (.tup [.int (0+(i:Int)),.int (0+(j:Int))]) tp=some (.tup [.int (i:Int),.int (j:Int)]):=by rw [ak,Int.zero_add,Int.zero_add]
     generalize upd He tp (.tup [.int (0+(i:Int)),.int (0+(j:Int))])=Hf at st et ⊢
     have pf:=pe.mono st
     have rT:=st _ _ mR
     refine ⟨fd,us,_,rfl,rfl,rT,bA (by omega),us++[.ref tp],L++[((i:Int),(j:Int))],_,rfl,((sd.trans se).trans (aj.of st)).but kC,pf.upd cK,ak,?_,ok.push hi⟩
     refine ax.b5 (H:=er P0 Hf) ((rS.mono (jN st)).push (iQ pf et)) (by rw [bM cK];exact rT) mq
    | false=>
     exact ⟨false,rfl,jC ⟨us,L,_,rfl,sd.trans se,pe,mR,rS,ok.skip⟩⟩
   ·rintro σ Hd ⟨us,L,v7,rfl,sd,p6,bX,hL,ok⟩
    exact ⟨us,L,_,_,rfl,sd,p6,bX,hL,ok.next⟩
  ·rintro σ Hc ⟨us,L,v6,v7,rfl,sc,p5,bX,hL,ok⟩
   dsimp only
   refine a_ (mi (fun σ Hy=>∃(lk:Addr) (us:List V) (L:List (Int×Int)),σ=[some (.ref P0),some (.int (most:Int)),some (.int (n:Int)),some (.int way),some (.int wide),some (.ref lk),v6,v7]∧aj P0 H Hy∧aF Hy P0 a∧lk≠P0∧Hy lk=some (.lst us)∧ax (er P0 Hy) us L∧cR n L) ?_ ?_)
   ·rintro σ Hy ⟨lk,us,L,rfl,sy,py,zb,zc,hL,ok⟩
    dsimp only
    refine ⟨_,rfl,_,rfl,_,rfl,_,rfl,(n:Int),rfl,fun pr zd=>?_⟩
    have s6:ag Hy (upd Hy pr (.cA 0 (n:Int))):=aB zd
    refine ⟨pr,n,rfl,ak,by omega,fun l0 n0=>?_⟩
    have s7:=s6.trans (aB (o:=.lst (aZ n)) n0)
    have e0:upd (upd Hy pr (.cA 0 (n:Int))) l0 (.lst (aZ n)) l0=some (.lst (aZ n)):=ak
    have kB:l0≠P0:=(py.mono s6).ne n0
    generalize upd (upd Hy pr (.cA 0 (n:Int))) l0 (.lst (aZ n))=Hz at s7 e0 ⊢
    have lu:(aZ n).length=n:=by unfold aZ;simp
    refine ⟨P0,a,l0,ns,aZ n,rfl,py.mono s7,ag.seq (sy.trans (aj.of s7)) hS,kB,e0,by omega,fun r ys Hw sw pw fr nr dy pm=>?_⟩
    obtain ⟨ze,ly,hy,NO⟩:=xt pm
    have kG:=(aj.of s7).trans sw
    refine ⟨lk,r,n,us,ys,L,ze,rfl,kG.at zb zc,(hL.mono kG).mono iN,ok,by omega,dy,ly,hy,NO,fun tt L' Hv sv rV sh mS zf Cv=>?_⟩
    have nt:tt≠P0:=pw.ne rV
    exact kk tt n L' Hv ((sy.trans kG).trans (aj.of sv)) (pw.mono sv) (none_of (sy.trans kG) (by rw [bM nt];exact rV)) nt (sh.er (pw.mono sv)) mS zf n1 nm
   ·intro R hR
    refine ⟨_,rfl,rfl,_,rfl,aX (fun _=>?_) (fun _=>?_)⟩
    ·refine ⟨_,rfl,_,rfl,P0,a,ns,n,rfl,p5,ag.seq sc hS,n1,by omega,fun r zg L' Hy sy py fr nr dy zh mS=>?_⟩
     exact hR _ _ ⟨r,zg,L',rfl,sc.trans sy,py,nr,dy,zh,mS⟩
    ·exact hR _ _ ⟨fd,us,L,rfl,sc,p5,cK,bX,hL,ok.ok⟩
theorem zj:bx ["_law_shape","_law_found","_law_i","_law_j"] ["_law_shape"] (a8 ke):=⟨rfl,rfl,rfl,by decide +kernel,rfl,by decide +kernel,by decide +kernel⟩
theorem zk(T:Txt K mg t):a0 P w K mg base bh 1 t.fJ t.gO ["_law_shape"] x9:=by
 have S:=zj
 refine T.hE.ok S (fun vs H Q E h=>?_) (fun aE A outer s H vs Q E hr h=>?_)
 ·obtain ⟨tp,n,L,rfl,_⟩:=h
  rfl
 ·obtain ⟨tp,n,L,rfl,⟨lt,us,bW,elt,hL⟩,ok,n9,l2,kk⟩:=h
  have zl:((List.range n).map fun i:Nat=>V.int (0+(i:Int))).length=n:=by rw [List.length_map,List.length_range]
  refine ⟨_,(@au _ _ _ _ _ (pV (i0:=1) (N:=["_law_k"]) (ρ:=(fun σ=>[])) ⟨rfl,rfl,by decide +kernel,by decide +kernel,(List.forall_mem_nil _),dW (by rfl),rfl,by decide +kernel,rfl,(fun σ j v h=>match j,h with | j,h=>by cases h),(fun _ _=>rfl)⟩ rfl S.nd rfl (Or.inl rfl) (gc rfl T.dv (@aa _ _ _ _ _ (by rfl) (@aH _ _ _ _ _ _ _ eC (pv 0) aq (fun _ _=>rfl)) ai)) (fun s₃ H₃ fp=>.nil) (fun s₃ H₃ fp=>(@bg _ _ _ _ ai)))
   (@au _ _ _ _ _ (dG PassesOwn.never rfl (lh (@aH _ _ _ _ _ _ _ eC (pv 0) aq (fun _ _=>rfl))) (kZ rfl (fZ (bY (i:=2) S.nd rfl (Or.inl rfl)) (fZ (bY (i:=3) S.nd rfl (Or.inl rfl)) kY)))
    (@au _ _ _ _ _ (dF (dm PySem.F.plainAttrs_list PySem.F.slot_list_append PySem.F.type_list_append cQ (@aH _ _ _ _ _ _ _ aT (pv 1) (pv 2) (fun _ _=>rfl)) (@aa _ _ _ _ _ (by rfl) (pv 3) ai)))
   (@az _ _ _ (dF (dm PySem.F.plainAttrs_list PySem.F.slot_list_append PySem.F.type_list_append cQ (@aH _ _ _ _ _ _ _ aT (pv 1) (pv 3) (fun _ _=>rfl)) (@aa _ _ _ _ _ (by rfl) (pv 2) ai))))))
   (@az _ _ _ (@aV _ _ _ _ (pv 1))))),?_⟩
  refine a_ (lW (wV (xs:=(List.range n).map fun i:Nat=>V.int (0+(i:Int))) (n:=n) zl (fun R h=>⟨_,rfl,tp,_,_,_,rfl,rfl,.of bW,rfl,(n:Int),rfl,by omega,by omega,h _ _ (ag.refl _) (by rw [Int.toNat_natCast];exact wb)⟩) (bA (by omega)) (fun _ i y Hx=>Hx y=some (.lst [])∧H y=none) ?_ ?_ ?_))
  ·intro D i y Ha Hb ys ⟨h1,h2⟩ hy e f
   exact ⟨f y _ hy h1,h2⟩
  ·intro D i x hx Hc R sc _ kc
   exact ⟨Nat.zero_le _,fun p np=>kc p _ (cz (ag.refl _) np) np ⟨_,ak⟩ ⟨ak,none_of sc np⟩⟩
  ·intro D rs H1 nD s1 inj hA eD
   have K0:eI H1 D n rs (fun _=>[]):=⟨eD,inj,fun i hi=>(hA i hi).2,fun i hi=>(hA i hi).1.1⟩
   have fr:∀i,i<n→H (rs i)=none:=fun i hi=>(hA i hi).1.2
   dsimp only [aC]
   refine a_ ⟨_,rfl,tp,_,_,_,rfl,rfl,.of (s1 _ _ bW),rfl,lt,rfl,⟨_,.of (s1 _ _ elt)⟩,?_⟩
   refine uj (K:=K) (a:=lt) (xs:=us) (fun k σ Hc=>∃(g:Nat→List Nat) (v2 v3:Option V),σ=[some (.ref tp),some (.ref D),v2,v3]∧ag H Hc∧eI Hc D n rs g∧eH n (L.take k) g∧∀a,(g a).length≤2*k) ⟨_,_,_,rfl,s1,K0,eH.nil n,fun _=>Nat.le_refl _⟩ (fun k σ Hc _ ⟨_,_,_,_,sc,_⟩=>.of (sc _ _ elt)) ?_ ?_
   ·rintro k x σ Hc hx ⟨g,v2,v3,rfl,sc,KL,nb,gl⟩
    have hk:k<L.length:=by
     rw [←hL.1]
     exact (List.getElem?_eq_some_iff.mp hx).1
    obtain ⟨b,rfl,eb⟩:=hL.2 k x L[k] hx (by simp [hk])
    have pk:=ok L[k] (List.getElem_mem hk)
    have tk:L.take (k+1)=L.take k++[L[k]]:=by rw [List.take_succ,List.getElem?_eq_getElem hk];rfl
    generalize L[k]=p at eb pk tk
    obtain ⟨p1,p2⟩:=p
    dsimp only at pk eb
    obtain ⟨i,rfl⟩:=Int.eq_ofNat_of_zero_le pk.1
    obtain ⟨j,rfl⟩:=Int.eq_ofNat_of_zero_le pk.2.2.1
    have hi:i<n:=by omega
    have hj:j<n:=by omega
    refine ⟨b,_,rfl,.of (sc _ _ eb),rfl,_,_,rfl,_,_,rfl,rfl,?_⟩
    have off:∀(Hx:Hp) (i:Nat) (o:HO),i<n→ag H Hx→ag H (upd Hx (rs i) o):=fun Hx i o hi sx a u e=>by
     rw [aD (fun z=>by rw [z,fr i hi] at e;cases e)]
     exact sx _ _ e
    have K1:=KL.snoc j hi
    have K2:=K1.snoc i hj
    have g1:=gl i
    have g2:(d0 g i j j).length≤2*k+1:=Nat.le_trans mr (by have:=gl j;omega)
    refine ⟨_,rfl,_,rfl,D,_,_,_,rfl,rfl,.of KL.lst,iR hi,.inl ⟨rfl,_,.of (KL.at' i hi)⟩,_,rfl,rs i,_,_,rfl,rfl,KL.at' i hi,bA (by rw [List.length_map];omega),?_⟩
    refine ⟨_,rfl,_,rfl,D,_,_,_,rfl,rfl,.of K1.lst,iR hj,.inl ⟨rfl,_,.of (K1.at' j hj)⟩,_,rfl,rs j,_,_,rfl,rfl,K1.at' j hj,bA (by rw [List.length_map];omega),?_⟩
    exact ⟨_,_,_,rfl,off _ _ _ hj (off _ _ _ hi sc),K2,by rw [tk];exact nb.snoc,fun a=>Nat.le_trans mr (by have:=mr (g:=g) (i:=i) (j:=j) (a:=a);have:=gl a;omega)⟩
   ·rintro σ Hc ⟨g,v2,v3,rfl,sc,KL,nb,gl⟩
    rw [hL.1,List.take_length] at nb
    rw [hL.1] at gl
    exact ⟨_,rfl,kk _ _ _ _ sc nD fr KL nb gl⟩
theorem zm:bx ["_law_shape","_law_places","_law_due","_law_k","_law_one","_law_other"] ["_law_shape","_law_places"] (a8 kf):=⟨rfl,rfl,rfl,by decide +kernel,rfl,by decide +kernel,by decide +kernel⟩
theorem zo(T:Txt K mg t):a0 P w K mg base bh 1 t.fK t.gP ["_law_shape","_law_places"] xY:=by
 have S:=zm
 refine T.hG.ok S (fun vs H Q E h=>?_) (fun aE A outer s H vs Q E hr h=>?_)
 ·obtain ⟨tp,a,n,L,zs,rfl,_⟩:=h
  rfl
 ·obtain ⟨tp,a,n,L,zs,rfl,cS,cT,pw,n1,l2,ea,mG,bz,k⟩:=h
  have cU:=hr.units
  have lz:(zs.map V.int).length=zs.length:=List.length_map ..
  refine ⟨_,(@au _ _ _ _ _ (@bG _ _ _ _ _ _ _ _ (PW.pt (@pw_or _ _ _ _ _ _ _ (@kP _ _ _ _ (ji (aU (jG (K:=K)) rfl T.iU boot_isinstance (@aa _ _ _ _ _ (by rfl) (pv 1) (@aa _ _ _ _ _ (by rfl) (jh (v:=.ty "list") rfl T.h6 boot_list rfl) ai))))) (@pw_or _ _ _ _ _ _ _ (@aS _ _ _ _ _ _ _ _ gf (aU cH rfl T.b9 boot_len (@aa _ _ _ _ _ (by rfl) (pv 1) ai)) aq (aP _)) (@pw_or1 _ _ _ _ (@aS _ _ _ _ _ _ _ _ gf (aU qy rfl T.b9 boot_len (@aa _ _ _ _ _ (by rfl) (dO (qx (K:=K) rfl) rfl T.mE boot_set (@aa _ _ _ _ _ (by rfl) (pv 1) ai)) ai)) (aU cH rfl T.b9 boot_len (@aa _ _ _ _ _ (by rfl) (pv 1) ai)) (aP _)))))) (@az _ _ _ (@aV _ _ _ _ fX)) bQ)
   (@au _ _ _ _ _ (@aJ _ _ 2 _ _ _ _ (by rfl) (by first | exact .inl rfl | exact .inr rfl | assumption) S.nd rfl (Or.inl rfl) (@bg _ _ _ _ ai))
   (@au _ _ _ _ _ (dG PassesOwn.never rfl (gc rfl T.dv (@aa _ _ _ _ _ (by rfl) (aU cH rfl T.b9 boot_len (@aa _ _ _ _ _ (by rfl) (pv 1) ai)) ai)) (bY (i:=3) S.nd rfl (Or.inl rfl))
    (@au _ _ _ _ _ (@aJ _ _ 4 _ _ _ _ (by rfl) (by first | exact .inl rfl | exact .inr rfl | assumption) S.nd rfl (Or.inl rfl) (@aH _ _ _ _ _ _ _ aT (pv 1) (pv 3) (fun _ _=>rfl)))
   (@au _ _ _ _ _ (@aJ _ _ 5 _ _ _ _ (by rfl) (by first | exact .inl rfl | exact .inr rfl | assumption) S.nd rfl (Or.inl rfl) (@aH _ _ _ _ _ _ _ aT (pv 1) (@ay _ _ _ _ _ _ _ _ ei (@ay _ _ _ _ _ _ _ _ cu (pv 3) aq) (aU cH rfl T.b9 boot_len (@aa _ _ _ _ _ (by rfl) (pv 1) ai))) (fun _ _=>rfl)))
   (@az _ _ _ (dF (dm PySem.F.plainAttrs_list PySem.F.slot_list_append PySem.F.type_list_append cQ (pv 2) (@aa _ _ _ _ _ (by rfl) (@e8 _ _ _ _ _ (@aa _ _ _ _ _ (by rfl) (aU (lA rfl) rfl T.kj boot_min (@aa _ _ _ _ _ (by rfl) (pv 4) (@aa _ _ _ _ _ (by rfl) (pv 5) ai))) (@aa _ _ _ _ _ (by rfl) (aU (lx rfl) rfl T.km boot_max (@aa _ _ _ _ _ (by rfl) (pv 4) (@aa _ _ _ _ _ (by rfl) (pv 5) ai))) ai))) ai)))))))
   (@az _ _ _ (@aV _ _ _ _ (@en _ _ _ _ _ _ _ _ (qA cU) (aU mf rfl T.ko PyProof.Rows.boot_sorted (@aa _ _ _ _ _ (by rfl) (pv 2) ai)) (iF (N:=["_law_link","_law_places"]) (ρ:=(fun σ=>[σ[1]?.join])) ⟨rfl,rfl,by decide +kernel,by decide +kernel,(List.forall_mem_cons.mpr ⟨rfl,(List.forall_mem_nil _)⟩),dW (by rfl),rfl,by decide +kernel,rfl,(fun σ j v h=>match j,h with | 0,h=>⟨1,_,rfl,rfl,join_some h,Or.inr (Or.inl rfl),.inl rfl,.inl rfl⟩ | j+1,h=>by cases h),(fun _ _=>rfl)⟩ rfl (lh (@aH _ _ _ _ _ _ _ eC (pv 0) aq (fun _ _=>rfl))) (fun s₃ H₃ fp=>(.one (PW.pt (pw_and (@aS _ _ _ _ _ _ _ _ (iS (K:=K)) (@aH _ _ _ _ _ _ _ (l8 (K:=K)) (pv 0) aq (fun _ _=>rfl)) (pv 1) rfl) (pw_and1 (@aS _ _ _ _ _ _ _ _ (iS (K:=K)) (@aH _ _ _ _ _ _ _ (l8 (K:=K)) (pv 0) aq (fun _ _=>rfl)) (pv 1) rfl)))))) (fun s₃ H₃ fp=>(pv 0))) (aP _))))))),?_⟩
  have no:∀H',ag H H'→¬c_ L zs→Q (.bl false) H':=fun H' s' h=>by
   have:=k H' s'
   rw [decide_eq_false h] at this
   exact this
  refine a_ ?_
  refine ⟨_,rfl,_,_,_,true,rfl,rfl,.of (.lst ea),vZ,true,rfl,jC ?_⟩
  refine ⟨_,rfl,a,_,rfl,.inl (.of ea),_,_,rfl,rfl,_,rfl,aX (fun h4=>?_) (fun h4=>?_)⟩
  ·have iV:((zs.map V.int).length:Int)<4:=of_decide_eq_true h4
   exact no _ (ag.refl _) fun h=>by have:=h.1;omega
  ·have iV:¬((zs.map V.int).length:Int)<4:=fun e=>h4 (decide_eq_true e)
   refine ⟨_,rfl,a,zs,rfl,.of ea,by omega,fun l S m nl mH iW=>?_⟩
   have s1:ag H (upd H l (.set S m)):=aB nl
   refine ⟨l,S,m,rfl,ak,by omega,?_⟩
   generalize upd H l (.set S m)=H1 at s1 ⊢
   refine ⟨_,rfl,a,_,rfl,.inl (.of (s1 _ _ ea)),_,_,rfl,rfl,_,rfl,aX (fun hn=>?_) (fun hn=>?_)⟩
   ·have kN:(m:Int)<((zs.map V.int).length:Int):=of_decide_eq_true hn
    exact no _ s1 fun h=>by have:=iW.mpr h.2.1;omega
   ·have kN:¬(m:Int)<((zs.map V.int).length:Int):=fun e=>hn (decide_eq_true e)
    have nd:zs.Nodup:=iW.mp (by omega)
    dsimp only [df]
    refine a_ ⟨by show 0≤sizeLine;decide,fun fd bw=>?_⟩
    dsimp only [aC]
    have s2:ag H (upd H1 fd (.lst [])):=jR s1 bw
    have iX:upd H1 fd (.lst []) fd=some (.lst []):=ak
    have nf:H fd=none:=none_of s1 bw
    generalize upd H1 fd (.lst [])=H2 at s2 iX ⊢
    refine a_ ⟨_,rfl,a,_,rfl,.inl (.of (s2 _ _ ea)),_,rfl,by omega,by omega,?_⟩
    refine gd (fun i σ Hc=>∃(us:List V) (v3 v4 v5:Option V),σ=[some (.ref tp),some (.ref a),some (.ref fd),v3,v4,v5]∧ag H Hc∧Hc fd=some (.lst us)∧ax Hc us ((bT zs).take i)) ⟨[],_,_,_,rfl,s2,iX,ax.nil _⟩ ?_ ?_
    ·rintro i σ Hc hi ⟨us,v3,v4,v5,rfl,sc,ef,hU⟩
     have b6:i<zs.length:=by omega
     have hm:(i+1) % zs.length<zs.length:=Nat.mod_lt _ (by omega)
     have mT:=sc _ _ ea
     dsimp only [aC]
     refine a_ ⟨_,rfl,_,rfl,a,_,_,_,rfl,rfl,.of mT,by rw [Int.zero_add];exact jV b6,?_⟩
     dsimp only [aC]
     have zp:cx (zs.map V.int) ((0+(i:Int)+1) % ((zs.map V.int).length:Int))=some (.int (zs.getD ((i+1) % zs.length) 0)):=by
      rw [lz,Int.zero_add,show ((i:Int)+1) % (zs.length:Int)=(((i+1) % zs.length:Nat):Int) by rw [Int.natCast_emod];rfl]
      exact jV hm
     refine a_ ⟨_,rfl,_,rfl,_,_,rfl,rfl,_,rfl,a,_,rfl,.inl (.of mT),_,_,rfl,rfl,by omega,a,_,_,_,rfl,rfl,.of mT,zp,?_⟩
     dsimp only [aC]
     refine ⟨_,rfl,.inl ⟨rfl,_,.of ef⟩,_,rfl,_,rfl,_,_,rfl,_,rfl,_,rfl,_,_,rfl,by show 2≤sizeLine;decide,fun tq zq=>?_⟩
     have tk:=xZ b6
     generalize zs.getD i 0=x at tk ⊢
     generalize zs.getD ((i+1) % zs.length) 0=y at tk ⊢
     have st:ag Hc (upd Hc tq (.tup [.int (c9 (x,y)).1,.int (c9 (x,y)).2])):=aB zq
     have zr:upd Hc tq (.tup [.int (c9 (x,y)).1,.int (c9 (x,y)).2]) tq=some (.tup [.int (c9 (x,y)).1,.int (c9 (x,y)).2]):=ak
     change ∃l xs u,_
     refine ⟨fd,us,_,rfl,rfl,st _ _ ef,bA (by have:=hU.1;rw [List.length_take,iT] at this;omega),us++[.ref tq],_,_,_,rfl,cz (sc.trans st) nf,ak,?_⟩
     rw [tk]
     exact ((hU.mono st).push zr).b5 (st _ _ ef) fun b o nb e=>by rw [aD nb];exact e
    ·rintro σ Hc ⟨us,v3,v4,v5,rfl,sc,ef,hU⟩
     have zt:ax Hc us (bT zs):=by
      have e:(bT zs).take (zs.map V.int).length=bT zs:=by rw [lz,←iT zs,List.take_length]
      exact e▸hU
     obtain ⟨lt,ul,bW,elt,hL⟩:=id (cS.mono sc)
     dsimp only
     refine ⟨_,rfl,?_⟩
     dsimp only [iu]
     refine qI ef zt (by rw [iT];omega) (jU nd (by omega) bz) fun l' ws N H3 s4 d2 du hN pN oN=>?_
     have s5:=sc.trans s4
     refine x3 (Z:=L) (fun p=>decide (p.1∈zs) && decide (p.2∈zs)) ?_ (bA (by omega)) ?_ (fun T Hc R h=>⟨_,rfl,h⟩) ?_
     ·intro R h
      exact ⟨_,rfl,tp,_,_,_,rfl,rfl,.of (s4 _ _ bW),rfl,lt,rfl,⟨_,.of (s4 _ _ elt)⟩,h _ _ (ag.refl _) (qC (s4 _ _ elt) (hL.mono s4))⟩
     ·intro z hz T Hd R sd eT kR
      have rW:=(s5.trans sd) _ _ ea
      refine ⟨_,rfl,T,_,_,_,rfl,rfl,.of eT,rfl,_,rfl,a,_,rfl,.inl (.of rW),rfl,jT _,_,rfl,aX (fun h1=>?_) (fun h1=>?_)⟩
      ·refine ⟨_,rfl,T,_,_,_,rfl,rfl,.of eT,rfl,_,rfl,a,_,rfl,.inl (.of rW),rfl,jT _,?_⟩
       have h2:decide (z.1∈zs)=true:=by rw [←gy];exact h1
       rw [h2,Bool.true_and,←gy] at kR
       exact ⟨_,rfl,kR⟩
      ·have h2:decide (z.1∈zs)=false:=by rw [←gy];exact Bool.eq_false_iff.mpr h1
       rw [h2,Bool.false_and] at kR
       exact kR
     ·intro l4 mI H4 yt s6 hA mJ
      refine ⟨l',l4,ws,mI,N,_,rfl,rfl,.of (s6 _ _ du),.of mJ,hN.mono s6,hA,?_⟩
      have e:decide (N=L.filter fun p=>decide (p.1∈zs) && decide (p.2∈zs))=decide (c_ L zs):=by
       refine Eq.trans (qF (N:=gx L zs) pN oN (qH pw) (jU nd (by omega) bz) (qG cT n1)) ?_
       exact decide_eq_decide.mpr ⟨fun h=>⟨by omega,nd,h⟩,fun h=>h.2.2⟩
      rw [e]
      exact k _ (s5.trans s6)
theorem zu:bx ["_law_pen","_law_shape","_law_beside_here","_law_found","_law_k","_law_some","_law_bare_here"] ["_law_pen","_law_shape"] (a8 kg):=⟨rfl,rfl,rfl,by decide +kernel,rfl,by decide +kernel,by decide +kernel⟩
theorem zv(T:Txt K mg t):a0 P w K mg base bh 3 t.fL t.gQ ["_law_pen","_law_shape"] (x6 K):=by
 have S:=zu
 have bc:=fQ (P:=P) (w:=w) (base:=base) T
 have zw:=zk (P:=P) (w:=w) (base:=base) T
 refine T.hJ.ok S (fun vs H Q E h=>?_) (fun aE A outer s H vs Q E hr h=>?_)
 ·obtain ⟨P0,a,tp,ns,n,L,rfl,_⟩:=h
  rfl
 ·obtain ⟨P0,a,tp,ns,n,L,rfl,pc,hS,i7,cS,cT,n1,dw,l2,kk⟩:=h
  have cU:=hr.units
  refine ⟨_,(@au _ _ _ _ _ (@aJ _ _ 2 _ _ _ _ (by rfl) (by first | exact .inl rfl | exact .inr rfl | assumption) S.nd rfl (Or.inr rfl) (aK zw (hr.mono (by decide)) rfl T.rh T.hE.kp T.rf .nil aL (@aa _ _ _ _ _ (by rfl) (pv 1) ai)))
   (@au _ _ _ _ _ (@aJ _ _ 3 _ _ _ _ (by rfl) (by first | exact .inl rfl | exact .inr rfl | assumption) S.nd rfl (Or.inr rfl) (@bg _ _ _ _ (@aa _ _ _ _ _ (by rfl) (aK bc (hr.mono (by decide)) rfl T.bP T.bp.kp T.bO .nil aL (@aa _ _ _ _ _ (by rfl) (pv 0) (@aa _ _ _ _ _ (by rfl) (@aH _ _ _ _ _ _ _ eC (pv 1) aq (fun _ _=>rfl)) ai))) ai)))
   (@au _ _ _ _ _ (dG PassesOwn.never rfl (gc rfl T.dv (@aa _ _ _ _ _ (by rfl) (@ay _ _ _ _ _ _ _ _ cu aq (aK bc (hr.mono (by decide)) rfl T.bP T.bp.kp T.bO .nil aL (@aa _ _ _ _ _ (by rfl) (pv 0) (@aa _ _ _ _ _ (by rfl) aq ai)))) ai)) (bY (i:=4) S.nd rfl (Or.inl rfl))
    (@au _ _ _ _ _ (pV (i0:=5) (N:=["_law_place","_law_found"]) (ρ:=(fun σ=>[σ[3]?.join])) ⟨rfl,rfl,by decide +kernel,by decide +kernel,(List.forall_mem_cons.mpr ⟨rfl,(List.forall_mem_nil _)⟩),dW (by rfl),rfl,by decide +kernel,rfl,(fun σ j v h=>match j,h with | 0,h=>⟨3,_,rfl,rfl,join_some h,Or.inr (Or.inl rfl),.inl rfl,.inl rfl⟩ | j+1,h=>by cases h),(fun _ _=>rfl)⟩ rfl S.nd rfl (Or.inl rfl) (ee (@aH _ _ _ _ _ _ _ aT (pv 2) (@aH _ _ _ _ _ _ _ aT (pv 3) (@jm _ _ _ _ _ _ jr aq) (fun _ _=>rfl)) (fun _ _=>rfl))) (fun s₃ H₃ fp=>(.one (@aS _ _ _ _ _ _ _ _ (xy (K:=K)) (pv 0) (pv 1) rfl))) (fun s₃ H₃ fp=>(pv 0)))
   (@au _ _ _ _ _ (wF (i0:=6) (N:=["_law_place","_law_found","_law_beside_here"]) (ρ:=(fun σ=>[σ[3]?.join,σ[2]?.join])) ⟨rfl,rfl,(fun _=>rfl),(fun _=>rfl),by decide +kernel,(List.forall_mem_cons.mpr ⟨rfl,(List.forall_mem_cons.mpr ⟨rfl,(List.forall_mem_nil _)⟩)⟩),wy (by rfl),rfl,by decide +kernel,rfl,(fun σ j v h=>match j,h with | 0,h=>⟨3,_,rfl,rfl,join_some h,Or.inr (Or.inl rfl),.inl rfl,.inl rfl⟩ | 1,h=>⟨2,_,rfl,rfl,join_some h,Or.inr (Or.inl rfl),.inl rfl,.inl rfl⟩ | j+2,h=>by cases h),(fun _ _=>rfl)⟩ rfl S.nd rfl (Or.inl rfl) (ee (pv 5)) (fun s₃ H₃ fp=>(.one (@aS _ _ _ _ _ _ _ _ (x4 (K:=K) cU) (iF (N:=["_law_other","_law_beside_here","_law_place"]) (ρ:=(fun σ=>[σ[2]?.join,σ[0]?.join])) ⟨rfl,rfl,by decide +kernel,by decide +kernel,(List.forall_mem_cons.mpr ⟨rfl,(List.forall_mem_cons.mpr ⟨rfl,(List.forall_mem_nil _)⟩)⟩),dW (by rfl),rfl,by decide +kernel,rfl,(fun σ j v h=>match j,h with | 0,h=>⟨2,_,rfl,rfl,join_some h,Or.inr (Or.inl rfl),.inl rfl,.inl rfl⟩ | 1,h=>⟨0,_,rfl,rfl,join_some h,Or.inr (Or.inl rfl),.inl rfl,.inl rfl⟩ | j+2,h=>by cases h),(fun _ _=>rfl)⟩ rfl (wL (K:=K) (@dP _ _ _ _ _ _ _ _ _ _ (wX (K:=K)) (pv 1) (dk aq) (dk (@jm _ _ _ _ _ _ jr aq)))) (fun s₃ H₃ fp=>(.one (@aS _ _ _ _ _ _ _ _ (iS (K:=K)) (pv 0) (@aH _ _ _ _ _ _ _ (wK (K:=K)) (pv 1) (pv 2) (fun _ _=>rfl)) rfl))) (fun s₃ H₃ fp=>(pv 0))) (@bg _ _ _ _ ai) (aP _)))) (fun s₃ H₃ fp=>(pv 0)))
   (@au _ _ _ _ _ (@bG _ _ _ _ _ _ _ _ (PW.pt (pw_and (@aS _ _ _ _ _ _ _ _ (mh cU) (pv 6) (@bg _ _ _ _ ai) (aP _)) (pw_and1 (@aS _ _ _ _ _ _ _ _ ir (aK bc (hr.mono (by decide)) rfl T.bP T.bp.kp T.bO .nil aL (@aa _ _ _ _ _ (by rfl) (pv 0) (@aa _ _ _ _ _ (by rfl) aq ai))) aq (aP _))))) (@az _ _ _ (@aJ _ _ 5 _ _ _ _ (by rfl) (by first | exact .inl rfl | exact .inr rfl | assumption) S.nd rfl (Or.inl rfl) (pv 6))) bQ)
   (@az _ _ _ (@bG _ _ _ _ _ _ _ _ (@aS _ _ _ _ _ _ _ _ (mh cU) (pv 5) (@bg _ _ _ _ ai) (aP _)) (@au _ _ _ _ _ (dF (dm PySem.F.plainAttrs_list PySem.F.slot_list_append PySem.F.type_list_append cQ (pv 3) (@aa _ _ _ _ _ (by rfl) (@aH _ _ _ _ _ _ _ aT (pv 5) (aK bc (hr.mono (by decide)) rfl T.bP T.bp.kp T.bO .nil aL (@aa _ _ _ _ _ (by rfl) (pv 0) (@aa _ _ _ _ _ (by rfl) (aU cH rfl T.b9 boot_len (@aa _ _ _ _ _ (by rfl) (pv 5) ai)) ai))) (fun _ _=>rfl)) ai)))
   (@az _ _ _ (@bG _ _ _ _ _ _ _ _ (PW.pt (pw_and (@aS _ _ _ _ _ _ _ _ ir (aU cH rfl T.b9 boot_len (@aa _ _ _ _ _ (by rfl) (pv 3) ai)) aq (aP _)) (pw_and1 (@aS _ _ _ _ _ _ _ _ o9 (@aH _ _ _ _ _ _ _ aT (pv 3) aq (fun _ _=>rfl)) (@aH _ _ _ _ _ _ _ aT (pv 2) (@aH _ _ _ _ _ _ _ aT (pv 3) (@jm _ _ _ _ _ _ jr aq) (fun _ _=>rfl)) (fun _ _=>rfl)) rfl)))) (@az _ _ _ (@aV _ _ _ _ (pv 3))) bQ))) bQ))))))
   (@az _ _ _ (@aV _ _ _ _ (pv 3)))))),?_⟩
  refine a_ ⟨_,rfl,tp,n,L,rfl,cS,cT,by omega,l2,fun H1 D rs g s1 nD zx KL nb zy=>?_⟩
  have gn:∀i,i<n→bj n ((g i).map fun k:Nat=>V.int (k:Int)):=fun i hi=>⟨g i,rfl,fun j hj=>by
   rcases (nb i j hi).mp hj with e | e
   ·have:=cT _ e
    omega
   ·have:=cT _ e
    omega⟩
  have gl:∀i,i<n→(g i).length≤400:=fun i _=>Nat.le_trans (zy i) (by omega)
  have p1:=pc.mono s1
  have DP:D≠P0:=pc.ne nD
  have rP:∀i,i<n→rs i≠P0:=fun i hi=>pc.ne (zx i hi)
  have cV:av K (er P0 H1) a (ns.map V.int):=ag.seq (aj.of s1) hS
  obtain ⟨lt,us,bW,elt,rX⟩:=id (cS.mono s1)
  dsimp only [aC]
  refine a_ ⟨_,rfl,_,rfl,tp,_,_,_,rfl,rfl,.of bW,rfl,P0,a,ns,(n:Int),rfl,p1,cV,by omega,a9.of_lt (by omega) (by omega),fun c H2 c0 c1 s2 p2=>⟨by show 1≤sizeLine;decide,fun fd bw=>?_⟩⟩
  obtain ⟨c,rfl⟩:=Int.eq_ofNat_of_zero_le c0
  have cn:c<n:=by omega
  have fP:fd≠P0:=p2.ne bw
  have mU:H1 fd=none:=by
   cases e:H1 fd with
   | none=>rfl
   | some o=>rw [s2.at fP e] at bw;cases bw
  have rY:H fd=none:=none_of s1 mU
  have s3:aj P0 H1 (upd H2 fd (.lst [.int (c:Int)])):=s2.but mU
  have p3:aF (upd H2 fd (.lst [.int (c:Int)])) P0 a:=p2.upd fP
  have rZ:upd H2 fd (.lst [.int (c:Int)]) fd=some (.lst [.int (c:Int)]):=ak
  dsimp only [aC]
  generalize upd H2 fd (.lst [.int (c:Int)])=H3 at s3 p3 rZ ⊢
  refine a_ ⟨_,rfl,P0,a,ns,5,rfl,p3,ag.seq s3 cV,by decide,a9.of_lt (by decide) (by decide),fun c' H4 r0 eM s4 p4=>⟨_,_,rfl,rfl,_,rfl,by omega,by omega,?_⟩⟩
  refine gd (fun i σ Hc=>∃(xs:List V) (v4 v5 v6:Option V),σ=[some (.ref P0),some (.ref tp),some (.ref D),some (.ref fd),v4,v5,v6]∧aj P0 H1 Hc∧aF Hc P0 a∧Hc fd=some (.lst xs)∧bj n xs∧1≤xs.length∧xs.length≤1+i) ⟨[.int (c:Int)],_,_,_,rfl,s3.trans s4,p4,s4.at fP rZ,⟨[c],rfl,fun k hk=>by rw [List.mem_singleton.mp hk];exact cn⟩,Nat.le_refl _,Nat.le_refl _⟩ ?_ ?_
  ·rintro i σ Hc hi ⟨xs,v4,v5,v6,rfl,sc,i8,ef,hx,x1,xi⟩
   have kH:eI Hc D n rs g:=⟨sc.at DP KL.lst,KL.inj,KL.ne,fun i hi=>sc.at (rP i hi) (KL.at' i hi)⟩
   obtain ⟨k,kn,ek⟩:=hx.at (i:=xs.length-1) (by omega)
   have zA:=gn k kn
   have r_:=kH.at' k kn
   dsimp only [aC]
   refine a_ (lW (mw (xs:=(g k).map fun k:Nat=>V.int (k:Int)) (fun R h=>⟨_,rfl,_,rfl,1,rfl,fd,xs,_,.int (k:Int),rfl,rfl,.of ef,qJ x1 ek,D,_,_,_,rfl,rfl,.of kH.lst,iR kn,rs k,rfl,⟨_,.of r_⟩,h _ _ (ag.refl _) (iG (.of r_))⟩) (bA (by rw [List.length_map];have:=gl k kn;omega)) ?_ (fun x Hx R h=>⟨_,rfl,h⟩) fun l ys H5 nl s5 ly hy el=>?_))
   ·intro x mV Hd R sd kR
    obtain ⟨j,hj,rfl⟩:=List.mem_map.mp mV
    exact ⟨_,rfl,_,rfl,fd,xs,rfl,.inl (.of (sd _ _ ef)),rfl,hx.flat,_,rfl,kR _ _ (ag.refl _)⟩
   have h8:bj n ys:=zA.sub hy
   dsimp only [aC]
   refine a_ (lW (mw (xs:=ys) (fun R h=>⟨_,rfl,l,rfl,⟨_,.of el⟩,h _ _ (ag.refl _) (iG (.of el))⟩) (bA (by rw [List.length_map] at ly;have:=gl k kn;omega)) ?_ (fun x Hx R h=>⟨_,rfl,h⟩) fun l' mW H6 d2 s6 Cw zB du=>?_))
   ·intro x mV Hd R sd kR
    obtain ⟨q,hq⟩:=List.getElem?_of_mem mV
    obtain ⟨j,jn,ej⟩:=h8.at (i:=q) (List.getElem?_eq_some_iff.mp hq).1
    rw [hq] at ej
    cases ej
    have sf:=s5.trans sd
    have bX:=sf _ _ ef
    have zC:=gn j jn
    dsimp only [oR,ip]
    refine mw (xs:=bZ xs (some 1) (some (-1))) (fun R h=>⟨_,rfl,1,rfl,1,rfl,-1,rfl,fd,xs,rfl,.of bX,fun p np=>⟨p,rfl,⟨_,.of ak⟩,h _ _ (aB np) (iG (.of ak))⟩⟩) (bA (by have:=o1 xs (some 1) (some (-1));omega)) ?_ (fun x Hx R h=>⟨_,rfl,h⟩) fun l3 zs H7 Cy s7 lz hz zD=>?_
    ·intro y zE He R se kR
     obtain ⟨q',gr⟩:=List.getElem?_of_mem (pS zE)
     obtain ⟨j',_,sg⟩:=hx.at (i:=q') (List.getElem?_eq_some_iff.mp gr).1
     rw [gr] at sg
     cases sg
     have si:=sf.trans se
     exact ⟨_,rfl,_,rfl,_,rfl,D,_,_,_,rfl,rfl,.of (si _ _ kH.lst),iR jn,rs j,_,rfl,.inl (.of (si _ _ (kH.at' j jn))),rfl,zC.flat,_,rfl,kR _ _ (ag.refl _)⟩
    ·obtain ⟨zi,rfl,_⟩:=(hx.sub fun y hy=>pS (hz y hy)).ints
     refine ⟨Nat.zero_le _,fun p np=>⟨l3,p,zi,[],rfl,rfl,.of (aB np _ _ zD),.of ak,_,rfl,kR _ _ (s7.trans (aB np))⟩⟩
   have sj:=s5.trans s6
   have zF:bj n mW:=h8.sub zB
   have lP:l≠P0:=i8.ne nl
   have sk:l'≠P0:=(i8.mono s5).ne d2
   have mX:ys.length≤400:=by rw [List.length_map] at ly;have:=gl k kn;omega
   have p6:=(i8.mono s5).mono s6
   have kE:=sc.trans (aj.of sj)
   have mY:=sj _ _ ef
   dsimp only [aC]
   refine a_ (mi (fun σ Hy=>∃(l:Addr) (ys:List V) (v6:Option V),σ=[some (.ref P0),some (.ref tp),some (.ref D),some (.ref fd),some (.int (0+(i:Int))),some (.ref l),v6]∧aj P0 H1 Hy∧aF Hy P0 a∧Hy fd=some (.lst xs)∧Hy l=some (.lst ys)∧bj n ys∧ys.length≤400∧l≠P0) ?_ ?_)
   ·rintro σ Hy ⟨l,ys,v6,rfl,sy,py,mZ,m4,h8,mX,lP⟩
    dsimp only
    refine ⟨_,rfl,Nat.zero_le _,fun p np=>?_⟩
    have sp:ag Hy (upd Hy p (.lst [])):=aB np
    have ep:upd Hy p (.lst []) p=some (.lst []):=ak
    generalize upd Hy p (.lst [])=H7 at sp ep ⊢
    have p7:=py.mono sp
    have s7:=sy.trans (aj.of sp)
    refine ⟨l,p,ys,rfl,rfl,.of (sp _ _ m4),ep,_,rfl,aX (fun hz=>?_) (fun hz=>?_)⟩
    ·have z0:1≤ys.length:=by
      cases ys with
      | nil=>cases hz
      | cons=>simp
     refine a_ ⟨_,rfl,.inl ⟨rfl,_,.of (sp _ _ mZ)⟩,_,rfl,_,rfl,_,rfl,l,_,rfl,.inl (.of (sp _ _ m4)),P0,a,ns,(ys.length:Int),rfl,p7,ag.seq s7 cV,by omega,a9.of_lt (by omega) (by omega),fun c H8 c0 c1 s8 p8=>?_⟩
     obtain ⟨q,rfl⟩:=Int.eq_ofNat_of_zero_le c0
     obtain ⟨j,jn,ej⟩:=h8.at (i:=q) (by omega)
     have zG:=s8.at fP (sp _ _ mZ)
     refine ⟨l,ys,_,.int (j:Int),rfl,rfl,.of (s8.at lP (sp _ _ m4)),dR ej,?_⟩
     refine ⟨fd,xs,_,rfl,rfl,zG,bA (by omega),?_⟩
     have s9:aj P0 H1 (upd H8 fd (.lst (xs++[.int (j:Int)]))):=(s7.trans s8).but mU
     have p9:aF (upd H8 fd (.lst (xs++[.int (j:Int)]))) P0 a:=p8.upd fP
     have eN:upd H8 fd (.lst (xs++[.int (j:Int)])) fd=some (.lst (xs++[.int (j:Int)])):=ak
     have h9:=hx.snoc jn
     have zH:(xs++[V.int (j:Int)]).length=xs.length+1:=by simp
     generalize upd H8 fd (.lst (xs++[.int (j:Int)]))=H9 at s9 p9 eN ⊢
     generalize xs++[V.int (j:Int)]=zI at eN h9 zH ⊢
     have so:eI H9 D n rs g:=⟨s9.at DP KL.lst,KL.inj,KL.ne,fun i hi=>s9.at (rP i hi) (KL.at' i hi)⟩
     obtain ⟨m,mn,em⟩:=h9.at (i:=zI.length-1) (by omega)
     obtain ⟨m0,Cz,zJ⟩:=h9.at (i:=0) (by omega)
     refine ⟨_,rfl,fd,_,rfl,.inl (.of eN),_,_,rfl,rfl,_,rfl,aX (fun h3=>?_) (fun h3=>?_)⟩
     ·refine ⟨_,rfl,fd,_,_,.int (m0:Int),rfl,rfl,.of eN,dR zJ,_,rfl,_,rfl,1,rfl,fd,_,_,.int (m:Int),rfl,rfl,.of eN,qJ (by omega) em,D,_,_,_,rfl,rfl,.of so.lst,iR mn,rs m,_,rfl,.inl (.of (so.at' m mn)),rfl,(gn m mn).flat,_,rfl,aX (fun h5=>?_) (fun h5=>?_)⟩
      ·exact ⟨_,rfl,kk _ _ _ ((aj.of s1).trans s9) p9 fP rY eN h9 (by omega) (by omega)⟩
      ·exact ⟨_,_,_,_,rfl,s9,p9,eN,h9,by omega,by omega⟩
     ·exact ⟨_,_,_,_,rfl,s9,p9,eN,h9,by omega,by omega⟩
    ·exact ⟨_,_,_,_,rfl,s7,p7,sp _ _ mZ,hx,x1,by omega⟩
   ·intro R hR
    refine ⟨_,rfl,Nat.zero_le _,fun p np=>?_⟩
    have sp:ag H6 (upd H6 p (.lst [])):=aB np
    have ep:upd H6 p (.lst []) p=some (.lst []):=ak
    generalize upd H6 p (.lst [])=H7 at sp ep ⊢
    have p7:=p6.mono sp
    have s7:=kE.trans (aj.of sp)
    have sq:=(s6.trans sp) _ _ el
    refine ⟨l',p,mW,rfl,rfl,.of (sp _ _ du),ep,_,rfl,aX (fun _=>?_) (fun _=>?_)⟩
    ·refine ⟨_,rfl,P0,a,ns,8,rfl,p7,ag.seq s7 cV,by decide,a9.of_lt (by decide) (by decide),fun c H8 c0 c1 s8 p8=>⟨_,_,rfl,rfl,_,rfl,aX (fun _=>?_) (fun _=>?_)⟩⟩
     ·exact ⟨_,rfl,hR _ _ ⟨l',mW,_,rfl,s7.trans s8,p8,s8.at fP (sp _ _ mY),s8.at sk (sp _ _ du),zF,by omega,sk⟩⟩
     ·exact hR _ _ ⟨l,ys,_,rfl,s7.trans s8,p8,s8.at fP (sp _ _ mY),s8.at lP sq,h8,mX,lP⟩
    ·exact hR _ _ ⟨l,ys,_,rfl,s7,p7,sp _ _ mY,sq,h8,mX,lP⟩
  ·rintro σ Hc ⟨xs,v4,v5,v6,rfl,sc,i8,ef,hx,x1,xi⟩
   exact ⟨_,rfl,kk _ _ _ ((aj.of s1).trans sc) i8 fP rY ef hx x1 (by omega)⟩
theorem zK:bx ["_law_pen","_law_shape","_law_places","_law_at","_law_front","_law_back","_law_one","_law_some"] ["_law_pen","_law_shape","_law_places"] (a8 kh):=⟨rfl,rfl,rfl,by decide +kernel,rfl,by decide +kernel,by decide +kernel⟩
theorem zL(T:Txt K mg t):a0 P w K mg base bh 3 t.fM t.gR ["_law_pen","_law_shape","_law_places"] (x_ K):=by
 have S:=zK
 have bc:=fQ (P:=P) (w:=w) (base:=base) T
 refine T.hV.ok S (fun vs H Q E h=>?_) (fun aE A outer s H vs Q E hr h=>?_)
 ·obtain ⟨P0,a,tp,r,ns,n,L,xs,rfl,_⟩:=h
  rfl
 ·obtain ⟨P0,a,tp,r,ns,n,L,xs,rfl,pc,hS,i7,rP,cS,n1,dw,dy,hx,x1,x8,kk⟩:=h
  obtain ⟨zs,rfl,bz⟩:=hx.ints
  have lz:(zs.map V.int).length=zs.length:=List.length_map ..
  obtain ⟨lt,us,bW,elt,rX⟩:=cS
  have G0:GL n 8 H r:=⟨zs,dy,fun z hz=>by have:=bz z hz;omega,by omega⟩
  refine ⟨_,(@au _ _ _ _ _ (@aJ _ _ 3 _ _ _ _ (by rfl) (by first | exact .inl rfl | exact .inr rfl | assumption) S.nd rfl (Or.inl rfl) (aK bc (hr.mono (by decide)) rfl T.bP T.bp.kp T.bO .nil aL (@aa _ _ _ _ _ (by rfl) (pv 0) (@aa _ _ _ _ _ (by rfl) (aU cH rfl T.b9 boot_len (@aa _ _ _ _ _ (by rfl) (pv 2) ai)) ai))))
   (@au _ _ _ _ _ (tZ (i:=4) (j:=5) rfl S.nd rfl rfl (by decide) rfl rfl (@aa _ _ _ _ _ (by rfl) (@dP _ _ _ _ _ _ _ _ _ _ dS (pv 2) eB (dk (pv 3))) (@aa _ _ _ _ _ (by rfl) (@dP _ _ _ _ _ _ _ _ _ _ dS (pv 2) (dk (@ay _ _ _ _ _ _ _ _ cu (pv 3) aq)) eB) ai)) rfl)
   (@au _ _ _ _ _ (@aJ _ _ 6 _ _ _ _ (by rfl) (by first | exact .inl rfl | exact .inr rfl | assumption) S.nd rfl (Or.inl rfl) (@ay _ _ _ _ _ _ _ _ iq (aK bc (hr.mono (by decide)) rfl T.bP T.bp.kp T.bO .nil aL (@aa _ _ _ _ _ (by rfl) (pv 0) (@aa _ _ _ _ _ (by rfl) (@ay _ _ _ _ _ _ _ _ cu (@aH _ _ _ _ _ _ _ eC (pv 1) aq (fun _ _=>rfl)) aq) ai))) aq))
   (@au _ _ _ _ _ (@aJ _ _ 7 _ _ _ _ (by rfl) (by first | exact .inl rfl | exact .inr rfl | assumption) S.nd rfl (Or.inl rfl) (@bg _ _ _ _ (@aa _ _ _ _ _ (by rfl) (@ay _ _ _ _ _ _ _ _ dn (@ay _ _ _ _ _ _ _ _ dn (pv 5) (@bg _ _ _ _ (@aa _ _ _ _ _ (by rfl) (@aH _ _ _ _ _ _ _ aT (pv 2) (pv 3) (fun _ _=>rfl)) ai))) (pv 4)) (@aa _ _ _ _ _ (by rfl) (@ay _ _ _ _ _ _ _ _ dn (pv 4) (pv 5)) (@aa _ _ _ _ _ (by rfl) (wU (pv 2) (@jm _ _ _ _ _ _ jr aq)) (@aa _ _ _ _ _ (by rfl) (@ay _ _ _ _ _ _ _ _ dn (@ay _ _ _ _ _ _ _ _ dn (pv 4) (@bg _ _ _ _ (@aa _ _ _ _ _ (by rfl) (pv 6) ai))) (pv 5)) (@aa _ _ _ _ _ (by rfl) (@ay _ _ _ _ _ _ _ _ dn (pv 2) (@bg _ _ _ _ (@aa _ _ _ _ _ (by rfl) (@aH _ _ _ _ _ _ _ aT (pv 2) (pv 3) (fun _ _=>rfl)) ai))) (@aa _ _ _ _ _ (by rfl) (@dP _ _ _ _ _ _ _ _ _ _ dS (pv 2) eB (dk aq)) (@aa _ _ _ _ _ (by rfl) (@dP _ _ _ _ _ _ _ _ _ _ dS (pv 2) eB (dk aq)) (@aa _ _ _ _ _ (by rfl) (@ay _ _ _ _ _ _ _ _ dn (@ay _ _ _ _ _ _ _ _ dn (pv 4) (@bg _ _ _ _ (@aa _ _ _ _ _ (by rfl) (pv 6) ai))) (@dP _ _ _ _ _ _ _ _ _ _ dS (pv 2) (dk (pv 3)) eB)) ai))))))))))
   (@az _ _ _ (@aV _ _ _ _ (@aH _ _ _ _ _ _ _ aT (pv 7) (aK bc (hr.mono (by decide)) rfl T.bP T.bp.kp T.bO .nil aL (@aa _ _ _ _ _ (by rfl) (pv 0) (@aa _ _ _ _ _ (by rfl) aq ai))) (fun _ _=>rfl)))))))),?_⟩
  refine a_ ⟨_,rfl,_,rfl,r,_,rfl,.inl (.of dy),P0,a,ns,_,rfl,pc,hS,by omega,a9.of_lt (by omega) (by omega),fun c H1 c0 c1 s1 p1=>?_⟩
  obtain ⟨q,rfl⟩:=Int.eq_ofNat_of_zero_le c0
  have qz:q<zs.length:=by omega
  have iY:=s1.at rP dy
  have G1:=G0.monoE s1 rP
  have bq:-1≤zs.getD q 0∧zs.getD q 0≤(n:Int):=by
   have:zs.getD q 0=zs[q]:=by simp [List.getD_eq_getElem?_getD,qz]
   rw [this]
   have:=bz zs[q] (List.getElem_mem _)
   omega
  dsimp only [aC]
  refine a_ ⟨_,rfl,_,rfl,_,rfl,gA G1 fun fr H2 s2 zM Gf=>?_⟩
  refine ⟨_,rfl,_,rfl,_,_,rfl,rfl,_,rfl,?_⟩
  dsimp only [lH,iu]
  refine gA (G1.mono s2) fun bk H3 s3 zN Gb=>?_
  refine ⟨_,_,rfl,?_⟩
  have p3:=(p1.mono s2).mono s3
  have zO:fr≠P0:=p1.ne zM
  have zP:bk≠P0:=(p1.mono s2).ne zN
  have d3:=s1.trans (aj.of (s2.trans s3))
  refine a_ ⟨_,rfl,_,rfl,tp,_,_,_,rfl,rfl,.of (d3.at i7 bW),rfl,_,_,rfl,rfl,P0,a,ns,(n:Int)+2,rfl,p3,ag.seq d3 hS,by omega,a9.of_lt (by omega) (by omega),fun c H4 c0 c1 s4 p4=>⟨_,_,rfl,rfl,?_⟩⟩
  have bo:-1≤c-1∧c-1≤(n:Int):=by omega
  have i6:=d3.trans s4
  have i9:=G0.monoE i6 rP
  have h_:=i6.at rP dy
  have kI:=(Gf.mono s3).monoE s4 zO
  have m5:=Gb.monoE s4 zP
  dsimp only [aC]
  refine a_ ?_
  refine ⟨_,rfl,_,rfl,_,rfl,r,_,_,_,rfl,rfl,.of h_,jV qz,?_⟩
  refine ⟨by show 1≤sizeLine;decide,fun u5 n5=>?_⟩
  obtain ⟨s5,G5⟩:=jW (n:=n) bq n5
  generalize upd H4 u5 _=H5 at s5 G5 ⊢
  refine eJ (m5.mono s5) G5 (by decide) fun u6 H6 s6 n6 G6=>?_
  have t6:=s5.trans s6
  refine ⟨_,rfl,?_⟩
  refine eJ G6 (kI.mono t6) (by decide) fun r1 H7 s7 n7 R1=>?_
  have t7:=t6.trans s7
  refine ⟨_,rfl,_,rfl,?_⟩
  refine eJ (kI.mono t7) (m5.mono t7) (by decide) fun r2 H8 s8 n8 R2=>?_
  have t8:=t7.trans s8
  refine ⟨_,rfl,1,rfl,rfl,r,_,rfl,.of (t8 _ _ h_),fun r3 n9=>?_⟩
  obtain ⟨s9,R3⟩:=ya (i9.mono t8) (t8 _ _ h_) n9
  generalize upd H8 r3 _=H9 at s9 R3 ⊢
  have t9:=t8.trans s9
  refine ⟨_,rfl,_,rfl,by show 1≤sizeLine;decide,fun zQ zR=>?_⟩
  obtain ⟨dA,sr⟩:=jW (n:=n) bo zR
  generalize upd H9 zQ _=zS at dA sr ⊢
  have su:=t9.trans dA
  refine eJ (kI.mono su) sr (by decide) fun CA sA d4 CB zT=>?_
  have m6:=su.trans d4
  refine ⟨_,rfl,?_⟩
  refine eJ zT (m5.mono m6) (by decide) fun r4 sC dz kx R4=>?_
  have sD:=m6.trans dz
  refine ⟨_,rfl,_,rfl,_,rfl,r,_,_,_,rfl,rfl,.of (sD _ _ h_),jV qz,?_⟩
  refine ⟨by show 1≤sizeLine;decide,fun zU zV=>?_⟩
  obtain ⟨ia,sE⟩:=jW (n:=n) bq zV
  generalize upd sC zU _=CC at ia sE ⊢
  have m7:=sD.trans ia
  refine eJ (i9.mono m7) sE (by decide) fun r5 CD i_ zW R5=>?_
  have m8:=m7.trans i_
  refine ⟨_,rfl,_,rfl,?_⟩
  refine gA (i9.mono m8) fun r6 CF ib zX R6=>?_
  have m9:=m8.trans ib
  refine ⟨_,rfl,_,rfl,?_⟩
  refine gA (i9.mono m9) fun r7 zY fR zZ R7=>?_
  have z8:=m9.trans fR
  refine ⟨_,rfl,_,rfl,by show 1≤sizeLine;decide,fun z9 z_=>?_⟩
  obtain ⟨d5,sF⟩:=jW (n:=n) bo z_
  generalize upd zY z9 _=CG at d5 sF ⊢
  have sG:=z8.trans d5
  refine eJ (kI.mono sG) sF (by decide) fun CH CI eO CJ Aa=>?_
  have m_:=sG.trans eO
  refine ⟨_,rfl,_,rfl,_,rfl,?_⟩
  dsimp only [lH]
  refine gA (i9.mono m_) fun CK CL dB CM Ab=>?_
  refine eJ (Aa.mono dB) Ab (by decide) fun r8 ja eQ kv R8=>?_
  have ng:=(m_.trans dB).trans eQ
  have all:∀v∈[V.ref r1,.ref r2,.ref r3,.ref r4,.ref r5,.ref r6,.ref r7,.ref r8],∃ρ,v=.ref ρ∧GL n 20 ja ρ∧ρ≠P0:=by
   intro v hv
   simp only [List.mem_cons,List.not_mem_nil,or_false] at hv
   rcases hv with rfl | rfl | rfl | rfl | rfl | rfl | rfl | rfl
   ·exact ⟨r1,rfl,(R1.mono (s8.trans (s9.trans (dA.trans (d4.trans (dz.trans (ia.trans (i_.trans (ib.trans (fR.trans (d5.trans (eO.trans (dB.trans eQ))))))))))))).le (by decide),(p4.mono t6).ne n7⟩
   ·exact ⟨r2,rfl,(R2.mono (s9.trans (dA.trans (d4.trans (dz.trans (ia.trans (i_.trans (ib.trans (fR.trans (d5.trans (eO.trans (dB.trans eQ)))))))))))).le (by decide),(p4.mono t7).ne n8⟩
   ·exact ⟨r3,rfl,(R3.mono (dA.trans (d4.trans (dz.trans (ia.trans (i_.trans (ib.trans (fR.trans (d5.trans (eO.trans (dB.trans eQ))))))))))).le (by decide),(p4.mono t8).ne n9⟩
   ·exact ⟨r4,rfl,(R4.mono (ia.trans (i_.trans (ib.trans (fR.trans (d5.trans (eO.trans (dB.trans eQ)))))))).le (by decide),(p4.mono m6).ne kx⟩
   ·exact ⟨r5,rfl,(R5.mono (ib.trans (fR.trans (d5.trans (eO.trans (dB.trans eQ)))))).le (by decide),(p4.mono m7).ne zW⟩
   ·exact ⟨r6,rfl,(R6.mono (fR.trans (d5.trans (eO.trans (dB.trans eQ))))).le (by decide),(p4.mono m8).ne zX⟩
   ·exact ⟨r7,rfl,(R7.mono (d5.trans (eO.trans (dB.trans eQ)))).le (by decide),(p4.mono m9).ne zZ⟩
   ·exact ⟨r8,rfl,R8.le (by decide),(p4.mono (m_.trans dB)).ne kv⟩
  refine ⟨by show 8≤sizeLine;decide,fun sm sI=>?_⟩
  have jb:ag ja (upd ja sm (.lst [V.ref r1,.ref r2,.ref r3,.ref r4,.ref r5,.ref r6,.ref r7,.ref r8])):=aB sI
  have nh:upd ja sm (.lst [V.ref r1,.ref r2,.ref r3,.ref r4,.ref r5,.ref r6,.ref r7,.ref r8]) sm=some (.lst [V.ref r1,.ref r2,.ref r3,.ref r4,.ref r5,.ref r6,.ref r7,.ref r8]):=ak
  have Ac:[V.ref r1,.ref r2,.ref r3,.ref r4,.ref r5,.ref r6,.ref r7,.ref r8].length=8:=rfl
  dsimp only [aC]
  generalize [V.ref r1,.ref r2,.ref r3,.ref r4,.ref r5,.ref r6,.ref r7,.ref r8]=ls at all jb nh Ac ⊢
  generalize upd ja sm (.lst ls)=CN at jb nh ⊢
  have Ad:sm≠P0:=(p4.mono ng).ne sI
  have Ae:=(p4.mono ng).mono jb
  have sJ:=i6.trans (aj.of (ng.trans jb))
  refine ⟨_,rfl,_,rfl,P0,a,ns,8,rfl,Ae,ag.seq sJ hS,by decide,a9.of_lt (by decide) (by decide),fun c' CO r0 eM ni Af=>?_⟩
  obtain ⟨q',rfl⟩:=Int.eq_ofNat_of_zero_le r0
  have gr:q'<ls.length:=by omega
  obtain ⟨ρ,eρ,Gρ,nρ⟩:=all ls[q'] (List.getElem_mem _)
  exact ⟨sm,_,_,.ref ρ,rfl,rfl,.of (ni.at Ad nh),dR (by rw [←eρ];simp [gr]),kk ρ _ (sJ.trans ni) Af nρ ((Gρ.mono jb).monoE ni nρ)⟩
theorem Ag:bx ["script","_law_pen","_law_k","_law_shape","_law_ring","_law_any","_law_places","_law_handed","_law_found"] ["script"] (a8 ki):=⟨rfl,rfl,rfl,by decide +kernel,rfl,by decide +kernel,by decide +kernel⟩
theorem Ah(T:Txt K mg t):a0 P w K mg base bh 9 t.eK t.fN ["script"] (jK K):=by
 have S:=Ag
 have bc:=fQ (P:=P) (w:=w) (base:=base) T
 have Ai:=y8 (P:=P) (w:=w) (base:=base) T
 have mQ:=rF (P:=P) (w:=w) (base:=base) T
 have Aj:=zv (P:=P) (w:=w) (base:=base) T
 have Ak:=zL (P:=P) (w:=w) (base:=base) T
 have Al:=zo (P:=P) (w:=w) (base:=base) T
 have Am:=yn (P:=P) (w:=w) (base:=base) T
 refine T.hW.ok S (fun vs H Q E h=>?_) (fun aE A outer s H vs Q E hr h=>?_)
 ·obtain ⟨a,ns,rfl,_⟩:=h
  rfl
 ·obtain ⟨a,ns,rfl,hS,hlen,kQ⟩:=h
  have cU:=hr.units
  have hu:=hr.uC
  refine ⟨_,(@au _ _ _ _ _ (@aJ _ _ 1 _ _ _ _ (by rfl) (by first | exact .inl rfl | exact .inr rfl | assumption) S.nd rfl (Or.inl rfl) (@bg _ _ _ _ (@aa _ _ _ _ _ (by rfl) (pv 0) (@aa _ _ _ _ _ (by rfl) aq (@aa _ _ _ _ _ (by rfl) aq ai)))))
   (@au _ _ _ _ _ (dG PassesOwn.never rfl (gc rfl T.dv (@aa _ _ _ _ _ (by rfl) aq ai)) (bY (i:=2) S.nd rfl (Or.inl rfl))
    (@au _ _ _ _ _ (@aJ _ _ 3 _ _ _ _ (by rfl) (by first | exact .inl rfl | exact .inr rfl | assumption) S.nd rfl (Or.inl rfl) (aK Ai (hr.mono (by decide)) rfl T.q8 T.g9.kp T.q5 .nil aL (@aa _ _ _ _ _ (by rfl) (pv 1) (@aa _ _ _ _ _ (by rfl) aq ai))))
   (@au _ _ _ _ _ (@aJ _ _ 4 _ _ _ _ (by rfl) (by first | exact .inl rfl | exact .inr rfl | assumption) S.nd rfl (Or.inl rfl) (aK Aj (hr.mono (by decide)) rfl T.rm T.hJ.kp T.rl .nil aL (@aa _ _ _ _ _ (by rfl) (pv 1) (@aa _ _ _ _ _ (by rfl) (pv 3) ai))))
   (@au _ _ _ _ _ (@aJ _ _ 5 _ _ _ _ (by rfl) (by first | exact .inl rfl | exact .inr rfl | assumption) S.nd rfl (Or.inl rfl) (@dP _ _ _ _ _ _ _ _ _ _ dS (aK mQ (hr.mono (by decide)) rfl T.mC T.fO.kp T.mB .nil aL (@aa _ _ _ _ _ (by rfl) (pv 1) (@aa _ _ _ _ _ (by rfl) (dO (pL rfl) rfl T.h6 boot_list (@aa _ _ _ _ _ (by rfl) (dO pK rfl T.dv pO (@aa _ _ _ _ _ (by rfl) (@aH _ _ _ _ _ _ _ eC (pv 3) aq (fun _ _=>rfl)) ai)) ai)) ai))) eB (dk (@ay _ _ _ _ _ _ _ _ cu aq (aK bc (hr.mono (by decide)) rfl T.bP T.bp.kp T.bO .nil aL (@aa _ _ _ _ _ (by rfl) (pv 1) (@aa _ _ _ _ _ (by rfl) aq ai)))))))
   (@az _ _ _ (dG PassesOwn.never rfl (ee (@bg _ _ _ _ (@aa _ _ _ _ _ (by rfl) (pv 4) (@aa _ _ _ _ _ (by rfl) (aK Ak (hr.mono (by decide)) rfl T.rp T.hV.kp T.rn .nil aL (@aa _ _ _ _ _ (by rfl) (pv 1) (@aa _ _ _ _ _ (by rfl) (pv 3) (@aa _ _ _ _ _ (by rfl) (pv 4) ai)))) (@aa _ _ _ _ _ (by rfl) (pv 5) (@aa _ _ _ _ _ (by rfl) (@bg _ _ _ _ ai) ai)))))) (bY (i:=6) S.nd rfl (Or.inl rfl))
    (@au _ _ _ _ _ (@aJ _ _ 7 _ _ _ _ (by rfl) (by first | exact .inl rfl | exact .inr rfl | assumption) S.nd rfl (Or.inl rfl) (dO o_ rfl T.h6 boot_list (@aa _ _ _ _ _ (by rfl) (pv 6) ai)))
   (@au _ _ _ _ _ (@aJ _ _ 8 _ _ _ _ (by rfl) (by first | exact .inl rfl | exact .inr rfl | assumption) S.nd rfl (Or.inl rfl) (aK Am (hr.mono (by decide)) rfl T.qT T.gX.kp T.qS .nil aL (@aa _ _ _ _ _ (by rfl) (pv 3) (@aa _ _ _ _ _ (by rfl) (pv 7) ai))))
   (@au _ _ _ _ _ (@bG _ _ _ _ _ _ _ _ (PW.pt (@pw_or _ _ _ _ _ _ _ (@kP _ _ _ _ (ji (aU (jG (K:=K)) rfl T.iU boot_isinstance (@aa _ _ _ _ _ (by rfl) (pv 8) (@aa _ _ _ _ _ (by rfl) (jh (v:=.ty "bool") rfl T.mD boot_bool rfl) ai))))) (@pw_or1 _ _ _ _ (@aS _ _ _ _ _ _ _ _ (wD (n:=0) cU) (pv 7) (pv 6) (aP _))))) (@az _ _ _ (@aV _ _ _ _ fX)) bQ)
   (@az _ _ _ (@bG _ _ _ _ _ _ _ _ (@aS _ _ _ _ _ _ _ _ oP (pv 8) (aK Al (hr.mono (by decide)) rfl T.rk T.hG.kp T.rj .nil aL (@aa _ _ _ _ _ (by rfl) (pv 3) (@aa _ _ _ _ _ (by rfl) (pv 6) ai))) (aP _)) (@az _ _ _ (@aV _ _ _ _ fX)) bQ)))))))))))
   (@az _ _ _ (@aV _ _ _ _ fX)))),?_⟩
  refine ⟨_,rfl,by show 3≤sizeLine;decide,fun P0 nP=>?_⟩
  have p0:aF (upd H P0 (.lst [.ref a,.int 0,.int 0])) P0 a:=⟨0,0,ak,by decide,by decide⟩
  have sL:av K (er P0 (upd H P0 (.lst [.ref a,.int 0,.int 0]))) a (ns.map V.int):=by
   rw [qf]
   exact ag.seq (fun b o e=>l9 (da e nP) e) hS
  generalize upd H P0 (.lst [.ref a,.int 0,.int 0])=H0 at p0 sL ⊢
  refine ⟨6,rfl,by decide,by decide,?_⟩
  refine gd (fun i σ Hc=>∃(v2 v3 v4 v5 v6 v7 v8:Option V),σ=[some (.ref a),some (.ref P0),v2,v3,v4,v5,v6,v7,v8]∧aj P0 H0 Hc∧aF Hc P0 a) ⟨_,_,_,_,_,_,_,rfl,aj.refl _,p0⟩ ?_ ?_
  ·rintro i σ Hc hi ⟨v2,v3,v4,v5,v6,v7,v8,rfl,sT,pc⟩
   have cV:av K (er P0 Hc) a (ns.map V.int):=ag.seq sT sL
   dsimp only [aC]
   refine ⟨_,rfl,P0,a,ns,10,rfl,pc,cV,by decide,by decide,fun tp n L H1 s1 p1 cJ i7 cS ok pw n1 dw=>?_⟩
   dsimp only [aC]
   have cT:ft n L:=fun p hp=>by
    have:=ok.lt p hp
    exact ⟨this.1,by omega,by omega,this.2.2⟩
   have bb:L.length≤200:=Nat.le_trans ok.bb (by
    have:n*n≤10*10:=Nat.mul_le_mul (by omega) (by omega)
    omega)
   have An:b7 H1 tp n L:=cS.mono iN
   refine ⟨_,rfl,_,rfl,P0,a,tp,ns,n,L,rfl,p1,ag.seq s1 cV,i7,An,cT,n1,dw,bb,fun rg xs H2 s2 p2 nj CP Ao hx x1 x8=>?_⟩
   dsimp only [aC]
   have dz:=s1.trans s2
   have nk:∀{Hx:Hp},aj P0 H1 Hx→b7 Hx tp n L:=fun sx=>(cS.mono sx).mono iN
   obtain ⟨lt,us,bW,elt,rX⟩:=id (nk s2)
   refine ⟨_,rfl,_,rfl,tp,_,_,_,rfl,rfl,.of bW,rfl,(n:Int),rfl,fun q1 sM=>⟨q1,n,rfl,ak,by omega,fun l nl=>?_⟩⟩
   have sl:ag H2 (upd (upd H2 q1 (.cA 0 (n:Int))) l (.lst (aZ n))):=(aB sM).trans (aB nl)
   have el:upd (upd H2 q1 (.cA 0 (n:Int))) l (.lst (aZ n)) l=some (.lst (aZ n)):=ak
   have lP:l≠P0:=p2.ne (none_of (aB sM) nl)
   generalize upd (upd H2 q1 (.cA 0 (n:Int))) l (.lst (aZ n))=H3 at sl el ⊢
   have sN:=s2.trans (aj.of sl)
   have p3:=p2.mono sl
   have lu:(aZ n).length=n:=by unfold aZ;simp
   refine ⟨P0,a,l,ns,aZ n,rfl,p3,ag.seq (s1.trans sN) cV,lP,el,by omega,fun r ys H4 s4 p4 nr rP h_ pm=>?_⟩
   have hy:=yb pm
   have ly:ys.length=n:=by rw [pm.length_eq,lu]
   have Gy:GL n 10 H4 r:=hy.gl h_ (by omega)
   have sO:=sN.trans s4
   refine ⟨_,rfl,P0,a,ns,10,rfl,p4,ag.seq (s1.trans sO) cV,by decide,a9.of_lt (by decide) (by decide),fun c H5 c0 c1 s5 p5=>⟨_,_,rfl,rfl,_,rfl,?_⟩⟩
   refine gA (Gy.monoE s5 rP) fun an H6 s6 n6 Ga=>?_
   have p6:=p5.mono s6
   have Ap:an≠P0:=p5.ne n6
   have nu:=(sO.trans s5).trans (aj.of s6)
   have sP:=(((aj.of sl).trans s4).trans (s5.trans (aj.of s6))).at nj Ao
   dsimp only [aC]
   refine ⟨_,rfl,_,rfl,_,rfl,_,rfl,P0,a,tp,rg,ns,n,L,xs,rfl,p6,ag.seq (s1.trans nu) cV,i7,nj,nk nu,n1,dw,sP,hx,x1,x8,fun bt H7 s7 p7 CQ Gb=>?_⟩
   refine ⟨_,rfl,Nat.zero_le _,fun em Aq=>?_⟩
   have s8:ag H7 (upd H7 em (.lst [])):=aB Aq
   have sQ:upd H7 em (.lst []) em=some (.lst []):=ak
   generalize upd H7 em (.lst [])=H8 at s8 sQ ⊢
   have all:∀v∈[V.ref rg,.ref bt,.ref an,.ref em],∃ρ,v=.ref ρ∧GL n 20 H8 ρ:=by
    intro v hv
    simp only [List.mem_cons,List.not_mem_nil,or_false] at hv
    rcases hv with rfl | rfl | rfl | rfl
    ·exact ⟨rg,rfl,(hx.gl sP (by omega)).monoE (s7.trans (aj.of s8)) nj⟩
    ·exact ⟨bt,rfl,Gb.mono s8⟩
    ·exact ⟨an,rfl,(Ga.monoE (s7.trans (aj.of s8)) Ap).le (by decide)⟩
    ·exact ⟨em,rfl,[],sQ,(fun z h=>by cases h),Nat.zero_le _⟩
   refine ⟨by show 4≤sizeLine;decide,fun fl Ar=>?_⟩
   have s9:ag H8 (upd H8 fl (.lst [V.ref rg,.ref bt,.ref an,.ref em])):=aB Ar
   have e9:upd H8 fl (.lst [V.ref rg,.ref bt,.ref an,.ref em]) fl=some (.lst [V.ref rg,.ref bt,.ref an,.ref em]):=ak
   generalize [V.ref rg,.ref bt,.ref an,.ref em]=ls at all s9 e9 ⊢
   generalize upd H8 fl (.lst ls)=H9 at s9 e9 ⊢
   have sR:=(nu.trans s7).trans (aj.of (s8.trans s9))
   have p9:=(p7.mono s8).mono s9
   have sS:=nk sR
   refine ⟨fl,rfl,⟨_,.of e9⟩,?_⟩
   refine oF (K:=K) (a:=fl) (xs:=ls) (fun j σ He=>∃(v6 v7 v8:Option V),σ=[some (.ref a),some (.ref P0),some (.int (0+(i:Int))),some (.ref tp),some (.ref rg),some (.ref an),v6,v7,v8]∧ag H9 He) ⟨_,_,_,rfl,ag.refl _⟩ (fun j σ He _ ⟨_,_,_,_,se⟩=>.of (se _ _ e9)) ?_ ?_
   ·rintro j x σ He As ⟨v6,v7,v8,rfl,se⟩
    obtain ⟨ρ,rfl,zs,eρ,bz,lz⟩:=all x (List.mem_of_getElem? As)
    have sU:∀z∈zs,-1≤z∧z<1000:=fun z hz=>by have:=bz z hz;omega
    have nz:=(s9.trans se) _ _ eρ
    dsimp only [aC]
    refine ⟨_,rfl,ρ,_,rfl,.inl (.of nz),fun hd Au=>?_⟩
    have dA:ag He (upd He hd (.lst (zs.map V.int))):=aB Au
    have nB:upd He hd (.lst (zs.map V.int)) hd=some (.lst (zs.map V.int)):=ak
    generalize upd He hd (.lst (zs.map V.int))=zS at dA nB ⊢
    have sV:=se.trans dA
    dsimp only [aC]
    refine ⟨_,rfl,_,rfl,tp,hd,n,L,zs,rfl,sS.mono sV,cT,pw,by omega,bb,.of nB,by omega,sU,fun sA d4=>?_⟩
    have sW:=sV.trans d4
    dsimp only [aC]
    obtain ⟨Ty,ty,k1,k2,_⟩:=(Any.bl (H:=sA) (decide (c_ L zs))).jE (K:=K)
    refine a_ ⟨_,rfl,_,_,_,_,rfl,rfl,ty,k2,true,rfl,jC ?_⟩
    refine ⟨_,rfl,_,rfl,hd,ρ,_,_,rfl,rfl,.of (d4 _ _ nB),.of ((dA.trans d4) _ _ nz),rfl,(fun j x y hx hy=>?_),false,rfl,jC ?_⟩
    ·rw [hx] at hy
     cases hy
     refine ⟨rfl,?_⟩
     obtain ⟨z,_,rfl⟩:=List.mem_map.mp (List.mem_of_getElem? hx)
     rfl
    dsimp only [df]
    refine ⟨_,rfl,_,rfl,_,rfl,tp,ρ,n,L,zs,rfl,sS.mono sW,cT,pw,by omega,bb,(dA.trans d4) _ _ nz,by omega,sU,fun sC dz=>⟨rfl,_,rfl,aX (fun hb=>?_) (fun _=>?_)⟩⟩
    ·rw [decide_eq_true rfl] at hb
     cases hb
    ·exact ⟨_,_,_,rfl,sW.trans dz⟩
   ·rintro σ He ⟨v6,v7,v8,rfl,se⟩
    exact ⟨_,_,_,_,_,_,_,rfl,sT.trans (s1.trans (sR.trans (aj.of se))),p9.mono se⟩
  ·rintro σ Hc ⟨v2,v3,v4,v5,v6,v7,v8,rfl,sT,pc⟩
   exact kQ _
theorem Av{l:PySem.W.OpenLaw}(T:Txt K mg t):∃fd:FuncData,(∀(s:Shared) (v:Value),BindsTo s fd ⟨[v],[]⟩ [("script",v)])∧∀base:Heap,K.In base→base.Ns mainGlobals mg→a0 l.prog w K mg base bh 9 t.eK fd ["script"] (jK K):=by
 obtain ⟨oc,od,kV,doc,pm,an,aE,ct,dN,e,lk,cO⟩:=T.hW.ex
 refine ⟨t.fN,fun s v=>?_,fun base _ _=>Ah T⟩
 rw [e]
 exact .of_eq rfl
end
theorem walk{l:PySem.W.OpenLaw}{q:Program}{loose:List Str}{XP:(Str→Option Value)→Heap→Prop}{YP:World→Heap→Prop}{d:DefRec}{K:Params→PySem.W.Frag}(hn:l.most=some 63)(iB:d.params.defaults=[])
  (hY:∀(w:World) (h:Heap),YP w h→(K w.params).In h)
  (F:∀(w:World) (mg:Str→Option Value) (fa:Addr) (h:Heap),(K w.params).In h→h.Ns mainGlobals mg→mg d.name=some (.ref fa)→
   ∃fd:FuncData,(∀(s:Shared) (u:Value),BindsTo s fd ⟨[u],[]⟩ [("script",u)])∧∀base:Heap,(K w.params).In base→base.Ns mainGlobals mg→a0 l.prog w (K w.params) mg base bh 9 fa fd ["script"] (jK (K w.params))) :
  PySem.W.WalkO q loose XP YP l.row.toRowW d [] (fun f vs=>PySem.call f vs):=
 L2.vD (n:=63) (k:=9) (x:="script") (CX:=fun _=>bh) (sp:=fun w=>jK (K w.params)) hn (by decide) iB ⟨rfl,by decide,by decide⟩ hY F (fun _ _ a ns hl _ hS=>⟨a,ns,rfl,hS,hl,fun _=>rfl⟩) fun _ _ _ _ _ z=>z
theorem Aw{K:PySem.W.Frag}{h:Heap}{mg:Str→Option Value}(X:K.In h)(G:h.Ns mainGlobals mg)
  {fu fv fw fz fA fB fD fE fF fG fH fI fJ fK fL fM eK:Addr} {gB gC gD gE gF gG gH gI gJ gK gM gN gO gP gQ gR fN:FuncData}
  (Ax:mg "is_whole" = some (.ref fu))
  (gS:aI K "is_whole" "is_whole" jX fu gB)
  (Ay:mg "is_place" = some (.ref fv))
  (gT:aI K "is_place" "is_place" jY fv gC)
  (Az:mg "ring_links" = some (.ref fw))
  (gU:aI K "ring_links" "ring_links" jZ fw gD)
  (AA:mg "links_among" = some (.ref fz))
  (gW:aI K "links_among" "links_among" j4 fz gE)
  (AB:mg "is_bare_ring" = some (.ref fA))
  (gX:aI K "is_bare_ring" "is_bare_ring" j6 fA gF)
  (AD:mg "_law_fill" = some (.ref fB))
  (gY:aI K "_law_fill" "_law_fill" j7 fB gG)
  (AE:mg "_law_next" = some (.ref fD))
  (bp:aI K "_law_next" "_law_next" j8 fD gH)
  (AF:mg "_law_turned" = some (.ref fE))
  (fO:aI K "_law_turned" "_law_turned" j9 fE gI)
  (AG:mg "_law_tied_by" = some (.ref fF))
  (gZ:aI K "_law_tied_by" "_law_tied_by" j_ fF gJ)
  (AH:mg "_law_grown_links" = some (.ref fG))
  (g8:aI K "_law_grown_links" "_law_grown_links" ka fG gK)
  (AI:mg "_law_drawn" = some (.ref fH))
  (g9:aI K "_law_drawn" "_law_drawn" kb fH gM)
  (AJ:mg "_law_named" = some (.ref fI))
  (g_:aI K "_law_named" "_law_named" kd fI gN)
  (AK:mg "_law_beside" = some (.ref fJ))
  (hE:aI K "_law_beside" "_law_beside" ke fJ gO)
  (AL:mg "_law_bare" = some (.ref fK))
  (hG:aI K "_law_bare" "_law_bare" kf fK gP)
  (AM:mg "_law_round" = some (.ref fL))
  (hJ:aI K "_law_round" "_law_round" kg fL gQ)
  (AN:mg "_law_bent" = some (.ref fM))
  (hV:aI K "_law_bent" "_law_bent" kh fM gR)
  (AO:mg "law" = some (.ref eK))
  (hW:aI K "law" "law" ki eK fN)
  (nC:PySem.W.nsIn K mainGlobals "len" = some none)
  (nE:PySem.W.nsIn K mainGlobals "isinstance" = some none)
  (nF:PySem.W.nsIn K mainGlobals "int" = some none)
  (nG:PySem.W.nsIn K mainGlobals "bool" = some none)
  (nH:PySem.W.nsIn K mainGlobals "tuple" = some none)
  (nI:PySem.W.nsIn K mainGlobals "list" = some none)
  (nJ:PySem.W.nsIn K mainGlobals "range" = some none)
  (nK:PySem.W.nsIn K mainGlobals "all" = some none)
  (nL:PySem.W.nsIn K mainGlobals "min" = some none)
  (nM:PySem.W.nsIn K mainGlobals "max" = some none)
  (nN:PySem.W.nsIn K mainGlobals "sorted" = some none)
  (nO:PySem.W.nsIn K mainGlobals "zip" = some none)
  (nQ:PySem.W.nsIn K mainGlobals "set" = some none)
  : ∃t:my,Txt K mg t:=by
 refine ⟨⟨fu,gB,fv,gC,fw,gD,fz,gE,fA,gF,fB,gG,fD,gH,fE,gI,fF,gJ,fG,gK,fH,gM,fI,gN,fJ,gO,fK,gP,fL,gQ,fM,gR,eK,fN⟩,?_⟩
 exact {
  gS:=gS
  qK:=gS.binds (ps:=["thing"]) fun _ _ _ _ _ _ us hl=>match us,hl with | [_],_=>rfl
  qL:=Ax
  gT:=gT
  qM:=gT.binds (ps:=["thing","n"]) fun _ _ _ _ _ _ us hl=>match us,hl with | [_,_],_=>rfl
  qN:=Ay
  gU:=gU
  qO:=gU.binds (ps:=["places"]) fun _ _ _ _ _ _ us hl=>match us,hl with | [_],_=>rfl
  qP:=Az
  gW:=gW
  qQ:=gW.binds (ps:=["shape","places"]) fun _ _ _ _ _ _ us hl=>match us,hl with | [_,_],_=>rfl
  qR:=AA
  gX:=gX
  qS:=gX.binds (ps:=["shape","places"]) fun _ _ _ _ _ _ us hl=>match us,hl with | [_,_],_=>rfl
  qT:=AB
  gY:=gY
  qU:=gY.binds (ps:=["_law_cell","_law_at"]) fun _ _ _ _ _ _ us hl=>match us,hl with | [_,_],_=>rfl
  qV:=AD
  bp:=bp
  bO:=bp.binds (ps:=["_law_pen","_law_many"]) fun _ _ _ _ _ _ us hl=>match us,hl with | [_,_],_=>rfl
  bP:=AE
  fO:=fO
  mB:=fO.binds (ps:=["_law_pen","_law_some"]) fun _ _ _ _ _ _ us hl=>match us,hl with | [_,_],_=>rfl
  mC:=AF
  gZ:=gZ
  qW:=gZ.binds (ps:=["_law_pen","_law_way","_law_size","_law_wide","_law_i","_law_j"]) fun _ _ _ _ _ _ us hl=>match us,hl with | [_,_,_,_,_,_],_=>rfl
  qX:=AG
  g8:=g8
  qY:=g8.binds (ps:=["_law_pen","_law_size"]) fun _ _ _ _ _ _ us hl=>match us,hl with | [_,_],_=>rfl
  qZ:=AH
  g9:=g9
  q5:=g9.binds (ps:=["_law_pen","_law_most"]) fun _ _ _ _ _ _ us hl=>match us,hl with | [_,_],_=>rfl
  q8:=AI
  g_:=g_
  q_:=g_.binds (ps:=["_law_size","_law_links","_law_names"]) fun _ _ _ _ _ _ us hl=>match us,hl with | [_,_,_],_=>rfl
  rd:=AJ
  hE:=hE
  rf:=hE.binds (ps:=["_law_shape"]) fun _ _ _ _ _ _ us hl=>match us,hl with | [_],_=>rfl
  rh:=AK
  hG:=hG
  rj:=hG.binds (ps:=["_law_shape","_law_places"]) fun _ _ _ _ _ _ us hl=>match us,hl with | [_,_],_=>rfl
  rk:=AL
  hJ:=hJ
  rl:=hJ.binds (ps:=["_law_pen","_law_shape"]) fun _ _ _ _ _ _ us hl=>match us,hl with | [_,_],_=>rfl
  rm:=AM
  hV:=hV
  rn:=hV.binds (ps:=["_law_pen","_law_shape","_law_places"]) fun _ _ _ _ _ _ us hl=>match us,hl with | [_,_,_],_=>rfl
  rp:=AN
  hW:=hW
  yc:=hW.binds (ps:=["script"]) fun _ _ _ _ _ _ us hl=>match us,hl with | [_],_=>rfl
  rq:=AO
  b9:=PySem.W.mg_none_of X G nC
  iU:=PySem.W.mg_none_of X G nE
  rz:=PySem.W.mg_none_of X G nF
  mD:=PySem.W.mg_none_of X G nG
  rA:=PySem.W.mg_none_of X G nH
  h6:=PySem.W.mg_none_of X G nI
  dv:=PySem.W.mg_none_of X G nJ
  rB:=PySem.W.mg_none_of X G nK
  kj:=PySem.W.mg_none_of X G nL
  km:=PySem.W.mg_none_of X G nM
  ko:=PySem.W.mg_none_of X G nN
  rC:=PySem.W.mg_none_of X G nO
  mE:=PySem.W.mg_none_of X G nQ
 }
end My
def PySem.W.Fast.tw1138099401303391241:Unit:=()
def PySem.W.Fast.tw12204890439686676481:Unit:=()
def PySem.W.Fast.tw3282236334766836798:Unit:=()
def PySem.W.Fast.tw11297597556326342614:Unit:=()
def PySem.W.Fast.tw15086645112329335676:Unit:=()
def PySem.W.Fast.tw9022247663209418350:Unit:=()
def PySem.W.Fast.tw9306735349446775506:Unit:=()
def PySem.W.Fast.tw11938244433390030346:Unit:=()
def PySem.W.Fast.tw11756667005831712701:Unit:=()
def PySem.W.Fast.tw9733667052558075669:Unit:=()
def PySem.W.Fast.tw179492385698146289:Unit:=()
def PySem.W.Fast.tw16933840891751272171:Unit:=()
def PySem.W.Fast.tw18362269378505494667:Unit:=()
def PySem.W.Fast.tw3177998138171736043:Unit:=()
def PySem.W.Fast.tw16460113379218834429:Unit:=()
def PySem.W.Fast.tw14348049044620311370:Unit:=()
open PySem PySem.W PyProof.Rows
set_option maxRecDepth 100000 in
set_option maxHeartbeats 0 in
theorem PySem.Challenge.cw_bandwright_k22_bare_rings_looked_at_holds : PySem.Challenge.rw_bandwright_k22_bare_rings_looked_at.Holds := by
 w_on;o_law;k_head;(case hw=>w_witness2)
 k_fill
 refine My.walk (l:=PySem.Challenge.rw_bandwright_k22_bare_rings_looked_at) rfl rfl (fun w h Y=>PySem.W.kIn_of Y) ?F
 case F=>
  intro w mg fa h KX G iC
  have T:∃t,My.Txt (L2.pD KX) mg t:=by
   dsimp only [L2.pD]
   refine' My.Aw KX G (PySem.W.mg_of KX G ?AQ) (L2.bV (st:=My.jX) ?AR ?AS ?AU) (PySem.W.mg_of KX G ?AV) (L2.bV (st:=My.jY) ?AW ?AX ?AY) (PySem.W.mg_of KX G ?AZ) (L2.bV (st:=My.jZ) ?A0 ?A1 ?A2) (PySem.W.mg_of KX G ?A3) (L2.bV (st:=My.j4) ?A4 ?A5 ?A6) (PySem.W.mg_of KX G ?A7) (L2.bV (st:=My.j6) ?A8 ?A9 ?A_) (PySem.W.mg_of KX G ?Ba) (L2.bV (st:=My.j7) ?Bb ?Bc ?Bd) (PySem.W.mg_of KX G ?Be) (L2.bV (st:=My.j8) ?Bf ?Bg ?Bh) (PySem.W.mg_of KX G ?Bi) (L2.bV (st:=My.j9) ?Bj ?Bk ?Bl) (PySem.W.mg_of KX G ?Bm) (L2.bV (st:=My.j_) ?Bn ?Bo ?Bp) (PySem.W.mg_of KX G ?Bq) (L2.bV (st:=My.ka) ?Br ?Bs ?Bt) (PySem.W.mg_of KX G ?Bu) (L2.bV (st:=My.kb) ?Bv ?Bw ?Bx) (PySem.W.mg_of KX G ?By) (L2.bV (st:=My.kd) ?Bz ?BA ?BB) (PySem.W.mg_of KX G ?BC) (L2.bV (st:=My.ke) ?BD ?BE ?BF) (PySem.W.mg_of KX G ?BG) (L2.bV (st:=My.kf) ?BH ?BI ?BJ) (PySem.W.mg_of KX G ?BK) (L2.bV (st:=My.kg) ?BL ?BM ?BN) (PySem.W.mg_of KX G ?BO) (L2.bV (st:=My.kh) ?BP ?BQ ?BR) (PySem.W.mg_of KX G ?BS) (L2.bV (st:=My.ki) ?BU ?BV ?BW) ?nC ?nE ?nF ?nG ?nH ?nI ?nJ ?nK ?nL ?nM ?nN ?nO ?nQ
   (case AQ=>k_is)
   (case AR=>k_is)
   (case AS=>k_is)
   (case AU=>k_is)
   (case AV=>k_is)
   (case AW=>k_is)
   (case AX=>k_is)
   (case AY=>k_is)
   (case AZ=>k_is)
   (case A0=>k_is)
   (case A1=>k_is)
   (case A2=>k_is)
   (case A3=>k_is)
   (case A4=>k_is)
   (case A5=>k_is)
   (case A6=>k_is)
   (case A7=>k_is)
   (case A8=>k_is)
   (case A9=>k_is)
   (case A_=>k_is)
   (case Ba=>k_is)
   (case Bb=>k_is)
   (case Bc=>k_is)
   (case Bd=>k_is)
   (case Be=>k_is)
   (case Bf=>k_is)
   (case Bg=>k_is)
   (case Bh=>k_is)
   (case Bi=>k_is)
   (case Bj=>k_is)
   (case Bk=>k_is)
   (case Bl=>k_is)
   (case Bm=>k_is)
   (case Bn=>k_is)
   (case Bo=>k_is)
   (case Bp=>k_is)
   (case Bq=>k_is)
   (case Br=>k_is)
   (case Bs=>k_is)
   (case Bt=>k_is)
   (case Bu=>k_is)
   (case Bv=>k_is)
   (case Bw=>k_is)
   (case Bx=>k_is)
   (case By=>k_is)
   (case Bz=>k_is)
   (case BA=>k_is)
   (case BB=>k_is)
   (case BC=>k_is)
   (case BD=>k_is)
   (case BE=>k_is)
   (case BF=>k_is)
   (case BG=>k_is)
   (case BH=>k_is)
   (case BI=>k_is)
   (case BJ=>k_is)
   (case BK=>k_is)
   (case BL=>k_is)
   (case BM=>k_is)
   (case BN=>k_is)
   (case BO=>k_is)
   (case BP=>k_is)
   (case BQ=>k_is)
   (case BR=>k_is)
   (case BS=>k_is)
   (case BU=>k_is)
   (case BV=>k_is)
   (case BW=>k_is)
   (case nC=>k_is)
   (case nE=>k_is)
   (case nF=>k_is)
   (case nG=>k_is)
   (case nH=>k_is)
   (case nI=>k_is)
   (case nJ=>k_is)
   (case nK=>k_is)
   (case nL=>k_is)
   (case nM=>k_is)
   (case nN=>k_is)
   (case nO=>k_is)
   (case nQ=>k_is)
  obtain ⟨t,T⟩:=T
  have e0:=iC.symm.trans T.rq
  cases e0
  exact My.Av T
#print axioms PySem.Challenge.cw_bandwright_k22_bare_rings_looked_at_holds
