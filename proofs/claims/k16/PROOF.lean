import PyProof.Rows.All
import Wide.All
import OpenK.AllK
import Wide.FinOn
import Lean
import PyProof.EqAt
import PyProof.EqKinds
import PyProof.TupleCall
import PySem.Challenge.RW_bandwright_k16_shapes_of_tables
set_option Elab.async false
set_option linter.all false
set_option maxRecDepth 100000
namespace L2
open PySem PySem.Spec PyProof.Rows
abbrev Key:=Sum Int Str
def qV:Key→Value→Bool
 | .inl k,v=>Value.isInt k v
 | .inr x,v=>Value.isStrOf x v
def xa(w:World):Key→Int
 | .inl k=>hashInt k
 | .inr x=>hashStr w x
theorem eo:∀{k:Key} {v:Value},qV k v=true→(∃i t,k=Sum.inl i∧v=Value.int i t)∨(∃x t,k=Sum.inr x∧v=Value.str x t)
 | .inl i,v,h=>by
  obtain ⟨t,e⟩:=Value.isInt_shape (k:=i) (v:=v) h
  exact .inl ⟨i,t,rfl,e⟩
 | .inr x,v,h=>by
  obtain ⟨t,e⟩:=Value.isStrOf_shape (x:=x) (v:=v) h
  exact .inr ⟨x,t,rfl,e⟩
theorem xb(a b:Int):decide ((Sum.inl a:Key)=Sum.inl b)=(a == b):=by
 by_cases e:a=b
 ·subst e;simp
 ·have h:¬(Sum.inl a:Key)=Sum.inl b:=fun q=>e (Sum.inl.inj q)
  rw [decide_eq_false h]
  exact (beq_eq_false_iff_ne.mpr e).symm
theorem xc(a b:Str):decide ((Sum.inr a:Key)=Sum.inr b)=decide (a=b):=by
 by_cases e:a=b
 ·subst e;simp
 ·have h:¬(Sum.inr a:Key)=Sum.inr b:=fun q=>e (Sum.inr.inj q)
  rw [decide_eq_false h,decide_eq_false e]
theorem xf(a:Int)(b:Str):decide ((Sum.inl a:Key)=Sum.inr b)=false:=decide_eq_false (fun q=>nomatch q)
theorem xg(a:Str)(b:Int):decide ((Sum.inr a:Key)=Sum.inl b)=false:=decide_eq_false (fun q=>nomatch q)
def ki(prog:Program)(w:World):PySem.KeyKind prog w Key where
 is:=qV
 hash:=xa w
 inj:=fun v a b ha hb=>by
  rcases eo ha with ⟨i,t,rfl,rfl⟩ | ⟨x,t,rfl,rfl⟩
  ·rcases eo hb with ⟨j,u,rfl,e⟩ | ⟨y,u,rfl,e⟩
   ·injection e with e1 _;rw [e1]
   ·exact nomatch e
  ·rcases eo hb with ⟨j,u,rfl,e⟩ | ⟨y,u,rfl,e⟩
   ·exact nomatch e
   ·injection e with e1 _;rw [e1]
 byValue:=fun k v h=>by
  rcases eo h with ⟨i,t,rfl,rfl⟩ | ⟨x,t,rfl,rfl⟩ <;> rfl
 pyHash:=fun hv h=>by
  rcases eo hv with ⟨i,t,rfl,rfl⟩ | ⟨x,t,rfl,rfl⟩
  ·exact wpAny_pyHash_int h
  ·exact wpAny_pyHash_str h
 eqBool:=fun hu hv h=>by
  rcases eo hu with ⟨i,t,rfl,rfl⟩ | ⟨x,t,rfl,rfl⟩
  ·rcases eo hv with ⟨j,u,rfl,rfl⟩ | ⟨y,u,rfl,rfl⟩
   ·rw [xb] at h;exact wpAny_eqBool_int h
   ·rw [xf] at h;exact SeqAt.EqAt.int_str i t y u _ _ _ _ h
  ·rcases eo hv with ⟨j,u,rfl,rfl⟩ | ⟨y,u,rfl,rfl⟩
   ·rw [xg] at h;exact SeqAt.EqAt.str_int x t j u _ _ _ _ h
   ·rw [xc] at h;exact wpAny_eqBool_str h
 «strs»:=fun k x t v h=>by
  rcases eo h with ⟨i,u,rfl,e⟩ | ⟨y,u,rfl,e⟩
  ·exact nomatch e
  ·injection e with e1 _
   subst e1
   cases v <;> rfl
inductive V where
 | ay | bl (b:Bool) | int (i:Int) | str (x:Str) | cV (b:Array UInt8) | fH (b:UInt64) | ref (a:Addr) | ty (n:String)
 deriving DecidableEq
def RelV:V→Value→Prop
 | .ay,u=>u=Value.none
 | .bl b,u=>u=Value.bool b
 | .int i,u=>∃t,u=Value.int i t
 | .str x,u=>∃t,u=Value.str x t
 | .cV b,u=>∃t,u=Value.bytes b t
 | .fH b,u=>∃t,u=Value.float b t
 | .ref a,u=>u=Value.ref a
 | .ty n,u=>u=Value.type n
abbrev Vals:List V→List Value→Prop:=Paired RelV
theorem Vals.length{xs:List V}{us:List Value}(r:Vals xs us):xs.length=us.length:=Paired.length r
theorem Vals.get:∀{xs:List V} {us:List Value} {i:Nat} {x:V},Vals xs us→xs[i]?=some x→∃u,us[i]?=some u∧RelV x u
 | _,_,_,_,.nil,e=>by simp at e
 | _,_,0,_,.cons r _,e=>by simp at e;subst e;exact ⟨_,rfl,r⟩
 | _,_,i+1,x,.cons _ t,e=>by
  obtain ⟨u,h1,h2⟩:=Vals.get (i:=i) (x:=x) t (by simpa using e)
  exact ⟨u,by simpa using h1,h2⟩
theorem Vals.set{x:V}{u:Value}(r:RelV x u):∀{xs:List V} {us:List Value} (i:Nat),Vals xs us→Vals (xs.set i x) (us.set i u)
 | _,_,_,.nil=>.nil
 | _,_,0,.cons _ t=>.cons r t
 | _,_,i+1,.cons q t=>.cons q (Vals.set r i t)
theorem Vals.append:∀{xs ys:List V} {us ws:List Value},Vals xs us→Vals ys ws→Vals (xs++ys) (us++ws)
 | _,_,_,_,.nil,s=>s
 | _,_,_,_,.cons r t,s=>.cons r (Vals.append t s)
theorem Vals.take:∀{xs:List V} {us:List Value} (n:Nat),Vals xs us→Vals (xs.take n) (us.take n)
 | _,_,0,_=>.nil
 | _,_,_+1,.nil=>.nil
 | _,_,n+1,.cons r t=>.cons r (Vals.take n t)
theorem Vals.drop:∀{xs:List V} {us:List Value} (n:Nat),Vals xs us→Vals (xs.drop n) (us.drop n)
 | _,_,0,r=>r
 | _,_,_+1,.nil=>.nil
 | _,_,n+1,.cons _ t=>Vals.drop n t
theorem Vals.none_of:∀{xs:List V} {us:List Value} {i:Nat},Vals xs us→xs[i]?=none→us[i]?=none:=fun{xs us i} r e=>by
 have h1:=r.length
 have h2:xs.length≤i:=List.getElem?_eq_none_iff.mp e
 exact List.getElem?_eq_none_iff.mpr (by omega)
def dP:Option V→Option Value→Prop
 | some v,some u=>RelV v u
 | none,none=>True
 | _,_=>False
def KV{κ:Type}:List (κ×V)→List (κ×Value)→Prop:=Paired fun(p:κ×V) (q:κ×Value)=>p.1=q.1∧RelV p.2 q.2
def kV:Key→V
 | .inl i=>.int i
 | .inr x=>.str x
inductive HO where
 | lst (xs:List V)
 | tup (xs:List V)
 | dK (bg:List (Key×V)) | dT (bg:List (List Key×V))
 | set (S:Int→Bool) (n:Nat)
 | ins (C dx:Addr) (fs:List (Str×V))
 | own (x:Addr)
 | xd (fs:List (Str×V))
 | met (f x:Addr)
 | dw (lo hi:Int)
 | bU (o:Obj) (u:HO)
 | dQ (ps:Array Value)
 | ext (φ:Heap→Prop)
abbrev Hp:=Addr→Option HO
def upd(H:Hp)(a:Addr)(o:HO):Hp:=fun b=>if b=a then some o else H b
theorem ar{H:Hp}{a:Addr}{o:HO}:upd H a o a=some o:=by unfold upd;rw [if_pos rfl]
theorem aD{H:Hp}{a b:Addr}{o:HO}(h:b≠a):upd H a o b=H b:=by unfold upd;rw [if_neg h]
theorem bL{H:Hp}{a b:Addr}{o:HO}(h:H a=some o)(h':H b=none):a≠b:=by
 intro e;subst e;rw [h] at h';cases h'
section
variable (P:Program) (w:World)
def aQ(H:Hp)(h:Heap)(a:Addr):HO→Prop
 | .lst xs=>xs.length≤sizeLine∧∃(ai:List Value) (n:Nat),Vals xs ai∧h.get? a=some {cls:=.type "list",data:=.seq ai.toArray n}
 | .tup xs=>xs.length≤sizeLine∧∃ai:List Value,Vals xs ai∧IsTup h a ai.toArray
 | .dK bg=>bg.length≤sizeLine∧(a == sysModules)=false∧∃vs,KV bg vs∧h.DictOf (ki P w) a vs
 | .dT bg=>bg.length≤sizeLine∧(a == sysModules)=false∧∃xs:List (List Key×Addr×Value),
   Paired (fun(p:List Key×V) (q:List Key×Addr×Value)=>p.1=q.1∧H q.2.1=some (.tup (p.1.map kV))∧RelV p.2 q.2.2) bg xs ∧
   ∃o es ep,h.get? a=some o∧o.ExactDict∧o.data=.dict es ep∧es.toList=xs.map (entryOfKey (tupleKind (ki P w)))∧(xs.map (·.1)).Nodup
 | .set S n=>h.SetOf (intKind P w) a S n
 | .ins C dx fs=>H dx=some (.own a)∧fs.length≤1000∧dx≠a∧h.get? a=some (PySem.W.instObj C dx) ∧
   ∃mA,h.Ns1 dx mA∧(∀f,dP (fs.lookup f) (mA f))∧PySem.Within mA (fs.map (·.1))
 | .own _=>∃o,h.get? a=some o
 | .xd fs=>∃mA,h.Ns1 a mA∧∀f,dP (fs.lookup f) (mA f)
 | .dw lo hi=>∃t u v,h.get? a=some {cls:=.type "range",data:=.fields #[.int lo t,.int hi u,.int 1 v]}
 | .bU o u=>h.get? a=some o∧aQ H h a u
 | .dQ ps=>h.get? a=some {cls:=.none,data:=.fields ps}
 | .met f x=>h.get? a=some (PySem.W.methodObj (.ref f) (.ref x))
 | .ext φ=>φ h∧(∃o,h.get? a=some o)∧∀h1 h2:Heap,φ h1→(∀o,h1.get? a=some o→h2.get? a=some o)→φ h2
def a9(H:Hp)(h:Heap):Prop:=∀a o,H a=some o→aQ P w H h a o
end
section
variable {P:Program} {w:World} {H H':Hp} {h h':Heap} {a:Addr} {o:HO}
theorem aQ.lt(x:aQ P w H h a o):a<h.objs.size:=by
 cases o with
 | lst xs=>obtain ⟨_,_,_,_,e⟩:=x;exact Heap.lt_size e
 | tup xs=>obtain ⟨_,_,_,p⟩:=x;exact p.lt
 | dK bg=>obtain ⟨_,_,_,_,o,_,_,e,_⟩:=x;exact Heap.lt_size e
 | dT bg=>obtain ⟨_,_,_,_,o,_,_,e,_⟩:=x;exact Heap.lt_size e
 | set S n=>obtain ⟨o,_,_,_,e,_⟩:=x;exact Heap.lt_size e
 | ins C dx fs=>obtain ⟨_,_,_,e,_⟩:=x;exact Heap.lt_size e
 | own y=>obtain ⟨_,e⟩:=x;exact Heap.lt_size e
 | xd fs=>obtain ⟨_,⟨_,_,_,e,_⟩,_⟩:=x;exact Heap.lt_size e
 | dw lo hi=>obtain ⟨_,_,_,e⟩:=x;exact Heap.lt_size e
 | bU ob u=>obtain ⟨e,_⟩:=x;exact Heap.lt_size e
 | dQ ps=>exact Heap.lt_size (show h.get? a=some _ from x)
 | met f y=>exact Heap.lt_size (show h.get? a=some _ from x)
 | ext φ=>obtain ⟨_,⟨_,e⟩,_⟩:=x;exact Heap.lt_size e
theorem Paired.qW{α β:Type}{F G:α→β→Prop}:∀{l₁:List α} {l₂:List β},Paired F l₁ l₂→(∀a b,F a b→G a b)→Paired G l₁ l₂
 | _,_,.nil,_=>.nil
 | _,_,.cons r t,f=>.cons (f _ _ r) (Paired.qW t f)
theorem aQ.dR(x:aQ P w H h a o)(k:∀b u,(b=a∨H b=some (.own a))→h.get? b=some u→h'.get? b=some u)
  (ho:∀b,H b=some (.own a)→H' b=some (.own a)) (ht:∀b xs,H b=some (.tup xs)→H' b=some (.tup xs)):aQ P w H' h' a o:=by
 induction o with
 | lst xs=>obtain ⟨z,ai,n,r,e⟩:=x;exact ⟨z,ai,n,r,k _ _ (.inl rfl) e⟩
 | tup xs=>obtain ⟨z,ai,r,ob,e,c⟩:=x;exact ⟨z,ai,r,ob,k _ _ (.inl rfl) e,c⟩
 | dK bg=>obtain ⟨z,y,vs,r,ob,es,ep,e,c⟩:=x;exact ⟨z,y,vs,r,ob,es,ep,k _ _ (.inl rfl) e,c⟩
 | dT bg=>
  obtain ⟨z,y,xs,r,ob,es,ep,e,c⟩:=x
  exact ⟨z,y,xs,Paired.qW r fun p q z=>⟨z.1,ht _ _ z.2.1,z.2.2⟩,ob,es,ep,k _ _ (.inl rfl) e,c⟩
 | set S n=>obtain ⟨ob,es,ep,t,e,c⟩:=x;exact ⟨ob,es,ep,t,k _ _ (.inl rfl) e,c⟩
 | ins C dx fs=>
  obtain ⟨d,z,ne,e,mA,⟨od,es,ep,e2,c⟩,r⟩:=x
  exact ⟨ho _ d,z,ne,k _ _ (.inl rfl) e,mA,⟨od,es,ep,k _ _ (.inr d) e2,c⟩,r⟩
 | own y=>obtain ⟨ob,e⟩:=x;exact ⟨ob,k _ _ (.inl rfl) e⟩
 | xd fs=>obtain ⟨mA,⟨od,es,ep,e,c⟩,r⟩:=x;exact ⟨mA,⟨od,es,ep,k _ _ (.inl rfl) e,c⟩,r⟩
 | dw lo hi=>obtain ⟨t,u,v,e⟩:=x;exact ⟨t,u,v,k _ _ (.inl rfl) e⟩
 | bU ob u ih=>obtain ⟨e,q⟩:=x;exact ⟨k _ _ (.inl rfl) e,ih q⟩
 | dQ ps=>
  have e:h.get? a=some {cls:=.none,data:=.fields ps}:=x
  show h'.get? a=some {cls:=.none,data:=.fields ps}
  exact k a _ (.inl rfl) e
 | met f y=>
  have e:h.get? a=some (PySem.W.methodObj (.ref f) (.ref y)):=x
  show h'.get? a=some (PySem.W.methodObj (.ref f) (.ref y))
  exact k a _ (.inl rfl) e
 | ext φ=>obtain ⟨p,⟨o,e⟩,st⟩:=x;exact ⟨st _ _ p fun o q=>k _ _ (.inl rfl) q,⟨o,k _ _ (.inl rfl) e⟩,st⟩
theorem a9.lt(x:a9 P w H h)(e:H a=some o):a<h.objs.size:=(x a o e).lt
theorem a9.fresh(x:a9 P w H h)(e:h.objs.size≤a):H a=none:=by
 cases q:H a with
 | none=>rfl
 | some u=>exact absurd (Nat.lt_of_lt_of_le (x.lt q) e) (Nat.lt_irrefl _)
theorem a9.kept(x:a9 P w H h)(k:∀b u,h.get? b=some u→h'.get? b=some u):a9 P w H h':=fun a o e=>
 (x a o e).dR (fun b u _ q=>k b u q) (fun _ q=>q) fun _ _ q=>q
theorem a9.laid(x:a9 P w H h)(k:∀b u,h.get? b=some u→h'.get? b=some u)(hp:h.objs.size≤a)(new:aQ P w (upd H a o) h' a o):a9 P w (upd H a o) h':=fun b u e=>by
 have hn:=x.fresh hp
 by_cases hb:b=a
 ·subst hb;rw [ar] at e;cases e;exact new
 ·rw [aD hb] at e
  exact (x b u e).dR (fun c v _ q=>k c v q) (fun c q=>by rw [aD (bL q hn)];exact q) fun c xs q=>by rw [aD (bL q hn)];exact q
end
def Rd(H:Hp)(a:Addr)(u:HO):Prop:=H a=some u∨∃o,H a=some (.bU o u)
theorem Rd.ok{P:Program}{w:World}{H:Hp}{h:Heap}{a:Addr}{u:HO}(r:Rd H a u)(x:a9 P w H h):aQ P w H h a u:=by
 rcases r with r | ⟨o,r⟩
 ·exact x a u r
 ·obtain ⟨_,q⟩:=x a _ r
  exact q
def kj:Option HO→Prop
 | some (.lst _)=>True
 | some (.dK _)=>True
 | some (.dT _)=>True
 | some (.set _ _)=>True
 | some (.ins _ _ _)=>True
 | some (.ext _)=>True
 | _=>False
section
variable {P:Program} {w:World} {H:Hp} {h h':Heap} {x e:Addr} {o':HO}
theorem a9.write(ok:a9 P w H h)(mu:kj (H x))(he:e=x∨H e=some (.own x))(k:∀b u,b≠e→h.get? b=some u→h'.get? b=some u)(g9:∃u,h'.get? e=some u)
  (new:aQ P w (upd H x o') h' x o'):a9 P w (upd H x o') h':=fun b u q=>by
 have qX:∀c y,H c=some (.own y)→c≠x:=fun c y r z=>by subst z;rw [r] at mu;exact mu
 have xh:∀c xs,H c=some (.tup xs)→c≠x:=fun c xs r z=>by subst z;rw [r] at mu;exact mu
 by_cases hb:b=x
 ·subst hb;rw [ar] at q;cases q;exact new
 ·rw [aD hb] at q
  by_cases fI:b=e
  ·have q':H b=some (.own x):=by
    rcases he with z | z
    ·exact absurd (fI.trans z) hb
    ·rw [fI];exact z
   rw [q] at q';cases q'
   obtain ⟨v,hv⟩:=g9
   exact ⟨v,by rw [fI];exact hv⟩
  ·refine (ok b u q).dR (fun c v hc r=>k c v ?_ r) (fun c r=>by rw [aD (qX c b r)];exact r) fun c xs r=>by rw [aD (xh c xs r)];exact r
   rcases hc with rfl | hc
   ·exact fI
   ·rintro rfl
    rcases he with z | z
    ·exact qX c b hc z
    ·rw [hc] at z;cases z;exact hb rfl
end
structure Un (fs ex:List Addr) (H H':Hp) (h h':Heap):Prop where
 keep:∀b o,h.get? b=some o→H b=none→b∉fs→b∉ex→h'.get? b=some o
 slot:∀b o,h.get? b=some o→H b=none→b∈fs→b∉ex→∃sl,h'.get? b=some {o with slots:=sl}
 free:∀b o,h.get? b=some o→H b=none→b∉ex→H' b=none
 there:∀b o,h.get? b=some o→b∉ex→∃o',h'.get? b=some o'
 bM:∀b xs,H b=some (.tup xs)→H' b=some (.tup xs)
 bE:∀b o u,H b=some (.bU o u)→H' b=some (.bU o u)
 bN:∀b ps,H b=some (.dQ ps)→∃more,H' b=some (.dQ (ps++more))
section
variable {fs xi ex dS:List Addr} {H H1 H2:Hp} {h h1 h2 h':Heap} {a x e:Addr} {o:HO}
theorem Un.any(u:Un fs ex H H1 h h1){b:Addr}{ob:Obj}(q:h.get? b=some ob)(n:H b=none)(hx:b∉ex):∃sl,h1.get? b=some {ob with slots:=sl}:=by
 by_cases hb:b∈fs
 ·exact u.slot b ob q n hb hx
 ·exact ⟨ob.slots,u.keep b ob q n hb hx⟩
theorem Un.kept(k:∀b u,h.get? b=some u→h'.get? b=some u):Un fs ex H H h h':=
 ⟨fun b ob q _ _ _=>k b ob q,fun b ob q _ _ _=>⟨ob.slots,k b ob q⟩,fun _ _ _ n _=>n,fun b ob q _=>⟨ob,k b ob q⟩,fun _ _ q=>q,fun _ _ _ q=>q,fun _ ps q=>⟨#[],by rw [q];simp⟩⟩
theorem Un.refl:Un fs ex H H h h:=Un.kept fun _ _ q=>q
theorem Un.laid(k:∀b u,h.get? b=some u→h'.get? b=some u)(hp:h.objs.size≤a)(hn:H a=none):Un fs ex H (upd H a o) h h' where
 keep:=fun b u q _ _ _=>k b u q
 slot:=fun b u q _ _ _=>⟨u.slots,k b u q⟩
 free:=fun b u q n _=>by rw [aD (Nat.ne_of_lt (Nat.lt_of_lt_of_le (Heap.lt_size q) hp))];exact n
 there:=fun b u q _=>⟨u,k b u q⟩
 bM:=fun b xs q=>by rw [aD (bL q hn)];exact q
 bE:=fun b u xs q=>by rw [aD (bL q hn)];exact q
 bN:=fun b ps q=>⟨#[],by rw [aD (bL q hn),q];simp⟩
theorem Un.write(mu:kj (H x))(he:e=x∨H e=some (.own x))(k:∀b u,b≠e→h.get? b=some u→h'.get? b=some u)(g9:∃u,h'.get? e=some u):Un fs ex H (upd H x o) h h':=by
 have hx:∀b,H b=none→b≠x:=fun b n z=>by subst z;rw [n] at mu;exact mu
 have hb:∀b,H b=none→b≠e:=fun b n z=>by
  subst z
  rcases he with r | r
  ·exact hx b n r
  ·rw [n] at r;cases r
 have hm:∀b u,H b=some u→¬kj (some u)→b≠x:=fun b u q nm z=>by subst z;rw [q] at mu;exact nm mu
 refine ⟨fun b u q n _ _=>k b u (hb b n) q,fun b u q n _ _=>⟨u.slots,k b u (hb b n) q⟩,fun b u q n _=>by rw [aD (hx b n)];exact n,fun b u q _=>?_,
  fun b xs q=>by rw [aD (hm b _ q fun z=>z)];exact q,fun b u xs q=>by rw [aD (hm b _ q fun z=>z)];exact q,fun b ps q=>⟨#[],by rw [aD (hm b _ q fun z=>z),q];simp⟩⟩
 by_cases fI:b=e
 ·subst fI;exact g9
 ·exact ⟨u,k b u fI q⟩
end
def km(h:Heap)(H:Hp):List Addr:=(List.range h.objs.size).filter fun a=>(H a).isSome
def eA(h:Heap)(H:Hp):Heap:=PySem.W.hideAll h (km h H)
theorem xj(h:Heap)(H:Hp):(eA h H).objs.size=h.objs.size:=PySem.W.hideAll_size _ _
theorem xk{h:Heap}{H:Hp}{b:Addr}{o:Obj}(e:h.get? b=some o)(n:H b=none):(eA h H).get? b=some o:=
 PySem.W.hideAll_get _ e fun hm=>by
  have q:(H b).isSome=true:=(List.mem_filter.mp hm).2
  rw [n] at q;simp at q
theorem xl{h:Heap}{H:Hp}{b:Addr}{o:Obj}(e:(eA h H).get? b=some o):h.get? b=some o∧H b=none:=by
 have e':h.get? b=some o:=PySem.W.of_hideAll (km h H) e
 refine ⟨e',?_⟩
 cases q:H b with
 | none=>rfl
 | some x=>
  have hm:b∈km h H:=List.mem_filter.mpr ⟨List.mem_range.mpr (Heap.lt_size e'),by simp [q]⟩
  have z:(eA h H).get? b=none:=PySem.W.hideAll_none (km h H) hm
  rw [z] at e;cases e
structure Mod (K:PySem.W.Frag) (mg:Str→Option Value) (base:Heap):Prop where
 aU:K.In base
 glob:base.Ns mainGlobals mg
 blt:∃mb,base.Ns builtinsNs mb∧∀x:Str,x ≠ "__name__"→mb x=bootBuiltins x
 nolimit:base.NoLimit
structure Cx where
 prog:Program
 w:World
 K:PySem.W.Frag
 mg:Str→Option Value
 base:Heap
 A:Around
 N:List Str
 s₀:Shared
 H₀:Hp
 env:Env
 outer:List Env
 stack:List Env
 ex:List Addr
 fn:Str→Bool
 calm:Bool
 pn:List (Addr×Obj)
 xe:Value→Shared→Prop
def aV(l:List Env):List Addr:=l.filterMap (·.frame)
abbrev Cx.fs (X:Cx):List Addr:=aV X.outer
def jr(sc:Scope)(x:Str):Prop:=sc.names.lookup x=some .local∨sc.names.lookup x=some .cell∨sc.names.lookup x=some .free
def Loc(sc:Scope)(x:Str):Prop:=sc.names.lookup x=some .local∨sc.names.lookup x=some .cell
def Look(env:Env)(h:Heap)(m:Str→Option Value)(x:Str)(u:Value):Prop:=
 (env.kindOf x=some .local∧m x=some u)∨((env.kindOf x=some .cell∨env.kindOf x=some .free)∧∃c,env.cells.lookup x=some c∧h.IsCell c (some u))
structure Cx.Ok (X:Cx):Prop where
 mod:Mod X.K X.mg X.base
 kind:X.env.scope.kind=.function
 glob:X.env.globals=mainGlobals
 blt:X.env.builtins=builtinsNs
 above:X.s₀.heap.objs.size≤X.env.locals
 inj:∀x y c,X.env.cells.lookup x=some c→X.env.cells.lookup y=some c→x=y
 has:∀x,(X.env.kindOf x=some .cell∨X.env.kindOf x=some .free)→∃c,X.env.cells.lookup x=some c
 g_:∀x c,X.fn x=true→X.env.cells.lookup x=some c→X.s₀.heap.objs.size≤c
 hd:X.calm=true→X.A.handled=none
 frames:X.A.frames=some X.stack
 cz:X.stack=X.outer∨(X.stack=X.env::X.outer∧X.env.frame=some X.env.locals)
 mU:∀b∈X.ex,b≠X.env.locals∧∀x c,X.env.cells.lookup x=some c→c≠b
 bs:∀b o,X.base.get? b=some o→X.s₀.heap.get? b=some o∧X.H₀ b=none
 cW:X.base.objs.size≤X.s₀.heap.objs.size
 fJ:∀b o,X.base.get? b=some o→b∉X.ex
 fK:∀b∈X.ex,b∉X.fs
 cJ:X.s₀.heap.FunFrames X.base X.outer
 dU:∀b∈X.fs,X.H₀ b=none
structure Inv (X:Cx) (pins:List (Addr×Obj)) (σ:List (Option V)) (H:Hp) (s:Shared):Prop where
 ok:X.Ok
 os:s.os=X.s₀.os
 bare:AllBare s.gens
 base:Un X.fs X.ex X.H₀ H X.s₀.heap s.heap
 loc:∃m,s.heap.Ns X.env.locals m∧∀(i:Nat) (x:Str) (v:V),X.N[i]?=some x→σ[i]?=some (some v)→jr X.env.scope x→∃u,RelV v u∧Look X.env s.heap m x u
 cell:∀x c,X.env.cells.lookup x=some c→∃v,s.heap.IsCell c v
 free:H X.env.locals=none
 cA:∀x c,X.env.cells.lookup x=some c→H c=none
 pin:∀p∈X.pn++pins,s.heap.get? p.1=some p.2∧H p.1=none∧p.1≠X.env.locals∧p.1∉X.fs∧∀v,p.2.data≠.cell v
 aq:a9 X.prog X.w H s.heap
 len:σ.length=X.N.length
section
variable {X:Cx} {pins:List (Addr×Obj)} {σ:List (Option V)} {H H':Hp} {s:Shared} {h':Heap}
theorem Cx.Ok.xm(ok:X.Ok){b:Addr}{o:Obj}(e:X.base.get? b=some o):b∉X.fs:=fun hb=>by
 have:=(ok.cJ.mem hb).1
 rw [e] at this;cases this
theorem Inv.bs(I:Inv X pins σ H s):∀b o,X.base.get? b=some o→s.heap.get? b=some o∧H b=none:=fun b o e=>
 ⟨I.base.keep b o (I.ok.bs b o e).1 (I.ok.bs b o e).2 (I.ok.xm e) (I.ok.fJ b o e),I.base.free b o (I.ok.bs b o e).1 (I.ok.bs b o e).2 (I.ok.fJ b o e)⟩
theorem Inv.bk(I:Inv X pins σ H s):∀b o,X.base.get? b=some o→s.heap.get? b=some o:=fun b o e=>(I.bs b o e).1
theorem Inv.mod(I:Inv X pins σ H s):Mod X.K X.mg X.base:=I.ok.mod
theorem Inv.aX(I:Inv X pins σ H s):X.K.In s.heap:=I.ok.mod.aU.keeps I.bk
theorem Inv.lt(I:Inv X pins σ H s):X.env.locals<s.heap.objs.size:=let ⟨_,hn,_⟩:=I.loc;hn.lt
theorem Inv.sz(I:Inv X pins σ H s):X.s₀.heap.objs.size≤s.heap.objs.size:=Nat.le_trans I.ok.above (Nat.le_of_lt I.lt)
theorem Inv.xn(I:Inv X pins σ H s){a:Addr}(h:s.heap.objs.size≤a):a∉X.fs:=fun hb=>by
 obtain ⟨_,o,ho,_⟩:=I.ok.cJ.mem hb
 exact absurd (Nat.lt_of_lt_of_le (Heap.lt_size ho) (Nat.le_trans I.sz h)) (Nat.lt_irrefl _)
theorem Inv.dy(I:Inv X pins σ H s):∀x c,X.env.cells.lookup x=some c→c≠X.env.locals:=fun x c e z=>by
 obtain ⟨v,o,ho,hd⟩:=I.cell x c e
 obtain ⟨m,⟨o',es,ep,eB,mV,_⟩,_⟩:=I.loc
 rw [z,eB] at ho;cases ho;rw [mV] at hd;cases hd
theorem Inv.cJ(I:Inv X pins σ H s):s.heap.FunFrames X.base X.outer:=by
 have all:∀(l:List Env),(∀b∈aV l,b∈X.fs)→X.s₀.heap.FunFrames X.base l→s.heap.FunFrames X.base l:=by
  intro l
  induction l with
  | nil=>intro _ _;trivial
  | cons env r ih=>
   intro hs hl
   obtain ⟨hk,⟨L,o,hf,hn,ho,hd⟩,hr⟩:=hl
   have hL:L∈X.fs:=hs L (by unfold aV;rw [List.filterMap_cons,hf];exact List.mem_cons_self)
   obtain ⟨sl,e⟩:=I.base.slot L o ho (I.ok.dU L hL) hL fun z=>I.ok.fK L z hL
   exact ⟨hk,⟨L,_,hf,hn,e,hd⟩,ih (fun b hb=>hs b (by unfold aV;rw [List.filterMap_cons,hf];exact List.mem_cons_of_mem _ hb)) hr⟩
 exact all X.outer (fun _ hb=>hb) I.ok.cJ
theorem Inv.stack(I:Inv X pins σ H s):s.heap.FunFrames X.base X.stack:=by
 rcases I.ok.cz with e | ⟨e,hf⟩
 ·rw [e];exact I.cJ
 ·rw [e]
  obtain ⟨m,hn,_⟩:=I.loc
  refine .cons (by rw [I.ok.kind];decide) hf hn ?_ I.cJ
  exact Heap.get?_none_of_le (Nat.le_trans I.ok.cW I.ok.above)
theorem Inv.kn(I:Inv X pins σ H s):∀b∈aV X.stack,b∈X.env.locals::X.fs:=fun b hb=>by
 rcases I.ok.cz with e | ⟨e,hf⟩
 ·rw [e] at hb;exact List.mem_cons_of_mem _ hb
 ·rw [e] at hb
  unfold aV at hb
  rw [List.filterMap_cons,hf] at hb
  exact hb
theorem Inv.ko(I:Inv X pins σ H s):∀b∈aV X.stack,H b=none:=fun b hb=>by
 rcases List.mem_cons.mp (I.kn b hb) with e | hb
 ·rw [e];exact I.free
 ·obtain ⟨_,o,ho,_⟩:=I.ok.cJ.mem hb
  exact I.base.free b o ho (I.ok.dU b hb) fun z=>I.ok.fK b z hb
theorem Inv.step{g':Array GenState}{t':Nat}{d':Drawn}{ch:List Addr}(I:Inv X pins σ H s)
  (dW:∀b∈ch,(b∈X.ex∨X.s₀.heap.objs.size≤b)∧b≠X.env.locals∧(∀x c,X.env.cells.lookup x=some c→c≠b)∧∀p∈X.pn++pins,p.1≠b)
  (keep:∀b o,b≠X.env.locals→b∉X.fs→b∉ch→s.heap.get? b=some o→H b=none→h'.get? b=some o)
  (slot:∀b o,b≠X.env.locals→b∈X.fs→b∉ch→s.heap.get? b=some o→H b=none→∃sl,h'.get? b=some {o with slots:=sl}) (free:∀b o,b∉ch→s.heap.get? b=some o→H b=none→H' b=none)
  (there:∀b o,b∉ch→s.heap.get? b=some o→∃o',h'.get? b=some o')
  (bM:∀b xs,H b=some (.tup xs)→H' b=some (.tup xs)) (bE:∀b o u,H b=some (.bU o u)→H' b=some (.bU o u)) (bN:∀b ps,H b=some (.dQ ps)→∃more,H' b=some (.dQ (ps++more)))
  (ns:∀m,s.heap.Ns X.env.locals m→h'.Ns X.env.locals m) (aq:a9 X.prog X.w H' h') (hg:AllBare g') :
  Inv X pins σ H' {s with heap:=h',gens:=g',drawn:=d',toks:=t'}:=by
 have qY:∀b o,X.s₀.heap.get? b=some o→b≠X.env.locals:=fun b o e=>Nat.ne_of_lt (Nat.lt_of_lt_of_le (Heap.lt_size e) I.ok.above)
 have kq:∀b o,X.s₀.heap.get? b=some o→b∉X.ex→b∉ch:=fun b o e hx hb=>by
  rcases (dW b hb).1 with z | z
  ·exact hx z
  ·exact absurd (Nat.lt_of_lt_of_le (Heap.lt_size e) z) (Nat.lt_irrefl _)
 have cellK:∀x c,X.env.cells.lookup x=some c→∀v,s.heap.IsCell c v→h'.IsCell c v:=fun x c e v ⟨o,ho,hd⟩=>by
  have ju:c∉ch:=fun z=>(dW c z).2.2.1 x c e rfl
  by_cases hc:c∈X.fs
  ·obtain ⟨sl,q⟩:=slot c o (I.dy x c e) hc ju ho (I.cA x c e)
   exact ⟨_,q,hd⟩
  ·exact ⟨o,keep c o (I.dy x c e) hc ju ho (I.cA x c e),hd⟩
 refine ⟨I.ok,I.os,hg,⟨fun b o e n hb hx=>?_,fun b o e n hb hx=>?_,fun b o e n hx=>?_,fun b o e hx=>?_,fun b xs e=>bM b xs (I.base.bM b xs e),fun b o xs e=>bE b o xs (I.base.bE b o xs e),fun b ps e=>?_⟩,?_,fun x c e=>?_,?_,fun x c e=>?_,fun p hp=>?_,aq,I.len⟩
 ·exact keep b o (qY b o e) hb (kq b o e hx) (I.base.keep b o e n hb hx) (I.base.free b o e n hx)
 ·obtain ⟨sl,e1⟩:=I.base.slot b o e n hb hx
  obtain ⟨xo,e2⟩:=slot b _ (qY b o e) hb (kq b o e hx) e1 (I.base.free b o e n hx)
  exact ⟨xo,e2⟩
 ·obtain ⟨o',e1⟩:=I.base.there b o e hx
  exact free b o' (kq b o e hx) e1 (I.base.free b o e n hx)
 ·obtain ⟨o',e1⟩:=I.base.there b o e hx
  exact there b o' (kq b o e hx) e1
 ·obtain ⟨m1,e1⟩:=I.base.bN b ps e
  obtain ⟨m2,e2⟩:=bN b _ e1
  exact ⟨m1++m2,by rw [e2,Array.append_assoc]⟩
 ·obtain ⟨m,hn,hl⟩:=I.loc
  refine ⟨m,ns m hn,fun i x v e1 e2 e3=>?_⟩
  obtain ⟨u,r,l⟩:=hl i x v e1 e2 e3
  refine ⟨u,r,?_⟩
  rcases l with l | ⟨k,c,e,z⟩
  ·exact .inl l
  ·exact .inr ⟨k,c,e,cellK x c e _ z⟩
 ·obtain ⟨v,z⟩:=I.cell x c e
  exact ⟨v,cellK x c e v z⟩
 ·obtain ⟨m,⟨o,_,_,ho,_⟩,_⟩:=I.loc
  exact free _ o (fun z=>(dW _ z).2.1 rfl) ho I.free
 ·obtain ⟨v,o,ho,hd⟩:=I.cell x c e
  exact free c o (fun z=>(dW c z).2.2.1 x c e rfl) ho (I.cA x c e)
 ·obtain ⟨e,n,ne,nf,d⟩:=I.pin p hp
  have ju:p.1∉ch:=fun z=>(dW p.1 z).2.2.2 p hp rfl
  exact ⟨keep p.1 p.2 ne nf ju e n,free p.1 p.2 ju e n,ne,nf,d⟩
theorem Inv.un{t':Nat}(I:Inv X pins σ H s)(u:Un X.fs [] H H' s.heap h')(aq:a9 X.prog X.w H' h'):Inv X pins σ H' {s with heap:=h',toks:=t'}:=by
 obtain ⟨m,⟨o,es,ep,ho,r⟩,_⟩:=id I.loc
 obtain ⟨sl,hL⟩:=u.any ho I.free (by simp)
 exact I.step (g':=s.gens) (d':=s.drawn) (ch:=[]) (fun _ z=>nomatch z) (fun b o _ hb _ e n=>u.keep b o e n hb (by simp)) (fun b o _ hb _ e n=>u.slot b o e n hb (by simp)) (fun b o _ e n=>u.free b o e n (by simp)) (fun b o _ e=>u.there b o e (by simp)) u.bM u.bE u.bN (fun m' hm=>by
  obtain ⟨o',mW,fL,eB,r'⟩:=hm
  rw [ho] at eB;cases eB
  exact ⟨_,mW,fL,hL,r'⟩) aq I.bare
theorem Inv.call{g':Array GenState}{t':Nat}{d':Drawn}{ch:List Addr}(I:Inv X pins σ H s)(u:Un (aV X.stack) ch H H' s.heap h')(aq:a9 X.prog X.w H' h')(hg:AllBare g')
  (dW:∀b∈ch,(b∈X.ex∨X.s₀.heap.objs.size≤b)∧b≠X.env.locals∧(∀x c,X.env.cells.lookup x=some c→c≠b)∧∀p∈X.pn++pins,p.1≠b) :
  Inv X pins σ H' {s with heap:=h',gens:=g',drawn:=d',toks:=t'}:=by
 obtain ⟨m,⟨o,es,ep,ho,r⟩,_⟩:=id I.loc
 obtain ⟨sl,hL⟩:=u.any ho I.free fun z=>(dW _ z).2.1 rfl
 exact I.step (ch:=ch) dW (fun b o hL hb hc e n=>u.keep b o e n (fun z=>(List.mem_cons.mp (I.kn b z)).elim hL hb) hc) (fun b o _ _ hc e n=>u.any e n hc) (fun b o hc e n=>u.free b o e n hc) (fun b o hc e=>u.there b o e hc) u.bM u.bE u.bN (fun m' hm=>by
  obtain ⟨o',mW,fL,eB,r'⟩:=hm
  rw [ho] at eB;cases eB
  exact ⟨_,mW,fL,hL,r'⟩) aq hg
theorem Inv.turned{t':Nat}{it:Addr}(I:Inv X pins σ H s)(k:∀b o,b≠it→s.heap.get? b=some o→h'.get? b=some o)(hn:H it=none)(hL:it≠X.env.locals)
  (h1:it∈X.ex∨X.s₀.heap.objs.size≤it) (h2:∀x c,X.env.cells.lookup x=some c→c≠it) (h3:∀p∈X.pn++pins,p.1≠it):Inv X pins σ H {s with heap:=h',toks:=t'}:=by
 have qZ:∀b u,H b=some u→b≠it:=fun b u e z=>by rw [z,hn] at e;cases e
 refine I.step (g':=s.gens) (d':=s.drawn) (ch:=[it]) (fun b hb=>?_) (fun b o _ _ hc e _=>k b o (fun z=>hc (by simp [z])) e) (fun b o _ _ hc e _=>⟨o.slots,k b o (fun z=>hc (by simp [z])) e⟩) (fun _ _ _ _ n=>n)
  (fun b o hc e=>⟨o,k b o (fun z=>hc (by simp [z])) e⟩) (fun _ _ e=>e) (fun _ _ _ e=>e) (fun b ps e=>⟨#[],by rw [e];simp⟩) (fun m hm=>?_) (fun b u e=>?_) I.bare
 ·have e:b=it:=by simpa using hb
  subst e
  exact ⟨h1,hL,h2,h3⟩
 ·obtain ⟨o,es,ep,ho,r⟩:=hm
  exact ⟨o,es,ep,k _ o (Ne.symm hL) ho,r⟩
 ·refine (I.aq b u e).dR (fun c v hc q=>k c v ?_ q) (fun _ q=>q) fun _ _ q=>q
  rcases hc with z | z
  ·rw [z];exact qZ b u e
  ·exact qZ c _ z
theorem Inv.tok(I:Inv X pins σ H s)(t:Nat):Inv X pins σ H {s with toks:=t}:=I.un (h':=s.heap) (t':=t) Un.refl I.aq
theorem Inv.kept{t':Nat}(I:Inv X pins σ H s)(k:∀b u,s.heap.get? b=some u→h'.get? b=some u):Inv X pins σ H {s with heap:=h',toks:=t'}:=I.un (Un.kept k) (I.aq.kept k)
theorem Inv.laid{a:Addr}{o:HO}{t':Nat}(I:Inv X pins σ H s)(k:∀b u,s.heap.get? b=some u→h'.get? b=some u)(hp:s.heap.objs.size≤a)(new:aQ X.prog X.w (upd H a o) h' a o) :
  Inv X pins σ (upd H a o) {s with heap:=h',toks:=t'}:=I.un (Un.laid k hp (I.aq.fresh hp)) (I.aq.laid k hp new)
theorem Inv.write{x e:Addr}{o:HO}{t':Nat}(I:Inv X pins σ H s)(mu:kj (H x))(he:e=x∨H e=some (.own x))(k:∀b u,b≠e→s.heap.get? b=some u→h'.get? b=some u)(g9:∃u,h'.get? e=some u)
  (new:aQ X.prog X.w (upd H x o) h' x o):Inv X pins σ (upd H x o) {s with heap:=h',toks:=t'}:=I.un (Un.write mu he k g9) (I.aq.write mu he k g9 new)
theorem Inv.q5{q8:List (Addr×Obj)}(I:Inv X pins σ H s)(h:∀p∈q8,s.heap.get? p.1=some p.2∧H p.1=none∧p.1≠X.env.locals∧p.1∉X.fs∧∀v,p.2.data≠.cell v):Inv X q8 σ H s:=
 ⟨I.ok,I.os,I.bare,I.base,I.loc,I.cell,I.free,I.cA,fun p hp=>(List.mem_append.mp hp).elim (fun z=>I.pin p (List.mem_append_left _ z)) (h p),I.aq,I.len⟩
theorem mX{N:List Str}(hN:N.Nodup){i j:Nat}{x:Str}(a:N[i]?=some x)(b:N[j]?=some x):i=j:=by
 obtain ⟨h1,e1⟩:=List.getElem?_eq_some_iff.mp a
 obtain ⟨h2,e2⟩:=List.getElem?_eq_some_iff.mp b
 exact (List.getElem_inj hN).mp (e1.trans e2.symm)
theorem q_{M:Model}{A:Around}{E:Value→Shared→Prop}{i:Nat}{x:Str}{v:V}{u:Value}{Q:Unit→Shared→Prop}(I:Inv X pins σ H s)(hN:X.N.Nodup)(hi:X.N[i]?=some x)(hx:Loc X.env.scope x)(r:RelV v u)
  (h:∀s',Inv X pins (σ.set i (some v)) H s'→(∃a,Heap.SameBut a s.heap s'.heap∧(a=X.env.locals∨X.env.cells.lookup x=some a))→Q () s') (hf:X.fn x=true∨X.env.scope.names.lookup x=some .local:=by first | exact .inl rfl | exact .inr rfl | assumption):wpAny M A (storeName X.env x u) Q E s:=by
 obtain ⟨m,hn,hl⟩:=id I.loc
 have mY:(X.env.scope.kind == .class || (X.env.scope.kind == .module && X.env.locals != X.env.globals))=false:=by rw [I.ok.kind];rfl
 have kr:i<σ.length:=by rw [I.len];exact (List.getElem?_eq_some_iff.mp hi).1
 have dy:=I.dy
 have tracked:∀{a:Addr} {h':Heap},(∃o,s.heap.get? a=some o∧H a=none)→Heap.SameBut a s.heap h'→a9 X.prog X.w H h':=fun{a h'} ha hs b ob e=>by
  obtain ⟨_,_,rd⟩:=ha
  refine (I.aq b ob e).dR (fun c w' hc q=>(hs.2 c ?_).trans q) (fun _ q=>q) fun _ _ q=>q
  rintro rfl
  rcases hc with rfl | hc
  ·rw [rd] at e;cases e
  ·rw [rd] at hc;cases hc
 rcases hx with hk | hk
 ·refine wpAny_storeName_local hk hn (fun h' mZ hs=>?_) mY
  obtain ⟨oL,_,_,xp,_⟩:=id hn
  refine h _ ⟨I.ok,I.os,I.bare,⟨fun b o e n hb hx=>?_,fun b o e n hb hx=>?_,I.base.free,fun b o e hx=>?_,I.base.bM,I.base.bE,I.base.bN⟩,⟨_,mZ,fun j y v' e1 e2 e3=>?_⟩,fun y c e=>?_,I.free,I.cA,fun p hp=>?_,tracked ⟨oL,xp,I.free⟩ hs,by simpa using I.len⟩ ⟨_,hs,.inl rfl⟩
  ·exact (hs.2 b (Nat.ne_of_lt (Nat.lt_of_lt_of_le (Heap.lt_size e) I.ok.above))).trans (I.base.keep b o e n hb hx)
  ·obtain ⟨sl,e1⟩:=I.base.slot b o e n hb hx
   exact ⟨sl,(hs.2 b (Nat.ne_of_lt (Nat.lt_of_lt_of_le (Heap.lt_size e) I.ok.above))).trans e1⟩
  ·obtain ⟨o',e1⟩:=I.base.there b o e hx
   exact ⟨o',(hs.2 b (Nat.ne_of_lt (Nat.lt_of_lt_of_le (Heap.lt_size e) I.ok.above))).trans e1⟩
  ·by_cases hj:j=i
   ·subst hj
    rw [hi] at e1;cases e1
    rw [List.getElem?_set_self kr] at e2
    cases e2
    exact ⟨u,r,.inl ⟨hk,by simp⟩⟩
   ·rw [List.getElem?_set_ne (Ne.symm hj)] at e2
    obtain ⟨u',r',q⟩:=hl j y v' e1 e2 e3
    refine ⟨u',r',?_⟩
    rcases q with ⟨k,e⟩ | ⟨k,c,e,z⟩
    ·refine .inl ⟨k,?_⟩
     have:y≠x:=fun e=>hj (mX hN e1 (e▸hi))
     simp [this,e]
    ·exact .inr ⟨k,c,e,z.sameBut hs (dy y c e)⟩
  ·obtain ⟨w',z⟩:=I.cell y c e
   exact ⟨w',z.sameBut hs (dy y c e)⟩
  ·obtain ⟨e,n,ne,nf,d⟩:=I.pin p hp
   exact ⟨(hs.2 p.1 ne).trans e,n,ne,nf,d⟩
 ·have m4:X.fn x=true:=by
   rcases hf with z | z
   ·exact z
   ·rw [z] at hk;cases hk
  obtain ⟨c,hc⟩:=I.ok.has x (.inl hk)
  obtain ⟨w',z⟩:=I.cell x c hc
  refine wpAny_storeName_cell I.ok.kind hk hc z (fun h' rf hs=>?_)
  obtain ⟨oc,rg,xq⟩:=id z
  refine h {s with heap:=h'} ⟨I.ok,I.os,I.bare,⟨fun b o e n hb hx=>?_,fun b o e n hb hx=>?_,I.base.free,fun b o e hx=>?_,I.base.bM,I.base.bE,I.base.bN⟩,⟨m,hn.sameBut hs (Ne.symm (dy x c hc)),fun j y v' e1 e2 e3=>?_⟩,fun y c' e=>?_,I.free,I.cA,fun p hp=>?_,tracked ⟨oc,rg,I.cA x c hc⟩ hs,by simpa using I.len⟩ ⟨c,hs,.inr hc⟩
  ·exact (hs.2 b (Nat.ne_of_lt (Nat.lt_of_lt_of_le (Heap.lt_size e) (I.ok.g_ x c m4 hc)))).trans (I.base.keep b o e n hb hx)
  ·obtain ⟨sl,e1⟩:=I.base.slot b o e n hb hx
   exact ⟨sl,(hs.2 b (Nat.ne_of_lt (Nat.lt_of_lt_of_le (Heap.lt_size e) (I.ok.g_ x c m4 hc)))).trans e1⟩
  ·obtain ⟨o',e1⟩:=I.base.there b o e hx
   exact ⟨o',(hs.2 b (Nat.ne_of_lt (Nat.lt_of_lt_of_le (Heap.lt_size e) (I.ok.g_ x c m4 hc)))).trans e1⟩
  ·by_cases hj:j=i
   ·subst hj
    rw [hi] at e1;cases e1
    rw [List.getElem?_set_self kr] at e2
    cases e2
    exact ⟨u,r,.inr ⟨.inl hk,c,hc,rf⟩⟩
   ·rw [List.getElem?_set_ne (Ne.symm hj)] at e2
    obtain ⟨u',r',q⟩:=hl j y v' e1 e2 e3
    refine ⟨u',r',?_⟩
    rcases q with q | ⟨k,c',e,z'⟩
    ·exact .inl q
    ·refine .inr ⟨k,c',e,z'.sameBut hs ?_⟩
     rintro rfl
     exact hj (mX hN e1 (I.ok.inj _ _ _ e hc▸hi))
  ·by_cases rh:c'=c
   ·subst rh;exact ⟨_,rf⟩
   ·obtain ⟨w2,z2⟩:=I.cell y c' e
    exact ⟨w2,z2.sameBut hs rh⟩
  ·obtain ⟨e,n,ne,nf,d⟩:=I.pin p hp
   refine ⟨(hs.2 p.1 ?_).trans e,n,ne,nf,d⟩
   intro q
   rw [q,rg] at e
   have q':oc=p.2:=Option.some.inj e
   exact d w' (by rw [←q'];exact xq)
theorem ku{M:Model}{A:Around}{E:Value→Shared→Prop}{i:Nat}{x:Str}{v:V}{u:Value}{Q:Unit→Shared→Prop}(I:Inv X pins σ H s)(hN:X.N.Nodup)(hi:X.N[i]?=some x)(hx:Loc X.env.scope x)(r:RelV v u)
  (h:∀s',Inv X pins (σ.set i (some v)) H s'→Q () s') (hf:X.fn x=true∨X.env.scope.names.lookup x=some .local:=by first | exact .inl rfl | exact .inr rfl | assumption):wpAny M A (storeName X.env x u) Q E s:=
 q_ I hN hi hx r (fun s' I' _=>h s' I') hf
theorem Inv.jv{s':Shared}{ch:List Addr}(I:Inv X pins σ H s)(ho:s'.os=s.os)(u:Un (aV X.stack) ch H H' s.heap s'.heap)(aq:a9 X.prog X.w H' s'.heap)(hg:AllBare s'.gens)
  (dW:∀b∈ch,(b∈X.ex∨X.s₀.heap.objs.size≤b)∧b≠X.env.locals∧(∀x c,X.env.cells.lookup x=some c→c≠b)∧∀p∈X.pn++pins,p.1≠b):Inv X pins σ H' s':=by
 obtain ⟨h',g',d',t',o'⟩:=s'
 have e:o'=s.os:=ho
 subst e
 exact I.call (g':=g') (t':=t') (d':=d') u aq hg dW
end
abbrev XK:=Value→Option Addr→Hp→Prop
abbrev St:=List (Option V)
abbrev VK:=V→Hp→Prop
abbrev TE:=St→Hp→VK→Prop
abbrev TT:=St→Hp→(Bool→Hp→Prop)→Prop
abbrev TA:=St→Hp→(List V→Hp→Prop)→Prop
structure Ends where
 nx:St→Hp→Prop
 rt:VK
 bk:St→Hp→Prop:=fun _ _=>False
 ct:St→Hp→Prop:=fun _ _=>False
abbrev TS:=Ends→St→Hp→Prop
def EP(X:Cx)(pins:List (Addr×Obj))(σ:St)(Q:VK)(u:Value)(s':Shared):Prop:=∃v H',Inv X pins σ H' s'∧RelV v u∧Q v H'
def TP(X:Cx)(pins:List (Addr×Obj))(σ:St)(Q:Bool→Hp→Prop)(b:Bool)(s':Shared):Prop:=∃H',Inv X pins σ H' s'∧Q b H'
def AP(X:Cx)(pins:List (Addr×Obj))(σ:St)(Q:List V→Hp→Prop)(us:List Value)(s':Shared):Prop:=∃vs H',Inv X pins σ H' s'∧Vals vs us∧Q vs H'
def SP(X:Cx)(pins:List (Addr×Obj))(D:Ends)(f:Flow)(s':Shared):Prop:=
 match f with
 | .next=>∃σ' H',Inv X pins σ' H' s'∧D.nx σ' H'
 | .brk=>∃σ' H',Inv X pins σ' H' s'∧D.bk σ' H'
 | .cont=>∃σ' H',Inv X pins σ' H' s'∧D.ct σ' H'
 | .ret u=>∃v σ' H',Inv X pins σ' H' s'∧RelV v u∧D.rt v H'
def PE(X:Cx)(e:Expr)(t:TE):Prop:=
 ∀(pins:List (Addr×Obj)) (s:Shared) (σ:St) (H:Hp) (Q:VK),Inv X pins σ H s→t σ H Q→wpAny (model X.prog X.w) X.A (eval e X.env) (EP X pins σ Q) X.xe s
def PT(X:Cx)(e:Expr)(t:TT):Prop:=
 ∀(pins:List (Addr×Obj)) (s:Shared) (σ:St) (H:Hp) (Q:Bool→Hp→Prop),Inv X pins σ H s→t σ H Q→wpAny (model X.prog X.w) X.A (isTrue e X.env (eval e X.env)) (TP X pins σ Q) X.xe s
def PW(X:Cx)(e:Expr)(t:TT):Prop:=
 ∀(whole:Sem Value) (pins:List (Addr×Obj)) (s:Shared) (σ:St) (H:Hp) (Q:Bool→Hp→Prop),Inv X pins σ H s→t σ H Q→wpAny (model X.prog X.w) X.A (isTrue e X.env whole) (TP X pins σ Q) X.xe s
theorem PW.pt{X:Cx}{e:Expr}{t:TT}(h:PW X e t):PT X e t:=h _
def PA(X:Cx)(es:List Expr)(t:TA):Prop:=
 ∀(pos:Pos) (pins:List (Addr×Obj)) (s:Shared) (σ:St) (H:Hp) (Q:List V→Hp→Prop),Inv X pins σ H s→t σ H Q→wpAny (model X.prog X.w) X.A (spliced (backTo pos (starEach es X.env))) (AP X pins σ Q) X.xe s
def PS(X:Cx)(st:Stmt)(t:TS):Prop:=
 ∀(pins:List (Addr×Obj)) (s:Shared) (σ:St) (H:Hp) (D:Ends),Inv X pins σ H s→t D σ H→wpAny (model X.prog X.w) X.A (exec st X.env) (SP X pins D) X.xe s
def bF(X:Cx)(st:List Stmt)(t:TS):Prop:=
 ∀(pins:List (Addr×Obj)) (s:Shared) (σ:St) (H:Hp) (D:Ends),Inv X pins σ H s→t D σ H→wpAny (model X.prog X.w) X.A (execs st X.env) (SP X pins D) X.xe s
theorem aw{α:Type}{t:Sem α}{Q Q':α→Shared→Prop}{M:Model}{A:Around}{E:Value→Shared→Prop}{s:Shared}(h:wpAny M A t Q E s)(hQ:∀a s,Q a s→Q' a s):wpAny M A t Q' E s:=wpAny_mono h hQ fun _ _ x=>x
section
variable {X:Cx}
theorem bin{a b:Expr}{ta tb:TE}(ha:PE X a ta)(hb:PE X b tb){pins:List (Addr×Obj)}{s:Shared}{σ:St}{H:Hp}{R:V→V→Hp→Prop}(I:Inv X pins σ H s)(h:ta σ H fun x H1=>tb σ H1 fun y H2=>R x y H2)
  {α:Type} {Q:α→Shared→Prop} {f:Value→Value→Sem α}
  (hf:∀v u s2 x y H2,Inv X pins σ H2 s2→RelV x v→RelV y u→R x y H2→wpAny (model X.prog X.w) X.A (f v u) Q X.xe s2) :
  wpAny (model X.prog X.w) X.A (eval a X.env) (fun v s₁=>wpAny (model X.prog X.w) X.A (eval b X.env) (fun u s₂=>wpAny (model X.prog X.w) X.A (f v u) Q X.xe s₂) X.xe s₁) X.xe s:=by
 refine aw (ha pins s σ H _ I h) fun v s1 ⟨x,H1,I1,r1,q1⟩=>?_
 refine aw (hb pins s1 σ H1 _ I1 q1) fun u s2 ⟨y,H2,I2,r2,q2⟩=>?_
 exact hf v u s2 x y H2 I2 r1 r2 q2
def rj(i:Nat):TE:=fun σ H Q=>∃v,σ[i]?=some (some v)∧Q v H
def tC(v:V):TE:=fun _ H Q=>Q v H
theorem xr{i:Nat}{x:Str}{pos:Pos}(hN:X.N[i]?=some x)(hv:jr X.env.scope x)(hd:(x == ("__debug__":Str))=false:=by decide)(bO:(x == ("__classdict__":Str))=false:=by decide):PE X (.Name x pos) (rj i):=by
 intro pins s σ H Q I h
 obtain ⟨v,e,h⟩:=h
 obtain ⟨m,hn,hl⟩:=I.loc
 obtain ⟨u,r,l⟩:=hl i x v hN e hv
 have fin:EP X pins σ Q u s:=⟨v,H,I,r,h⟩
 rcases l with ⟨hk,hm⟩ | ⟨hk,c,hc,kx⟩
 ·exact wpAny_Name (wpAny_loadName_local I.ok.kind hk hn hm fin) hd
 ·rcases hk with hk | hk
  ·exact wpAny_Name (wpAny_loadName_cell I.ok.kind hk hc kx fin) hd
  ·exact wpAny_Name (wpAny_loadName_free I.ok.kind hk hc kx fin bO) hd
theorem aj{i j pos}:PE X (.Constant (.int i) j pos) (tC (.int i)):=fun _ _ _ H _ I h=>wpAny_Constant_int ⟨.int i,H,I.tok _,⟨_,rfl⟩,h⟩
theorem fM{b j pos}:PE X (.Constant (.bool b) j pos) (tC (.bl b)):=fun _ _ _ H _ I h=>Constant_bool ⟨.bl b,H,I,rfl,h⟩
theorem rk{j pos}:PE X (.Constant .none j pos) (tC .ay):=fun _ _ _ H _ I h=>Constant_none ⟨.ay,H,I,rfl,h⟩
theorem cB{x j pos}:PE X (.Constant (.str x) j pos) (tC (.str x)):=fun _ _ _ H _ I h=>Calls.Constant_str ⟨.str x,H,I.tok _,⟨_,rfl⟩,h⟩
def Gl(X:Cx)(x:Str):Prop:=X.env.kindOf x=some .globalImplicit
theorem hE{E:Value→Shared→Prop}{pins:List (Addr×Obj)}{s:Shared}{σ:St}{H:Hp}{x:Str}{u:Value}{pos:Pos}{Q:Value→Shared→Prop}(I:Inv X pins σ H s)(hg:Gl X x)(hm:X.mg x=some u)(h:Q u s)
  (hd:(x == ("__debug__":Str))=false:=by decide):wpAny (model X.prog X.w) X.A (eval (.Name x pos) X.env) Q E s:=
 Calls.Name_function_global I.ok.kind hg (Calls.loadGlobal_global (by rw [I.ok.glob];exact I.mod.glob.keeps I.bk) hm h) hd
theorem jw{E:Value→Shared→Prop}{pins:List (Addr×Obj)}{s:Shared}{σ:St}{H:Hp}{x:Str}{u:Value}{pos:Pos}{Q:Value→Shared→Prop}(I:Inv X pins σ H s)(hg:Gl X x)(hm:X.mg x=none)(hv:bootBuiltins x=some u)(h:Q u s)
  (hn:x ≠ "__name__":=by decide) (hd:(x == ("__debug__":Str))=false:=by decide):wpAny (model X.prog X.w) X.A (eval (.Name x pos) X.env) Q E s:=by
 obtain ⟨mb,h1,h2⟩:=I.mod.blt
 exact Calls.Name_function_global I.ok.kind hg (Calls.loadGlobal_builtin (by rw [I.ok.glob];exact I.mod.glob.keeps I.bk) hm (by rw [I.ok.blt];exact h1.keeps I.bk) ((h2 x hn).trans hv) h) hd
theorem dX{x:Str}{v:V}{u:Value}{pos:Pos}(hg:Gl X x)(hm:X.mg x=some u)(r:RelV v u)(hd:(x == ("__debug__":Str))=false:=by decide):PE X (.Name x pos) (tC v):=
 fun _ _ _ H _ I h=>hE I hg hm ⟨v,H,I,r,h⟩ hd
theorem hI{x:Str}{v:V}{u:Value}{pos:Pos}(hg:Gl X x)(hm:X.mg x=none)(hv:bootBuiltins x=some u)(r:RelV v u)(hn:x ≠ "__name__":=by decide)(hd:(x == ("__debug__":Str))=false:=by decide):PE X (.Name x pos) (tC v):=
 fun _ _ _ H _ I h=>jw I hg hm hv ⟨v,H,I,r,h⟩ hn hd
variable {a b:Expr} {ta tb:TE} {pos:Pos}
def PC(X:Cx)(op:CmpOp)(a b:Expr)(t:TE):Prop:=
 ∀(pins:List (Addr×Obj)) (s:Shared) (σ:St) (H:Hp) (Q:VK),Inv X pins σ H s→t σ H Q→
  wpAny (model X.prog X.w) X.A (eval a X.env) (fun v s₁=>wpAny (model X.prog X.w) X.A (eval b X.env) (fun u s₂=>wpAny (model X.prog X.w) X.A (compareOp op v u) (EP X pins σ Q) X.xe s₂) X.xe s₁) X.xe s
def tB(t:TE):TT:=fun σ H Q=>t σ H fun x H1=>∃c,x=.bl c∧Q c H1
theorem GZ{op:CmpOp}{t:TE}(h:PC X op a b t)(h1:behindInMarks op b=false:=by first | exact G0 _ (by decide) (by decide) | rfl):PT X (.Compare a [op] [b] pos) (tB t):=by
 intro pins s σ H Q I hw
 refine wpAny_isTrue_Compare1 (aw (h pins s σ H _ I hw) fun v s1 h1=>aw h1 fun u s2 h2=>aw h2 fun c s3 ⟨x,H1,I1,r1,q1⟩=>?_) h1
 obtain ⟨d,rfl,q⟩:=q1
 cases r1
 exact wpAny_truthy_bool ⟨H1,I1,q⟩
theorem e8{e:Expr}{t:TE}(h:PE X e t)(he:∀whole,isTrue e X.env whole=(do let v ←whole;standAt e.pos;holding [v] (truthy v)):=by intro _;rfl):PT X e (tB t):=by
 intro pins s σ H Q I hw
 refine isTrue_plain (aw (h pins s σ H _ I hw) fun v s1 ⟨x,H1,I1,r1,q1⟩=>?_) (he _)
 obtain ⟨d,rfl,q⟩:=q1
 cases r1
 exact wpAny_truthy_bool ⟨H1,I1,q⟩
variable {tA rl:TT} {rest:List Expr}
def xt(t u:TT):TT:=fun σ H Q=>t σ H fun c H1=>if c=true then Q true H1 else u σ H1 Q
def xu(t:TT):TT:=fun σ H Q=>t σ H fun c H1=>Q (!c) H1
theorem pw_or1(ha:PT X a tA):PW X (.BoolOp .Or [a] pos) tA:=by
 intro wh pins s σ H Q I h
 refine isTrue_or (aw (ha pins s σ H Q I h) fun c s1 e=>?_)
 cases c with
 | false=>exact isTrue_or_nil e
 | true=>exact e
theorem pw_or(ha:PT X a tA)(hb:PW X (.BoolOp .Or (b::rest) pos) rl):PW X (.BoolOp .Or (a::b::rest) pos) (xt tA rl):=by
 intro wh pins s σ H Q I h
 refine isTrue_or (aw (ha pins s σ H _ I h) fun c s1 ⟨H1,I1,q1⟩=>?_)
 cases c with
 | true=>exact ⟨H1,I1,q1⟩
 | false=>exact hb wh pins s1 σ H1 Q I1 q1
theorem ky(ha:PT X a tA):PT X (.UnaryOp .Not a pos) (xu tA):=by
 intro pins s σ H Q I h
 exact isTrue_not (ha pins s σ H (fun c H1=>Q (!c) H1) I h)
def xv(ta tb:TE):TE:=fun σ H Q=>ta σ H fun x H1=>∃c,x=.bl c∧if c=true then tb σ H1 Q else Q (.bl false) H1
def xw(ta tb:TE):TE:=fun σ H Q=>ta σ H fun x H1=>∃c,x=.bl c∧if c=true then Q (.bl true) H1 else tb σ H1 Q
def xx(ta:TE):TE:=fun σ H Q=>ta σ H fun x H1=>∃c,x=.bl c∧Q (.bl (!c)) H1
theorem jx{op}{t:TE}(h:PE X a t):PE X (.BoolOp op [a] pos) t:=fun pins s σ H Q I hw=>BoolOp_one (h pins s σ H Q I hw)
theorem fN(ha:PE X a ta)(hb:PE X (.BoolOp .And (b::rest) pos) tb):PE X (.BoolOp .And (a::b::rest) pos) (xv ta tb):=by
 intro pins s σ H Q I h
 refine BoolOp_and (aw (ha pins s σ H _ I h) fun v s1 ⟨x,H1,I1,r1,q1⟩=>?_)
 obtain ⟨c,rfl,q1⟩:=q1
 cases r1
 refine wpAny_truthy_bool ?_
 cases c with
 | true=>exact hb pins s1 σ H1 Q I1 q1
 | false=>exact ⟨.bl false,H1,I1,rfl,q1⟩
theorem xy(ha:PE X a ta)(hb:PE X (.BoolOp .Or (b::rest) pos) tb):PE X (.BoolOp .Or (a::b::rest) pos) (xw ta tb):=by
 intro pins s σ H Q I h
 refine BoolOp_or (aw (ha pins s σ H _ I h) fun v s1 ⟨x,H1,I1,r1,q1⟩=>?_)
 obtain ⟨c,rfl,q1⟩:=q1
 cases r1
 refine wpAny_truthy_bool ?_
 cases c with
 | false=>exact hb pins s1 σ H1 Q I1 q1
 | true=>exact ⟨.bl true,H1,I1,rfl,q1⟩
theorem rn(ha:PE X a ta):PE X (.UnaryOp .Not a pos) (xx ta):=by
 intro pins s σ H Q I h
 refine UnaryOp_ (aw (ha pins s σ H _ I h) fun v s1 ⟨x,H1,I1,r1,q1⟩=>?_)
 obtain ⟨c,rfl,q1⟩:=q1
 cases r1
 exact not_of (wpAny_truthy_bool ⟨.bl (!c),H1,I1,rfl,q1⟩)
def xA(t:TT)(ta tb:TE):TE:=fun σ H Q=>t σ H fun c H1=>if c=true then ta σ H1 Q else tb σ H1 Q
theorem xB{c:Expr}(hc:PT X c tA)(ha:PE X a ta)(hb:PE X b tb):PE X (.IfExp c a b pos) (xA tA ta tb):=by
 intro pins s σ H Q I h
 refine wpAny_IfExp (aw (hc pins s σ H _ I h) fun d s1 ⟨H1,I1,q1⟩=>?_)
 cases d with
 | true=>exact ha pins s1 σ H1 Q I1 q1
 | false=>exact hb pins s1 σ H1 Q I1 q1
end
def aH(K:PySem.W.Frag)(H:Hp)(a:Addr)(xs:List V):Prop:=
 Rd H a (.lst xs) ∨
  ∃(o:Obj) (ai:Array Value) (n:Nat),K.lookup a=some o∧o.cls=.type "list"∧o.dict=none∧o.data=.seq ai n∧ai.size≤sizeLine∧Vals xs ai.toList
def bA(K:PySem.W.Frag)(H:Hp)(a:Addr)(xs:List V):Prop:=
 Rd H a (.tup xs) ∨
  ∃(o:Obj) (ai:Array Value) (n:Nat),K.lookup a=some o∧o.cls=.type "tuple"∧o.data=.seq ai n∧ai.size≤sizeLine∧Vals xs ai.toList
def xC:Value→Option V
 | .none=>some .ay
 | .bool b=>some (.bl b)
 | .int i _=>some (.int i)
 | .str x _=>some (.str x)
 | .bytes b _=>some (.cV b)
 | .float b _=>some (.fH b)
 | .ref a=>some (.ref a)
 | .type n=>some (.ty n)
 | _=>none
theorem RelV.abs{x:V}{u:Value}(r:RelV x u):xC u=some x:=by
 cases x with
 | ay=>cases r;rfl
 | bl _=>cases r;rfl
 | int _=>obtain ⟨t,rfl⟩:=r;rfl
 | str _=>obtain ⟨t,rfl⟩:=r;rfl
 | cV _=>obtain ⟨t,rfl⟩:=r;rfl
 | fH _=>obtain ⟨t,rfl⟩:=r;rfl
 | ref _=>cases r;rfl
 | ty _=>cases r;rfl
theorem RelV.inj{x y:V}{u:Value}(r:RelV x u)(q:RelV y u):x=y:=Option.some.inj (r.abs.symm.trans q.abs)
theorem Vals.inj:∀{xs ys:List V} {us:List Value},Vals xs us→Vals ys us→xs=ys
 | _,_,_,.nil,.nil=>rfl
 | _,_,_,.cons r t,.cons r' t'=>by rw [r.inj r',Vals.inj t t']
section
variable {X:Cx} {pins:List (Addr×Obj)} {σ:St} {H:Hp} {s:Shared} {a:Addr} {xs ys:List V}
theorem aH.of{K:PySem.W.Frag}(h:H a=some (.lst xs)):aH K H a xs:=.inl (.inl h)
theorem bA.of{K:PySem.W.Frag}(h:H a=some (.tup xs)):bA K H a xs:=.inl (.inl h)
theorem Inv.list(I:Inv X pins σ H s)(h:aH X.K H a xs):∃ai:List Value,Vals xs ai∧PlainL s.heap a ai.toArray∧xs.length≤sizeLine:=by
 rcases h with h | ⟨o,ai,n,hk,hc,hd,hs,hz,r⟩
 ·obtain ⟨z,ai,n,r,e⟩:=h.ok I.aq
  exact ⟨ai,r,⟨_,n,e,rfl,rfl,rfl⟩,z⟩
 ·refine ⟨ai.toList,r,⟨o,n,I.aX a o hk,hc,hd,by simpa using hs⟩,?_⟩
  have e:=r.length
  simp only [Array.length_toList] at e
  omega
theorem Inv.tuple(I:Inv X pins σ H s)(h:bA X.K H a xs):∃ai:List Value,Vals xs ai∧IsTup s.heap a ai.toArray∧xs.length≤sizeLine:=by
 rcases h with h | ⟨o,ai,n,hk,hc,hs,hz,r⟩
 ·obtain ⟨z,ai,r,p⟩:=h.ok I.aq
  exact ⟨ai,r,p,z⟩
 ·refine ⟨ai.toList,r,⟨o,I.aX a o hk,hc,n,by simpa using hs⟩,?_⟩
  have e:=r.length
  simp only [Array.length_toList] at e
  omega
theorem Inv.xD(I:Inv X pins σ H s)(h:aH X.K H a xs)(h':aH X.K H a ys):xs=ys:=by
 obtain ⟨ai,r,⟨o,n,e,_,_,d⟩,_⟩:=I.list h
 obtain ⟨its',r',⟨o',n',e',_,_,d'⟩,_⟩:=I.list h'
 rw [e] at e';cases e'
 rw [d] at d'
 injection d' with d1 _
 have:ai=its':=by simpa using congrArg Array.toList d1
 subst this
 exact r.inj r'
theorem Inv.xE(I:Inv X pins σ H s)(h:bA X.K H a xs)(h':bA X.K H a ys):xs=ys:=by
 obtain ⟨ai,r,⟨o,e,_,n,d⟩,_⟩:=I.tuple h
 obtain ⟨its',r',⟨o',e',_,n',d'⟩,_⟩:=I.tuple h'
 rw [e] at e';cases e'
 rw [d] at d'
 injection d' with d1 _
 have:ai=its':=by simpa using congrArg Array.toList d1
 subst this
 exact r.inj r'
end
abbrev Cx.dA (X:Cx) (E:Value→Shared→Prop):Cx:={X with xe:=E}
abbrev Cx.e9 (X:Cx):Cx:=X.dA fun _ _=>False
theorem Cx.Ok.dA{X:Cx}(ok:X.Ok)(E:Value→Shared→Prop):(X.dA E).Ok:=
 ⟨ok.mod,ok.kind,ok.glob,ok.blt,ok.above,ok.inj,ok.has,ok.g_,ok.hd,ok.frames,ok.cz,ok.mU,ok.bs,ok.cW,ok.fJ,ok.fK,ok.cJ,ok.dU⟩
theorem Cx.Ok.eE{X:Cx}{E:Value→Shared→Prop}(ok:(X.dA E).Ok):X.Ok:=
 ⟨ok.mod,ok.kind,ok.glob,ok.blt,ok.above,ok.inj,ok.has,ok.g_,ok.hd,ok.frames,ok.cz,ok.mU,ok.bs,ok.cW,ok.fJ,ok.fK,ok.cJ,ok.dU⟩
section
variable {X:Cx} {pins:List (Addr×Obj)} {σ:St} {H:Hp} {s:Shared} {E:Value→Shared→Prop}
theorem Inv.dA(I:Inv X pins σ H s)(E:Value→Shared→Prop):Inv (X.dA E) pins σ H s:=⟨I.ok.dA E,I.os,I.bare,I.base,I.loc,I.cell,I.free,I.cA,I.pin,I.aq,I.len⟩
theorem Inv.eE(I:Inv (X.dA E) pins σ H s):Inv X pins σ H s:=⟨I.ok.eE,I.os,I.bare,I.base,I.loc,I.cell,I.free,I.cA,I.pin,I.aq,I.len⟩
theorem SP.eE{D:Ends}{f:Flow}{s':Shared}(h:SP (X.dA E) pins D f s'):SP X pins D f s':=by
 cases f with
 | next=>obtain ⟨σ',H',I,q⟩:=h;exact ⟨σ',H',I.eE,q⟩
 | brk=>obtain ⟨σ',H',I,q⟩:=h;exact ⟨σ',H',I.eE,q⟩
 | cont=>obtain ⟨σ',H',I,q⟩:=h;exact ⟨σ',H',I.eE,q⟩
 | ret u=>obtain ⟨v,σ',H',I,r,q⟩:=h;exact ⟨v,σ',H',I.eE,r,q⟩
theorem bF.e9{st:List Stmt}{t:TS}(h:bF X.e9 st t):bF X st t:=fun pins s σ H D I hw=>
 wpAny_mono (h pins s σ H D (I.dA _) hw) (fun _ _ q=>q.eE) fun _ _ z=>False.elim z
end
section
variable {X:Cx} {st:Stmt} {rest:List Stmt} {t u:TS} {e:Expr} {te:TE} {pos:Pos}
def eF:TS:=fun D σ H=>D.nx σ H
def rp(t u:TS):TS:=fun D σ H=>t {D with nx:=u D} σ H
theorem bh:bF X [] eF:=fun _ _ σ H _ I h=>wpAny_execs_nil ⟨σ,H,I,h⟩
theorem au(h1:PS X st t)(h2:bF X rest u):bF X (st::rest) (rp t u):=by
 intro pins s σ H D I h
 refine wpAny_execs_cons (aw (h1 pins s σ H {D with nx:=u D} I h) fun f s1 q=>?_)
 cases f with
 | next=>
  obtain ⟨σ',H',I',q⟩:=q
  exact h2 pins s1 σ' H' D I' q
 | ret v=>exact q
 | brk=>exact q
 | cont=>exact q
theorem ax(h1:PS X st t):bF X [st] t:=by
 intro pins s σ H D I h
 refine wpAny_execs_cons (aw (h1 pins s σ H D I h) fun f s1 q=>?_)
 cases f with
 | next=>exact wpAny_execs_nil q
 | ret v=>exact q
 | brk=>exact q
 | cont=>exact q
theorem Inv.quiet{pins:List (Addr×Obj)}{σ:St}{H:Hp}{s:Shared}(I:Inv X pins σ H s):interactive X.env=false:=by simp [interactive,I.ok.kind]
def xF(te:TE):TS:=fun D σ H=>te σ H fun _ H1=>D.nx σ H1
theorem hJ(he:PE X e te)(hs:swapsWith e none pos.line X.env=pure false:=by rfl):PS X (.Expr e pos) (xF te):=by
 intro pins s σ H D I h
 exact wpAny_Expr_any (aw (he pins s σ H _ I h) fun v s1 ⟨x,H1,I1,r1,q1⟩=>⟨σ,H1,I1,q1⟩) I.quiet hs
def rq(te:TE):TS:=fun D σ H=>te σ H D.rt
theorem aO(he:PE X e te):PS X (.Return (some e) pos) (rq te):=by
 intro pins s σ H D I h
 exact wpAny_Return_some (aw (he pins s σ H _ I h) fun v s1 ⟨x,H1,I1,r1,q1⟩=>⟨x,σ,H1,I1,r1,q1⟩)
def kA(c:TT)(t u:TS):TS:=fun D σ H=>c σ H fun b H1=>if b=true then t D σ H1 else u D σ H1
theorem a_{c:Expr}{a b:List Stmt}{tc:TT}(hc:PT X c tc)(ha:bF X a t)(hb:bF X b u):PS X (.If c a b pos) (kA tc t u):=by
 intro pins s σ H D I h
 refine wpAny_If (aw (hc pins s σ H _ I h) fun d s1 ⟨H1,I1,q1⟩=>?_)
 cases d with
 | true=>exact ha pins s1 σ H1 D I1 q1
 | false=>exact hb pins s1 σ H1 D I1 q1
def xG:TS:=fun _ _ _=>False
theorem xH{xI:List Stmt}:bF X xI xG:=fun _ _ _ _ _ _ h=>h.elim
end
abbrev TG:=V→St→Hp→(St→Hp→Prop)→Prop
abbrev fO:=List V→St→Hp→(St→Hp→Prop)→Prop
def PG(X:Cx)(target:Expr)(t:TG):Prop:=
 ∀(pins:List (Addr×Obj)) (s:Shared) (σ:St) (H:Hp) (v:V) (u:Value) (Q:St→Hp→Prop),Inv X pins σ H s→RelV v u→t v σ H Q→
  wpAny (model X.prog X.w) X.A (assign target X.env u) (fun _ s'=>∃σ' H',Inv X pins σ' H' s'∧Q σ' H') X.xe s
def kB(X:Cx)(ts:List Expr)(t:fO):Prop:=
 ∀(pins:List (Addr×Obj)) (s:Shared) (σ:St) (H:Hp) (vs:List V) (us:List Value) (Q:St→Hp→Prop),Inv X pins σ H s→Vals vs us→t vs σ H Q→
  wpAny (model X.prog X.w) X.A (assignInOrder ((assignEach ts X.env).map (·.2)) us) (fun _ s'=>∃σ' H',Inv X pins σ' H' s'∧Q σ' H') X.xe s
abbrev m5:=V→V→V→Hp→(Hp→Prop)→Prop
def rz(X:Cx)(t:m5):Prop:=
 ∀(pins:List (Addr×Obj)) (s:Shared) (σ:St) (H:Hp) (o i v:V) (ov iv u:Value) (Q:Hp→Prop),Inv X pins σ H s→RelV o ov→RelV i iv→RelV v u→t o i v H Q→
  wpAny (model X.prog X.w) X.A (setItem ov iv u) (fun _ s'=>∃H',Inv X pins σ H' s'∧Q H') X.xe s
abbrev kC:=V→V→Hp→VK→Prop
def rA(X:Cx)(op:Operator)(t:kC):Prop:=
 ∀(pins:List (Addr×Obj)) (s:Shared) (σ:St) (H:Hp) (x y:V) (v u:Value) (Q:VK),Inv X pins σ H s→RelV x v→RelV y u→t x y H Q→
  wpAny (model X.prog X.w) X.A (inplaceOp op v u) (EP X pins σ Q) X.xe s
section
variable {X:Cx} {pos:Pos}
def aW(i:Nat):TG:=fun v σ H Q=>Q (σ.set i (some v)) H
theorem cg{i:Nat}{x:Str}(hN:X.N.Nodup)(hi:X.N[i]?=some x)(hx:Loc X.env.scope x)(hf:X.fn x=true∨X.env.scope.names.lookup x=some .local:=by first | exact .inl rfl | exact .inr rfl | assumption):PG X (.Name x pos) (aW i):=by
 intro pins s σ H v u Q I r h
 exact wpAny_assign_Name (ku I hN hi hx r (fun s' I'=>⟨_,H,I',h⟩) hf)
def xJ:fO:=fun vs σ H Q=>vs=[]∧Q σ H
def xK(t:TG)(u:fO):fO:=fun vs σ H Q=>∃v r,vs=v::r∧t v σ H fun σ' H'=>u r σ' H' Q
theorem m6:kB X [] xJ:=by
 intro pins s σ H vs us Q I r h
 obtain ⟨e,h⟩:=h
 subst e
 cases r
 exact assignInOrder_nil ⟨σ,H,I,h⟩
theorem hU{e:Expr}{es:List Expr}{t:TG}{u:fO}(h1:PG X e t)(h2:kB X es u)
  (hs:(assignEach (e::es) X.env).map (·.2)=assign e X.env::(assignEach es X.env).map (·.2):=by rfl):kB X (e::es) (xK t u):=by
 intro pins s σ H vs us Q I r h
 obtain ⟨v,vr,e1,h⟩:=h
 subst e1
 cases r with
 | cons r rr=>
  rw [hs]
  refine assignInOrder_cons (aw (h1 pins s σ H _ _ _ I r h) fun _ s1 ⟨σ1,H1,I1,q1⟩=>?_)
  exact h2 pins s1 σ1 H1 _ _ Q I1 rr q1
def xM(K:PySem.W.Frag)(n:Nat)(t:fO):TG:=fun v σ H Q=>∃a xs,v=.ref a∧bA K H a xs∧xs.length=n∧t xs σ H Q
theorem m7{es:List Expr}{k:Nat}{t:fO}{n:Nat}(hc:X.calm=true)(h:kB X es t)
  (hn:(assignEach es X.env).length=n:=by rfl) (m8:(assignEach es X.env).findIdx? (·.1)=none:=by rfl):PG X (.Tuple es k pos) (xM X.K n t):=by
 intro pins s σ H v u Q I r hw
 obtain ⟨a,xs,e1,hq,hl,hw⟩:=hw
 subst e1
 cases r
 obtain ⟨ai,rv,ht,hz⟩:=I.tuple hq
 refine assign_Tuple_tuple (I.ok.hd hc) ht (by simp [hn,←hl,rv.length]) m8 fun h' hx=>?_
 have I1:Inv X pins σ H {s with heap:=h'}:=I.kept (t':=s.toks) fun b o e=>hx b o (Nat.ne_of_lt (Heap.lt_size e)) e
 exact h pins _ σ H xs _ Q I1 (by simpa using rv) hw
def xN(to ti:TE)(t:m5):TG:=fun v σ H Q=>to σ H fun o H1=>ti σ H1 fun i H2=>t o i v H2 fun H3=>Q σ H3
theorem hV{o i:Expr}{to ti:TE}{t:m5}(ho:PE X o to)(hi:PE X i ti)(hs:rz X t)
  (ha:∀v,assign (.Subscript o i pos) X.env v=(do
   let ov ←holding [v] (eval o X.env)
   let iv ←holding [v,ov] (eval i X.env)
   standAt pos
   holding [v,ov,iv] (setItem ov iv v)
   release [v,ov,iv] []):=by intro _;rfl):PG X (.Subscript o i pos) (xN to ti t):=by
 intro pins s σ H v u Q I r h
 rw [ha]
 refine wpAny_bind (wpAny_holding (aw (ho pins s σ H _ I h) fun ov s1 ⟨x,H1,I1,r1,q1⟩=>?_))
 refine wpAny_bind (wpAny_holding (aw (hi pins s1 σ H1 _ I1 q1) fun iv s2 ⟨y,H2,I2,r2,q2⟩=>?_))
 refine wpAny_bind (wpAny_standAt (wpAny_bind (wpAny_holding (aw (hs pins s2 σ H2 x y v ov iv u _ I2 r1 r2 r q2) fun _ s3 ⟨H3,I3,q3⟩=>?_))))
 exact wpAny_release ⟨σ,H3,I3,q3⟩
def jy(te:TE)(g:TG):TS:=fun D σ H=>te σ H fun x H1=>g x σ H1 D.nx
theorem fP{tg e:Expr}{te:TE}{g:TG}(he:PE X e te)(hg:PG X tg g)(hs:swapsWithSole [tg] e pos.line X.env=pure false:=by rfl)(hw:swappedStores [tg] e X.env=pure none:=by rfl)
  (h1:(assignEach [tg] X.env).map (·.2)=[assign tg X.env]:=by rfl):PS X (.Assign [tg] e pos) (jy te g):=by
 intro pins s σ H D I h
 refine wpAny_Assign_stores (aw (he pins s σ H _ I h) fun v s1 ⟨x,H1,I1,r1,q1⟩=>?_) hs hw
 rw [h1]
 exact aw (hg pins s1 σ H1 x v _ I1 r1 q1) fun _ s2 q=>q
theorem xO{i:Nat}{x:Str}{e:Expr}{te:TE}{pos':Pos}(hN:X.N.Nodup)(hi:X.N[i]?=some x)(hx:Loc X.env.scope x)(he:PE X e te)(hs:swapsWith e (some (.Name x pos')) pos.line X.env=pure false:=by rfl)(hf:X.fn x=true∨X.env.scope.names.lookup x=some .local:=by first | exact .inl rfl | exact .inr rfl | assumption) :
  PS X (.Assign [.Name x pos'] e pos) (jy te (aW i)):=by
 intro pins s σ H D I h
 refine wpAny_Assign_Name (aw (he pins s σ H _ I h) fun v s1 ⟨y,H1,I1,r1,q1⟩=>?_) hs
 exact ku I1 hN hi hx r1 (fun s2 I2=>⟨_,H1,I2,q1⟩) hf
def xP(i:Nat)(te:TE)(ti:kC):TS:=fun D σ H=>∃x,σ[i]?=some (some x)∧te σ H fun y H1=>ti x y H1 fun z H2=>D.nx (σ.set i (some z)) H2
theorem xQ{i:Nat}{x:Str}{e:Expr}{te:TE}{op:Operator}{ti:kC}{pos':Pos}(hN:X.N.Nodup)(hi:X.N[i]?=some x)(hx:Loc X.env.scope x)(he:PE X e te)(ho:rA X op ti)(hf:X.fn x=true∨X.env.scope.names.lookup x=some .local:=by first | exact .inl rfl | exact .inr rfl | assumption) :
  PS X (.AugAssign (.Name x pos') op e pos) (xP i te ti):=by
 intro pins s σ H D I h
 obtain ⟨v,e1,h⟩:=h
 obtain ⟨m,hn,hl⟩:=I.loc
 have xR:jr X.env.scope x:=by rcases hx with k | k;exact .inl k;exact .inr (.inl k)
 obtain ⟨u,r,l⟩:=hl i x v hi e1 xR
 refine wpAny_AugAssign_Name ?_
 have go:wpAny (model X.prog X.w) X.A (eval e X.env) (fun w s₂=>wpAny (model X.prog X.w) X.A (inplaceOp op u w) (fun r s₃=>wpAny (model X.prog X.w) X.A (storeName X.env x r) (fun _=>SP X pins D .next) X.xe s₃) X.xe s₂) X.xe s:=by
  refine aw (he pins s σ H _ I h) fun w s1 ⟨y,H1,I1,r1,q1⟩=>?_
  refine aw (ho pins s1 σ H1 v y u w _ I1 r r1 q1) fun z s2 ⟨zv,H2,I2,r2,q2⟩=>?_
  exact ku I2 hN hi hx r2 (fun s3 I3=>⟨_,H2,I3,q2⟩) hf
 rcases l with ⟨hk,hm⟩ | ⟨hk,c,hc,kx⟩
 ·exact wpAny_loadName_local I.ok.kind hk hn hm go
 ·rcases hk with hk | hk
  ·exact wpAny_loadName_cell I.ok.kind hk hc kx go
  ·rcases hx with k | k
   ·have:X.env.scope.names.lookup x=some .free:=hk
    rw [k] at this;cases this
   ·have:X.env.scope.names.lookup x=some .free:=hk
    rw [k] at this;cases this
def xS(f:Int→Int→Int):kC:=fun x y H Q=>∃i j,x=.int i∧y=.int j∧Q (.int (f i j)) H
theorem xT:rA X .Add (xS fun i j=>i+j):=by
 intro pins s σ H x y v u Q I r1 r2 h
 obtain ⟨i,j,e1,e2,q⟩:=h
 subst e1;subst e2
 obtain ⟨t,rfl⟩:=r1
 obtain ⟨t',rfl⟩:=r2
 exact iadd_int ⟨.int _,H,I.tok _,⟨_,rfl⟩,q⟩
end
section
variable {X:Cx} {pos:Pos}
def xU(c:TT)(tb:TS):TS:=fun D σ H=>∃W:Nat→St→Hp→Prop,(∃m,W m σ H)∧∀m σ H,W m σ H→
 c σ H fun b H1=>if b=true then ∃N:St→Hp→Prop,(∀σ' H',N σ' H'→∃m',m'<m∧W m' σ' H')∧tb {D with nx:=N,ct:=N,bk:=D.nx} σ H1 else D.nx σ H1
theorem kD{c:Expr}{body:List Stmt}{tc:TT}{tb:TS}(hp:PassesOwn (model X.prog X.w) X.A X.env X.xe)(hc:PT X c tc)(hb:bF X body tb):PS X (.While c body [] pos) (xU tc tb):=by
 intro pins s σ H D I h
 obtain ⟨W,⟨m0,w0⟩,turn⟩:=h
 refine wpAny_While (codeAny_whileLoop (fun n s'=>∃σ' H',Inv X pins σ' H' s'∧W n σ' H') ?_ m0 ⟨σ,H,I,w0⟩)
 rintro n s1 ⟨σ1,H1,I1,w1⟩
 refine wpAny_passesOwn hp (aw (hc pins s1 σ1 H1 _ I1 (turn n σ1 H1 w1)) fun b s2 ⟨H2,I2,q2⟩=>?_)
 cases b with
 | true=>
  obtain ⟨N,hN,q2⟩:=q2
  rw [if_pos rfl]
  refine wpAny_passesOwn hp (aw (hb pins s2 σ1 H2 _ I2 q2) fun f s3 q3=>?_)
  cases f with
  | next=>
   obtain ⟨σ3,H3,I3,n3⟩:=q3
   obtain ⟨m',hm,w3⟩:=hN σ3 H3 n3
   exact ⟨m',hm,σ3,H3,I3,w3⟩
  | cont=>
   obtain ⟨σ3,H3,I3,n3⟩:=q3
   obtain ⟨m',hm,w3⟩:=hN σ3 H3 n3
   exact ⟨m',hm,σ3,H3,I3,w3⟩
  | brk=>exact q3
  | ret v=>exact q3
 | false=>
  rw [if_neg Bool.false_ne_true]
  exact wpAny_execs_nil ⟨σ1,H2,I2,q2⟩
end
structure It where
 go:Nat→Hp→Prop
 cC:Nat→Hp→V→Hp→Prop
 stop:Nat→Hp→Prop
def e_(X:Cx)(pins:List (Addr×Obj))(H:Hp)(b:Addr):Prop:=
 H b=none∧b≠X.env.locals∧b∉X.fs∧(b∈X.ex∨X.s₀.heap.objs.size≤b)∧(∀x c,X.env.cells.lookup x=some c→c≠b)∧∀p∈X.pn++pins,p.1≠b
theorem Inv.m9{X:Cx}{pins:List (Addr×Obj)}{σ:St}{H H':Hp}{s:Shared}{b:Addr}(I:Inv X pins σ H s)(hb:s.heap.objs.size≤b)(hn:H' b=none):e_ X pins H' b:=by
 refine ⟨hn,Nat.ne_of_gt (Nat.lt_of_lt_of_le I.lt hb),I.xn hb,.inr (Nat.le_trans I.sz hb),fun x c e z=>?_,fun p hp z=>?_⟩
 ·obtain ⟨v,q⟩:=I.cell x c e
  exact absurd (Nat.lt_of_lt_of_le q.lt (by rw [z];exact hb)) (Nat.lt_irrefl _)
 ·exact absurd (Nat.lt_of_lt_of_le (Heap.lt_size (I.pin p hp).1) (by rw [z];exact hb)) (Nat.lt_irrefl _)
structure Turn (P:Program) (w:World) (K:PySem.W.Frag) (tg:Expr) (J:It) (fp:List Addr) (it:Addr) (tn:Nat→Heap→Prop):Prop where
 mem:it∈fp
 obj:∀i h,tn i h→∀b∈fp,∃o,h.get? b=some o∧∀v,o.data≠.cell v
 keep:∀i h h',tn i h→(∀b∈fp,∀o,h.get? b=some o→h'.get? b=some o)→tn i h'
 item:∀(X:Cx),X.prog=P→X.w=w→X.K=K→X.calm=true→∀(i:Nat) (pins:List (Addr×Obj)) (s:Shared) (σ:St) (H:Hp) (E:Value→Shared→Prop),Inv X pins σ H s→(∀b∈fp,e_ X pins H b)→tn i s.heap→J.go i H→
  wpAny (model P w) X.A (pyNext (.ref it)) (fun r s1=>∃u,r=some u ∧
   wpAny (model P w) X.A (letOwnedTupleGo tg (.ref it) u) (fun _ s2=>∃x H',Inv X pins σ H' s2∧RelV x u∧J.cC i H x H'∧tn (i+1) s2.heap∧∀b∈fp,H' b=none) E s1) E s
 done:∀(X:Cx),X.prog=P→X.w=w→X.K=K→X.calm=true→∀(i:Nat) (pins:List (Addr×Obj)) (s:Shared) (σ:St) (H:Hp) (E:Value→Shared→Prop),Inv X pins σ H s→(∀b∈fp,e_ X pins H b)→tn i s.heap→J.stop i H→
  wpAny (model P w) X.A (pyNext (.ref it)) (fun r s1=>r=none∧Inv X pins σ H s1) E s
 self:∀(A:Around) (i:Nat) (s:Shared) (Q:Value→Shared→Prop) (E:Value→Shared→Prop),tn i s.heap→Q (.ref it) s→wpAny (model P w) A (pyIter (.ref it)) Q E s
abbrev TI:=St→Hp→(It→Hp→Prop)→Prop
def rB(X:Cx)(pins:List (Addr×Obj))(σ:St)(tg:Expr)(R:It→Hp→Prop)(kF:Value)(s2:Shared):Prop:=
 ∃(it:Addr) (fp:List Addr) (tn:Nat→Heap→Prop) (J:It) (H':Hp),kF=.ref it∧Inv X pins σ H' s2∧Turn X.prog X.w X.K tg J fp it tn∧tn 0 s2.heap∧(∀b∈fp,e_ X pins H' b)∧R J H'
def PI(X:Cx)(tg iter:Expr)(wi:TI):Prop:=
 ∀(pins:List (Addr×Obj)) (s:Shared) (σ:St) (H:Hp) (R:It→Hp→Prop),Inv X pins σ H s→wi σ H R→
  wpAny (model X.prog X.w) X.A (eval iter X.env) (fun v s1=>wpAny (model X.prog X.w) X.A (pyIter v) (rB X pins σ tg R) X.xe s1) X.xe s
theorem m_{M:Model}{A:Around}{E:Value→Shared→Prop}{s:Shared}{tg:Expr}{it:Addr}{u:Value}{o:Obj}{n:String}{vs:Array Value}{Q:Unit→Shared→Prop}(ho:s.heap.get? it=some o)(hc:o.cls=.type n)(hd:o.data=.fields vs)
    (hn:["enumerate","zip","dict_itemiterator","dict_reverseitemiterator","odict_iterator","itertools.zip_longest","itertools.pairwise"].contains n=false) (hQ:Q () s):wpAny M A (letOwnedTupleGo tg (.ref it) u) Q E s:=by
  unfold letOwnedTupleGo
  cases tg <;> first
    | exact wpAny_pure hQ
    | (cases u <;> first
        | exact wpAny_pure hQ
        | (refine wpAny_bind (wpAny_load ho ?_)
           rw [hc,hd]
           show wpAny M A (if (["enumerate","zip","dict_itemiterator","dict_reverseitemiterator","odict_iterator","itertools.zip_longest","itertools.pairwise"].contains n && vs[0]? == some (rawInt _))=true then _ else _) Q E s
           rw [if_neg (by intro h;rw [hn,Bool.false_and] at h;cases h)]
           exact wpAny_pure hQ))
def fQ(K:PySem.W.Frag)(a:Addr):It:=
 ⟨fun i H=>∃xs x,aH K H a xs∧xs[i]?=some x,fun i H x H'=>H'=H∧∀xs,aH K H a xs→xs[i]?=some x,fun i H=>∃xs,aH K H a xs∧xs.length≤i⟩
def jz(K:PySem.W.Frag)(a:Addr):It:=
 ⟨fun i H=>∃xs x,bA K H a xs∧xs[i]?=some x,fun i H x H'=>H'=H∧∀xs,bA K H a xs→xs[i]?=some x,fun i H=>∃xs,bA K H a xs∧xs.length≤i⟩
def fb(lo:Int)(n:Nat):It:=⟨fun i _=>i<n,fun i H x H'=>H'=H∧x=.int (lo+i),fun i _=>n≤i⟩
theorem xV{P:Program}{w:World}{K:PySem.W.Frag}{tg:Expr}(a it:Addr):Turn P w K tg (fQ K a) [it] it (fun i h=>h.IsListIter it a i) where
 mem:=by simp
 obj:=fun i h st b hb=>by
  have e:b=it:=by simpa using hb
  subst e
  obtain ⟨o,e,c,d⟩:=st
  exact ⟨o,e,fun v z=>by rw [d] at z;cases z⟩
 keep:=fun i h h' st k=>st.at fun o e=>k it (by simp) o e
 item:=by
  intro X hP hw hK hc i pins s σ H E I hf st hg
  subst hP hw hK
  obtain ⟨xs,x,hq,hx⟩:=hg
  obtain ⟨ai,rv,p,hz⟩:=I.list hq
  obtain ⟨u,hu,ru⟩:=rv.get hx
  obtain ⟨f0,f1,f2,f3,f4,f5⟩:=hf it (by simp)
  refine wpAny_pyNext_list_item st p.isList (x:=u) (by simpa using hu) fun h' fg sb=>?_
  have I1:Inv X pins σ H {s with heap:=h'}:=I.turned (t':=s.toks) (fun b o hb e=>(sb.2 b hb).trans e) f0 f1 f3 f4 f5
  obtain ⟨o,e,c,d⟩:=id fg
  exact ⟨u,rfl,m_ (s:={s with heap:=h'}) e c d (by decide) ⟨x,H,I1,ru,⟨rfl,fun ys hy=>by rw [I.xD hy hq];exact hx⟩,fg,fun b hb=>(hf b hb).1⟩⟩
 done:=by
  intro X hP hw hK hc i pins s σ H E I hf st hg
  subst hP hw hK
  obtain ⟨xs,hq,hx⟩:=hg
  obtain ⟨ai,rv,p,hz⟩:=I.list hq
  obtain ⟨f0,f1,f2,f3,f4,f5⟩:=hf it (by simp)
  have hl:=rv.length
  exact wpAny_pyNext_list_end (I.ok.hd hc) st p.isList (by simp;omega) fun h' eb=>⟨rfl,I.turned (t':=s.toks) (fun b o hb e=>eb b o hb e) f0 f1 f3 f4 f5⟩
 self:=fun _ _ _ _ _ st h=>wpAny_pyIter_listiter st h
theorem xW{P:Program}{w:World}{K:PySem.W.Frag}{tg:Expr}(a it:Addr):Turn P w K tg (jz K a) [it] it (fun i h=>h.IsTupleIter it a i) where
 mem:=by simp
 obj:=fun i h st b hb=>by
  have e:b=it:=by simpa using hb
  subst e
  obtain ⟨o,e,c,d⟩:=st
  exact ⟨o,e,fun v z=>by rw [d] at z;cases z⟩
 keep:=fun i h h' st k=>st.at fun o e=>k it (by simp) o e
 item:=by
  intro X hP hw hK hc i pins s σ H E I hf st hg
  subst hP hw hK
  obtain ⟨xs,x,hq,hx⟩:=hg
  obtain ⟨ai,rv,p,hz⟩:=I.tuple hq
  obtain ⟨u,hu,ru⟩:=rv.get hx
  obtain ⟨f0,f1,f2,f3,f4,f5⟩:=hf it (by simp)
  refine wpAny_pyNext_tuple_item st (show s.heap.IsTuple a ai.toArray from p) (x:=u) (by simpa using hu) fun h' fg sb=>?_
  have I1:Inv X pins σ H {s with heap:=h'}:=I.turned (t':=s.toks) (fun b o hb e=>(sb.2 b hb).trans e) f0 f1 f3 f4 f5
  obtain ⟨o,e,c,d⟩:=id fg
  exact ⟨u,rfl,m_ (s:={s with heap:=h'}) e c d (by decide) ⟨x,H,I1,ru,⟨rfl,fun ys hy=>by rw [I.xE hy hq];exact hx⟩,fg,fun b hb=>(hf b hb).1⟩⟩
 done:=by
  intro X hP hw hK hc i pins s σ H E I hf st hg
  subst hP hw hK
  obtain ⟨xs,hq,hx⟩:=hg
  obtain ⟨ai,rv,p,hz⟩:=I.tuple hq
  obtain ⟨f0,f1,f2,f3,f4,f5⟩:=hf it (by simp)
  have hl:=rv.length
  exact wpAny_pyNext_tuple_end (I.ok.hd hc) st (show s.heap.IsTuple a ai.toArray from p) (by simp;omega) fun h' eb=>⟨rfl,I.turned (t':=s.toks) (fun b o hb e=>eb b o hb e) f0 f1 f3 f4 f5⟩
 self:=fun _ _ _ _ _ st h=>wpAny_pyIter_tupleiter st h
theorem xX{P:Program}{w:World}{K:PySem.W.Frag}{tg:Expr}(it:Addr)(lo:Int)(n:Nat):Turn P w K tg (fb lo n) [it] it (fun i h=>IsRangeIter h it (lo+(i:Nat)*1) ((n:Int)-(i:Nat)) 1) where
 mem:=by simp
 obj:=fun i h st b hb=>by
  have e:b=it:=by simpa using hb
  subst e
  exact ⟨_,st,fun v z=>by
   have z':Data.fields _=Data.cell v:=z
   cases z'⟩
 keep:=fun i h h' st k=>k it (by simp) _ st
 item:=by
  intro X hP hw hK hc i pins s σ H E I hf st hg
  subst hP hw hK
  obtain ⟨f0,f1,f2,f3,f4,f5⟩:=hf it (by simp)
  have W:=Walks.range (prog:=X.prog) (w:=X.w) (I.ok.hd hc) it lo 1 n
  refine W.item i s _ _ hg st fun v h' tk hv fg kk=>?_
  obtain ⟨t,rfl⟩:=hv
  have I1:Inv X pins σ H {s with heap:=h',toks:=tk}:=I.turned (fun b o hb e=>kk b o (by simpa using hb) e) f0 f1 f3 f4 f5
  refine ⟨_,rfl,m_ (s:={s with heap:=h',toks:=tk}) (n:="range_iterator") fg rfl rfl (by decide) ⟨.int (lo+i),H,I1,⟨t,?_⟩,⟨rfl,rfl⟩,fg,fun b hb=>(hf b hb).1⟩⟩
  rw [Int.mul_one]
 done:=by
  intro X hP hw hK hc i pins s σ H E I hf st hg
  subst hP hw hK
  obtain ⟨f0,f1,f2,f3,f4,f5⟩:=hf it (by simp)
  exact wpAny_pyNext_range_end (I.ok.hd hc) st (by have:n≤i:=hg;omega) fun h' eb=>⟨rfl,I.turned (t':=s.toks) (fun b o hb e=>eb b o hb e) f0 f1 f3 f4 f5⟩
 self:=fun _ _ _ _ _ st h=>wpAny_pyIter_rangeiter st h
section
variable {X:Cx} {tg:Expr}
def xY(K:PySem.W.Frag)(tl:TE):TI:=fun σ H R=>tl σ H fun x H1=>∃a,x=.ref a∧(∃xs,aH K H1 a xs)∧R (fQ K a) H1
def xZ(K:PySem.W.Frag)(tl:TE):TI:=fun σ H R=>tl σ H fun x H1=>∃a,x=.ref a∧(∃xs,bA K H1 a xs)∧R (jz K a) H1
theorem hZ{l:Expr}{tl:TE}(hl:PE X l tl):PI X tg l (xY X.K tl):=by
 intro pins s σ H R I h
 refine aw (hl pins s σ H _ I h) fun v s1 ⟨x,H1,I1,r1,q1⟩=>?_
 obtain ⟨a,e,⟨xs,hq⟩,q⟩:=q1
 subst e
 cases r1
 obtain ⟨ai,rv,p,hz⟩:=I1.list hq
 refine wpAny_pyIter_list p.isList ?_
 refine ⟨s1.heap.objs.size,[s1.heap.objs.size],_,_,H1,rfl,I1.kept (t':=s1.toks) fun b o e=>Heap.get?_push_of_some _ e,xV a _,⟨_,Heap.get?_push_size _ rfl,rfl,rfl⟩,fun b hb=>?_,q⟩
 have e:b=s1.heap.objs.size:=by simpa using hb
 subst e
 exact I1.m9 (Nat.le_refl _) (I1.aq.fresh (Nat.le_refl _))
theorem x3{l:Expr}{tl:TE}(hl:PE X l tl):PI X tg l (xZ X.K tl):=by
 intro pins s σ H R I h
 refine aw (hl pins s σ H _ I h) fun v s1 ⟨x,H1,I1,r1,q1⟩=>?_
 obtain ⟨a,e,⟨xs,hq⟩,q⟩:=q1
 subst e
 cases r1
 obtain ⟨ai,rv,p,hz⟩:=I1.tuple hq
 refine wpAny_pyIter_tuple (show s1.heap.IsTuple a ai.toArray from p) ?_
 refine ⟨s1.heap.objs.size,[s1.heap.objs.size],_,_,H1,rfl,I1.kept (t':=s1.toks) fun b o e=>Heap.get?_push_of_some _ e,xW a _,⟨_,Heap.get?_push_size _ rfl,rfl,rfl⟩,fun b hb=>?_,q⟩
 have e:b=s1.heap.objs.size:=by simpa using hb
 subst e
 exact I1.m9 (Nat.le_refl _) (I1.aq.fresh (Nat.le_refl _))
theorem rC{pins:List (Addr×Obj)}{σ:St}{H:Hp}{s:Shared}{R:It→Hp→Prop}{E:Value→Shared→Prop}{lo hi:Int}{t u v:Tok}{tk:Nat}(I:Inv X pins σ H s)(h1:-(2 ^ 62)≤lo)(h2:lo<2 ^ 62)(h3:-(2 ^ 62)≤hi)(h4:hi<2 ^ 62)
  (q:R (fb lo (hi-lo).toNat) H):wpAny (model X.prog X.w) X.A (pyIter (.ref s.heap.objs.size)) (rB X pins σ tg R) E {s with heap:=s.heap.push {cls:=.type "range",data:=.fields #[.int lo t,.int hi u,.int 1 v]},toks:=tk}:=by
 refine wpAny_pyIter_range (IsRange.new ..) (small_one h1 h2 h3 h4) ?_
 have I1:Inv X pins σ H {s with heap:=s.heap.push {cls:=.type "range",data:=.fields #[.int lo t,.int hi u,.int 1 v]},toks:=tk}:=I.kept fun b o e=>Heap.get?_push_of_some _ e
 refine ⟨(s.heap.push {cls:=.type "range",data:=.fields #[.int lo t,.int hi u,.int 1 v]}).objs.size,[(s.heap.push {cls:=.type "range",data:=.fields #[.int lo t,.int hi u,.int 1 v]}).objs.size],_,_,H,rfl,
  I1.kept (t':=tk) fun b o e=>Heap.get?_push_of_some _ e,xX _ lo (hi-lo).toNat,?_,fun b hb=>?_,q⟩
 ·have e1:lo+((0:Nat):Int)*1=lo:=by simp
  have e2:(((hi-lo).toNat:Nat):Int)-((0:Nat):Int)=Builtin.Range.rangeSize lo hi 1:=by rw [rangeSize_one];split <;> omega
  show IsRangeIter _ _ (lo+((0:Nat):Int)*1) ((((hi-lo).toNat:Nat):Int)-((0:Nat):Int)) 1
  rw [e1,e2]
  exact Heap.get?_push_size _ rfl
 ·have e:b=(s.heap.push {cls:=.type "range",data:=.fields #[.int lo t,.int hi u,.int 1 v]}).objs.size:=by simpa using hb
  subst e
  exact I1.m9 (Nat.le_refl _) (I1.aq.fresh (Nat.le_refl _))
def x4(ta:TA):TI:=fun σ H R=>ta σ H fun vs H1=>∃j:Int,vs=[.int j]∧-(2 ^ 62)≤j∧j<2 ^ 62∧R (fb 0 j.toNat) H1
def x5(ta:TA):TI:=fun σ H R=>ta σ H fun vs H1=>∃i j:Int,vs=[.int i,.int j]∧(-(2 ^ 62)≤i∧i<2 ^ 62∧-(2 ^ 62)≤j∧j<2 ^ 62)∧R (fb i (j-i).toNat) H1
theorem fh{a:Expr}{ta:TA}{p pos:Pos}(hg:Gl X "range")(hm:X.mg "range" = none)(ha:PA X [a] ta)(hs:starEach [a] X.env=[(false,eval a X.env)]:=by rfl):PI X tg (.Call (.Name "range" p) [a] [] pos) (x4 ta):=by
 intro pins s σ H R I h
 refine Call_ (jw I hg hm boot_range (PyProof.Rows.callWith_type1 (aw (ha pos pins s σ H _ I h) fun us s1 ⟨vs,H1,I1,r1,q1⟩=>?_) hs rfl))
 obtain ⟨j,e,q1,q2,q⟩:=q1
 subst e
 cases r1 with
 | cons r rr=>
  cases rr
  obtain ⟨t,rfl⟩:=r
  exact call_range_1 (rC I1 (by omega) (by omega) q1 q2 (by simpa using q))
theorem rD{a b:Expr}{ta:TA}{p pos:Pos}(hg:Gl X "range")(hm:X.mg "range" = none)(ha:PA X [a,b] ta)(hs:starEach [a,b] X.env=[(false,eval a X.env),(false,eval b X.env)]:=by rfl)(fS:starEach [b] X.env=[(false,eval b X.env)]:=by rfl) :
  PI X tg (.Call (.Name "range" p) [a,b] [] pos) (x5 ta):=by
 intro pins s σ H R I h
 refine Call_ (jw I hg hm boot_range (PyProof.Rows.callWith_type1 (aw (ha pos pins s σ H _ I h) fun us s1 ⟨vs,H1,I1,r1,q1⟩=>?_) (by rw [hs,fS]) (by rw [fS];rfl)))
 obtain ⟨i,j,e,⟨q1,q2,q3,q4⟩,q⟩:=q1
 subst e
 cases r1 with
 | cons r rr=>
  cases rr with
  | cons r' rr=>
   cases rr
   obtain ⟨t,rfl⟩:=r
   obtain ⟨t',rfl⟩:=r'
   exact call_range_2 (rC I1 q1 q2 q3 q4 q)
def x6(wi:TI)(g:TG)(tb:TS):TS:=fun D σ H=>wi σ H fun J H1=>∃W:Nat→Nat→St→Hp→Prop,(∃m,W 0 m σ H1)∧∀i m σ H,W i m σ H→
 (J.stop i H∧D.nx σ H)∨(J.go i H∧∃N:St→Hp→Prop,(∀σ' H',N σ' H'→∃m',m'<m∧W (i+1) m' σ' H')∧∀x H',J.cC i H x H'→g x σ H' fun σ2 H2=>tb {D with nx:=N,ct:=N,bk:=D.nx} σ2 H2)
def fi(fp:List Addr)(h:Heap):List (Addr×Obj):=fp.filterMap fun b=>(h.get? b).map fun o=>(b,o)
theorem h6{fp:List Addr}{h:Heap}{b:Addr}{o:Obj}(hb:b∈fp)(e:h.get? b=some o):(b,o)∈fi fp h:=List.mem_filterMap.mpr ⟨b,hb,by rw [e];rfl⟩
theorem x8{fp:List Addr}{h:Heap}{p:Addr×Obj}(hp:p∈fi fp h):p.1∈fp∧h.get? p.1=some p.2:=by
 obtain ⟨b,hb,e⟩:=List.mem_filterMap.mp hp
 cases q:h.get? b with
 | none=>rw [q] at e;cases e
 | some o=>
  rw [q] at e
  have e':(b,o)=p:=Option.some.inj e
  subst e'
  exact ⟨hb,q⟩
theorem Inv.pinned{pins:List (Addr×Obj)}{σ:St}{H:Hp}{s:Shared}{fp:List Addr}(I:Inv X pins σ H s)(hf:∀b∈fp,e_ X pins H b)(ho:∀b∈fp,∃o,s.heap.get? b=some o∧∀v,o.data≠.cell v):Inv X (pins++fi fp s.heap) σ H s:=
 I.q5 fun p hp=>(List.mem_append.mp hp).elim (fun z=>I.pin p (List.mem_append_right _ z)) fun z=>by
  obtain ⟨hb,e⟩:=x8 z
  obtain ⟨f0,f1,f2,_⟩:=hf p.1 hb
  obtain ⟨o,e',d⟩:=ho p.1 hb
  rw [e] at e';cases e'
  exact ⟨e,f0,f1,f2,d⟩
theorem Inv.jA{pins pl:List (Addr×Obj)}{σ:St}{H:Hp}{s:Shared}(I:Inv X (pins++pl) σ H s):Inv X pins σ H s:=I.q5 fun p hp=>I.pin p (List.mem_append_right _ (List.mem_append_left _ hp))
theorem eG{iter:Expr}{body:List Stmt}{wi:TI}{g:TG}{tb:TS}{pos:Pos}(hp:PassesOwn (model X.prog X.w) X.A X.env X.xe)(hc:X.calm=true)(hi:PI X tg iter wi)(hg:PG X tg g)(hb:bF X body tb)
  (hs:∀x,foldedSetIterable iter X.env x=pure x:=by intro _;rfl):PS X (.For tg iter body [] pos) (x6 wi g tb):=by
 intro pins s σ H D I h
 refine wpAny_For (aw (hi pins s σ H _ I h) fun v s1 h1=>aw h1 fun kF s2 h2=>?_) hs
 obtain ⟨it,fp,tn,J,H2,e,I2,T,eH,f2,W,⟨m0,w0⟩,turn⟩:=h2
 subst e
 have dB:∀{H':Hp},(∀b∈fp,H' b=none)→∀b∈fp,e_ X pins H' b:=fun hn b hb=>⟨hn b hb,(f2 b hb).2⟩
 refine codeAny_forLoop_any (fun n s'=>∃i σ' H',Inv X pins σ' H' s'∧tn i s'.heap∧(∀b∈fp,H' b=none)∧W i n σ' H') ?_ m0 ⟨0,σ,H2,I2,eH,fun b hb=>(f2 b hb).1,w0⟩
 rintro n s3 ⟨i,σ3,H3,I3,rE,rF,w3⟩
 rcases turn i n σ3 H3 w3 with ⟨stop,qn⟩ | ⟨go,N,hN,step⟩
 ·refine wpAny_passesOwn hp (aw (T.done X rfl rfl rfl hc i pins s3 σ3 H3 X.xe I3 (dB rF) rE stop) fun r s4 ⟨hr,I4⟩=>?_)
  subst hr
  exact wpAny_execs_nil ⟨σ3,H3,I4,qn⟩
 ·refine wpAny_passesOwn hp (aw (T.item X rfl rfl rfl hc i pins s3 σ3 H3 X.xe I3 (dB rF) rE go) fun r s4 ⟨u,hr,h4⟩=>?_)
  subst hr
  refine wpAny_passesOwn hp (aw h4 fun _ s5 ⟨x,H5,I5,r5,y5,dC,jB⟩=>?_)
  have jC:=I5.pinned (dB jB) (T.obj _ _ dC)
  refine wpAny_passesOwn hp (aw (hg _ s5 σ3 H5 x u _ jC r5 (step x H5 y5)) fun _ s6 ⟨σ6,H6,I6,q6⟩=>?_)
  refine wpAny_passesOwn hp (aw (hb _ s6 σ6 H6 _ I6 q6) fun f s7 q7=>?_)
  have again:∀{σ7:St} {H7:Hp},Inv X (pins++fi fp s5.heap) σ7 H7 s7→N σ7 H7→∃m,m<n∧∃i σ' H',Inv X pins σ' H' s7∧tn i s7.heap∧(∀b∈fp,H' b=none)∧W i m σ' H':=fun{σ7 H7} I7 n7=>by
   obtain ⟨m',hm,w7⟩:=hN σ7 H7 n7
   refine ⟨m',hm,i+1,σ7,H7,I7.jA,T.keep _ _ _ dC fun b hb o e=>(I7.pin (b,o) (List.mem_append_right _ (List.mem_append_right _ (h6 hb e)))).1,fun b hb=>?_,w7⟩
   obtain ⟨o,e,d⟩:=T.obj _ _ dC b hb
   exact (I7.pin (b,o) (List.mem_append_right _ (List.mem_append_right _ (h6 hb e)))).2.1
  cases f with
  | next=>obtain ⟨σ7,H7,I7,n7⟩:=q7;exact again I7 n7
  | cont=>obtain ⟨σ7,H7,I7,n7⟩:=q7;exact again I7 n7
  | brk=>obtain ⟨σ7,H7,I7,q7⟩:=q7;exact ⟨σ7,H7,I7.jA,q7⟩
  | ret v=>obtain ⟨x7,σ7,H7,I7,r7,q7⟩:=q7;exact ⟨x7,σ7,H7,I7.jA,r7,q7⟩
end
theorem x9{K:PySem.W.Frag}{a:Addr}{xs:List V}{g:TG}{tb:TS}{D:Ends}{σ:St}{H:Hp}(Pv:Nat→St→Hp→Prop)(h0:Pv 0 σ H)(hl:∀i σ H,i≤xs.length→Pv i σ H→aH K H a xs)
  (hs:∀i x σ H,xs[i]?=some x→Pv i σ H→g x σ H fun σ2 H2=>tb {D with nx:=Pv (i+1),ct:=Pv (i+1),bk:=D.nx} σ2 H2) (hd:∀σ H,Pv xs.length σ H→D.nx σ H) :
  ∃W:Nat→Nat→St→Hp→Prop,(∃m,W 0 m σ H)∧∀i m σ H,W i m σ H→
   ((fQ K a).stop i H∧D.nx σ H)∨((fQ K a).go i H∧∃N:St→Hp→Prop,(∀σ' H',N σ' H'→∃m',m'<m∧W (i+1) m' σ' H')∧∀x H',(fQ K a).cC i H x H'→g x σ H' fun σ2 H2=>tb {D with nx:=N,ct:=N,bk:=D.nx} σ2 H2):=by
 refine ⟨fun i m σ H=>m=xs.length-i∧i≤xs.length∧Pv i σ H,⟨xs.length,by simp,Nat.zero_le _,h0⟩,?_⟩
 rintro i m σ H ⟨rfl,hi,p⟩
 have q:=hl i σ H hi p
 by_cases bj:i<xs.length
 ·refine .inr ⟨⟨xs,xs[i],q,by simp [bj]⟩,Pv (i+1),fun σ' H' p'=>⟨xs.length-(i+1),by omega,rfl,bj,p'⟩,fun x H' y=>?_⟩
  obtain ⟨e,y⟩:=y
  subst e
  exact hs i x σ _ (y xs q) p
 ·have e:i=xs.length:=by omega
  subst e
  exact .inl ⟨⟨xs,q,Nat.le_refl _⟩,hd σ H p⟩
theorem x_{K:PySem.W.Frag}{a:Addr}{xs:List V}{g:TG}{tb:TS}{D:Ends}{σ:St}{H:Hp}(Pv:Nat→St→Hp→Prop)(h0:Pv 0 σ H)(hl:∀i σ H,i≤xs.length→Pv i σ H→bA K H a xs)
  (hs:∀i x σ H,xs[i]?=some x→Pv i σ H→g x σ H fun σ2 H2=>tb {D with nx:=Pv (i+1),ct:=Pv (i+1),bk:=D.nx} σ2 H2) (hd:∀σ H,Pv xs.length σ H→D.nx σ H) :
  ∃W:Nat→Nat→St→Hp→Prop,(∃m,W 0 m σ H)∧∀i m σ H,W i m σ H→
   ((jz K a).stop i H∧D.nx σ H)∨((jz K a).go i H∧∃N:St→Hp→Prop,(∀σ' H',N σ' H'→∃m',m'<m∧W (i+1) m' σ' H')∧∀x H',(jz K a).cC i H x H'→g x σ H' fun σ2 H2=>tb {D with nx:=N,ct:=N,bk:=D.nx} σ2 H2):=by
 refine ⟨fun i m σ H=>m=xs.length-i∧i≤xs.length∧Pv i σ H,⟨xs.length,by simp,Nat.zero_le _,h0⟩,?_⟩
 rintro i m σ H ⟨rfl,hi,p⟩
 have q:=hl i σ H hi p
 by_cases bj:i<xs.length
 ·refine .inr ⟨⟨xs,xs[i],q,by simp [bj]⟩,Pv (i+1),fun σ' H' p'=>⟨xs.length-(i+1),by omega,rfl,bj,p'⟩,fun x H' y=>?_⟩
  obtain ⟨e,y⟩:=y
  subst e
  exact hs i x σ _ (y xs q) p
 ·have e:i=xs.length:=by omega
  subst e
  exact .inl ⟨⟨xs,q,Nat.le_refl _⟩,hd σ H p⟩
theorem fT{lo:Int}{n:Nat}{g:TG}{tb:TS}{D:Ends}{σ:St}{H:Hp}(Pv:Nat→St→Hp→Prop)(h0:Pv 0 σ H)
  (hs:∀i σ H,i<n→Pv i σ H→g (.int (lo+i)) σ H fun σ2 H2=>tb {D with nx:=Pv (i+1),ct:=Pv (i+1),bk:=D.nx} σ2 H2) (hd:∀σ H,Pv n σ H→D.nx σ H) :
  ∃W:Nat→Nat→St→Hp→Prop,(∃m,W 0 m σ H)∧∀i m σ H,W i m σ H→
   ((fb lo n).stop i H∧D.nx σ H)∨((fb lo n).go i H∧∃N:St→Hp→Prop,(∀σ' H',N σ' H'→∃m',m'<m∧W (i+1) m' σ' H')∧∀x H',(fb lo n).cC i H x H'→g x σ H' fun σ2 H2=>tb {D with nx:=N,ct:=N,bk:=D.nx} σ2 H2):=by
 refine ⟨fun i m σ H=>m=n-i∧i≤n∧Pv i σ H,⟨n,by simp,Nat.zero_le _,h0⟩,?_⟩
 rintro i m σ H ⟨rfl,hi,p⟩
 by_cases bj:i<n
 ·refine .inr ⟨bj,Pv (i+1),fun σ' H' p'=>⟨n-(i+1),by omega,rfl,bj,p'⟩,fun x H' y=>?_⟩
  obtain ⟨e,y⟩:=y
  subst e y
  exact hs i σ _ bj p
 ·have e:i=n:=by omega
  subst e
  exact .inl ⟨Nat.le_refl _,hd σ H p⟩
abbrev R2:=V→V→Hp→VK→Prop
def aY(X:Cx)(f:Value→Value→Sem Value)(r:R2):Prop:=
 ∀(pins:List (Addr×Obj)) (s:Shared) (σ:St) (H:Hp) (x y:V) (v u:Value) (Q:VK),Inv X pins σ H s→RelV x v→RelV y u→r x y H Q→
  wpAny (model X.prog X.w) X.A (f v u) (EP X pins σ Q) X.xe s
def ng(X:Cx)(f:Value→Sem Value)(r:V→Hp→VK→Prop):Prop:=
 ∀(pins:List (Addr×Obj)) (s:Shared) (σ:St) (H:Hp) (x:V) (v:Value) (Q:VK),Inv X pins σ H s→RelV x v→r x H Q→
  wpAny (model X.prog X.w) X.A (f v) (EP X pins σ Q) X.xe s
def bY(X:Cx)(f:Value)(r:List V→Hp→VK→Prop):Prop:=
 ∀(pins:List (Addr×Obj)) (s:Shared) (σ:St) (H:Hp) (xs:List V) (us:List Value) (Q:VK),Inv X pins σ H s→Vals xs us→r xs H Q→
  wpAny (model X.prog X.w) X.A (call f us) (EP X pins σ Q) X.xe s
def kG(r:R2)(ta tb:TE):TE:=fun σ H Q=>ta σ H fun x H1=>tb σ H1 fun y H2=>r x y H2 Q
def ya(r:V→Hp→VK→Prop)(ta:TE):TE:=fun σ H Q=>ta σ H fun x H1=>r x H1 Q
def rI(C:Int→Int→Prop)(g:Int→Int→V):R2:=fun x y H Q=>∃i j,x=.int i∧y=.int j∧C i j∧Q (g i j) H
def fj(g:Int→Int→V):R2:=fun x y H Q=>∃i j,x=.int i∧y=.int j∧Q (g i j) H
def rU(g:Int→V):V→Hp→VK→Prop:=fun x H Q=>∃i,x=.int i∧Q (g i) H
section
variable {X:Cx} {a b c:Expr} {ta tb tc:TE} {pos:Pos}
theorem nh(ha:PE X a ta)(hb:PE X b tb){pins:List (Addr×Obj)}{s:Shared}{σ:St}{H:Hp}{R:V→V→Hp→Prop}(I:Inv X pins σ H s)
  (h:ta σ H fun x H1=>tb σ H1 fun y H2=>R x y H2) {Q:Value→Shared→Prop} {f:Value→Value→Sem Value}
  (hf:∀v u s2 x y H2,Inv X pins σ H2 s2→RelV x v→RelV y u→R x y H2→wpAny (model X.prog X.w) X.A (f v u) Q X.xe s2) :
  wpAny (model X.prog X.w) X.A (eval a X.env) (fun v s₁=>wpAny (model X.prog X.w) X.A (eval b X.env) (fun u s₂=>wpAny (model X.prog X.w) X.A (f v u) Q X.xe s₂) X.xe s₁) X.xe s:=by
 refine aw (ha pins s σ H _ I h) fun v s1 ⟨x,H1,I1,r1,q1⟩=>?_
 refine aw (hb pins s1 σ H1 _ I1 q1) fun u s2 ⟨y,H2,I2,r2,q2⟩=>?_
 exact hf v u s2 x y H2 I2 r1 r2 q2
theorem aC{op:Operator}{r:R2}(ho:aY X (binaryOp op) r)(ha:PE X a ta)(hb:PE X b tb):PE X (.BinOp a op b pos) (kG r ta tb):=by
 intro pins s σ H Q I h
 exact wpAny_BinOp (nh ha hb I h fun v u s2 x y H2 I2 rx ry q=>ho pins s2 σ H2 x y v u Q I2 rx ry q)
theorem ni{op:UnaryOp}{r:V→Hp→VK→Prop}(ho:ng X (unaryOp op) r)(ha:PE X a ta):PE X (.UnaryOp op a pos) (ya r ta):=by
 intro pins s σ H Q I h
 exact UnaryOp_ (aw (ha pins s σ H _ I h) fun v s1 ⟨x,H1,I1,r1,q1⟩=>ho pins s1 σ H1 x v Q I1 r1 q1)
theorem h7{f:Value→Value→Sem Value}{C:Int→Int→Prop}{g:Int→Int→Int}
  (rule:∀(i j:Int) (t u:Tok) (s:Shared) (Q:Value→Shared→Prop) (E:Value→Shared→Prop),C i j→Q (.int (g i j) s.toks) {s with toks:=s.toks+1}→wpAny (model X.prog X.w) X.A (f (.int i t) (.int j u)) Q E s) :
  aY X f (rI C fun i j=>.int (g i j)):=by
 intro pins s σ H x y v u Q I rx ry h
 obtain ⟨i,j,rfl,rfl,hc,q⟩:=h
 obtain ⟨t,rfl⟩:=rx
 obtain ⟨t',rfl⟩:=ry
 exact rule i j t t' s _ _ hc ⟨.int (g i j),H,I.tok _,⟨_,rfl⟩,q⟩
theorem rH{f:Value→Value→Sem Value}{g:Int→Int→Int}
  (rule:∀(i j:Int) (t u:Tok) (s:Shared) (Q:Value→Shared→Prop) (E:Value→Shared→Prop),Q (.int (g i j) s.toks) {s with toks:=s.toks+1}→wpAny (model X.prog X.w) X.A (f (.int i t) (.int j u)) Q E s) :
  aY X f (fj fun i j=>.int (g i j)):=by
 intro pins s σ H x y v u Q I rx ry h
 obtain ⟨i,j,rfl,rfl,q⟩:=h
 obtain ⟨t,rfl⟩:=rx
 obtain ⟨t',rfl⟩:=ry
 exact rule i j t t' s _ _ ⟨.int (g i j),H,I.tok _,⟨_,rfl⟩,q⟩
theorem kH{f:Value→Value→Sem Value}{g:Int→Int→Bool}
  (rule:∀(i j:Int) (t u:Tok) (s:Shared) (Q:Value→Shared→Prop) (E:Value→Shared→Prop),Q (.bool (g i j)) s→wpAny (model X.prog X.w) X.A (f (.int i t) (.int j u)) Q E s) :
  aY X f (fj fun i j=>.bl (g i j)):=by
 intro pins s σ H x y v u Q I rx ry h
 obtain ⟨i,j,rfl,rfl,q⟩:=h
 obtain ⟨t,rfl⟩:=rx
 obtain ⟨t',rfl⟩:=ry
 exact rule i j t t' s _ _ ⟨.bl (g i j),H,I,rfl,q⟩
def yb(i j:Int):Prop:=0<j∧j<1073741824
def yc(i j:Int):Prop:=0≤j∧j≤1000000∧i.natAbs<2 ^ 64
def nj(i j:Int):Prop:=(-(2 ^ 64)<i∧i<2 ^ 64)∨(-(2 ^ 64)<j∧j<2 ^ 64)
theorem nj.ok{i j:Int}(h:nj i j):IntMulOk i j:=by
 rcases h with ⟨h1,h2⟩ | ⟨h1,h2⟩
 ·exact .of_left (intBits_le_64 h1 h2)
 ·exact .of_right (intBits_le_64 h1 h2)
theorem dD:aY X (binaryOp .Add) (fj fun i j=>.int (i+j)):=rH fun _ _ _ _ _ _ _ q=>add_int q
theorem fU:aY X (binaryOp .Sub) (fj fun i j=>.int (i-j)):=rH fun _ _ _ _ _ _ _ q=>sub_int q
theorem cK:aY X (binaryOp .Mult) (rI nj fun i j=>.int (i*j)):=h7 fun _ _ _ _ _ _ _ hc q=>mul_int q hc.ok
theorem yd:aY X (binaryOp .FloorDiv) (rI yb fun i j=>.int (i / j)):=h7 fun i j _ _ _ _ _ hc q=>by
 have h1:(0:Int)<j:=hc.1
 have h2:j<1073741824:=hc.2
 exact floordiv_int (by omega) (by rw [Int.fdiv_eq_ediv_of_nonneg i (by omega)];exact q) (.inl (PyProof.noPylong_small (by omega)))
theorem cL:aY X (binaryOp .Mod) (rI (fun _ j=>0<j) fun i j=>.int (i % j)):=h7 fun i j _ _ _ _ _ hc q=>by
 have h1:(0:Int)<j:=hc
 exact mod_int' (by omega) (by rw [Int.fmod_eq_emod_of_nonneg i (by omega)];exact q)
theorem rJ:aY X (binaryOp .Pow) (rI yc fun i j=>.int (i ^ j.toNat)):=h7 fun _ _ _ _ _ _ _ hc q=>pow_int_small hc.1 hc.2.1 hc.2.2 q
theorem ye{f:Value→Sem Value}{g:Int→Int}
  (rule:∀(i:Int) (t:Tok) (s:Shared) (Q:Value→Shared→Prop) (E:Value→Shared→Prop),Q (.int (g i) s.toks) {s with toks:=s.toks+1}→wpAny (model X.prog X.w) X.A (f (.int i t)) Q E s) :
  ng X f (rU fun i=>.int (g i)):=by
 intro pins s σ H x v Q I rx h
 obtain ⟨i,rfl,q⟩:=h
 obtain ⟨t,rfl⟩:=rx
 exact rule i t s _ _ ⟨.int (g i),H,I.tok _,⟨_,rfl⟩,q⟩
theorem nk:ng X (unaryOp .USub) (rU fun i=>.int (-i)):=ye fun _ _ _ _ _ q=>neg_int q
end
def nq:V→V→Bool
 | .ay,.ay=>true | .ay,.int _=>true | .int _,.ay=>true | .ay,.bl _=>true | .bl _,.ay=>true | .ay,.str _=>true | .str _,.ay=>true
 | .int _,.int _=>true | .bl _,.bl _=>true | .str _,.str _=>true | .cV _,.cV _=>true
 | .int _,.str _=>true | .str _,.int _=>true | .bl _,.str _=>true | .str _,.bl _=>true
 | _,_=>false
def yf:R2:=fun x y H Q=>nq x y=true∧Q (.bl (decide (x=y))) H
def rK:R2:=fun x y H Q=>nq x y=true∧Q (.bl (!decide (x=y))) H
theorem rM{i j:Int}:decide (V.int i=V.int j)=(i == j):=by
 rw [Bool.eq_iff_iff]
 simp
theorem rN{i j:Bool}:decide (V.bl i=V.bl j)=(i == j):=by
 rw [Bool.eq_iff_iff]
 simp
theorem rO{i j:Str}:decide (V.str i=V.str j)=(i == j):=by
 rw [Bool.eq_iff_iff]
 simp
theorem rP{i j:Array UInt8}:decide (V.cV i=V.cV j)=(i.toList == j.toList):=by
 rw [Bool.eq_iff_iff]
 cases i
 cases j
 simp
section
variable {X:Cx} {a b c:Expr} {ta tb tc:TE} {pos:Pos}
theorem aZ{pins:List (Addr×Obj)}{σ:St}{H:Hp}{s:Shared}{Q:VK}{k k':Bool}(I:Inv X pins σ H s)(q:Q (.bl k) H)(e:k=k'):EP X pins σ Q (.bool k') s:=by
 subst e
 exact ⟨.bl k,H,I,rfl,q⟩
theorem bP:aY X (compareOp .Eq) yf:=by
 intro pins s σ H x y v u Q I rx ry h
 obtain ⟨hs,q⟩:=h
 cases x with
 | ay=>
  cases rx
  cases y with
  | ay=>cases ry;exact PySem.EqNone.eq_none_none (aZ I q (by simp))
  | bl j=>cases ry;exact PySem.EqNone.eq_none_bool (aZ I q (by simp))
  | int j=>obtain ⟨t',rfl⟩:=ry;exact PySem.EqNone.eq_none_int (aZ I q (by simp))
  | str j=>obtain ⟨t',rfl⟩:=ry;exact PySem.EqNone.eq_none_str (aZ I q (by simp))
  | _=>exact absurd (show false=true from hs) Bool.false_ne_true
 | bl i=>
  cases rx
  cases y with
  | ay=>cases ry;exact PySem.EqNone.eq_bool_none (aZ I q (by simp))
  | bl j=>cases ry;exact eq_bool (aZ I q rN)
  | str j=>obtain ⟨t',rfl⟩:=ry;exact PySem.EqMixed.eq_bool_str (aZ I q (by simp))
  | _=>exact absurd (show false=true from hs) Bool.false_ne_true
 | int i=>
  obtain ⟨t,rfl⟩:=rx
  cases y with
  | ay=>cases ry;exact PySem.EqNone.eq_int_none (aZ I q (by simp))
  | int j=>obtain ⟨t',rfl⟩:=ry;exact eq_int (aZ I q rM)
  | str j=>obtain ⟨t',rfl⟩:=ry;exact PySem.EqMixed.eq_int_str (aZ I q (by simp))
  | _=>exact absurd (show false=true from hs) Bool.false_ne_true
 | str i=>
  obtain ⟨t,rfl⟩:=rx
  cases y with
  | ay=>cases ry;exact PySem.EqNone.eq_str_none (aZ I q (by simp))
  | bl j=>cases ry;exact PySem.EqMixed.eq_str_bool (aZ I q (by simp))
  | int j=>obtain ⟨t',rfl⟩:=ry;exact PySem.EqMixed.eq_str_int (aZ I q (by simp))
  | str j=>obtain ⟨t',rfl⟩:=ry;exact eq_str (aZ I q rO)
  | _=>exact absurd (show false=true from hs) Bool.false_ne_true
 | cV i=>
  obtain ⟨t,rfl⟩:=rx
  cases y with
  | cV j=>obtain ⟨t',rfl⟩:=ry;exact PySem.W.eq_bytes (aZ I q rP)
  | _=>exact absurd (show false=true from hs) Bool.false_ne_true
 | _=>cases y <;> exact absurd (show false=true from hs) Bool.false_ne_true
theorem h8:aY X (compareOp .NotEq) rK:=by
 intro pins s σ H x y v u Q I rx ry h
 obtain ⟨hs,q⟩:=h
 cases x with
 | ay=>
  cases rx
  cases y with
  | ay=>cases ry;exact PySem.EqNone.ne_none_none (aZ I q (by simp))
  | bl j=>cases ry;exact PySem.EqNone.ne_none_bool (aZ I q (by simp))
  | int j=>obtain ⟨t',rfl⟩:=ry;exact PySem.EqNone.ne_none_int (aZ I q (by simp))
  | str j=>obtain ⟨t',rfl⟩:=ry;exact PySem.EqNone.ne_none_str (aZ I q (by simp))
  | _=>exact absurd (show false=true from hs) Bool.false_ne_true
 | bl i=>
  cases rx
  cases y with
  | ay=>cases ry;exact PySem.EqNone.ne_bool_none (aZ I q (by simp))
  | bl j=>cases ry;exact ne_bool (aZ I q (congrArg not rN))
  | str j=>obtain ⟨t',rfl⟩:=ry;exact PySem.EqMixed.ne_bool_str (aZ I q (by simp))
  | _=>exact absurd (show false=true from hs) Bool.false_ne_true
 | int i=>
  obtain ⟨t,rfl⟩:=rx
  cases y with
  | ay=>cases ry;exact PySem.EqNone.ne_int_none (aZ I q (by simp))
  | int j=>obtain ⟨t',rfl⟩:=ry;exact ne_int (aZ I q (congrArg not rM))
  | str j=>obtain ⟨t',rfl⟩:=ry;exact PySem.EqMixed.ne_int_str (aZ I q (by simp))
  | _=>exact absurd (show false=true from hs) Bool.false_ne_true
 | str i=>
  obtain ⟨t,rfl⟩:=rx
  cases y with
  | ay=>cases ry;exact PySem.EqNone.ne_str_none (aZ I q (by simp))
  | bl j=>cases ry;exact PySem.EqMixed.ne_str_bool (aZ I q (by simp))
  | int j=>obtain ⟨t',rfl⟩:=ry;exact PySem.EqMixed.ne_str_int (aZ I q (by simp))
  | str j=>obtain ⟨t',rfl⟩:=ry;exact ne_str (aZ I q (congrArg not rO))
  | _=>exact absurd (show false=true from hs) Bool.false_ne_true
 | cV i=>
  obtain ⟨t,rfl⟩:=rx
  cases y with
  | cV j=>obtain ⟨t',rfl⟩:=ry;exact PySem.W.ne_bytes (aZ I q (congrArg not rP))
  | _=>exact absurd (show false=true from hs) Bool.false_ne_true
 | _=>cases y <;> exact absurd (show false=true from hs) Bool.false_ne_true
theorem kI:aY X (compareOp .Lt) (fj fun i j=>.bl (decide (i<j))):=kH fun _ _ _ _ _ _ _ q=>lt_int q
theorem kJ:aY X (compareOp .LtE) (fj fun i j=>.bl (decide (i≤j))):=kH fun _ _ _ _ _ _ _ q=>le_int q
theorem fV:aY X (compareOp .Gt) (fj fun i j=>.bl (decide (j<i))):=kH fun _ _ _ _ _ _ _ q=>gt_int q
theorem rQ:aY X (compareOp .GtE) (fj fun i j=>.bl (decide (j≤i))):=kH fun _ _ _ _ _ _ _ q=>ge_int q
theorem yg:aY X (compareOp .Is) (fun x y H Q=>y=.ay∧Q (.bl (decide (x=.ay))) H):=by
 intro pins s σ H x y v u Q I rx ry h
 obtain ⟨rfl,q⟩:=h
 cases ry
 refine is_none_gen (aZ I q ?_)
 cases x <;> first
  | (cases rx;rfl)
  | (obtain ⟨t,rfl⟩:=rx;rfl)
theorem aI(b:Expr){op:CmpOp}(h:op≠.In:=by decide)(h2:op≠.NotIn:=by decide):behindInMarks op b=false:=by
 have e1:(op == CmpOp.In)=false:=by cases op <;> first | rfl | exact absurd rfl h
 have e2:(op == CmpOp.NotIn)=false:=by cases op <;> first | rfl | exact absurd rfl h2
 cases b <;> simp [behindInMarks,e1,e2]
theorem dY{op:CmpOp}{r:R2}(ho:aY X (compareOp op) r)(ha:PE X a ta)(hb:PE X b tb)(hm:behindInMarks op b=false):PE X (.Compare a [op] [b] pos) (kG r ta tb):=by
 intro pins s σ H Q I h
 exact wpAny_Compare1 (nh ha hb I h fun v u s2 x y H2 I2 rx ry q=>ho pins s2 σ H2 x y v u Q I2 rx ry q) hm
def yh(t:TE):TT:=fun σ H Q=>t σ H fun x H'=>∃k,x=.bl k∧Q k H'
theorem aR{op:CmpOp}{r:R2}(ho:aY X (compareOp op) r)(ha:PE X a ta)(hb:PE X b tb)(hm:behindInMarks op b=false):PT X (.Compare a [op] [b] pos) (yh (kG r ta tb)):=by
 intro pins s σ H Q I h
 refine wpAny_isTrue_Compare1 (aw (ha pins s σ H _ I h) fun v s1 ⟨x,H1,I1,r1,q1⟩=>aw (hb pins s1 σ H1 _ I1 q1) fun u s2 ⟨y,H2,I2,r2,q2⟩=>
  aw (ho pins s2 σ H2 x y v u _ I2 r1 r2 q2) fun c s3 ⟨z,H3,I3,r3,k,e,q3⟩=>?_) hm
 subst e
 cases r3
 exact wpAny_truthy_bool ⟨H3,I3,q3⟩
def yi(r r':R2)(ta tb tc:TE):TE:=fun σ H Q=>ta σ H fun x H1=>tb σ H1 fun y H2=>r x y H2 fun z H3=>∃k,z=.bl k ∧
 (if k=true then tc σ H3 fun w' H4=>r' y w' H4 Q else Q (.bl false) H3)
theorem yj{op nu:CmpOp}{r r':R2}(ho:aY X (compareOp op) r)(eB:aY X (compareOp nu) r')(ha:PE X a ta)(hb:PE X b tb)(hc:PE X c tc)
  (hm:lastMarks [op,nu] [b,c]=false:=by with_unfolding_all rfl):PE X (.Compare a [op,nu] [b,c] pos) (yi r r' ta tb tc):=by
 intro pins s σ H Q I h
 refine Compare_chain (aw (ha pins s σ H _ I h) fun v s1 ⟨x,H1,I1,r1,q1⟩=>chain_link (aw (hb pins s1 σ H1 _ I1 q1) fun u s2 ⟨y,H2,I2,r2,q2⟩=>
  aw (ho pins s2 σ H2 x y v u _ I2 r1 r2 q2) fun d s3 ⟨z,H3,I3,r3,k,e,q3⟩=>?_)) hm
 subst e
 cases r3
 refine wpAny_truthy_bool ?_
 cases k with
 | false=>exact ite_ff ⟨.bl false,H3,I3,rfl,q3⟩
 | true=>exact ite_tt (chain_last (aw (hc pins s3 σ H3 _ I3 q3) fun w' s4 ⟨z',H4,I4,r4,q4⟩=>eB pins s4 σ H4 y z' u w' Q I4 r2 r4 q4))
theorem kK:(sizeLine:Nat)<2 ^ 63:=by rw [sizeLine_eq];decide
theorem vals1{x:V}{us:List Value}(r:Vals [x] us):∃u,us=[u]∧RelV x u:=by
 cases r with
 | cons r1 r2=>cases r2;exact ⟨_,rfl,r1⟩
theorem vals2{x y:V}{us:List Value}(r:Vals [x,y] us):∃u w',us=[u,w']∧RelV x u∧RelV y w':=by
 cases r with
 | cons r1 r2=>
  cases r2 with
  | cons r3 r4=>cases r4;exact ⟨_,_,rfl,r1,r3⟩
theorem rR:bY X (.builtin "abs") (fun xs H Q=>∃i,xs=[.int i]∧Q (.int (if i<0 then -i else i)) H):=by
 intro pins s σ H xs us Q I r h
 obtain ⟨i,rfl,q⟩:=h
 obtain ⟨u,rfl,t,rfl⟩:=vals1 r
 exact call_abs_int fun u tk=>⟨.int (if i<0 then -i else i),H,I.tok _,⟨_,rfl⟩,q⟩
theorem yk(hc:X.calm=true):bY X (.builtin "max") (fun xs H Q=>∃i j,xs=[.int i,.int j]∧Q (.int (if j>i then j else i)) H):=by
 intro pins s σ H xs us Q I r h
 obtain ⟨i,j,rfl,q⟩:=h
 obtain ⟨u,w',rfl,⟨t,rfl⟩,⟨t',rfl⟩⟩:=vals2 r
 refine max_two_ints (I.ok.hd hc) fun h' tk k=>⟨_,H,I.kept k,?_,q⟩
 by_cases hj:j>i
 ·rw [if_pos hj,if_pos hj];exact ⟨_,rfl⟩
 ·rw [if_neg hj,if_neg hj];exact ⟨_,rfl⟩
theorem yl(hc:X.calm=true):bY X (.builtin "min") (fun xs H Q=>∃i j,xs=[.int i,.int j]∧Q (.int (if j<i then j else i)) H):=by
 intro pins s σ H xs us Q I r h
 obtain ⟨i,j,rfl,q⟩:=h
 obtain ⟨u,w',rfl,⟨t,rfl⟩,⟨t',rfl⟩⟩:=vals2 r
 refine min_two_ints (I.ok.hd hc) fun h' tk k=>⟨_,H,I.kept k,?_,q⟩
 by_cases hj:j<i
 ·rw [if_pos hj,if_pos hj];exact ⟨_,rfl⟩
 ·rw [if_neg hj,if_neg hj];exact ⟨_,rfl⟩
end
structure fW (h:Heap) (x dx C:Addr) (mA:Str→Option Value):Prop where
 obj:h.get? x=some (PySem.W.instObj C dx)
 ns:h.Ns1 dx mA
 ne:dx≠x
theorem ym{h:Heap}{dx:Addr}{mA:Str→Option Value}(n:h.Ns1 dx mA):∃od,h.get? dx=some od∧∀name,PySem.W.lookIn name od=some (mA name):=by
 obtain ⟨o,es,ep,ho,hd,hk,_,hm⟩:=n
 refine ⟨o,ho,fun name=>?_⟩
 have e:=hm name
 unfold nsFind findBy at e
 rw [←Array.find?_toList] at e
 unfold PySem.W.lookIn
 rw [hd]
 dsimp only
 split
 ·rename_i y q
  rw [q] at e
  exact congrArg some e
 ·rename_i q
  rw [q] at e
  have a:es.toList.any (·.refKey)=false:=by
   rw [List.any_eq_false]
   intro y hy
   obtain ⟨z,t,yn⟩:=hk y (Array.mem_toList_iff.mp hy)
   simp [DictEntry.refKey,yn]
  have a':¬es.toList.any (·.refKey)=true:=by rw [a];exact Bool.false_ne_true
  rw [if_neg a']
  exact congrArg some e
theorem fW.look{h:Heap}{x dx C:Addr}{mA:Str→Option Value}(I:fW h x dx C mA):∃od,PySem.W.InstAt h x (PySem.W.instObj C dx) C (some od)∧∀name,PySem.W.lookIn name od=some (mA name):=
 let ⟨od,ho,hl⟩:=ym I.ns
 ⟨od,⟨I.obj,rfl,rfl,ho⟩,hl⟩
section
variable {prog:Program} {w:World} {A:Around} {E:Value→Shared→Prop} {s:Shared} {K:PySem.W.Frag} {x dx C f:Addr} {mA:Str→Option Value} {name:Str} {v:Value}
theorem get_map{expr:Bool}{Q:Value→Shared→Prop}(X:K.In s.heap)(I:fW s.heap x dx C mA)(hg:PySem.W.plainGet K C name=true)(hh:PySem.W.hasDictIn K C=true)
  (ha:PySem.W.findIn K (.ref C) name=some none) (hv:mA name=some v) (h9:PySem.W.handedIn v=true) (h:Q v {s with toks:=s.toks+1}) :
  wpAny (model prog w) A (getAttr (.ref x) name expr) Q E s:=by
 obtain ⟨od,J,hl⟩:=I.look
 exact PySem.W.get_value X J (PySem.W.plainGet_of hg).1 (PySem.W.findObj_own hh ha rfl (by rw [hl,hv])) h9 h
theorem yo{pl:Sem Bool}{Q:Value×List Value→Shared→Prop}(X:K.In s.heap)(I:fW s.heap x dx C mA)(hg:PySem.W.plainGet K C name=true)
  (hf:PySem.W.findIn K (.ref C) name=some (some (.ref f))) (ht:PySem.W.isFn K (.ref f)=true) (hv:mA name=none) (h:Q (.ref f,[.ref x]) s) :
  wpAny (model prog w) A (getMethod (.ref x) name pl) Q E s:=by
 obtain ⟨od,J,hl⟩:=I.look
 exact PySem.W.method_fn X J (PySem.W.plainGet_of hg).1 (PySem.W.plainGet_of hg).2 hf (beq_iff_eq.mp ht) (by show (PySem.W.lookIn name od).map (·.isSome)=some false;rw [hl,hv];rfl) h
theorem yp{ns:List Str}{Q:Unit→Shared→Prop}(X:K.In s.heap)(I:fW s.heap x dx C mA)
  (hs:PySem.W.findIn K (.ref C) "__setattr__" = some (some (.builtin "object.__setattr__"))) (hp:PySem.W.plainOver K C=true) (ht:PySem.W.takerIn K C name=some none) (hh:PySem.W.hasDictIn K C=true)
  (hw:PySem.Within mA ns) (rS:ns.length≤sizeLine)
  (h:∀h',fW h' x dx C (fun y=>if y=name then some v else mA y)→Heap.SameBut dx s.heap h'→Q () {s with heap:=h',toks:=s.toks+2}) :
  wpAny (model prog w) A (setAttr (.ref x) name v) Q E s:=by
 obtain ⟨od,J,hl⟩:=I.look
 refine PySem.W.set_plain X J hs (PySem.W.osa_open (s:={s with toks:=s.toks+1}) (r:=none) X J hp ht fun b=>?_)
 obtain ⟨cd,hc,mV⟩:=PySem.W.any_some hh
 have hx:s.heap.get? x=some ⟨.ref C,some dx,.plain,#[]⟩:=I.obj
 refine wpAny_bind (wpAny_pure (wpAny_bind (wpAny_bind (wpAny_loadPart hx (wpAny_bind (PySem.W.Looks.here (s:={s with toks:=s.toks+1}) (PySem.W.looks_clsIn X hc) ?_))))))
 rw [mV]
 refine wpAny_pure (a:=some dx) (wpAny_bind (wpAny_pure (wpAny_bind ?_)))
 refine wpAny_nsSet1 (s:={s with toks:=s.toks+1}) I.ns fun h' h_ fS=>?_
 obtain ⟨oD,G1,G2,yq,yr,yt⟩:=h_.count (PySem.Within.cons name v hw)
 refine wpAny_bind (wpAny_lookBehind yq (by rw [yr];exact pastItsLine_dict (Nat.le_trans yt (by rw [List.length_cons];omega))) ?_)
 exact wpAny_pure (h _ ⟨(fS.2 _ (Ne.symm I.ne)).trans I.obj,h_,I.ne⟩ fS)
theorem yu{R:Result→Shared→Prop}{vs:List Value}{kw:List (Str×Value)}(X:K.In s.heap)(hm:PySem.W.makesIn K C=true)
  (hi:PySem.W.findIn K (.ref C) "__init__" = some (some (.ref f))) (hf:PySem.W.typeIn K (.ref f)=some (.type "function"))
  (h:codeAny (model prog w) (A.under (.builtin "type.__call__" ⟨.ref C::vs,kw⟩)) (.call (.ref f) ⟨.ref (s.heap.objs.size+1)::vs,kw⟩) (PySem.W.InitBack (s.heap.objs.size+1) R)
   {s with heap:=(s.heap.push PySem.W.emptyDict).push (PySem.W.instObj C s.heap.objs.size)}) :
  codeAny (model prog w) A (.call (.ref C) ⟨vs,kw⟩) R s:=by
 obtain ⟨hh,g,d,t,os⟩:=s
 exact PySem.W.make_core (PySem.W.makes_of X hm) (PySem.W.looks_findIn X hi) (fun self=>PySem.W.bind_fn X self hf) (.inl rfl) h
end
def bZ(f:Str)(v:V):List (Str×V)→List (Str×V)
 | []=>[(f,v)]
 | (g,x)::r=>if g=f then (g,v)::r else (g,x)::bZ f v r
theorem rT(f g:Str)(v:V):∀fs:List (Str×V),(bZ f v fs).lookup g=if g=f then some v else fs.lookup g
 | []=>by
  show List.lookup g [(f,v)]=_
  by_cases h:g=f
  ·have hb:(g == f)=true:=beq_iff_eq.mpr h
   simp only [List.lookup,hb,if_pos h]
  ·have hb:(g == f)=false:=beq_eq_false_iff_ne.mpr h
   simp only [List.lookup,hb,if_neg h]
 | (k,x)::r=>by
  have ih:=rT f g v r
  rw [show bZ f v ((k,x)::r)=(if k=f then (k,v)::r else (k,x)::bZ f v r) from rfl]
  by_cases hk:k=f
  ·rw [if_pos hk]
   by_cases h:g=k
   ·have hb:(g == k)=true:=beq_iff_eq.mpr h
    simp only [List.lookup,hb,if_pos (h.trans hk)]
   ·have hb:(g == k)=false:=beq_eq_false_iff_ne.mpr h
    simp only [List.lookup,hb,if_neg (fun e:g=f=>h (e.trans hk.symm))]
  ·rw [if_neg hk]
   by_cases h:g=k
   ·have hb:(g == k)=true:=beq_iff_eq.mpr h
    simp only [List.lookup,hb,if_neg (fun e:g=f=>hk (h.symm.trans e))]
   ·have hb:(g == k)=false:=beq_eq_false_iff_ne.mpr h
    simp only [List.lookup,hb]
    exact ih
theorem nB(f:Str)(v:V):∀fs:List (Str×V),f∈(bZ f v fs).map (·.1)∧∀g,g∈fs.map (·.1)→g∈(bZ f v fs).map (·.1)
 | []=>⟨by simp [bZ],fun g h=>by simp at h⟩
 | (k,x)::r=>by
  obtain ⟨i1,i2⟩:=nB f v r
  rw [show bZ f v ((k,x)::r)=(if k=f then (k,v)::r else (k,x)::bZ f v r) from rfl]
  by_cases hk:k=f
  ·rw [if_pos hk]
   subst hk
   exact ⟨by simp,fun g h=>by simpa using h⟩
  ·rw [if_neg hk]
   refine ⟨?_,fun g h=>?_⟩
   ·rw [List.map_cons]
    exact List.mem_cons_of_mem _ i1
   ·rw [List.map_cons] at h ⊢
    rcases List.mem_cons.mp h with e | e
    ·exact List.mem_cons.mpr (.inl e)
    ·exact List.mem_cons_of_mem _ (i2 g e)
theorem rV(f:Str)(v:V):∀fs:List (Str×V),(bZ f v fs).length≤fs.length+1
 | []=>by simp [bZ]
 | (k,x)::r=>by
  have ih:=rV f v r
  rw [show bZ f v ((k,x)::r)=(if k=f then (k,v)::r else (k,x)::bZ f v r) from rfl]
  by_cases hk:k=f
  ·rw [if_pos hk,List.length_cons,List.length_cons];omega
  ·rw [if_neg hk,List.length_cons,List.length_cons];omega
theorem dP.some_of{v:V}{o:Option Value}(r:dP (some v) o):∃u,o=some u∧RelV v u:=by
 cases o with
 | none=>exact (show False from r).elim
 | some u=>exact ⟨u,rfl,r⟩
theorem dP.none_of{o:Option Value}(r:dP none o):o=none:=by
 cases o with
 | none=>rfl
 | some u=>exact (show False from r).elim
theorem yv{v:V}{u:Value}(r:RelV v u):PySem.W.handedIn u=true:=by
 cases v with
 | ay=>cases (show u=Value.none from r);rfl
 | bl b=>cases (show u=Value.bool b from r);rfl
 | int i=>obtain ⟨t,e⟩:=(show ∃t,u=Value.int i t from r);cases e;rfl
 | str x=>obtain ⟨t,e⟩:=(show ∃t,u=Value.str x t from r);cases e;rfl
 | cV b=>obtain ⟨t,e⟩:=(show ∃t,u=Value.bytes b t from r);cases e;rfl
 | fH b=>obtain ⟨t,e⟩:=(show ∃t,u=Value.float b t from r);cases e;rfl
 | ref a=>cases (show u=Value.ref a from r);rfl
 | ty n=>cases (show u=Value.type n from r);rfl
section
variable {P:Program} {w:World} {H H':Hp} {h h':Heap} {a C dx:Addr} {fs xi:List (Str×V)}
theorem kL(aq:a9 P w H h)(e:H a=some (.ins C dx fs)):∃mA,fW h a dx C mA∧(∀f,dP (fs.lookup f) (mA f))∧PySem.Within mA (fs.map (·.1))∧fs.length≤1000∧H dx=some (.own a):=by
 obtain ⟨d,z,ne,ob,mA,n,r,q⟩:=(show aQ P w H h a (.ins C dx fs) from aq a _ e)
 exact ⟨mA,⟨ob,n,ne⟩,r,q,z,d⟩
end
structure dE (K:PySem.W.Frag) (C:Addr):Prop where
 pg:PySem.W.plainGet K C Str.empty=true
 hd:PySem.W.hasDictIn K C=true
 po:PySem.W.plainOver K C=true
 sa:PySem.W.findIn K (.ref C) "__setattr__" = some (some (.builtin "object.__setattr__"))
theorem dE.get{K:PySem.W.Frag}{C:Addr}(c:dE K C)(f:Str):PySem.W.plainGet K C f=true:=c.pg
def fX(K:PySem.W.Frag)(C:Addr)(f:Str):Prop:=PySem.W.findIn K (.ref C) f=some none
theorem fX.yw{K:PySem.W.Frag}{C:Addr}{f:Str}(n:fX K C f):PySem.W.takerIn K C f=some none:=by
 unfold PySem.W.takerIn
 rw [show PySem.W.findIn K (.ref C) f=some none from n]
 rfl
structure Meth (K:PySem.W.Frag) (C:Addr) (m:Str) (f:Addr):Prop where
 at_:PySem.W.findIn K (.ref C) m=some (some (.ref f))
 fn:PySem.W.isFn K (.ref f)=true
 kp:PySem.W.keepIn K (.ref f)=true
section
variable {X:Cx} {pins:List (Addr×Obj)} {σ:St} {H:Hp} {s:Shared} {a C dx:Addr} {fs:List (Str×V)} {f:Str} {v:V} {A:Around} {E:Value→Shared→Prop}
theorem yx{b:Bool}{Q:Value→Shared→Prop}(I:Inv X pins σ H s)(e:H a=some (.ins C dx fs))(c:dE X.K C)(n:fX X.K C f)(l:fs.lookup f=some v)
  (h:∀u s',Inv X pins σ H s'→RelV v u→Q u s'):wpAny (model X.prog X.w) A (getAttr (.ref a) f b) Q E s:=by
 obtain ⟨mA,O,r,_,_,_⟩:=kL I.aq e
 obtain ⟨u,hu,ru⟩:=dP.some_of (v:=v) (o:=mA f) (by rw [←l];exact r f)
 exact get_map I.aX O (c.get f) c.hd n hu (yv ru) (h u _ (I.tok _) ru)
theorem rW{m:Str}{g:Addr}{pl:Sem Bool}{Q:Value×List Value→Shared→Prop}(I:Inv X pins σ H s)(e:H a=some (.ins C dx fs))(c:dE X.K C)(k:Meth X.K C m g)(l:fs.lookup m=none)
  (h:Q (.ref g,[.ref a]) s):wpAny (model X.prog X.w) A (getMethod (.ref a) m pl) Q E s:=by
 obtain ⟨mA,O,r,_,_,_⟩:=kL I.aq e
 have hn:mA m=none:=dP.none_of (by rw [←l];exact r m)
 exact yo I.aX O (c.get m) k.at_ k.fn hn h
theorem yy{y:V}{u:Value}{Q:Unit→Shared→Prop}(I:Inv X pins σ H s)(e:H a=some (.ins C dx fs))(c:dE X.K C)(n:fX X.K C f)(hl:fs.length<1000)(ry:RelV y u)
  (h:∀s',Inv X pins σ (upd H a (.ins C dx (bZ f y fs))) s'→Q () s'):wpAny (model X.prog X.w) A (setAttr (.ref a) f u) Q E s:=by
 obtain ⟨mA,O,r,wi,_,ho⟩:=kL I.aq e
 have hz:(fs.map (·.1)).length≤sizeLine:=by rw [List.length_map,sizeLine_eq];omega
 refine yp I.aX O c.sa c.po n.yw c.hd wi hz fun h' O' sb=>h _ ?_
 have hd:∃o,h'.get? dx=some o:=let ⟨o,_,_,e',_⟩:=O'.ns;⟨o,e'⟩
 refine I.write (x:=a) (e:=dx) (by rw [e];exact True.intro) (.inr ho) (fun b q hb z=>(sb.2 b hb).trans z) hd ?_
 refine ⟨by rw [aD O.ne];exact ho,?_,O.ne,O'.obj,_,O'.ns,fun g=>?_,fun g hg=>?_⟩
 ·have:=rV f y fs;omega
 ·show dP ((bZ f y fs).lookup g) (if g=f then some u else mA g)
  rw [rT]
  by_cases q:g=f
  ·rw [if_pos q,if_pos q];exact ry
  ·rw [if_neg q,if_neg q];exact r g
 ·by_cases q:g=f
  ·rw [q];exact (nB f y fs).1
  ·refine (nB f y fs).2 g (wi g fun z=>hg ?_)
   show (if g=f then some u else mA g)=none
   rw [if_neg q];exact z
theorem Inv.made(I:Inv X pins σ H s):Inv X pins σ (upd (upd H s.heap.objs.size (.own (s.heap.objs.size+1))) (s.heap.objs.size+1) (.ins C s.heap.objs.size []))
  {s with heap:=(s.heap.push PySem.W.emptyDict).push (PySem.W.instObj C s.heap.objs.size)}:=by
 have e1:(s.heap.push PySem.W.emptyDict).get? s.heap.objs.size=some PySem.W.emptyDict:=Heap.get?_push_size s.heap rfl
 have e2:((s.heap.push PySem.W.emptyDict).push (PySem.W.instObj C s.heap.objs.size)).get? (s.heap.objs.size+1)=some (PySem.W.instObj C s.heap.objs.size):=by
  have:=Heap.get?_push_size (s.heap.push PySem.W.emptyDict) (o:=PySem.W.instObj C s.heap.objs.size) rfl
  rwa [Heap.size_push] at this
 have e3:(s.heap.push PySem.W.emptyDict).Ns s.heap.objs.size (fun _=>none):=⟨PySem.W.emptyDict,#[],_,e1,rfl,(fun e he=>absurd he (by simp)),fun _=>rfl⟩
 have I1:=I.laid (a:=s.heap.objs.size) (o:=.own (s.heap.objs.size+1)) (h':=s.heap.push PySem.W.emptyDict) (t':=s.toks) (fun b u q=>Heap.get?_push_of_some _ q) (Nat.le_refl _) ⟨_,e1⟩
 refine I1.laid (a:=s.heap.objs.size+1) (o:=.ins C s.heap.objs.size []) (t':=s.toks) (fun b u q=>Heap.get?_push_of_some _ q) (Nat.le_of_eq (Heap.size_push _ _)) ?_
 have ne:s.heap.objs.size≠s.heap.objs.size+1:=Nat.ne_of_lt (Nat.lt_succ_self _)
 refine ⟨by rw [aD ne,ar],Nat.zero_le _,ne,e2,fun _=>none,(Heap.Ns1.of_empty e3).at fun o q=>Heap.get?_push_of_some _ q,fun _=>True.intro,fun y hy=>absurd rfl hy⟩
theorem yz{prog:Program}{w:World}{env:Env}{e:Expr}{f:Str}{pos:Pos}{s:Shared}{Q:Value→Shared→Prop}(hb:attributeBase e f env (eval e env)=eval e env)
  (h:wpAny (model prog w) A (eval e env) (fun o s₁=>wpAny (model prog w) A (getAttr o f true) Q E s₁) E s):wpAny (model prog w) A (eval (.Attribute e f pos) env) Q E s:=
 Attribute_any_ h (by rw [arm_eval_Attribute,hb])
end
def yA(K:PySem.W.Frag)(ta:TE)(f:Str):TE:=fun σ H Q=>ta σ H fun x H1=>∃a C dx fs v,x=.ref a∧H1 a=some (.ins C dx fs)∧dE K C∧fX K C f∧fs.lookup f=some v∧Q v H1
def yB(K:PySem.W.Frag)(ta tv:TE)(f:Str):TS:=fun D σ H=>tv σ H fun y H1=>ta σ H1 fun x H2=>∃a C dx fs,x=.ref a∧H2 a=some (.ins C dx fs)∧dE K C∧fX K C f∧fs.length<1000 ∧
 D.nx σ (upd H2 a (.ins C dx (bZ f y fs)))
section
variable {X:Cx} {o e value:Expr} {f:Str} {pos pos' G3:Pos} {ta tv:TE}
theorem kM(he:PE X e ta)(hb:attributeBase e f X.env (eval e X.env)=eval e X.env):PE X (.Attribute e f pos) (yA X.K ta f):=by
 intro pins s σ H Q I h
 refine yz hb (aw (he pins s σ H _ I h) fun u s1 ⟨x,H1,I1,rx,a,C,dx,fs,v,ex,ea,c,n,l,q⟩=>?_)
 subst ex
 obtain rfl:u=Value.ref a:=rx
 exact yx I1 ea c n l fun u' s2 I2 ru=>⟨v,H1,I2,ru,q⟩
theorem rX(ha:PE X o ta)(hv:PE X value tv)(hs:swapsWith value (some (.Attribute o f pos')) pos.line X.env=pure false):PS X (.Assign [.Attribute o f pos'] value pos) (yB X.K ta tv f):=by
 intro pins s σ H D I h
 refine plainObj_wpAny_Assign_Attribute (aw (hv pins s σ H _ I h) fun u s1 ⟨y,H1,I1,ry,q⟩=>aw (ha pins s1 σ H1 _ I1 q) fun ov s2 ⟨x,H2,I2,rx,a,C,dx,fs,ex,ea,c,n,l,q2⟩=>?_) hs
 subst ex
 obtain rfl:ov=Value.ref a:=rx
 exact yy I2 ea c n l ry fun s3 I3=>⟨σ,_,I3,q2⟩
theorem G4{pl:Sem Bool}{m:Str}{apos:Pos}{args:List Expr}{pins:List (Addr×Obj)}{s:Shared}{σ:St}{H:Hp}{Q:Value→Shared→Prop}{te:TE}(he:PE X e te)(I:Inv X pins σ H s)
  (h:te σ H fun x H1=>∃a C dx fs g,x=.ref a∧H1 a=some (.ins C dx fs)∧dE X.K C∧Meth X.K C m g∧fs.lookup m=none ∧
   ∀s1,Inv X pins σ H1 s1→wpAny (model X.prog X.w) X.A (callWith pos (.ref g) [.ref a] (backTo pos (starEach args X.env)) (backToKw pos (keywordEach [] X.env))) Q X.xe s1)
  (ht:eval (.Call (.Attribute e m apos) args [] pos) X.env=(do
   let ov ←eval e X.env
   standAt apos.atName
   let (f,first) ←holding [ov] (getMethod ov m pl)
   callWith pos f first (backTo pos (starEach args X.env)) (backToKw pos (keywordEach [] X.env)))) :
  wpAny (model X.prog X.w) X.A (eval (.Call (.Attribute e m apos) args [] pos) X.env) Q X.xe s:=by
 refine PySem.W.methodCall_KW (pl:=pl) (aw (he pins s σ H _ I h) fun u s1 ⟨x,H1,I1,rx,a,C,dx,fs,g,ex,ea,c,k,l,q⟩=>?_) ht
 subst ex
 obtain rfl:u=Value.ref a:=rx
 exact rW I1 ea c k l (q s1 I1)
end
section
variable {X:Cx} {pins:List (Addr×Obj)} {σ:St} {H:Hp} {s:Shared} {A:Around} {E:Value→Shared→Prop} {Q:Value→Shared→Prop} {c:Value} {b:Bool}
inductive cM (K:PySem.W.Frag) (H:Hp):V→Value→Prop where
 | ay:cM K H .ay (.type "NoneType")
 | bl (x:Bool):cM K H (.bl x) (.type "bool")
 | int (i:Int):cM K H (.int i) (.type "int")
 | str (x:Str):cM K H (.str x) (.type "str")
 | fH (x:UInt64):cM K H (.fH x) (.type "float")
 | lst {a:Addr} {xs:List V} (e:H a=some (.lst xs)):cM K H (.ref a) (.type "list")
 | bU {a:Addr} {o:Obj} {xs:List V} (e:H a=some (.bU o (.lst xs))):cM K H (.ref a) (.type "list")
 | tup {a:Addr} {xs:List V} (e:H a=some (.tup xs)):cM K H (.ref a) (.type "tuple")
 | dK {a:Addr} {bg:List (Key×V)} (e:H a=some (.dK bg)):cM K H (.ref a) (.type "dict")
 | dT {a:Addr} {bg:List (List Key×V)} (e:H a=some (.dT bg)):cM K H (.ref a) (.type "dict")
 | ins {a C dx:Addr} {fs:List (Str×V)} (e:H a=some (.ins C dx fs)) (cl:dE K C) (ha:PySem.W.findIn K (.ref C) "__class__" = some (some (.builtin "object.__class__")))
   (hn:PySem.W.specialIn K (.builtin "object.__class__") "__get__" = some (some (.builtin "getset_descriptor.__get__"))) (rY:PySem.W.takesIn K (.builtin "object.__class__")=some true)
   (hm:PySem.W.mroIn K C (.type "object")=some true):cM K H (.ref a) (.ref C)
theorem yC{x:V}{u t:Value}(I:Inv X pins σ H s)(rx:RelV x u)(ty:cM X.K H x t)(e:PySem.W.kitOne X.K t c=some b)(h:∀tk,Q (.bool b) {s with toks:=tk}) :
  wpAny (model X.prog X.w) A (call (.builtin "isinstance") [u,c]) Q E s:=by
 cases ty with
 | ay=>cases (show u=Value.none from rx);exact PySem.W.kia_one PySem.W.kitx_none I.aX True.intro e (fun z=>nomatch z) h
 | bl y=>cases (show u=Value.bool y from rx);exact PySem.W.kia_one PySem.W.kitx_bool I.aX True.intro e (fun z=>nomatch z) h
 | int i=>obtain ⟨t,q⟩:=(show ∃t,u=Value.int i t from rx);cases q;exact PySem.W.kia_one PySem.W.kitx_int I.aX True.intro e (fun z=>nomatch z) h
 | str y=>obtain ⟨t,q⟩:=(show ∃t,u=Value.str y t from rx);cases q;exact PySem.W.kia_one PySem.W.kitx_str I.aX True.intro e (fun z=>nomatch z) h
 | fH y=>obtain ⟨t,q⟩:=(show ∃t,u=Value.float y t from rx);cases q;exact PySem.W.kia_one PySem.W.kitx_float I.aX True.intro e (fun z=>nomatch z) h
 | @lst a xs ea=>
  cases (show u=Value.ref a from rx)
  obtain ⟨_,_,n,_,h1⟩:=(show aQ X.prog X.w H s.heap a (.lst xs) from I.aq a _ ea)
  exact PySem.W.kia_one PySem.W.kitx_list I.aX ⟨_,h1,rfl⟩ e (fun z=>nomatch z) h
 | @bU a ob xs ea=>
  cases (show u=Value.ref a from rx)
  obtain ⟨_,_,_,n,_,h1⟩:=(show aQ X.prog X.w H s.heap a (.bU ob (.lst xs)) from I.aq a _ ea)
  exact PySem.W.kia_one PySem.W.kitx_list I.aX ⟨_,h1,rfl⟩ e (fun z=>nomatch z) h
 | @tup a xs ea=>
  cases (show u=Value.ref a from rx)
  obtain ⟨_,_,_,p⟩:=(show aQ X.prog X.w H s.heap a (.tup xs) from I.aq a _ ea)
  obtain ⟨o,h1,h2,_⟩:=p
  exact PySem.W.kia_one PySem.W.kitx_tuple I.aX ⟨o,h1,h2⟩ e (fun z=>nomatch z) h
 | @dK a bg ea=>
  cases (show u=Value.ref a from rx)
  obtain ⟨_,_,vs,_,p⟩:=(show aQ X.prog X.w H s.heap a (.dK bg) from I.aq a _ ea)
  obtain ⟨o,es,ep,h1,h2,_⟩:=p
  exact PySem.W.kia_one PySem.W.kitx_dict I.aX ⟨o,h1,h2.1⟩ e (fun z=>nomatch z) h
 | @dT a bg ea=>
  cases (show u=Value.ref a from rx)
  obtain ⟨_,_,xs,_,o,es,ep,h1,h2,_⟩:=(show aQ X.prog X.w H s.heap a (.dT bg) from I.aq a _ ea)
  exact PySem.W.kia_one PySem.W.kitx_dict I.aX ⟨o,h1,h2.1⟩ e (fun z=>nomatch z) h
 | @ins a C dx fs ea cl ha hn rY hm=>
  cases (show u=Value.ref a from rx)
  obtain ⟨mA,O,_⟩:=kL I.aq ea
  obtain ⟨od,J,_⟩:=O.look
  exact PySem.W.kia_one (PySem.W.kitx_own (cl.get _) cl.hd ha hn rY hm) I.aX J e (fun z=>nomatch z) h
end
structure bc (k:Nat) (A:Around):Prop where
 hd:A.handled=none
 dp:A.depth+3*k+5<recursionLimit
 un:A.units+16*k+200<cLine
theorem bc.mono{j k:Nat}{A:Around}(r:bc k A)(h:j≤k):bc j A:=⟨r.hd,by have:=r.dp;omega,by have:=r.un;omega⟩
theorem bc.deeper{k:Nat}{A:Around}(r:bc (k+1) A)(env:Env):bc k (A.deeper env):=
 ⟨r.hd,by have:=r.dp;show A.depth+1+3*k+5<_;omega,by have:=r.un;show A.units+3+16*k+200<_;omega⟩
theorem yE{A:Around}{C:Addr}{us:List Value}{kw:List (Str×Value)}:(A.under (.builtin "type.__call__" ⟨.ref C::us,kw⟩)).depth=A.depth+1:=by
 first | rfl | simp [Around.under,Code.weight,Code.isCreation,Code.isGuard,Code.isCaller,Code.frames,Code.isFrame,guardIds]
theorem yF{A:Around}{C:Addr}{us:List Value}{kw:List (Str×Value)}:(A.under (.builtin "type.__call__" ⟨.ref C::us,kw⟩)).units=A.units+1:=by
 first | rfl | simp [Around.under,Code.cUnits,Code.frames,Code.isFrame]
theorem bc.make{k:Nat}{A:Around}(r:bc (k+1) A)(C:Addr)(us:List Value)(kw:List (Str×Value)):bc k (A.under (.builtin "type.__call__" ⟨.ref C::us,kw⟩)):=
 ⟨r.hd,by have:=r.dp;rw [yE];omega,by have:=r.un;rw [yF];omega⟩
theorem bc.depth{k:Nat}{A:Around}(r:bc k A):A.depth<recursionLimit:=by have:=r.dp;omega
theorem bc.units{k:Nat}{A:Around}(r:bc k A):A.units+64<cLine:=by have:=r.un;omega
theorem bc.rZ{k:Nat}{A:Around}(r:bc k A):A.units<cLine:=by have:=r.un;omega
def r6:TA:=fun _ H Q=>Q [] H
def nC(ta:TE)(tr:TA):TA:=fun σ H Q=>ta σ H fun x H1=>tr σ H1 fun xs H2=>Q (x::xs) H2
section
variable {X:Cx} {e:Expr} {es:List Expr} {te:TE} {t:TA} {pos:Pos}
theorem ag:PA X [] r6:=fun _ _ _ _ H Q I h=>Calls.spliced_nil ⟨[],H,I,.nil,h⟩
theorem yG(ha:PE X e te)(hr:PA X es t)(hs:starEach (e::es) X.env=(false,eval e X.env)::starEach es X.env:=by rfl):PA X (e::es) (nC te t):=by
 intro pos pins s σ H Q I h
 rw [hs]
 show wpAny _ _ (spliced ((false,eval e X.env)::backTo pos (starEach es X.env))) _ _ s
 refine Calls.spliced_cons (aw (ha pins s σ H _ I h) fun u s1 ⟨x,H1,I1,r1,q1⟩=>?_)
 exact aw (hr pos pins s1 σ H1 _ I1 q1) fun us s2 ⟨xs,H2,I2,r2,q2⟩=>⟨x::xs,H2,I2,.cons r1 r2,q2⟩
def yH(t:TA):TE:=fun σ H Q=>t σ H fun xs H1=>xs.length≤sizeLine∧∀p,H1 p=none→Q (.ref p) (upd H1 p (.tup xs))
def yI(t:TA):TE:=fun σ H Q=>t σ H fun xs H1=>xs.length≤sizeLine∧∀p,H1 p=none→Q (.ref p) (upd H1 p (.lst xs))
theorem bG{x1}(h:PA X es t):PE X (.Tuple es x1 pos) (yH t):=by
 intro pins s σ H Q I hq
 refine wpAny_Tuple_spliced (aw (h pos pins s σ H _ I hq) fun us s1 ⟨xs,H1,I1,r,z,q⟩=>⟨by rw [←r.length];exact z,?_⟩)
 have hf:H1 s1.heap.objs.size=none:=I1.aq.fresh (Nat.le_refl _)
 refine ⟨.ref s1.heap.objs.size,upd H1 s1.heap.objs.size (.tup xs),I1.laid (t':=s1.toks) (fun b u e=>Heap.get?_push_of_some _ e) (Nat.le_refl _) ?_,rfl,q _ hf⟩
 exact ⟨z,us,r,⟨_,Heap.get?_push_size _ rfl,rfl,_,rfl⟩⟩
theorem cj(h:PA X es t):PE X (.List es pos) (yI t):=by
 intro pins s σ H Q I hq
 refine wpAny_List_spliced (aw (h pos pins s σ H _ I hq) fun us s1 ⟨xs,H1,I1,r,z,q⟩=>⟨by rw [←r.length];exact z,?_⟩)
 have hf:H1 s1.heap.objs.size=none:=I1.aq.fresh (Nat.le_refl _)
 refine ⟨.ref s1.heap.objs.size,upd H1 s1.heap.objs.size (.lst xs),I1.laid (t':=s1.toks) (fun b u e=>Heap.get?_push_of_some _ e) (Nat.le_refl _) ?_,rfl,q _ hf⟩
 exact ⟨z,us,0,r,Heap.get?_push_size _ rfl⟩
end
abbrev Sp:=List V→Hp→VK→XK→Prop
abbrev cN:=List Env→Hp→Shared→XK→Value→Shared→Prop
structure fY (P:Program) (w:World) (K:PySem.W.Frag) (mg:Str→Option Value) (base:Heap) (A:Around) (outer:List Env) (s:Shared) (H:Hp):Prop where
 frames:A.frames=some outer
 mod:Mod K mg base
 bs:∀b o,base.get? b=some o→s.heap.get? b=some o∧H b=none
 cW:base.objs.size≤s.heap.objs.size
 cJ:s.heap.FunFrames base outer
 dU:∀b∈aV outer,H b=none
 aq:a9 P w H s.heap
 bare:AllBare s.gens
def CE(outer:List Env)(P:Program)(w:World)(H:Hp)(s:Shared)(Q:VK)(u:Value)(s':Shared):Prop:=
 ∃v H',s'.os=s.os∧AllBare s'.gens∧Un (aV outer) [] H H' s.heap s'.heap∧a9 P w H' s'.heap∧RelV v u∧Q v H'
def CR(CX:cN)(outer:List Env)(P:Program)(w:World)(H:Hp)(s:Shared)(Q:VK)(E:XK)(r:Result)(s':Shared):Prop:=
 match r with
 | .ok (.ret u)=>CE outer P w H s Q u s'
 | .ok _=>False
 | .error e=>CX outer H s E e s'
structure aJ (P:Program) (w:World) (K:PySem.W.Frag) (mg:Str→Option Value) (base:Heap) (CX:cN) (k:Nat) (f:Addr) (fd:FuncData) (ps:List Str) (sp:Sp):Prop where
 len:∀vs H Q E,sp vs H Q E→vs.length=ps.length
 run:∀(A:Around) (outer:List Env) (s:Shared) (H:Hp) (args:Args) (us:List Value) (vs:List V) (Q:VK) (E:XK),bc k A→fY P w K mg base A outer s H→BindsTo s fd args (ps.zip us)→Vals vs us→sp vs H Q E→
  codeAny (model P w) A (.call (.ref f) args) (CR CX outer P w H s Q E) s
theorem fY.make{P:Program}{w:World}{K:PySem.W.Frag}{mg:Str→Option Value}{base:Heap}{A:Around}{outer:List Env}{s:Shared}{H:Hp}(e:fY P w K mg base A outer s H)(C:Addr)(us:List Value)(kw:List (Str×Value)) :
  fY P w K mg base (A.under (.builtin "type.__call__" ⟨.ref C::us,kw⟩)) outer s H:=⟨by first | exact e.frames | (simpa [Around.under,Code.envs,Code.isFrame,pushEnvs] using e.frames),e.mod,e.bs,e.cW,e.cJ,e.dU,e.aq,e.bare⟩
section
variable {X:Cx} {pins:List (Addr×Obj)} {σ:St} {H:Hp} {s s':Shared}
theorem Inv.nE(I:Inv X pins σ H s):fY X.prog X.w X.K X.mg X.base X.A X.stack s H:=
 ⟨I.ok.frames,I.ok.mod,I.bs,Nat.le_trans I.ok.cW I.sz,I.stack,I.ko,I.aq,I.bare⟩
theorem Inv.after{Q:VK}{u:Value}(I:Inv X pins σ H s)(h:CE X.stack X.prog X.w H s Q u s'):EP X pins σ Q u s':=by
 obtain ⟨v,H',os,bare,un,aq,r,q⟩:=h
 obtain ⟨hh,g,d,t,yJ⟩:=s'
 obtain rfl:yJ=s.os:=os
 exact ⟨v,H',I.call (h':=hh) (g':=g) (d':=d) (t':=t) (ch:=[]) un aq bare (fun b z=>absurd z (by simp)),r,q⟩
end
def yK(sp:Sp)(bf:List V)(E:XK)(t:TA):TE:=fun σ H Q=>t σ H fun vs H1=>sp (vs++bf) H1 Q E
def yL(C:Addr)(m:Str)(sp:Sp)(bf:List V)(E:XK)(ta:TE)(t:TA):TE:=fun σ H Q=>ta σ H fun x H1=>∃a dx fs,x=.ref a∧H1 a=some (.ins C dx fs)∧fs.lookup m=none ∧
 t σ H1 fun vs H2=>sp (x::(vs++bf)) H2 Q E
def yM(C:Addr)(sp:Sp)(bf:List V)(E:XK)(t:TA):TE:=fun σ H Q=>t σ H fun vs H1=>∀x dx,H1 x=none→H1 dx=none→dx≠x→
 sp (.ref x::(vs++bf)) (upd (upd H1 dx (.own x)) x (.ins C dx [])) (fun v H2=>v=.ay∧Q (.ref x) H2) E
def Binds(K:PySem.W.Frag)(fd:FuncData)(ps:List Str)(ds:List Value):Prop:=
 ∀(s:Shared) (us:List Value),K.In s.heap→(us++ds).length=ps.length→BindsTo s fd ⟨us,[]⟩ (ps.zip (us++ds))
theorem Binds.all{K:PySem.W.Frag}{fd:FuncData}{ps:List Str}(h:∀us:List Value,us.length=ps.length→bindArgs fd ⟨us,[]⟩=pure (ps.zip us)):Binds K fd ps []:=fun s us _ hl=>by
 rw [List.append_nil] at hl ⊢
 exact .of_eq (h us hl)
def Passes(CX:cN)(X:Cx)(E:XK):Prop:=∀(pins:List (Addr×Obj)) (σ:St) (H:Hp) (s:Shared) (e:Value) (s':Shared),Inv X pins σ H s→CX X.stack H s E e s'→X.xe e s'
section
variable {X:Cx} {CX:cN} {k:Nat} {f C:Addr} {fd:FuncData} {ps:List Str} {sp:Sp} {bf:List V} {ds:List Value} {E:XK} {x m:Str} {p pos apos:Pos} {e o:Expr} {es:List Expr} {ta:TE} {t:TA}
theorem r_{pins:List (Addr×Obj)}{σ:St}{H:Hp}{s:Shared}{Q:VK}{us:List Value}{vs:List V}(F:aJ X.prog X.w X.K X.mg X.base CX k f fd ps sp)(hr:bc k X.A)(hb:Binds X.K fd ps ds)(hd:Vals bf ds)(hx:Passes CX X E)
  (I:Inv X pins σ H s) (r:Vals vs us) (h:sp (vs++bf) H Q E):wpAny (model X.prog X.w) X.A (call (.ref f) us) (EP X pins σ Q) X.xe s:=by
 have r2:Vals (vs++bf) (us++ds):=r.append hd
 have hl:(us++ds).length=ps.length:=by rw [←r2.length];exact F.len _ _ _ _ h
 refine wpAny_call (codeAny_mono (F.run X.A X.stack s H ⟨us,[]⟩ (us++ds) (vs++bf) Q E hr I.nE (hb s us I.aX hl) r2 h) fun r s' hq=>?_)
 cases r with
 | error e=>exact hx pins σ H s e s' I hq
 | ok fl=>
  cases fl with
  | ret u=>exact I.after hq
  | next=>exact False.elim hq
  | brk=>exact False.elim hq
  | cont=>exact False.elim hq
theorem aL(F:aJ X.prog X.w X.K X.mg X.base CX k f fd ps sp)(hr:bc k X.A)(hg:Gl X x)(hm:X.mg x=some (.ref f))(hk:PySem.W.keepIn X.K (.ref f)=true)(hb:Binds X.K fd ps ds)(hd:Vals bf ds)(hx:Passes CX X E)
  (ha:PA X (e::es) t) (eI:(x == ("__debug__":Str))=false:=by decide) (he:starEach (e::es) X.env=(false,eval e X.env)::starEach es X.env:=by rfl) (cX:(backTo pos (starEach es X.env)).any (·.1)=false:=by rfl) :
  PE X (.Call (.Name x p) (e::es) [] pos) (yK sp bf E t):=by
 intro pins s σ H Q I h
 refine wpAny_Call_Name_kw (hE I hg hm ?_ eI)
 refine PySem.W.callWith_K (h₀:=X.base) I.ok.mod.aU hk (aw (ha pos pins s σ H _ I h) fun us s1 ⟨vs,H1,I1,r,q⟩=>⟨I1.aX,?_⟩) he cX
 exact r_ F hr hb hd hx I1 r q
theorem yN{pl:Sem Bool}(he:PE X o ta)(c:dE X.K C)(hm:Meth X.K C m f)(F:aJ X.prog X.w X.K X.mg X.base CX k f fd ps sp)(hr:bc k X.A)(hb:Binds X.K fd ps ds)(hd:Vals bf ds)(hx:Passes CX X E)(ha:PA X (e::es) t)
  (m8:starEach (e::es) X.env=(false,eval e X.env)::starEach es X.env:=by rfl) (cX:(backTo pos (starEach es X.env)).any (·.1)=false:=by rfl)
  (ht:eval (.Call (.Attribute o m apos) (e::es) [] pos) X.env=(do
   let ov ←eval o X.env
   standAt apos.atName
   let (f,first) ←holding [ov] (getMethod ov m pl)
   callWith pos f first (backTo pos (starEach (e::es) X.env)) (backToKw pos (keywordEach [] X.env))):=by rfl) :
  PE X (.Call (.Attribute o m apos) (e::es) [] pos) (yL C m sp bf E ta t):=by
 intro pins s σ H Q I h
 refine PySem.W.methodCall_KW (pl:=pl) (aw (he pins s σ H _ I h) fun u s1 ⟨x,H1,I1,rx,a,dx,fs,ex,ea,l,q⟩=>?_) ht
 subst ex
 obtain rfl:u=Value.ref a:=rx
 refine rW I1 ea c hm l ?_
 refine PySem.W.callWith_K (first:=[.ref a]) (h₀:=X.base) I.ok.mod.aU hm.kp (aw (ha pos pins s1 σ H1 _ I1 q) fun us s2 ⟨vs,H2,I2,r,q2⟩=>⟨I2.aX,?_⟩) m8 cX
 exact r_ (us:=.ref a::us) (vs:=.ref a::vs) F hr hb hd hx I2 (.cons rfl r) q2
structure Mk (K:PySem.W.Frag) (C f:Addr):Prop where
 makes:PySem.W.makesIn K C=true
 init:PySem.W.findIn K (.ref C) "__init__" = some (some (.ref f))
 fn:PySem.W.isFn K (.ref f)=true
 kp:PySem.W.keepIn K (.ref C)=true
theorem yO{pins:List (Addr×Obj)}{σ:St}{H:Hp}{s:Shared}{Q:VK}{us:List Value}{vs:List V}(M:Mk X.K C f)(F:aJ X.prog X.w X.K X.mg X.base CX k f fd ps sp)(hr:bc (k+1) X.A)(hb:Binds X.K fd ps ds)(hd:Vals bf ds)
  (hx:Passes CX X E) (I:Inv X pins σ H s) (r:Vals vs us)
  (h:∀x dx,H x=none→H dx=none→dx≠x→sp (.ref x::(vs++bf)) (upd (upd H dx (.own x)) x (.ins C dx [])) (fun v H2=>v=.ay∧Q (.ref x) H2) E) :
  wpAny (model X.prog X.w) X.A (call (.ref C) us) (EP X pins σ Q) X.xe s:=by
 have hq:=h (s.heap.objs.size+1) s.heap.objs.size (I.aq.fresh (Nat.le_succ _)) (I.aq.fresh (Nat.le_refl _)) (Nat.ne_of_lt (Nat.lt_succ_self _))
 have I2:=Inv.made (C:=C) I
 have r2:Vals (V.ref (s.heap.objs.size+1)::(vs++bf)) (Value.ref (s.heap.objs.size+1)::(us++ds)):=.cons rfl (r.append hd)
 have hl:(Value.ref (s.heap.objs.size+1)::us++ds).length=ps.length:=by
  have e:=r2.length
  rw [F.len _ _ _ _ hq] at e
  exact e.symm
 refine wpAny_call (yu (f:=f) I.aX M.makes M.init (beq_iff_eq.mp M.fn) (codeAny_mono (F.run _ X.stack _ _ ⟨Value.ref (s.heap.objs.size+1)::us,[]⟩ (Value.ref (s.heap.objs.size+1)::(us++ds)) _ _ E (hr.make C us [])
  (I2.nE.make C us []) (hb _ (Value.ref (s.heap.objs.size+1)::us) I2.aX hl) r2 hq) fun r s' fZ=>?_))
 cases r with
 | error e=>exact hx pins σ _ _ e s' I2 fZ
 | ok fl=>
  cases fl with
  | ret u=>
   obtain ⟨v,H',I3,rv,ev,q3⟩:=I2.after fZ
   subst ev
   exact ⟨rv,⟨V.ref (s.heap.objs.size+1),H',I3,rfl,q3⟩⟩
  | next=>exact False.elim fZ
  | brk=>exact False.elim fZ
  | cont=>exact False.elim fZ
theorem yP(M:Mk X.K C f)(F:aJ X.prog X.w X.K X.mg X.base CX k f fd ps sp)(hr:bc (k+1) X.A)(hg:Gl X x)(hm:X.mg x=some (.ref C))(hb:Binds X.K fd ps ds)(hd:Vals bf ds)(hx:Passes CX X E)
  (ha:PA X (e::es) t) (eI:(x == ("__debug__":Str))=false:=by decide) (he:starEach (e::es) X.env=(false,eval e X.env)::starEach es X.env:=by rfl) (cX:(backTo pos (starEach es X.env)).any (·.1)=false:=by rfl) :
  PE X (.Call (.Name x p) (e::es) [] pos) (yM C sp bf E t):=by
 intro pins s σ H Q I h
 refine wpAny_Call_Name_kw (hE I hg hm ?_ eI)
 refine PySem.W.callWith_K (h₀:=X.base) I.ok.mod.aU M.kp (aw (ha pos pins s σ H _ I h) fun us s1 ⟨vs,H1,I1,r,q⟩=>⟨I1.aX,?_⟩) he cX
 exact yO M F hr hb hd hx I1 r q
end
section
variable {X:Cx} {CX:cN} {k:Nat} {f C:Addr} {fd:FuncData} {ps ks:List Str} {sp:Sp} {E:XK} {x m:Str} {p pos apos yQ:Pos} {e o:Expr} {es:List Expr} {G5:List Keyword} {te ta:TE} {t tk:TA} {nm:Option Str}
variable {g:List Value→List Value→List Value} {gV:List V→List V→List V}
end
structure ba (N P:List Str) (sc:Scope):Prop where
 kind:sc.kind=.function
 co:sc.isCoroutine=false
 gen:sc.isGenerator=false
 nd:N.Nodup
 pre:N.take P.length=P
 par:∀x∈P,sc.names.lookup x=some .local∨sc.names.lookup x=some .cell
 yR:∀y∈sc.names,y.2≠.free
theorem sf{kindOf:Str→Option NameKind}{x:Str}:∀{binds:List (Str×Value)} {m:Str→Option Value},(∀v,(x,v)∉binds)→bindL kindOf binds m x=m x
 | [],_,_=>rfl
 | (n,v)::r,m,h=>by
  unfold bindL
  rw [sf fun w hw=>h w (List.mem_cons_of_mem _ hw)]
  split
  ·have:x≠n:=by rintro rfl;exact h v List.mem_cons_self
   simp [this]
  ·rfl
theorem sg{kindOf:Str→Option NameKind}{x:Str}:∀{binds:List (Str×Value)} {m:Str→Option Value},(∀v,(x,v)∉binds)→bindC kindOf binds m x=m x
 | [],_,_=>rfl
 | (n,v)::r,m,h=>by
  unfold bindC
  rw [sg fun w hw=>h w (List.mem_cons_of_mem _ hw)]
  split
  ·rfl
  ·have:x≠n:=by rintro rfl;exact h v List.mem_cons_self
   simp [this]
theorem si{kindOf:Str→Option NameKind}{x:Str}{v:Value}:∀{P:List Str} {vs:List Value} {i:Nat} {m:Str→Option Value},P.Nodup→P[i]?=some x→vs[i]?=some v→kindOf x=some .local→
  bindL kindOf (P.zip vs) m x=some v
 | [],_,_,_,_,h,_,_=>by simp at h
 | _::_,[],_,_,_,_,h,_=>by simp at h
 | p::P,w::vs,0,m,nd,h1,h2,hk=>by
  simp at h1 h2;subst h1;subst h2
  show bindL kindOf ((p,w)::P.zip vs) m p=_
  unfold bindL
  rw [sf fun v hv=>(List.nodup_cons.mp nd).1 (List.of_mem_zip hv).1,if_pos hk]
  simp
 | p::P,w::vs,i+1,m,nd,h1,h2,hk=>by
  show bindL kindOf ((p,w)::P.zip vs) m x=_
  unfold bindL
  exact si (i:=i) (List.nodup_cons.mp nd).2 (by simpa using h1) (by simpa using h2) hk
theorem sj{kindOf:Str→Option NameKind}{x:Str}{v:Value}:∀{P:List Str} {vs:List Value} {i:Nat} {m:Str→Option Value},P.Nodup→P[i]?=some x→vs[i]?=some v→kindOf x≠some .local→
  bindC kindOf (P.zip vs) m x=some v
 | [],_,_,_,_,h,_,_=>by simp at h
 | _::_,[],_,_,_,_,h,_=>by simp at h
 | p::P,w::vs,0,m,nd,h1,h2,hk=>by
  simp at h1 h2;subst h1;subst h2
  show bindC kindOf ((p,w)::P.zip vs) m p=_
  unfold bindC
  rw [sg fun v hv=>(List.nodup_cons.mp nd).1 (List.of_mem_zip hv).1,if_neg hk]
  simp
 | p::P,w::vs,i+1,m,nd,h1,h2,hk=>by
  show bindC kindOf ((p,w)::P.zip vs) m x=_
  unfold bindC
  exact sj (i:=i) (List.nodup_cons.mp nd).2 (by simpa using h1) (by simpa using h2) hk
def start(N:List Str)(vs:List V):St:=vs.map some++List.replicate (N.length-vs.length) none
def dZ(CX:cN)(P:Program)(w:World)(K:PySem.W.Frag)(mg:Str→Option Value)(base:Heap)(N:List Str)(qual:Str)(scope:Scope)(f:Addr)(cd:Value)(A:Around)(outer:List Env)(s:Shared)(H:Hp)(E:XK):Cx where
 prog:=P
 w:=w
 K:=K
 mg:=mg
 base:=base
 A:=A.deeper (envOfC qual scope s.heap.objs.size f cd)
 N:=N
 s₀:=s
 H₀:=H
 env:=envOfC qual scope s.heap.objs.size f cd
 outer:=outer
 stack:=envOfC qual scope s.heap.objs.size f cd::outer
 ex:=[]
 calm:=true
 fn:=fun _=>true
 pn:=[]
 xe:=fun e s'=>wpAny (model P w) (A.deeper (envOfC qual scope s.heap.objs.size f cd)) (leaving (envOfC qual scope s.heap.objs.size f cd) e) (fun _ d0=>CX outer H s E e d0) (fun e' d0=>CX outer H s E e' d0) s'
theorem sk{sc:Scope}{n:Nat}{x:Str}(h:sc.names.lookup x=some .cell):∃c,(cellsFrom n sc.names []).lookup x=some c:=by
 have q:=PySem.W.cellsFrom_some sc.names n [] (.inl h)
 exact Option.isSome_iff_exists.mp q
theorem yS{CX:cN}{P:Program}{w:World}{K:PySem.W.Frag}{mg:Str→Option Value}{base:Heap}{N ps:List Str}{qual:Str}{scope:Scope}{f:Addr}{cd:Value}{A:Around}{outer:List Env}{s s1:Shared}{H:Hp}{E:XK}{us:List Value}{vs:List V}
  (S:ba N ps scope) (hd:A.handled=none) (e0:fY P w K mg base A outer s H) (hl:vs.length=ps.length) (r:Vals vs us)
  (x:InCallC s s.heap.objs.size (bindL (envOfC qual scope s.heap.objs.size f cd).kindOf (ps.zip us) fun _=>none) (cellsFrom (s.heap.objs.size+1) scope.names []) (bindC (envOfC qual scope s.heap.objs.size f cd).kindOf (ps.zip us) fun _=>none) s1) :
  Inv (dZ CX P w K mg base N qual scope f cd A outer s H E) [] (start N vs) H s1:=by
 have cX:ps.length≤N.length:=by have:=congrArg List.length S.pre;rw [List.length_take] at this;omega
 obtain ⟨h1,tk,rfl,hk⟩:=x.done
 have jD:∀b:Addr,b∉(dZ CX P w K mg base N qual scope f cd A outer s H E).ex:=fun b z=>absurd (show b∈([]:List Addr) from z) (by simp)
 refine ⟨⟨e0.mod,S.kind,rfl,rfl,Nat.le_refl _,fun y z c h1 h2=>?_,fun y hy=>?_,fun y c _ h=>?_,fun _=>hd,Around.frames_deeper e0.frames,.inr ⟨rfl,rfl⟩,fun b z=>absurd z (jD b),e0.bs,e0.cW,fun b _ _=>jD b,fun b z=>absurd z (jD b),e0.cJ,e0.dU⟩,
  rfl,e0.bare,Un.kept hk,⟨_,x.toInCall.ns,fun i y v h1 h2 h3=>?_⟩,fun y c h=>⟨_,x.cell y c h⟩,e0.aq.fresh (Nat.le_refl _),fun y c h=>?_,fun p hp=>absurd (show p∈([]:List (Addr×Obj)) from hp) (by simp),e0.aq.kept hk,?_⟩
 ·exact name_of_addr x.apart (PySem.mem_of_lookup h1) (PySem.mem_of_lookup h2)
 ·have hy:scope.names.lookup y=some .cell∨scope.names.lookup y=some .free:=hy
  rcases hy with hy | hy
  ·exact sk hy
  ·exact absurd rfl (S.yR _ (PySem.mem_of_lookup hy))
 ·exact Nat.le_of_lt (x.above y c (PySem.mem_of_lookup h))
 ·have hi:i<vs.length:=by
   unfold start at h2
   by_cases hi:i<vs.length
   ·exact hi
   ·rw [List.getElem?_append_right (by simpa using hi)] at h2
    rw [List.getElem?_replicate] at h2
    split at h2 <;> cases h2
  have ha:vs[i]?=some v:=by
   unfold start at h2
   rw [List.getElem?_append_left (by simpa using hi),List.getElem?_map] at h2
   cases e:vs[i]? with
   | none=>rw [e] at h2;cases h2
   | some a=>rw [e] at h2;cases h2;rfl
  obtain ⟨u,hu,rv⟩:=r.get ha
  have hp:ps[i]?=some y:=by
   rw [←S.pre,List.getElem?_take_of_lt (by omega)];exact h1
  have sm:ps.Nodup:=by rw [←S.pre];exact S.nd.sublist (List.take_sublist _ _)
  refine ⟨u,rv,?_⟩
  rcases S.par y (List.mem_of_getElem? hp) with k | k
  ·exact .inl ⟨k,si sm hp hu k⟩
  ·obtain ⟨c,e⟩:=sk (n:=s.heap.objs.size+1) k
   refine .inr ⟨.inl k,c,e,?_⟩
   have q:=x.cell y c e
   rw [sj sm hp hu (by show scope.names.lookup y≠_;rw [k];decide)] at q
   exact q
 ·exact e0.aq.fresh (Nat.le_of_lt (x.above y c (PySem.mem_of_lookup h)))
 ·unfold start
  show _=N.length
  rw [List.length_append,List.length_map,List.length_replicate]
  omega
theorem nF{CX:cN}{P:Program}{w:World}{K:PySem.W.Frag}{mg:Str→Option Value}{base:Heap}{k:Nat}{f:Addr}{name qual:Str}{params:Arguments}{body:List Stmt}{scope:Scope}{dV kV doc pm av ct oc:Value}{an od:Option Addr}
  {bQ:Array (Option Value)} {N ps:List Str} {sp:Sp} (lk:K.lookup f=some ⟨oc,od,.func (PySem.W.fnOf name qual params body scope dV kV doc pm an av ct),bQ⟩) (bO:PySem.W.codeIn K av qual=true) (S:ba N ps scope)
  (len:∀vs H Q E,sp vs H Q E→vs.length=ps.length)
  (f9:∀(A:Around) (outer:List Env) (s:Shared) (H:Hp) (vs:List V) (Q:VK) (E:XK),bc k (A.deeper (envOfC qual scope s.heap.objs.size f av))→sp vs H Q E→
   ∃t,bF (dZ CX P w K mg base N qual scope f av A outer s H E) body t∧t {nx:=fun _ H'=>Q .ay H',rt:=Q} (start N vs) H) :
  aJ P w K mg base CX (k+1) f (PySem.W.fnOf name qual params body scope dV kV doc pm an av ct) ps sp:=by
 refine ⟨len,fun A outer s H args us vs Q E hr e0 hb r cY=>?_⟩
 have hl:=len _ _ _ _ cY
 have KX:K.In s.heap:=e0.mod.aU.keeps fun b o e=>(e0.bs b o e).1
 have lim:s.heap.NoLimit:=e0.mod.nolimit.keeps fun b o e=>(e0.bs b o e).1
 have yT:∀y∈ps.zip us,scope.names.lookup y.1=some .local∨(scope.names.lookup y.1=some .cell∧((cellsFrom (s.heap.objs.size+1) scope.names []).lookup y.1).isSome=true):=fun⟨n,v⟩ hy=>by
  rcases S.par n (List.of_mem_zip hy).1 with q | q
  ·exact .inl q
  ·exact .inr ⟨q,PySem.W.cellsFrom_some _ _ _ (.inl q)⟩
 refine codeAny_call_function hr.depth (KX _ _ lk) rfl S.co S.gen rfl (PySem.W.codeRec_of KX bO) (hb _ _ _ _ ?_)
 refine wpAny_newFunctionEnv_cells S.kind yT fun env he s1 x=>?_
 subst he
 refine ⟨lim.keeps x.toInCall.keep,codeAny_func ?_⟩
 obtain ⟨t,ht,hq⟩:=f9 A outer s H vs Q E (hr.deeper _) cY
 have I:Inv (dZ CX P w K mg base N qual scope f av A outer s H E) [] (start N vs) H s1:=yS S hr.hd e0 hl r x
 refine wpAny_mono (ht [] s1 (start N vs) H _ I hq) (fun fl s' hs=>?_) fun e s' hs=>hs
 have fin:∀{σ':St} {H':Hp} {v:V} {u:Value},Inv (dZ CX P w K mg base N qual scope f av A outer s H E) [] σ' H' s'→RelV v u→Q v H'→CE outer P w H s Q u s':=
  fun{σ' H' v u} J rv q=>⟨v,H',J.os,J.bare,J.base,J.aq,rv,q⟩
 cases fl with
 | ret u=>
  obtain ⟨v,σ',H',J,rv,q⟩:=hs
  exact fin J rv q
 | next=>
  obtain ⟨σ',H',J,q⟩:=hs
  exact fin (v:=V.ay) (u:=Value.none) J rfl q
 | brk=>
  obtain ⟨_,_,_,q⟩:=hs
  exact False.elim q
 | cont=>
  obtain ⟨_,_,_,q⟩:=hs
  exact False.elim q
section
variable {X:Cx} {x:Str} {p pos:Pos} {e:Expr} {es:List Expr} {t:TA} {id T:String} {r:List V→Hp→VK→Prop}
def nG(r:List V→Hp→VK→Prop)(t:TA):TE:=fun σ H Q=>t σ H fun vs H1=>r vs H1 Q
theorem bo(hc:bY X (.builtin id) r)(hg:Gl X x)(hm:X.mg x=none)(hv:bootBuiltins x=some (.builtin id))(ha:PA X (e::es) t)(hn:x ≠ "__name__":=by decide)(eI:(x == ("__debug__":Str))=false:=by decide)
  (he:starEach (e::es) X.env=(false,eval e X.env)::starEach es X.env:=by rfl) (cX:(backTo pos (starEach es X.env)).any (·.1)=false:=by rfl):PE X (.Call (.Name x p) (e::es) [] pos) (nG r t):=by
 intro pins s σ H Q I h
 refine wpAny_Call_Name_kw (jw I hg hm hv ?_ hn eI)
 exact PyProof.Rows.callWith_builtin1 (aw (ha pos pins s σ H _ I h) fun us s1 ⟨vs,H1,I1,r1,q1⟩=>hc pins s1 σ H1 vs us Q I1 r1 q1) he cX
theorem f_(hc:bY X (.type T) r)(hg:Gl X x)(hm:X.mg x=none)(hv:bootBuiltins x=some (.type T))(ha:PA X (e::es) t)(hn:x ≠ "__name__":=by decide)(eI:(x == ("__debug__":Str))=false:=by decide)
  (he:starEach (e::es) X.env=(false,eval e X.env)::starEach es X.env:=by rfl) (cX:(backTo pos (starEach es X.env)).any (·.1)=false:=by rfl):PE X (.Call (.Name x p) (e::es) [] pos) (nG r t):=by
 intro pins s σ H Q I h
 refine wpAny_Call_Name_kw (jw I hg hm hv ?_ hn eI)
 exact PyProof.Rows.callWith_type1 (aw (ha pos pins s σ H _ I h) fun us s1 ⟨vs,H1,I1,r1,q1⟩=>hc pins s1 σ H1 vs us Q I1 r1 q1) he cX
end
end L2
namespace HT
open PySem PyProof.Rows
section
open PySem.SeqAt
open PySem.AutoSeq1 (wpAny_loadPart')
open PySem.MeetsSeq PySem.MeetsSeq2 PySem.MeetsSeq3
end
section
variable {prog:Program} {w:World} {A:Around} {E:Value→Shared→Prop} {s:Shared}
def ck(n d:Nat):Option Int→Nat
 | none=>d
 | some v=>if v<0 then (v+(n:Int)).toNat else min v.toNat n
end
end HT
namespace L2
open PySem PySem.Spec PyProof.Rows
section
variable {X:Cx} {e:Expr} {te:TE} {lo hi:Option Expr} {tl th:TO} {pos p2:Pos}
def yU(X:Cx)(r:V→Option Int→Option Int→Hp→VK→Prop):Prop:=
 ∀(pins:List (Addr×Obj)) (s:Shared) (σ:St) (H:Hp) (x:V) (v vl vu:Value) (lo hi:Option Int) (sl:Addr) (Q:VK),Inv X pins σ H s→RelV x v→s.heap.IsSliceOf sl vl vu .none→IsPart vl lo→IsPart vu hi→r x lo hi H Q→
  ∃T id,typeLookup (.type T) "__getitem__" = pure (some (.builtin id))∧s.TypeIs v T∧wpAny (model X.prog X.w) X.A (getItem v (.ref sl)) (EP X pins σ Q) X.xe s
def kN(xs:List V)(lo hi:Option Int):List V:=(xs.drop (HT.ck xs.length 0 lo)).take (HT.ck xs.length xs.length hi-HT.ck xs.length 0 lo)
theorem yV(xs:List V)(lo hi:Option Int):(kN xs lo hi).length≤xs.length:=by
 unfold kN
 rw [List.length_take,List.length_drop]
 omega
end
def d3(n:Nat)(i:Int):Option Nat:=if 0≤i then (if i<n then some i.toNat else none) else if -(n:Int)≤i then some (i+n).toNat else none
def cD{α:Type}(xs:List α)(i:Int):Option α:=(d3 xs.length i).bind fun j=>xs[j]?
theorem so{n:Nat}{i:Int}{j:Nat}(h:d3 n i=some j):seqIndex? i n=some j∧j<n∧-(n:Int)≤i∧i<n:=by
 unfold d3 at h
 by_cases h0:0≤i
 ·rw [if_pos h0] at h
  by_cases h1:i<n
  ·rw [if_pos h1] at h
   have e:i.toNat=j:=Option.some.inj h
   exact ⟨by rw [seqIndex_of h0 h1,e],by omega,by omega,h1⟩
  ·rw [if_neg h1] at h;cases h
 ·rw [if_neg h0] at h
  by_cases h1:-(n:Int)≤i
  ·rw [if_pos h1] at h
   have e:(i+n).toNat=j:=Option.some.inj h
   exact ⟨by rw [seqIndex_neg (by omega) h1,e],by omega,h1,by omega⟩
  ·rw [if_neg h1] at h;cases h
theorem sq{α:Type}{xs:List α}{i:Int}{v:α}(h:cD xs i=some v):∃j,seqIndex? i xs.length=some j∧xs[j]?=some v∧j<xs.length∧-(xs.length:Int)≤i∧i<xs.length:=by
 unfold cD at h
 cases e:d3 xs.length i with
 | none=>rw [e] at h;cases h
 | some j=>
  rw [e] at h
  obtain ⟨h1,h2,h3,h4⟩:=so e
  exact ⟨j,h1,h,h2,h3,h4⟩
theorem dF{α:Type}{xs:List α}{j:Nat}{v:α}(h:xs[j]?=some v):cD xs (j:Int)=some v:=by
 have hj:j<xs.length:=(List.getElem?_eq_some_iff.mp h).1
 have e:d3 xs.length (j:Int)=some j:=by
  unfold d3
  rw [if_pos (by omega),if_pos (by omega)];simp
 unfold cD;rw [e];exact h
def yW(b:Expr):Prop:=∀o i,subscripted b false o i=operate [o,i] (getItem o i)
def jE(X:Cx)(r:R2):Prop:=
 ∀(value slice:Expr) (pins:List (Addr×Obj)) (s:Shared) (σ:St) (H:Hp) (x y:V) (v u:Value) (Q:VK),Inv X pins σ H s→RelV x v→RelV y u→r x y H Q→
  subscripted slice false v u=operate [v,u] (getItem v u)→wpAny (model X.prog X.w) X.A (subscriptTail value slice v u) (EP X pins σ Q) X.xe s
def nH(X:Cx)(id:String)(r:V→List V→Hp→VK→Prop):Prop:=
 ∀(pins:List (Addr×Obj)) (s:Shared) (σ:St) (H:Hp) (x:V) (xs:List V) (v:Value) (us:List Value) (Q:VK),Inv X pins σ H s→RelV x v→Vals xs us→r x xs H Q→
  wpAny (model X.prog X.w) X.A (call (.builtin id) (v::us)) (EP X pins σ Q) X.xe s
section
variable {X:Cx} {a b:Expr} {ta tb:TE} {pos:Pos}
theorem aK{r:R2}(hr:jE X r)(ha:PE X a ta)(hb:PE X b tb)(hs:yW b):PE X (.Subscript a b pos) (kG r ta tb):=by
 intro pins s σ H Q I h
 exact Subscript_ (nh ha hb I h fun v u s2 x y H2 I2 rx ry q=>hr a b pins s2 σ H2 x y v u Q I2 rx ry q (hs _ _))
def sr(K:PySem.W.Frag):R2:=fun x y H Q=>∃p xs i v,x=.ref p∧y=.int i∧aH K H p xs∧cD xs i=some v∧Q v H
def su(K:PySem.W.Frag):R2:=fun x y H Q=>∃p xs i v,x=.ref p∧y=.int i∧bA K H p xs∧cD xs i=some v∧Q v H
theorem bp:jE X (sr X.K):=by
 intro value slice pins s σ H x y v u Q I rx ry h hs
 obtain ⟨p,xs,i,z,rfl,rfl,hq,he,q⟩:=h
 cases rx
 obtain ⟨t,rfl⟩:=ry
 obtain ⟨ai,r,pl,hz⟩:=I.list hq
 obtain ⟨j,h1,h2,h3,h4,h5⟩:=sq he
 obtain ⟨w,ew,jF⟩:=r.get h2
 have hl:=r.length
 have hn:=kK
 have fin:EP X pins σ Q w s:=⟨z,H,I,jF,q⟩
 by_cases h0:0≤i
 ·have hj:i.toNat=j:=by
   rw [seqIndex_of h0 h5] at h1
   exact Option.some.inj h1
  exact item_listR pl.isList h0 (by omega) (by rw [hj];simpa using ew) fin hs
 ·have hj:(i+(ai.toArray.size:Int)).toNat=j:=by
   rw [seqIndex_neg (by omega) h4] at h1
   rw [List.size_toArray,←hl]
   exact Option.some.inj h1
  exact subscriptTail_builtinR (x:=w) pl.isList.typeIs slot_list_getitem.lookup
   (wpAny_getItem_list_neg (Q:=fun r s'=>r=w∧EP X pins σ Q r s') pl.isList (by omega) (by rw [List.size_toArray] <;> omega) (by omega) (by rw [hj];simpa using ew) ⟨rfl,fin⟩) hs
theorem cO:jE X (su X.K):=by
 intro value slice pins s σ H x y v u Q I rx ry h hs
 obtain ⟨p,xs,i,z,rfl,rfl,hq,he,q⟩:=h
 cases rx
 obtain ⟨t,rfl⟩:=ry
 obtain ⟨ai,r,pl,hz⟩:=I.tuple hq
 obtain ⟨j,h1,h2,h3,h4,h5⟩:=sq he
 obtain ⟨w,ew,jF⟩:=r.get h2
 have hl:=r.length
 have hn:=kK
 have fin:EP X pins σ Q w s:=⟨z,H,I,jF,q⟩
 exact subscriptTail_builtinR (x:=w) pl.typeIs slot_tuple_getitem.lookup
  (getItem_tuple (j:=j) (Q:=fun r s'=>r=w∧EP X pins σ Q r s') pl (by omega) (by omega) (by rw [List.size_toArray,←hl];exact h1) (by simpa using ew) ⟨rfl,fin⟩) hs
theorem yX(ai:List Value)(n j:Nat)(u:Value):Obj.mapSeq (·.setIfInBounds j u) {cls:=.type "list",data:=.seq ai.toArray n}={cls:=.type "list",data:=.seq (ai.set j u).toArray n}:=by
 simp [Obj.mapSeq]
theorem Inv.lst{pins:List (Addr×Obj)}{σ:St}{H:Hp}{s:Shared}{p:Addr}{xs:List V}(I:Inv X pins σ H s)(h:H p=some (.lst xs)) :
  ∃(ai:List Value) (n:Nat),Vals xs ai∧s.heap.get? p=some {cls:=.type "list",data:=.seq ai.toArray n}∧xs.length≤sizeLine:=by
 obtain ⟨z,ai,n,r,e⟩:=I.aq p _ h
 exact ⟨ai,n,r,e,z⟩
theorem Inv.yY{pins:List (Addr×Obj)}{σ:St}{H:Hp}{s:Shared}{p:Addr}{xs ys:List V}{ai its':List Value}{n n':Nat}{f:Obj→Obj}(I:Inv X pins σ H s)(h:H p=some (.lst xs))
  (ho:s.heap.get? p=some {cls:=.type "list",data:=.seq ai.toArray n}) (hf:f {cls:=.type "list",data:=.seq ai.toArray n}={cls:=.type "list",data:=.seq its'.toArray n'}) (r:Vals ys its') (hz:ys.length≤sizeLine) (t:Nat) :
  Inv X pins σ (upd H p (.lst ys)) {s with heap:=s.heap.update p f,toks:=t}:=by
 have e:(s.heap.update p f).get? p=some {cls:=.type "list",data:=.seq its'.toArray n'}:=by
  rw [Heap.get?_update_self f ho (by rw [hf] <;> rfl),hf]
 refine I.write (x:=p) (e:=p) (by rw [h];trivial) (.inl rfl) (fun b u hb q=>(Heap.get?_update_other _ _ (Ne.symm hb)).trans q) ⟨_,e⟩ ?_
 exact ⟨hz,its',n',r,e⟩
def yZ:V→V→V→Hp→(Hp→Prop)→Prop:=fun o i v H Q=>∃p xs k j,o=.ref p∧i=.int k∧H p=some (.lst xs)∧d3 xs.length k=some j∧Q (upd H p (.lst (xs.set j v)))
theorem set_list:rz X yZ:=by
 intro pins s σ H o i v ov iv u Q I ro ri rv h
 obtain ⟨p,xs,k,j,rfl,rfl,hp,hj,q⟩:=h
 cases ro
 obtain ⟨t,rfl⟩:=ri
 obtain ⟨ai,n,r,ho,hz⟩:=I.lst hp
 obtain ⟨h1,h2,h3,h4⟩:=so hj
 have hl:=r.length
 have hn:=kK
 have I':Inv X pins σ (upd H p (.lst (xs.set j v))) {s with heap:=s.heap.update p (Obj.mapSeq (·.setIfInBounds j u))}:=
  I.yY hp ho (yX ai n j u) (r.set rv j) (by rw [List.length_set];exact hz) s.toks
 by_cases h0:0≤k
 ·have hk:k.toNat=j:=by
   rw [seqIndex_of h0 h4] at h1
   exact Option.some.inj h1
  exact PySem.W.ki_setAt ho h0 (by omega) (by rw [List.size_toArray,←hl];exact h4) (by rw [hk];exact ⟨_,I',q⟩)
 ·have hk:(k+(ai.toArray.size:Int)).toNat=j:=by
   rw [seqIndex_neg (by omega) h3] at h1
   rw [List.size_toArray,←hl]
   exact Option.some.inj h1
  exact PySem.W.ki_setBack ho (by omega) (by rw [List.size_toArray,←hl];exact h3) (by omega) (by rw [hk];exact ⟨_,I',q⟩)
theorem y4(lo hi:Option Int)(n:Nat):(sliceBounds lo hi none n).1=((HT.ck n 0 lo:Nat):Int)∧(sliceBounds lo hi none n).2.1=((HT.ck n n hi:Nat):Int)∧(sliceBounds lo hi none n).2.2=1:=by
 refine ⟨?_,?_,rfl⟩
 ·cases lo with
  | none=>simp [sliceBounds,HT.ck]
  | some i=>
   simp only [sliceBounds,HT.ck,Option.getD_none,show (1:Int)>0 by decide,if_true]
   by_cases h:i<0
   ·simp only [h,if_true] <;> omega
   ·simp only [h,if_false] <;> omega
 ·cases hi with
  | none=>simp [sliceBounds,HT.ck]
  | some i=>
   simp only [sliceBounds,HT.ck,Option.getD_none,show (1:Int)>0 by decide,if_true]
   by_cases h:i<0
   ·simp only [h,if_true] <;> omega
   ·simp only [h,if_false] <;> omega
theorem y6(ai:List Value)(lo hi:Option Int):slicePick ai.toArray lo hi none=((ai.drop (HT.ck ai.length 0 lo)).take (HT.ck ai.length ai.length hi-HT.ck ai.length 0 lo)).toArray:=by
 obtain ⟨h1,h2,h3⟩:=y4 lo hi ai.toArray.size
 unfold slicePick
 rw [h1,h2,h3]
 simp only [sliceRange_one,pick_run,List.size_toArray] <;> rfl
def y7(K:PySem.W.Frag):V→Option Int→Option Int→Hp→VK→Prop:=fun x lo hi H Q=>∃a xs,x=.ref a∧aH K H a xs∧∀p,H p=none→Q (.ref p) (upd H p (.lst (kN xs lo hi)))
theorem G6:yU X (y7 X.K):=by
 intro pins s σ H x v vl vu lo hi sl Q I rx hs pl pu h
 obtain ⟨a,xs,rfl,hx,q⟩:=h
 cases rx
 obtain ⟨ai,r,ht,hz⟩:=I.list hx
 have hlen:=r.length
 refine ⟨"list",_,slot_list_getitem.lookup,ht.isList.typeIs,?_⟩
 refine wpAny_getItem_list_slice ht.isList hs pl pu .none (by simp) ?_ (by rw [List.size_toArray] <;> omega)
 rw [y6,←hlen]
 refine ⟨.ref s.heap.objs.size,_,I.laid (t':=s.toks) (o:=.lst (kN xs lo hi)) (fun b ob q=>Heap.get?_push_of_some _ q) (Nat.le_refl _) ?_,rfl,q _ (I.aq.fresh (Nat.le_refl _))⟩
 exact ⟨Nat.le_trans (yV xs lo hi) hz,_,0,(r.drop (HT.ck xs.length 0 lo)).take (HT.ck xs.length xs.length hi-HT.ck xs.length 0 lo),Heap.get?_push_size _ rfl⟩
def cZ:V→Bool
 | .ay=>true
 | .bl _=>true
 | .int _=>true
 | .str _=>true
 | _=>false
def ia:V→V→Bool
 | .ay,.ay=>true
 | .bl a,.bl b=>a == b
 | .bl a,.int b=>(if a then 1 else 0) == b
 | .int a,.bl b=>a == (if b then 1 else 0)
 | .int a,.int b=>a == b
 | .str a,.str b=>a == b
 | _,_=>false
theorem jG{A:Around}{s:Shared}{y x:V}{u v:Value}(ry:RelV y u)(rx:RelV x v)(fy:cZ y=true)(fx:cZ x=true):SeqAt.EqAt A s u v (ia y x):=by
 cases y with
 | ay=>
  cases ry
  cases x with
  | ay=>cases rx;exact SeqAt.EqAt.same _
  | bl b=>cases rx;exact SeqAt.EqAt.none_bool b
  | int b=>obtain ⟨t,rfl⟩:=rx;exact SeqAt.EqAt.none_int b t
  | str b=>obtain ⟨t,rfl⟩:=rx;exact SeqAt.EqAt.none_str b t
  | _=>exact absurd (show false=true from fx) Bool.false_ne_true
 | bl a=>
  cases ry
  cases x with
  | ay=>cases rx;exact SeqAt.EqAt.bool_none a
  | bl b=>cases rx;exact SeqAt.EqAt.bool_bool a b
  | int b=>obtain ⟨t,rfl⟩:=rx;exact SeqAt.EqAt.bool_int a b t
  | str b=>obtain ⟨t,rfl⟩:=rx;exact SeqAt.EqAt.bool_str a b t
  | _=>exact absurd (show false=true from fx) Bool.false_ne_true
 | int a=>
  obtain ⟨t',rfl⟩:=ry
  cases x with
  | ay=>cases rx;exact SeqAt.EqAt.int_none a t'
  | bl b=>cases rx;exact SeqAt.EqAt.int_bool a t' b
  | int b=>obtain ⟨t,rfl⟩:=rx;exact SeqAt.EqAt.int_int a t' b t
  | str b=>obtain ⟨t,rfl⟩:=rx;exact SeqAt.EqAt.int_str a t' b t
  | _=>exact absurd (show false=true from fx) Bool.false_ne_true
 | str a=>
  obtain ⟨t',rfl⟩:=ry
  cases x with
  | ay=>cases rx;exact SeqAt.EqAt.str_none a t'
  | bl b=>cases rx;exact SeqAt.EqAt.str_bool a t' b
  | int b=>obtain ⟨t,rfl⟩:=rx;exact SeqAt.EqAt.str_int a t' b t
  | str b=>obtain ⟨t,rfl⟩:=rx;exact SeqAt.EqAt.str_str a t' b t
  | _=>exact absurd (show false=true from fx) Bool.false_ne_true
 | _=>exact absurd (show false=true from fy) Bool.false_ne_true
theorem c_:bY X (.builtin "len") (fun xs H Q=>∃p ys,xs=[.ref p]∧(aH X.K H p ys∨bA X.K H p ys)∧Q (.int ys.length) H):=by
 intro pins s σ H xs us Q I r h
 obtain ⟨p,ys,rfl,hq,q⟩:=h
 obtain ⟨u,rfl,rx⟩:=vals1 r
 cases rx
 have hn:=kK
 rcases hq with hq | hq
 ·obtain ⟨ai,r',pl,hz⟩:=I.list hq
  have hlen:=r'.length
  exact Calls.call_len_list pl.isList (by simp only [List.size_toArray] <;> omega) ⟨.int ys.length,H,I.tok _,⟨s.toks+1,by rw [List.size_toArray,hlen]⟩,q⟩
 ·obtain ⟨ai,r',pl,hz⟩:=I.tuple hq
  have hlen:=r'.length
  exact len_tuple pl (by simp only [List.size_toArray] <;> omega) ⟨.int ys.length,H,I.tok _,⟨s.toks+1,by rw [List.size_toArray,hlen]⟩,q⟩
theorem nI:bY X (.type "list") (fun xs H Q=>∃p ys,xs=[.ref p]∧(aH X.K H p ys∨bA X.K H p ys)∧∀l,H l=none→Q (.ref l) (upd H l (.lst ys))):=by
 intro pins s σ H xs us Q I r h
 obtain ⟨p,ys,rfl,hq,q⟩:=h
 obtain ⟨u,rfl,rx⟩:=vals1 r
 cases rx
 have fin:∀(ai:List Value),Vals ys ai→ys.length≤sizeLine→∀(h':Heap) (c':Nat),(∀b o',s.heap.get? b=some o'→h'.get? b=some o')→
   h'.get? s.heap.objs.size=some {cls:=.type "list",dict:=none,data:=.seq ai.toArray c',slots:=#[]}→EP X pins σ Q (.ref s.heap.objs.size) {s with heap:=h'}:=fun ai r' hz h' c' kp e=>
  ⟨.ref s.heap.objs.size,_,I.laid (t':=s.toks) kp (Nat.le_refl _) (show aQ X.prog X.w _ h' _ (.lst ys) from ⟨hz,ai,c',r',e⟩),rfl,q _ (I.aq.fresh (Nat.le_refl _))⟩
 rcases hq with hq | hq
 ·obtain ⟨ai,r',pl,hz⟩:=I.list hq
  have hlen:=r'.length
  obtain ⟨o,ho,hc,n,hd⟩:=pl.isList
  exact call_list_seq p (.inl rfl) ho hc hd (fun h' c' kp e=>fin ai r' hz h' c' kp e) (by simp only [List.size_toArray] <;> omega)
 ·obtain ⟨ai,r',pl,hz⟩:=I.tuple hq
  have hlen:=r'.length
  obtain ⟨o,ho,hc,n,hd⟩:=pl
  exact call_list_seq p (.inr rfl) ho hc hd (fun h' c' kp e=>fin ai r' hz h' c' kp e) (by simp only [List.size_toArray] <;> omega)
theorem sA:bY X (.type "tuple") (fun xs H Q=>∃p ys,xs=[.ref p]∧((aH X.K H p ys∧∀l,H l=none→Q (.ref l) (upd H l (.tup ys)))∨(bA X.K H p ys∧Q (.ref p) H))):=by
 intro pins s σ H xs us Q I r h
 obtain ⟨p,ys,rfl,h⟩:=h
 obtain ⟨u,rfl,rx⟩:=vals1 r
 cases rx
 rcases h with ⟨hq,q⟩ | ⟨hq,q⟩
 ·obtain ⟨ai,r',pl,hz⟩:=I.list hq
  have hlen:=r'.length
  refine call_tuple_list pl.isList (fun h' kp=>?_) (by simp only [List.size_toArray] <;> omega)
  have I1:Inv X pins σ H {s with heap:=h'}:=I.kept (t':=s.toks) kp
  have I2:Inv X pins σ (upd H h'.objs.size (.tup ys)) {s with heap:=h'.push {cls:=.type "tuple",data:=.seq ai.toArray}}:=
   I1.laid (t':=s.toks) (fun b o e=>Heap.get?_push_of_some _ e) (Nat.le_refl _) (show aQ X.prog X.w _ _ _ (.tup ys) from ⟨hz,ai,r',IsTup.new _ _⟩)
  exact ⟨.ref h'.objs.size,_,I2,rfl,q _ (I1.aq.fresh (Nat.le_refl _))⟩
 ·obtain ⟨ai,r',pl,hz⟩:=I.tuple hq
  exact call_tuple_same pl ⟨.ref p,H,I,rfl,q⟩
def nJ(K:PySem.W.Frag)(T:String)(x:V)(H:Hp):Prop:=match x with
 | .str _=>T = "str"
 | .int _=>T = "int"
 | .ref p=>(T = "list"∧∃xs,aH K H p xs)∨(T = "tuple"∧∃o,K.lookup p=some o∧o.cls=.type "tuple"∧o.dict=none) ∨
   (T = "dict"∧((∃bg,H p=some (.dK bg))∨∃bg,H p=some (.dT bg)))∨(T = "set"∧∃S n,H p=some (.set S n))
 | _=>False
theorem sC{pins:List (Addr×Obj)}{σ:St}{H:Hp}{s:Shared}{T:String}{x:V}{v:Value}(I:Inv X pins σ H s)(r:RelV x v)(ty:nJ X.K T x H) :
  s.TypeIs v T∧∀a,v=.ref a→∃ob,s.heap.get? a=some ob∧ob.dict=none:=by
 cases x with
 | str z=>
  obtain ⟨t,rfl⟩:=r
  cases (show T = "str" from ty)
  exact ⟨typeIs_str s z t,fun _ e=>nomatch e⟩
 | int i=>
  obtain ⟨t,rfl⟩:=r
  cases (show T = "int" from ty)
  exact ⟨typeIs_int s i t,fun _ e=>nomatch e⟩
 | ref p=>
  cases r
  rcases ty with ⟨rfl,xs,hq⟩ | ⟨rfl,o,hk,hc,hd⟩ | ⟨rfl,hk⟩ | ⟨rfl,S,n,hk⟩
  ·obtain ⟨ai,_,pl,_⟩:=I.list hq
   refine ⟨pl.isList.typeIs,fun a e=>?_⟩
   cases e
   obtain ⟨o,n,e,c,hd,_⟩:=pl
   exact ⟨o,e,hd⟩
  ·refine ⟨⟨o,I.aX p o hk,hc⟩,fun a e=>?_⟩
   cases e
   exact ⟨o,I.aX _ o hk,hd⟩
  ·have z:∃o,s.heap.get? p=some o∧o.ExactDict:=by
    rcases hk with ⟨bg,hk⟩ | ⟨bg,hk⟩
    ·obtain ⟨_,_,_,_,o,_,_,e,ex,_⟩:=I.aq p _ hk
     exact ⟨o,e,ex⟩
    ·obtain ⟨_,_,_,_,o,_,_,e,ex,_⟩:=I.aq p _ hk
     exact ⟨o,e,ex⟩
   obtain ⟨o,e,ex⟩:=z
   refine ⟨⟨o,e,ex.1⟩,fun a e2=>?_⟩
   cases e2
   exact ⟨o,e,ex.2.1⟩
  ·obtain ⟨o,_,_,_,e,ex,_⟩:=I.aq p _ hk
   refine ⟨⟨o,e,ex.1⟩,fun a e2=>?_⟩
   cases e2
   exact ⟨o,e,ex.2.1⟩
 | _=>exact False.elim ty
def y8(K:PySem.W.Frag)(T:String)(r:V→List V→Hp→VK→Prop)(to:TE):TE:=fun σ H Q=>to σ H fun x H1=>nJ K T x H1∧r x [] H1 Q
def y9(K:PySem.W.Frag)(T:String)(r:V→List V→Hp→VK→Prop)(to:TE)(t:TA):TE:=fun σ H Q=>to σ H fun x H1=>nJ K T x H1∧t σ H1 fun xs H2=>r x xs H2 Q
variable {o e:Expr} {es:List Expr} {to:TE} {t:TA} {name:Str} {apos cE:Pos} {T id:String} {r:V→List V→Hp→VK→Prop}
theorem y_(pa:PlainAttrs T)(slot:Slot T name id)(nK:typeOf (.builtin id)=pure (.type "method_descriptor"))(hm:nH X id r)(ho:PE X o to)
  (gb:attributeBase o name X.env (eval o X.env)=eval o X.env:=by rfl) (nM:(apos.endLine == cE.line)=true:=by rfl):PE X (.Call (.Attribute o name apos) [] [] cE) (y8 X.K T r to):=by
 intro pins s σ H Q I h
 refine wpAny_Call_method0_late gb nM (aw (ho pins s σ H _ I h) fun v s1 ⟨x,H1,I1,r1,ty,q1⟩=>?_)
 obtain ⟨h1,h2⟩:=sC I1 r1 ty
 exact ⟨T,id,pa,slot,nK,h1,h2,Calls.callWith_builtin rfl (PySem.evalArgs_none (hm pins s1 σ H1 x [] v [] Q I1 r1 .nil q1))⟩
theorem gc(pa:PlainAttrs T)(slot:Slot T name id)(nK:typeOf (.builtin id)=pure (.type "method_descriptor"))(hm:nH X id r)(ho:PE X o to)(ha:PA X (e::es) t)
  (gb:attributeBase o name X.env (eval o X.env)=eval o X.env:=by rfl)
  (za:((backTo cE (starEach (e::es) X.env)).all (fun x=>!x.1) && (backToKw cE (keywordEach [] X.env)).all (fun x=>x.1.isSome)
   && decide ((e::es).length+([]:List Keyword).length+(if ([]:List Keyword).isEmpty then 0 else 1)<30))=true:=by rfl)
  (nM:(apos.endLine == cE.line)=true:=by rfl) (hs:starEach (e::es) X.env=(false,eval e X.env)::starEach es X.env:=by rfl) (zb:(backTo cE (starEach es X.env)).any (·.1)=false:=by rfl) :
  PE X (.Call (.Attribute o name apos) (e::es) [] cE) (y9 X.K T r to t):=by
 intro pins s σ H Q I h
 refine wpAny_Call_method_late gb za nM rfl (aw (ho pins s σ H _ I h) fun v s1 ⟨x,H1,I1,r1,ty,q1⟩=>?_)
 obtain ⟨h1,h2⟩:=sC I1 r1 ty
 refine ⟨T,id,pa,slot,nK,h1,h2,?_⟩
 have hA:=ha cE pins s1 σ H1 _ I1 q1
 rw [hs] at hA ⊢
 refine Calls.callWith_builtin (by show (false || (backTo cE (starEach es X.env)).any (·.1))=false;rw [zb] <;> rfl) (Calls.evalArgs_plain ?_)
 exact aw hA fun us s2 ⟨vs,H2,I2,r2,q2⟩=>hm pins s2 σ H2 x vs v us Q I2 r1 r2 q2
end
def nN(X:Cx)(id:String)(r:V→List V→Hp→VK→Prop):Prop:=
 ∀(pins:List (Addr×Obj)) (s:Shared) (σ:St) (H:Hp) (x:V) (xs:List V) (v:Value) (us:List Value) (Q:VK),Inv X pins σ H s→RelV x v→Vals xs us→r x xs H Q→
  wpAny (model X.prog X.w) X.A (call (.builtin id) (v::us)) (EP X pins σ Q) X.xe s
theorem Vals.one:∀{x:V} {us:List Value},Vals [x] us→∃u,us=[u]∧RelV x u
 | _,_,.cons r .nil=>⟨_,rfl,r⟩
theorem Vals.zero:∀{us:List Value},Vals [] us→us=[]
 | _,.nil=>rfl
theorem Vals.eraseIdx:∀{xs:List V} {us:List Value} (i:Nat),Vals xs us→Vals (xs.eraseIdx i) (us.eraseIdx i)
 | _,_,_,.nil=>.nil
 | _,_,0,.cons _ t=>t
 | _,_,i+1,.cons r t=>.cons r (Vals.eraseIdx i t)
theorem sD{α:Type}:∀(l:List α) (i:Nat),(l.eraseIdx i).length≤l.length
 | [],_=>Nat.le_refl _
 | _::_,0=>Nat.le_succ _
 | _::r,i+1=>Nat.succ_le_succ (sD r i)
section
variable {X:Cx} {pins:List (Addr×Obj)} {σ:St} {H:Hp} {s:Shared} {l b:Addr} {xs ys zs:List V}
theorem Inv.nO{ai its':List Value}{n:Nat}{f:Array Value→Array Value}{t':Nat}(I:Inv X pins σ H s)(hH:H l=some (.lst xs))
  (e:s.heap.get? l=some {cls:=.type "list",data:=.seq ai.toArray n}) (hf:f ai.toArray=its'.toArray) (hv:Vals ys its') (hz:ys.length≤sizeLine) :
  Inv X pins σ (upd H l (.lst ys)) {s with heap:=s.heap.update l (Obj.mapSeq f),toks:=t'}:=by
 have q:=PySem.IsL.update e f
 rw [hf] at q
 refine I.write (x:=l) (e:=l) (by rw [hH];exact trivial) (.inl rfl) (fun b' u hb hu=>(Heap.get?_update_other s.heap (Obj.mapSeq f) (Ne.symm hb)).trans hu) ⟨_,q⟩ ?_
 exact ⟨hz,its',_,hv,q⟩
theorem Inv.zc{ai:List Value}{t':Nat}(I:Inv X pins σ H s)(hv:Vals ys ai)(hz:ys.length≤sizeLine) :
  Inv X pins σ (upd H s.heap.objs.size (.lst ys)) {s with heap:=s.heap.push {cls:=.type "list",data:=.seq ai.toArray},toks:=t'}:=
 I.laid (fun _ _ q=>Heap.get?_push_of_some _ q) (Nat.le_refl _) ⟨hz,ai,0,hv,Heap.get?_push_size _ rfl⟩
theorem Inv.fresh(I:Inv X pins σ H s):H s.heap.objs.size=none:=I.aq.fresh (Nat.le_refl _)
theorem Inv.ib(I:Inv X pins σ H s)(hH:H l=some (.lst xs)):xs.length≤sizeLine∧∃(ai:List Value) (n:Nat),Vals xs ai∧xs.length=ai.length∧s.heap.get? l=some {cls:=.type "list",data:=.seq ai.toArray n}:=by
 obtain ⟨z,ai,n,r,e⟩:=I.aq l _ hH
 exact ⟨z,ai,n,r,r.length,e⟩
theorem zd{n:Nat}(h:n≤sizeLine):Builtin.List.listTooLong n=false:=by
 unfold Builtin.List.listTooLong
 exact decide_eq_false (by omega)
end
section
variable {X:Cx}
def ze:V→List V→Hp→VK→Prop:=fun x vs H Q=>∃l xs y,x=.ref l∧vs=[y]∧H l=some (.lst xs)∧xs.length<sizeLine∧Q .ay (upd H l (.lst (xs++[y])))
theorem ic:nN X "list.append" ze:=by
 intro pins s σ H x vs v us Q I rx rv h
 obtain ⟨l,xs,y,rfl,rfl,hH,hz,q⟩:=h
 cases rx
 obtain ⟨u,rfl,ru⟩:=rv.one
 obtain ⟨z,ai,n,r,hl,e⟩:=I.ib hH
 refine call_meets F.slot_list_append ⟨_,e,rfl⟩ F.entry_list_append (F.args_list_append_2 _ _) (PySem.list_append l ai.toArray n u (by rw [List.size_toArray];omega)) ⟨e,?_⟩
 refine ⟨.ay,_,I.nO (its':=ai++[u]) hH e (by simp) (r.append (.cons ru .nil)) ?_,rfl,q⟩
 rw [List.length_append,List.length_singleton]
 omega
def zf:V→List V→Hp→VK→Prop:=fun x vs H Q=>∃l b xs zs,x=.ref l∧vs=[.ref b]∧H l=some (.lst xs)∧H b=some (.lst zs)∧xs.length+zs.length≤sizeLine∧Q .ay (upd H l (.lst (xs++zs)))
theorem sE:nN X "list.extend" zf:=by
 intro pins s σ H x vs v us Q I rx rv h
 obtain ⟨l,b,xs,zs,rfl,rfl,hH,hB,hz,q⟩:=h
 cases rx
 obtain ⟨u,rfl,ru⟩:=rv.one
 cases ru
 obtain ⟨z,ai,n,r,hl,e⟩:=I.ib hH
 obtain ⟨z2,fk,n2,r2,zg,e2⟩:=I.ib hB
 have rS:ai.toArray.size+fk.toArray.size≤sizeLine:=by rw [List.size_toArray,List.size_toArray];omega
 have zh:¬(!ai.toArray.isEmpty && Builtin.List.listTooLong (ai.toArray.size+fk.toArray.size))=true:=by
  rw [zd rS,Bool.and_false]
  exact Bool.false_ne_true
 refine call_meets F.slot_list_extend ⟨_,e,rfl⟩ F.entry_list_extend (F.args_list_extend_2 _ _)
  (AutoSeq1.list_extend_list_list_0 l ai.toArray n b fk.toArray n2 zh (by rw [List.size_toArray];omega) (by omega)) ⟨e,e2,?_⟩
 refine ⟨.ay,_,I.nO (its':=ai++fk) hH e (by simp) (r.append r2) ?_,rfl,q⟩
 rw [List.length_append]
 omega
def zi:V→List V→Hp→VK→Prop:=fun x vs H Q=>∃l xs i k y,x=.ref l∧vs=[.int i]∧H l=some (.lst xs)∧-(2 ^ 63)≤i∧i<2 ^ 63∧seqIndex? i xs.length=some k∧xs[k]?=some y∧Q y (upd H l (.lst (xs.eraseIdx k)))
theorem zj:nN X "list.pop" zi:=by
 intro pins s σ H x vs v us Q I rx rv h
 obtain ⟨l,xs,i,k,y,rfl,rfl,hH,h1,h2,hk,hy,q⟩:=h
 cases rx
 obtain ⟨u,rfl,ru⟩:=rv.one
 obtain ⟨t,rfl⟩:=ru
 obtain ⟨z,ai,n,r,hl,e⟩:=I.ib hH
 obtain ⟨w,hw,jF⟩:=r.get hy
 refine call_meets F.slot_list_pop ⟨_,e,rfl⟩ F.entry_list_pop (F.args_list_pop_2 _ _)
  (MeetsSeq.list_pop_at l ai.toArray n i t k w (fitsIndex_both h1 h2) (by rw [List.size_toArray,←hl];exact hk) (by rw [←Array.getElem?_toList];exact hw) (by rw [List.size_toArray];omega)) ⟨e,?_⟩
 refine ⟨y,_,I.nO (its':=ai.eraseIdx k) hH e ?_ (r.eraseIdx k) ?_,jF,q⟩
 ·show ai.toArray.eraseIdxIfInBounds k=(ai.eraseIdx k).toArray
  rw [List.eraseIdxIfInBounds_toArray]
 ·have:=sD xs k
  omega
def zk:R2:=fun x y H Q=>∃l b xs zs,x=.ref l∧y=.ref b∧H l=some (.lst xs)∧H b=some (.lst zs)∧xs.length+zs.length≤sizeLine∧∀p,H p=none→Q (.ref p) (upd H p (.lst (xs++zs)))
theorem nQ:aY X (binaryOp .Add) zk:=by
 intro pins s σ H x y v u Q I rx ry h
 obtain ⟨l,b,xs,zs,rfl,rfl,hH,hB,hz,q⟩:=h
 cases rx
 cases ry
 obtain ⟨z,ai,n,r,hl,e⟩:=I.ib hH
 obtain ⟨z2,fk,n2,r2,zg,e2⟩:=I.ib hB
 refine PySem.P.add_list e e2 ?_ (by rw [List.size_toArray,List.size_toArray];omega)
 have ea:ai.toArray++fk.toArray=(ai++fk).toArray:=by simp
 rw [ea]
 exact ⟨.ref _,_,I.zc (t':=s.toks) (r.append r2) (by rw [List.length_append];omega),rfl,q _ I.fresh⟩
end
section
variable {prog:Program} {w:World} {A:Around} {E:Value→Shared→Prop} {s:Shared}
end
section
variable {X:Cx}
end
end L2
namespace sF
open PySem PySem.W PySem.Calls PyProof.Rows
theorem zl{P:Params}{h:Heap}:∀(ns:List Int) (vs:List Value),WellAll P h vs (ns.map WData.int)→IntsAre vs ns:=by
 intro ns
 induction ns with
 | nil=>
  intro vs w
  rw [List.map_nil] at w
  cases w
  exact .nil
 | cons n ns ih=>
  intro vs w
  rw [List.map_cons] at w
  cases w with
  | cons a b=>
   cases a
   exact .cons _ _ (ih _ b)
theorem zm{l:OpenLaw}{n:Nat}(hn:l.most=some n){P:Params}{h:Heap}{args:List WData}{vals:List Value}
  (kO:l.row.toRowW.claim.pre args=true) (nR:WellAll P h vals args) :
  ∃a vs ns,vals=[Value.ref a]∧args=[WData.list (ns.map WData.int)]∧h.get? a=some {cls:=.type "list",data:=.seq vs.toArray}∧IntsAre vs ns∧ns.length≤n:=by
 have kP:WShape.hasAll [] args [.list .int]=true:=(pre_splitW kO).1
 have hc:l.pre.holds [] {args:=args}=true:=(pre_splitW kO).2
 obtain ⟨d,r,rfl,h1,h2⟩:=hasAllW_cons kP
 obtain rfl:=hasAllW_nil h2
 obtain ⟨xs,rfl,h3⟩:=hasW_list h1
 obtain ⟨ns,rfl⟩:=items_int h3
 have hlen:ns.length≤n:=by
  unfold OpenLaw.pre at hc
  have h4:(WTm.not (.lt (.lit (.int (n:Int))) (.len (.arg 0)))).holds [] {args:=[.list (ns.map .int)]}=true:=by
   have h4:=(holds_andW hc).1
   rw [hn] at h4
   exact h4
  have h5:=condW_of h4 (w_not (w_lt w_lit (w_len_list (w_arg rfl))))
  rw [List.length_map] at h5
  refine Nat.le_of_not_lt fun q=>?_
  have q':(n:Int)<((ns.length:Nat):Int):=by omega
  first
   | (rw [decide_eq_true q'] at h5;exact absurd h5 (by decide))
   | (simp at h5;omega)
 cases nR with
 | cons w1 w2=>
  cases w2
  cases w1 with
  | list ho zo=>exact ⟨_,_,ns,rfl,rfl,ho,zl ns _ zo,hlen⟩
theorem zp(l:OpenLaw)(args:List WData):l.row.toRowW.claim.post args (.bool true) args=true:=
 postW_of (r:=l.row.toRowW) (X:=(true == true))
  (show WShape.has [] (.bool true) .bool=true by first | rfl | decide | simp [WShape.has,WShape.arms,WShape.armsAll])
  (show (WTm.eq .res (.lit (.bool true))).value [] {args:=args,res:=some (.bool true),after:=args}=some (.bool (true == true)) from w_eq_bool (w_res rfl) w_lit) rfl
theorem zq{l:OpenLaw}{n:Nat}{q:Program}{loose:List Str}{XP:(Str→Option Value)→Heap→Prop}{YP:World→Heap→Prop}{d:DefRec}
  (hn:l.most=some n) (jH:d.params.defaults=[])
  (call:∀(w:World) (s₀ s₁:Shared) (mg mb:Str→Option Value) (fa:Addr) (o:Obj) (pm cd doc:Value) (a:Addr) (vs:List Value) (ns:List Int),
   Ground q loose [] XP w s₀ mg mb s₁.heap→YP w s₁.heap→
   s₁.heap.get? fa=some o→o.data=.func (docDef d.name d.params d.body d.scope pm cd doc)→s₁.heap.CodeRec cd d.name→mg d.name=some (.ref fa)→
   s₁.heap.get? a=some {cls:=.type "list",data:=.seq vs.toArray}→IntsAre vs ns→ns.length≤n→s₁.gens = #[]→
   codeAny (model l.prog w) callerA (.call (.ref fa) ⟨[.ref a],[]⟩) (fun r s'=>r=.ok (.ret (.bool true))∧OldK s₁.heap s'.heap∧s'.os=s₁.os∧AllBare s'.gens) s₁) :
  WalkO q loose XP YP l.row.toRowW d [] (fun f vs=>PySem.call f vs):=by
 intro w s₀ s₁ mg mb G Y fa o pm cd doc dV kV ho hd bO hD jI hg args vals as kO G7 G8 nR G9
 obtain rfl:dV=.none:=Dflts.none hD jH
 obtain rfl:kV=.none:=Dflts.noKw hD
 obtain ⟨a,vs,ns,rfl,rfl,nS,hints,hlen⟩:=zm hn kO nR
 refine enter_call (codeAny_mono (call w s₀ s₁ mg mb fa o pm cd doc a vs ns G Y ho (fd_plain hd) bO jI nS hints hlen hg) fun r s' hq=>?_)
 obtain ⟨rfl,h2,h3,h4⟩:=hq
 exact ⟨.inl ⟨.bool true,.bool true,[],rfl,fun _=>rfl,.bool true,zp l _,fun _=>⟨List.Pairwise.nil,fun _ hm=>(nomatch hm)⟩⟩,h2,h3,h4⟩
section
variable {prog:Program} {w:World} {A:Around} {E:Value→Shared→Prop} {s:Shared} {K:Frag}
end
end sF
namespace L2
open PySem PySem.Spec PyProof.Rows
theorem sG:∀{vs:List Value} {ns:List Int},IntsAre vs ns→Vals (ns.map V.int) vs
 | _,_,.nil=>.nil
 | _,_,.cons n t h=>.cons ⟨t,rfl⟩ (sG h)
def nT(H:Hp):Prop:=∀b,H b=none∨∃o xs,H b=some (.bU o (.lst xs))
theorem zr{P:Program}{w:World}{K:PySem.W.Frag}{mg mb:Str→Option Value}{CX:cN}{k:Nat}{fa a:Addr}{fd:FuncData}{x:Str}{sp:Sp}{s₁:Shared}{vs:List Value}{ns:List Int}
  (KX:K.In s₁.heap) (sI:s₁.heap.Ns mainGlobals mg) (hb:s₁.heap.Ns builtinsNs mb) (zt:∀x:Str,x ≠ "__name__"→mb x=bootBuiltins x) (zu:s₁.heap.NoLimit) (hg:s₁.gens = #[])
  (ha:s₁.heap.get? a=some {cls:=.type "list",data:=.seq vs.toArray}) (hi:IntsAre vs ns) (hl:ns.length≤sizeLine) (hr:bc k callerA)
  (F:∀base:Heap,K.In base→base.Ns mainGlobals mg→aJ P w K mg base CX k fa fd [x] sp) (zw:∀(s:Shared) (u:Value),BindsTo s fd ⟨[u],[]⟩ [(x,u)])
  (cY:∀H:Hp,nT H→aH K H a (ns.map V.int)→sp [.ref a] H (fun v _=>v=.bl true) fun _ _ _=>False)
  (nU:∀H e s',CX [] H s₁ (fun _ _ _=>False) e s'→False) :
  codeAny (model P w) callerA (.call (.ref fa) ⟨[.ref a],[]⟩) (fun r s'=>r=.ok (.ret (.bool true))∧OldK s₁.heap s'.heap∧s'.os=s₁.os∧AllBare s'.gens) s₁:=by
 have rv:=sG hi
 have zy:=hi.length
 have core:∀H:Hp,nT H→aH K H a (ns.map V.int)→a9 P w H s₁.heap→(∀b,H b≠none→b=a)→(H a≠none→K.lookup a=none)→
   codeAny (model P w) callerA (.call (.ref fa) ⟨[.ref a],[]⟩) (fun r s'=>r=.ok (.ret (.bool true))∧OldK s₁.heap s'.heap∧s'.os=s₁.os∧AllBare s'.gens) s₁:=by
  intro H hO hS aq hA hK
  have sJ:∀{b:Addr} {o:Obj},s₁.heap.get? b=some o→H b=none→(eA s₁.heap H).get? b=some o:=fun e n=>xk e n
  have jD:∀{b:Addr} {o:Obj} {es:Array DictEntry} {ep:Nat},s₁.heap.get? b=some o→o.data=.dict es ep→H b=none:=fun{b o es ep} e d=>by
   cases q:H b with
   | none=>rfl
   | some u=>
    have e':b=a:=hA b (by rw [q];simp)
    subst e'
    rw [ha] at e;cases e
    have d':Data.seq vs.toArray _=Data.dict es ep:=d
    cases d'
  have kR:∀{b:Addr} {m:Str→Option Value},s₁.heap.Ns b m→(eA s₁.heap H).Ns b m:=fun{b m} ⟨o,es,ep,e,d,r⟩=>⟨o,es,ep,sJ e (jD e d),d,r⟩
  have sL:K.In (eA s₁.heap H):=fun b o e=>sJ (KX b o e) (by
   cases q:H b with
   | none=>rfl
   | some u=>
    have e':b=a:=hA b (by rw [q];simp)
    subst e'
    rw [hK (by rw [q];simp)] at e;cases e)
  have hM:Mod K mg (eA s₁.heap H):=⟨sL,kR sI,⟨mb,kR hb,zt⟩,let ⟨mc,h1,h2⟩:=zu;⟨mc,kR h1,h2⟩⟩
  have e0:fY P w K mg (eA s₁.heap H) callerA [] s₁ H:=⟨rfl,hM,fun b o e=>xl e,Nat.le_of_eq (xj _ _),trivial,fun b hb=>absurd (show b∈([]:List Addr) from hb) (by simp),aq,.of_eq hg⟩
  refine codeAny_mono ((F _ sL (kR sI)).run callerA [] s₁ H ⟨[.ref a],[]⟩ [.ref a] [.ref a] _ _ hr e0 (zw s₁ (.ref a)) (.cons rfl .nil) (cY H hO hS)) fun r s' h=>?_
  cases r with
  | error e=>exact (nU H e s' h).elim
  | ok fl=>
   cases fl with
   | next=>exact False.elim h
   | brk=>exact False.elim h
   | cont=>exact False.elim h
   | ret u=>
    obtain ⟨v,H',os,bare,un,zA,r',q⟩:=h
    have q':v=.bl true:=q
    subst q'
    obtain rfl:u=Value.bool true:=r'
    refine ⟨rfl,OldK.of_keep fun b o e=>?_,os,bare⟩
    cases q:H b with
    | none=>exact un.keep b o e q (by intro z;exact absurd (show b∈([]:List Addr) from z) (by simp)) (by simp)
    | some u=>
     rcases hO b with z | ⟨ob,xs,z⟩
     ·rw [q] at z;cases z
     ·have z2:=un.bE b ob _ z
      obtain ⟨e1,_⟩:=aq b _ z
      obtain ⟨e2,_⟩:=zA b _ z2
      rw [e] at e1;cases e1
      exact e2
 cases hk:K.lookup a with
 | some o=>
  have e:=KX a o hk
  rw [ha] at e
  cases e
  refine core (fun _=>none) (fun _=>.inl rfl) (.inr ⟨_,vs.toArray,_,hk,rfl,rfl,rfl,by rw [List.size_toArray,zy];exact hl,by simpa using rv⟩) (fun b u z=>by have z':(none:Option HO)=some u:=z;cases z') (fun b z=>absurd rfl z) fun z=>absurd rfl z
 | none=>
  refine core (fun b=>if b=a then some (.bU {cls:=.type "list",data:=.seq vs.toArray} (.lst (ns.map V.int))) else none) (fun b=>?_) (.inl (.inr ⟨{cls:=.type "list",data:=.seq vs.toArray},if_pos rfl⟩)) (fun b u z=>?_) (fun b z=>?_) fun _=>hk
  ·by_cases hb:b=a
   ·exact .inr ⟨_,_,if_pos hb⟩
   ·exact .inl (if_neg hb)
  ·by_cases hb:b=a
   ·have z':=(if_pos hb).symm.trans z
    cases z'
    subst hb
    exact ⟨ha,by rw [List.length_map];exact hl,vs,_,rv,ha⟩
   ·have z':=(if_neg hb).symm.trans z
    cases z'
  ·by_cases hb:b=a
   ·exact hb
   ·exact absurd (if_neg hb) z
abbrev sM {K:PySem.W.Frag} {h:Heap} (_:K.In h):PySem.W.Frag:=K
theorem zB{l:PySem.W.OpenLaw}{n k:Nat}{q:Program}{loose:List Str}{XP:(Str→Option Value)→Heap→Prop}{YP:World→Heap→Prop}{d:DefRec}{K:Params→PySem.W.Frag}{CX:World→cN}{sp:World→Sp}{x:Str}
  (hn:l.most=some n) (h_:n≤sizeLine) (jH:d.params.defaults=[]) (hr:bc k callerA)
  (hY:∀(w:World) (h:Heap),YP w h→(K w.params).In h)
  (F:∀(w:World) (mg:Str→Option Value) (fa:Addr) (h:Heap),(K w.params).In h→h.Ns mainGlobals mg→mg d.name=some (.ref fa)→
   ∃fd:FuncData,(∀(s:Shared) (u:Value),BindsTo s fd ⟨[u],[]⟩ [(x,u)]) ∧
    ∀base:Heap,(K w.params).In base→base.Ns mainGlobals mg→aJ l.prog w (K w.params) mg base (CX w) k fa fd [x] (sp w))
  (cY:∀(w:World) (H:Hp) (a:Addr) (ns:List Int),ns.length≤n→nT H→aH (K w.params) H a (ns.map V.int)→sp w [.ref a] H (fun v _=>v=.bl true) fun _ _ _=>False)
  (nU:∀(w:World) (H:Hp) (s:Shared) (e:Value) (s':Shared),CX w [] H s (fun _ _ _=>False) e s'→False) :
  PySem.W.WalkO q loose XP YP l.row.toRowW d [] (fun f vs=>PySem.call f vs):=by
 refine sF.zq hn jH fun w s₀ s₁ mg mb fa o pm cd doc a vs ns G Y ho hd bO jI nS hints hlen hg=>?_
 have KX:=hY w _ Y
 obtain ⟨fd,hb,hF⟩:=F w mg fa _ KX G.T.g jI
 exact zr KX G.T.g G.T.b G.T.builtins G.T.nolimit hg nS hints (Nat.le_trans hlen h_) hr hF hb (fun H hO hS=>cY w H a ns hlen hO hS) fun H e s'=>nU w H s₁ e s'
def inClass(s:Stmt)(j:Nat):Stmt:=match s with
 | .ClassDef _ _ _ body _ _ _ _ _ _ _=>body.getD j (.Pass ⟨0,0,0,0⟩)
 | _=>.Pass ⟨0,0,0,0⟩
def de(s:Stmt):Arguments:=match s with
 | .FunctionDef _ a _ _ _ _ _ _ _ _=>a
 | _=>{posonlyargs:=[],args:=[],vararg:=none,kwonlyargs:=[],kw_defaults:=[],kwarg:=none,defaults:=[]}
def cm(s:Stmt):List Stmt:=match s with
 | .FunctionDef _ _ b _ _ _ _ _ _ _=>b
 | _=>[]
def aE(s:Stmt):Scope:=match s with
 | .FunctionDef _ _ _ _ _ _ sc _ _ _=>sc
 | _=>{kind:=.function,names:=[],isGenerator:=false,isCoroutine:=false}
abbrev bt:cN:=fun _ _ _ _ _ _=>False
abbrev E0:XK:=fun _ _ _=>False
theorem aT{X:Cx}:Passes bt X E0:=fun _ _ _ _ _ _ _ h=>h.elim
structure aA (K:PySem.W.Frag) (x qual:Str) (st:Stmt) (f:Addr) (fd:FuncData):Prop where
 ex:∃(oc:Value) (od:Option Addr) (kV doc pm:Value) (an:Option Addr) (av ct:Value) (bQ:Array (Option Value)),
  fd=PySem.W.fnOf x qual (de st) (cm st) (aE st) .none kV doc pm an av ct∧K.lookup f=some ⟨oc,od,.func fd,bQ⟩∧PySem.W.codeIn K av qual=true
 kp:PySem.W.keepIn K (.ref f)=true
section
variable {P:Program} {w:World} {K:PySem.W.Frag} {mg:Str→Option Value} {base:Heap}
theorem aA.ok{x qual:Str}{st:Stmt}{f:Addr}{fd:FuncData}{N ps:List Str}{k:Nat}{sp:Sp}(F:aA K x qual st f fd)(S:ba N ps (aE st))(len:∀vs H Q E,sp vs H Q E→vs.length=ps.length)
  (f9:∀(av:Value) (A:Around) (outer:List Env) (s:Shared) (H:Hp) (vs:List V) (Q:VK) (E:XK),bc k (A.deeper (envOfC qual (aE st) s.heap.objs.size f av))→sp vs H Q E→
   ∃t,bF (dZ bt P w K mg base N qual (aE st) f av A outer s H E).e9 (cm st) t∧t {nx:=fun _ H'=>Q .ay H',rt:=Q} (start N vs) H):aJ P w K mg base bt (k+1) f fd ps sp:=by
 obtain ⟨oc,od,kV,doc,pm,an,av,ct,bQ,rfl,lk,bO⟩:=F.ex
 refine nF lk bO S len fun A outer s H vs Q E hr cY=>?_
 obtain ⟨t,h,q⟩:=f9 av A outer s H vs Q E hr cY
 exact ⟨t,h.e9,q⟩
theorem aA.binds{x qual:Str}{st:Stmt}{f:Addr}{fd:FuncData}{ps:List Str}(F:aA K x qual st f fd)
  (h:∀(kV doc pm:Value) (an:Option Addr) (av ct:Value) (us:List Value),us.length=ps.length→bindArgs (PySem.W.fnOf x qual (de st) (cm st) (aE st) .none kV doc pm an av ct) ⟨us,[]⟩=pure (ps.zip us)):Binds K fd ps []:=by
 obtain ⟨oc,od,kV,doc,pm,an,av,ct,bQ,rfl,lk,bO⟩:=F.ex
 exact .all (h kV doc pm an av ct)
theorem bq{x qual:Str}{st:Stmt}{f:Addr}{oc:Value}{od an:Option Addr}{bQ:Array (Option Value)}{kV doc pm av ct:Value}(l:K.lookup f=some ⟨oc,od,.func (PySem.W.fnOf x qual (de st) (cm st) (aE st) .none kV doc pm an av ct),bQ⟩)
  (c:PySem.W.codeIn K av qual=true) (k:PySem.W.keepIn K (.ref f)=true):aA K x qual st f (PySem.W.fnOf x qual (de st) (cm st) (aE st) .none kV doc pm an av ct):=⟨⟨oc,od,kV,doc,pm,an,av,ct,bQ,rfl,l,c⟩,k⟩
end
theorem df{n:Nat}(h:n≤1000):n<sizeLine:=Nat.lt_of_le_of_lt h (by decide)
section
variable {X:Cx}
theorem pv(i:Nat){x:Str}{pos:Pos}(hN:X.N[i]?=some x:=by rfl)(hv:jr X.env.scope x:=by first | exact Or.inl rfl | exact Or.inr (Or.inl rfl) | exact Or.inr (Or.inr rfl))(hd:(x == ("__debug__":Str))=false:=by decide)
  (bO:(x == ("__classdict__":Str))=false:=by decide):PE X (.Name x pos) (rj i):=xr hN hv hd bO
end
theorem cn{A B:Prop}(h:B):if false=true then A else B:=by
 rw [if_neg Bool.false_ne_true]
 exact h
theorem dG{A B:Prop}(h:A):if true=true then A else B:=by
 rw [if_pos rfl]
 exact h
theorem a7{c A B:Prop}[Decidable c](h1:c→A)(h2:¬c→B):if c then A else B:=by
 by_cases h:c
 ·rw [if_pos h]
  exact h1 h
 ·rw [if_neg h]
  exact h2 h
def ae(H H':Hp):Prop:=∀b o,H b=some o→H' b=some o
theorem ae.refl(H:Hp):ae H H:=fun _ _ h=>h
theorem ae.trans{H H1 H2:Hp}(a:ae H H1)(b:ae H1 H2):ae H H2:=fun c o h=>b c o (a c o h)
theorem ae.seq{K:PySem.W.Frag}{H H':Hp}{a:Addr}{xs:List V}(e:ae H H')(h:aH K H a xs):aH K H' a xs:=by
 rcases h with (h | ⟨o,h⟩) | h
 ·exact .inl (.inl (e _ _ h))
 ·exact .inl (.inr ⟨o,e _ _ h⟩)
 ·exact .inr h
end L2
set_option maxHeartbeats 4000000
namespace L2
open PySem PySem.Spec PyProof.Rows
theorem aQ.here{P:Program}{w:World}{H:Hp}{h:Heap}{a:Addr}{o:HO}(x:aQ P w H h a o):∃ob,h.get? a=some ob:=by
 cases o with
 | lst xs=>obtain ⟨_,_,_,_,e⟩:=x;exact ⟨_,e⟩
 | tup xs=>obtain ⟨_,_,_,ob,e,_⟩:=x;exact ⟨_,e⟩
 | dK bg=>obtain ⟨_,_,_,_,ob,_,_,e,_⟩:=x;exact ⟨_,e⟩
 | dT bg=>obtain ⟨_,_,_,_,ob,_,_,e,_⟩:=x;exact ⟨_,e⟩
 | set S n=>obtain ⟨ob,_,_,_,e,_⟩:=x;exact ⟨_,e⟩
 | ins C dx fs=>obtain ⟨_,_,_,e,_⟩:=x;exact ⟨_,e⟩
 | own y=>exact x
 | xd fs=>obtain ⟨_,⟨_,_,_,e,_⟩,_⟩:=x;exact ⟨_,e⟩
 | dw lo hi=>obtain ⟨_,_,_,e⟩:=x;exact ⟨_,e⟩
 | bU ob u=>obtain ⟨e,_⟩:=x;exact ⟨_,e⟩
 | dQ ps=>exact ⟨_,x⟩
 | met f y=>exact ⟨_,x⟩
 | ext φ=>exact x.2.1
structure cF (P:Program) (w:World) (outer:List Env) (H:Hp) (s:Shared) (H':Hp) (ea C:Addr) (B:Heap) (t:Addr) (s':Shared):Prop where
 os:s'.os=s.os
 bare:AllBare s'.gens
 fl:Heap.FlyingW B outer ea (.ref C) (.ref t) s'.heap
 aq:a9 P w H' B
 kb:∀b o,s.heap.get? b=some o→H b=none→b∉aV outer→B.get? b=some o
 tb:∀b o,s.heap.get? b=some o→b∉aV outer→∃o',B.get? b=some o'
 sl:∀b o,s.heap.get? b=some o→H b=none→b∈aV outer→∃l,s'.heap.get? b=some {o with slots:=l}
 zC:∀b∈aV outer,H b=none
 sN:∀b o,s.heap.get? b=some o→H b=none→H' b=none
 bM:∀b xs,H b=some (.tup xs)→H' b=some (.tup xs)
 bE:∀b o u,H b=some (.bU o u)→H' b=some (.bU o u)
 bN:∀b ps,H b=some (.dQ ps)→∃more,H' b=some (.dQ (ps++more))
def bB(P:Program)(w:World):cN:=fun outer H s E e s'=>∃ea C H' B t,e=.ref ea∧cF P w outer H s H' ea C B t s'∧E (.ref C) none H'
section
variable {P:Program} {w:World} {outer:List Env} {H H':Hp} {s s':Shared} {ea C t:Addr} {B:Heap}
theorem cF.nV(f:cF P w outer H s H' ea C B t s'):H' ea=none:=by
 cases q:H' ea with
 | none=>rfl
 | some u=>
  obtain ⟨ob,e⟩:=(f.aq ea u q).here
  rw [f.fl.2.1] at e
  cases e
theorem cF.un(f:cF P w outer H s H' ea C B t s'){h:Heap}(st:B.StaysIn h)(up:s'.heap.UpToSlots h):Un (aV outer) [] H H' s.heap h where
 keep:=fun b o e n hb _=>st b o (f.kb b o e n hb)
 slot:=fun b o e n hb _=>by
  obtain ⟨l,q⟩:=f.sl b o e n hb
  obtain ⟨_,o2,q2,nf⟩:=f.fl.2.2.1.mem hb
  rw [q] at q2
  cases q2
  obtain ⟨l2,q3⟩:=up b _ q nf
  exact ⟨l2,q3⟩
 free:=fun b o e n _=>f.sN b o e n
 there:=fun b o e _=>by
  by_cases hb:b∈aV outer
  ·obtain ⟨l,q⟩:=f.sl b o e (f.zC b hb) hb
   obtain ⟨_,o2,q2,nf⟩:=f.fl.2.2.1.mem hb
   rw [q] at q2
   cases q2
   obtain ⟨l2,q3⟩:=up b _ q nf
   exact ⟨_,q3⟩
  ·obtain ⟨o',q⟩:=f.tb b o e hb
   exact ⟨o',st b o' q⟩
 bM:=f.bM
 bE:=f.bE
 bN:=f.bN
def ExcAt(ea C:Addr)(h:Heap):Prop:=∃oe,h.get? ea=some oe∧oe.cls=.ref C∧PySem.W.notCls oe=true
def dH(ea C:Addr):HO:=.ext (ExcAt ea C)
theorem zD{l:List Env}{h:Heap}(x:Heap.FlyingW B l ea (.ref C) (.ref t) h):ExcAt ea C h:=by
 obtain ⟨oe,vs,e,c,d,_⟩:=x.first
 refine ⟨oe,e,c,?_⟩
 obtain ⟨_,_,dt,_⟩:=oe
 cases d
 rfl
theorem a9.exc{h:Heap}(x:a9 P w H' h)(n:H' ea=none)(k:ExcAt ea C h):a9 P w (upd H' ea (dH ea C)) h:=fun b u e=>by
 by_cases hb:b=ea
 ·subst hb
  rw [ar] at e
  cases e
  obtain ⟨oe,e1,e2⟩:=k
  refine ⟨⟨oe,e1,e2⟩,⟨oe,e1⟩,fun h1 h2 ⟨o1,a1,a2⟩ z=>⟨o1,z o1 a1,a2⟩⟩
 ·rw [aD hb] at e
  refine (x b u e).dR (fun c v _ q=>q) (fun c q=>?_) fun c xs q=>?_
  ·rw [aD (bL q n)]
   exact q
  ·rw [aD (bL q n)]
   exact q
theorem Un.exc{fs ex:List Addr}{h h':Heap}(u:Un fs ex H H' h h')(n:H' ea=none)(k:∀b o,h.get? b=some o→b≠ea){o:HO}:Un fs ex H (upd H' ea o) h h' where
 keep:=u.keep
 slot:=u.slot
 free:=fun b ob e z hx=>by
  rw [aD (k b ob e)]
  exact u.free b ob e z hx
 there:=u.there
 bM:=fun b xs e=>by
  have q:=u.bM b xs e
  rw [aD (bL q n)]
  exact q
 bE:=fun b ob xs e=>by
  have q:=u.bE b ob xs e
  rw [aD (bL q n)]
  exact q
 bN:=fun b ps e=>by
  obtain ⟨m,q⟩:=u.bN b ps e
  refine ⟨m,?_⟩
  rw [aD (bL q n)]
  exact q
theorem cF.apart(f:cF P w outer H s H' ea C B t s'):∀b o,s.heap.get? b=some o→b≠ea:=fun b o e z=>by
 subst z
 by_cases hb:b∈aV outer
 ·obtain ⟨_,o2,q2,nf⟩:=f.fl.2.2.1.mem hb
  obtain ⟨oe,vs,q3,_,d,_⟩:=f.fl.first
  rw [q2] at q3
  cases q3
  exact nf _ d
 ·obtain ⟨o',q⟩:=f.tb b o e hb
  rw [f.fl.2.1] at q
  cases q
end
section
variable {X:Cx} {pins:List (Addr×Obj)} {σ:St} {H H':Hp} {s s':Shared} {ea C t:Addr} {B:Heap}
theorem G_{P:Addr→Prop}:∀b∈([]:List Addr),P b:=fun _ z=>nomatch z
theorem cF.land(I:Inv X pins σ H s)(f:cF X.prog X.w X.stack H s H' ea C B t s'){h:Heap}{tk:Nat}(st:B.StaysIn h)(up:s'.heap.UpToSlots h):Inv X pins σ H' {s' with heap:=h,toks:=tk}:=
 I.jv (s':={s' with heap:=h,toks:=tk}) (ch:=[]) f.os (f.un st up) (f.aq.kept fun b o e=>st b o e) f.bare (fun _ z=>nomatch z)
theorem cF.zE(I:Inv X pins σ H s)(f:cF X.prog X.w X.stack H s H' ea C B t s'){h:Heap}{tk:Nat}(x:Heap.FlyingW B X.stack ea (.ref C) (.ref t) h)(up:s'.heap.UpToSlots h):Inv X pins σ (upd H' ea (dH ea C)) {s' with heap:=h,toks:=tk}:=
 I.jv (s':={s' with heap:=h,toks:=tk}) (ch:=[]) f.os ((f.un x.1 up).exc f.nV f.apart) ((f.aq.kept fun b o e=>x.1 b o e).exc f.nV (zD x)) f.bare (fun _ z=>nomatch z)
structure jJ (X:Cx) (E:XK):Prop where
 cz:X.stack=X.env::X.outer
 fr:X.env.frame=some X.env.locals
 ex:X.ex=[]
 xe:X.xe=fun e s'=>wpAny (model X.prog X.w) X.A (leaving X.env e) (fun _ d0=>bB X.prog X.w X.outer X.H₀ X.s₀ E e d0) (fun e' d0=>bB X.prog X.w X.outer X.H₀ X.s₀ E e' d0) s'
theorem kS{env:Env}{outer:List Env}{L:Addr}(h:env.frame=some L):aV (env::outer)=L::aV outer:=by
 unfold aV
 rw [List.filterMap_cons,h]
theorem cF.leave{E:XK}(L:jJ X E)(I:Inv X pins σ H s)(f:cF X.prog X.w X.stack H s H' ea C B t s'){h:Heap}(x:Heap.FlyingW B X.outer ea (.ref C) (.ref t) h)(up:s'.heap.UpToSlots h):cF X.prog X.w X.outer X.H₀ X.s₀ H' ea C B t {s' with heap:=h}:=by
 have nL:∀b o,X.s₀.heap.get? b=some o→b≠X.env.locals:=fun b o e=>Nat.ne_of_lt (Nat.lt_of_lt_of_le (Heap.lt_size e) I.ok.above)
 have ns:∀b o,X.s₀.heap.get? b=some o→b∉aV X.outer→b∉aV X.stack:=fun b o e nb z=>by
  rw [L.cz,kS L.fr] at z
  rcases List.mem_cons.mp z with z | z
  ·exact nL b o e z
  ·exact nb z
 have nx:∀b:Addr,b∉X.ex:=fun b z=>by rw [L.ex] at z;cases z
 refine ⟨f.os.trans I.os,f.bare,x,f.aq,fun b o e n nb=>?_,fun b o e nb=>?_,fun b o e n hb=>?_,I.ok.dU,fun b o e n=>?_,fun b xs e=>f.bM b xs (I.base.bM b xs e),fun b o u e=>f.bE b o u (I.base.bE b o u e),fun b ps e=>?_⟩
 ·exact f.kb b o (I.base.keep b o e n nb (nx b)) (I.base.free b o e n (nx b)) (ns b o e nb)
 ·obtain ⟨o',e'⟩:=I.base.there b o e (nx b)
  exact f.tb b o' e' (ns b o e nb)
 ·obtain ⟨l,q⟩:=I.base.slot b o e n hb (nx b)
  have hs:b∈aV X.stack:=by rw [L.cz,kS L.fr];exact List.mem_cons_of_mem _ hb
  obtain ⟨l2,q2⟩:=f.sl b _ q (I.base.free b o e n (nx b)) hs
  obtain ⟨_,o2,q3,nf⟩:=f.fl.2.2.1.mem hs
  rw [q2] at q3
  cases q3
  obtain ⟨l3,q4⟩:=up b _ q2 nf
  exact ⟨l3,q4⟩
 ·obtain ⟨o',e'⟩:=I.base.there b o e (nx b)
  exact f.sN b o' e' (I.base.free b o e n (nx b))
 ·obtain ⟨m1,e1⟩:=I.base.bN b ps e
  obtain ⟨m2,e2⟩:=f.bN b _ e1
  exact ⟨m1++m2,by rw [e2,Array.append_assoc]⟩
theorem nW:Passes (bB X.prog X.w) X (fun _ _ _=>False):=fun pins σ H s e s' I h=>by
 obtain ⟨_,_,_,_,_,_,_,q⟩:=h
 exact q.elim
theorem jK{E:XK}(L:jJ X E):Passes (bB X.prog X.w) X E:=fun pins σ H s e s' I h=>by
 obtain ⟨ea,C,H',B,t,rfl,f,q⟩:=h
 rw [L.xe]
 refine wpAny_leaves_onW (by rw [I.ok.frames,L.cz]) L.fr (by have z:=f.fl;rw [L.cz] at z;exact z) fun h' x up=>?_
 exact ⟨ea,C,H',B,t,rfl,f.leave L I x up,q⟩
end
theorem nX{K:PySem.W.Frag}{h:Heap}{C:Addr}{cP:List Value}{newId:String}(aU:K.In h)(hq:PySem.W.excIn K C cP newId=true) :
  ∃bm N nm qn bs hdct sn sub ab col dd k0 k1 k2 k3 k5 mN,h.get? C=some (excClassObj nm qn C N bs bm hdct sn sub ab col dd k0 k1 k2 k3 k5 newId)∧h.Ns N mN∧mN "__init__" = none∧OwnTail h cP bm∧PySem.W.mroIn K C=fun b=>some ((Value.ref C::bm).contains b):=by
 unfold PySem.W.excIn at hq
 split at hq
 ·rename_i ie cls slt look
  split at hq
  ·rename_i CC rest a0 a1 a2 a3 nn a5 em es
   simp only [Bool.and_eq_true,beq_iff_eq,Bool.not_eq_true'] at hq
   obtain ⟨⟨⟨⟨⟨e1,e2⟩,e3⟩,e4⟩,e5⟩,e6⟩:=hq
   subst e1 e2
   have kT:PySem.W.mroIn K CC=fun b=>some ((Value.ref CC::rest).contains b):=by
    funext b
    unfold PySem.W.mroIn PySem.W.clsIn
    rw [look]
    simp [em]
   obtain ⟨c1,c2,c3,c4,c5,c6,c7,c8,c9,zF,Hg⟩:=cls
   dsimp only at em e3 e5 e6
   subst em e3
   have zG:slt = #[a0,a1,a2,a3,some (.builtin nn),a5]:=by
    obtain ⟨ll⟩:=slt
    simp only at es
    rw [es]
   subst zG
   exact ⟨rest,c4,c1,c5,c2,c6,c7,c8,c9,zF,ie,a0,a1,a2,a3,a5,_,aU _ _ look,.of_isNs (PySem.W.isNs_of_in aU e5),PySem.W.nsMap_none_of_in aU e5 e6,PySem.W.tail_of_in aU e4,kT⟩
  ·cases hq
 ·cases hq
section
variable {X:Cx} {E:XK} {x:Str} {C:Addr} {np cE pos:Pos} {e:Expr} {es:List Expr} {ta:TA} {B newId zH:String} {cP:List Value}
def zI(C:Addr)(E:XK)(ta:TA):TS:=fun _ σ H=>ta σ H fun vs H1=>vs.length≤sizeLine∧E (.ref C) none H1
theorem jL(L:jJ X E)(hc:X.calm=true)(FB:ExcBaseFacts B newId zH cP)(hq:PySem.W.excIn X.K C cP newId=true)(hg:Gl X x)(hm:X.mg x=some (.ref C))(ha:PA X (e::es) ta)
  (hs:starEach (e::es) X.env=(false,eval e X.env)::starEach es X.env:=by rfl) (hp:(backTo cE (starEach es X.env)).any (·.1)=false:=by rfl) (hd:(x == ("__debug__":Str))=false:=by decide) :
  PS X (.Raise (some (.Call (.Name x np) (e::es) [] cE)) none pos) (zI C E ta):=by
 intro pins s σ H D I h
 obtain ⟨bm,N,nm,qn,bs,hdct,sn,sub,ab,col,dd,k0,k1,k2,k3,k5,mN,hC,hN,sO,T,_⟩:=nX I.ok.mod.aU hq
 refine wpAny_Raise_call_subT (C:=C) (nm:=nm) (q:=qn) (N:=N) (bs:=bs) (bm:=bm) (hdct:=hdct) (sn:=sn) (sub:=sub) (ab:=ab) (col:=col) (dd:=dd) (k0:=k0) (k1:=k1) (k2:=k2) (k3:=k3) (k5:=k5) FB (mN:=mN) (T.hasType FB.hasBase) (I.ok.hd hc)
  (by rw [hs];show (false || (backTo cE (starEach es X.env)).any (·.1))=false;rw [hp];rfl) sO (hE I hg hm ⟨rfl,?_⟩ hd)
 have h1:=ha cE pins s σ H _ I h
 rw [hs] at h1 ⊢
 refine Calls.evalArgs_plain (aw h1 fun us s2 ⟨vs,H1,I1,r,hl,q⟩=>⟨rfl,by rw [←r.length];exact hl,I1.bk _ _ hC,hN.keeps I1.bk,T.keeps I1.bk,fun h' ea mk=>?_⟩)
 rw [L.xe]
 have nL:∀b o,X.s₀.heap.get? b=some o→b≠X.env.locals:=fun b o q=>Nat.ne_of_lt (Nat.lt_of_lt_of_le (Heap.lt_size q) I1.ok.above)
 have ns:∀b o,X.s₀.heap.get? b=some o→b∉aV X.outer→b∉aV X.stack:=fun b o q nb z=>by
  rw [L.cz,kS L.fr] at z
  rcases List.mem_cons.mp z with z | z
  ·exact nL b o q z
  ·exact nb z
 have nx:∀b:Addr,b∉X.ex:=fun b z=>by rw [L.ex] at z;cases z
 have ff:s2.heap.FunFrames (PySem.W.hideAll s2.heap (aV X.stack)) (X.env::X.outer):=by
  have z:=I1.stack
  rw [←L.cz]
  exact PySem.W.funFrames_hide z fun env he a hf=>List.mem_filterMap.mpr ⟨env,he,hf⟩
 refine wpAny_leaves_madeW (base:=PySem.W.hideAll s2.heap (aV X.stack)) (h:=s2.heap) (by rw [I1.ok.frames,L.cz]) L.fr (fun b o q=>PySem.W.of_hideAll _ q) ff mk fun h2 t fl _ _ up=>?_
 refine ⟨ea,C,H1,_,t,rfl,⟨I1.os,I1.bare,fl,fun a o e1=>?_,fun b o e1 n nb=>?_,fun b o e1 nb=>?_,fun b o e1 n hb=>?_,I1.ok.dU,fun b o e1 n=>?_,I1.base.bM,I1.base.bE,I1.base.bN⟩,q⟩
 ·refine (I1.aq a o e1).dR (fun b u hb e2=>PySem.W.hideAll_get _ e2 fun z=>?_) (fun _ z=>z) fun _ _ z=>z
  have n0:=I1.ko b z
  rcases hb with hb | hb
  ·subst hb
   rw [e1] at n0
   cases n0
  ·rw [hb] at n0
   cases n0
 ·exact PySem.W.hideAll_get _ (I1.base.keep b o e1 n nb (nx b)) (ns b o e1 nb)
 ·obtain ⟨o',e2⟩:=I1.base.there b o e1 (nx b)
  exact ⟨o',PySem.W.hideAll_get _ e2 (ns b o e1 nb)⟩
 ·obtain ⟨l,e2⟩:=I1.base.slot b o e1 n hb (nx b)
  have fS:b∈aV X.stack:=by rw [L.cz,kS L.fr];exact List.mem_cons_of_mem _ hb
  obtain ⟨_,o2,e3,nf⟩:=I1.stack.mem fS
  rw [e2] at e3
  cases e3
  obtain ⟨l2,e4⟩:=up b _ (mk.keeps _ _ e2) nf
  exact ⟨l2,e4⟩
 ·obtain ⟨o',e2⟩:=I1.base.there b o e1 (nx b)
  exact I1.base.free b o e1 n (nx b)
end
def nY(X:Cx)(pins:List (Addr×Obj))(σ:St)(E:XK)(e:Value)(s':Shared):Prop:=∃s₁ H₁,Inv X pins σ H₁ s₁∧bB X.prog X.w X.stack H₁ s₁ E e s'
abbrev TX:=St→Hp→VK→XK→Prop
def sP(X:Cx)(e:Expr)(t:TX):Prop:=
 ∀(pins:List (Addr×Obj)) (s:Shared) (σ:St) (H:Hp) (Q:VK) (E:XK),Inv X pins σ H s→t σ H Q E→wpAny (model X.prog X.w) X.A (eval e X.env) (EP X pins σ Q) (nY X pins σ E) s
abbrev kU:=Ends→XK→St→Hp→Prop
def sQ(X:Cx)(st:List Stmt)(t:kU):Prop:=
 ∀(pins:List (Addr×Obj)) (s:Shared) (σ:St) (H:Hp) (D:Ends) (E:XK),Inv X pins σ H s→t D E σ H→wpAny (model X.prog X.w) X.A (execs st X.env) (SP X pins D) (nY X pins σ E) s
section
variable {X:Cx} {k:Nat} {f C:Addr} {fd:FuncData} {ps:List Str} {sp:Sp} {bf:List V} {ds:List Value} {x m:Str} {p pos apos:Pos} {e o:Expr} {es:List Expr} {ta:TE} {t:TA}
theorem zJ{pins:List (Addr×Obj)}{σ:St}{H:Hp}{s:Shared}{Q:VK}{E:XK}{us:List Value}{vs:List V}(F:aJ X.prog X.w X.K X.mg X.base (bB X.prog X.w) k f fd ps sp)(hr:bc k X.A)(hb:Binds X.K fd ps ds)(hd:Vals bf ds)
  (I:Inv X pins σ H s) (r:Vals vs us) (h:sp (vs++bf) H Q E):wpAny (model X.prog X.w) X.A (call (.ref f) us) (EP X pins σ Q) (nY X pins σ E) s:=by
 have r2:Vals (vs++bf) (us++ds):=r.append hd
 have hl:(us++ds).length=ps.length:=by rw [←r2.length];exact F.len _ _ _ _ h
 refine wpAny_call (codeAny_mono (F.run X.A X.stack s H ⟨us,[]⟩ (us++ds) (vs++bf) Q E hr I.nE (hb s us I.aX hl) r2 h) fun r s' hq=>?_)
 cases r with
 | error e=>exact ⟨s,H,I,hq⟩
 | ok fl=>
  cases fl with
  | ret u=>exact I.after hq
  | next=>exact False.elim hq
  | brk=>exact False.elim hq
  | cont=>exact False.elim hq
def zK(sp:Sp)(bf:List V)(t:TA):TX:=fun σ H Q E=>t σ H fun vs H1=>sp (vs++bf) H1 Q E
theorem zL(F:aJ X.prog X.w X.K X.mg X.base (bB X.prog X.w) k f fd ps sp)(hr:bc k X.A)(hg:Gl X x)(hm:X.mg x=some (.ref f))(hk:PySem.W.keepIn X.K (.ref f)=true)(hb:Binds X.K fd ps ds)(hd:Vals bf ds)
  (ha:PA X.e9 (e::es) t) (eI:(x == ("__debug__":Str))=false:=by decide) (he:starEach (e::es) X.env=(false,eval e X.env)::starEach es X.env:=by rfl) (cX:(backTo pos (starEach es X.env)).any (·.1)=false:=by rfl) :
  sP X (.Call (.Name x p) (e::es) [] pos) (zK sp bf t):=by
 intro pins s σ H Q E I h
 refine wpAny_Call_Name_kw (hE I hg hm ?_ eI)
 refine PySem.W.callWith_K (h₀:=X.base) I.ok.mod.aU hk (wpAny_mono (ha pos pins s σ H _ (I.dA _) h) (fun us s1 ⟨vs,H1,I1,r,q⟩=>⟨I1.aX,?_⟩) fun _ _ z=>z.elim) he cX
 exact zJ F hr hb hd I1.eE r q
variable {te:TX} {i:Nat} {pos':Pos}
def zM(te:TX):kU:=fun D E σ H=>te σ H (fun _ H1=>D.nx σ H1) E
theorem zN(he:sP X e te)(hs:swapsWith e none pos.line X.env=pure false:=by rfl):sQ X [.Expr e pos] (zM te):=by
 intro pins s σ H D E I h
 refine wpAny_execs_cons (wpAny_mono (Q:=fun f s'=>f=.next∧SP X pins D .next s') (wpAny_Expr_any (wpAny_mono (he pins s σ H _ E I h) (fun v s1 ⟨y,H1,I1,r1,q1⟩=>⟨rfl,σ,H1,I1,q1⟩) fun _ _ z=>z) I.quiet hs) (fun f s1 q=>?_) fun _ _ z=>z)
 obtain ⟨rfl,q⟩:=q
 exact wpAny_execs_nil q
end
abbrev Cx.dg (X:Cx) (ea:Addr):Cx:={X with A:=X.A.mark (some (.ref ea)),calm:=false,xe:=fun _ _=>False}
section
variable {X:Cx} {pins:List (Addr×Obj)} {σ:St} {H:Hp} {s:Shared} {ea:Addr}
theorem Cx.Ok.dg(ok:X.Ok):(X.dg ea).Ok:=
 ⟨ok.mod,ok.kind,ok.glob,ok.blt,ok.above,ok.inj,ok.has,ok.g_,(fun z=>nomatch z),ok.frames,ok.cz,ok.mU,ok.bs,ok.cW,ok.fJ,ok.fK,ok.cJ,ok.dU⟩
theorem Inv.dg(I:Inv X pins σ H s):Inv (X.dg ea) pins σ H s:=⟨I.ok.dg,I.os,I.bare,I.base,I.loc,I.cell,I.free,I.cA,I.pin,I.aq,I.len⟩
theorem Inv.ig(ok:X.Ok)(I:Inv (X.dg ea) pins σ H s):Inv X pins σ H s:=⟨ok,I.os,I.bare,I.base,I.loc,I.cell,I.free,I.cA,I.pin,I.aq,I.len⟩
theorem SP.ig(ok:X.Ok){D:Ends}{f:Flow}(h:SP (X.dg ea) pins D f s):SP X pins D f s:=by
 cases f with
 | next=>obtain ⟨a,b,I,q⟩:=h;exact ⟨a,b,I.ig ok,q⟩
 | brk=>obtain ⟨a,b,I,q⟩:=h;exact ⟨a,b,I.ig ok,q⟩
 | cont=>obtain ⟨a,b,I,q⟩:=h;exact ⟨a,b,I.ig ok,q⟩
 | ret u=>obtain ⟨v,a,b,I,r,q⟩:=h;exact ⟨v,a,b,I.ig ok,r,q⟩
theorem kW{M:Model}{A:Around}{E:Value→Shared→Prop}{i:Nat}{n:Str}{pos:Pos}{Q:Unit→Shared→Prop}(I:Inv X pins σ H s)(hN:X.N.Nodup)(hi:X.N[i]?=some n)(hk:X.env.scope.names.lookup n=some .local)
  (h:∀s',Inv X pins (σ.set i none) H s'→Q () s'):wpAny M A (do bindName X.env n .none;unbindBehindTheSuite X.env n pos) Q E s:=by
 obtain ⟨m,hn,hl⟩:=id I.loc
 refine wpAny_nameGoes_keeps hk hn (by rw [I.ok.kind];rfl) fun h' v mZ hs=>h _ ?_
 have dy:=I.dy
 have kr:i<σ.length:=by rw [I.len];exact (List.getElem?_eq_some_iff.mp hi).1
 have old:∀b o,X.s₀.heap.get? b=some o→b≠X.env.locals:=fun b o e=>Nat.ne_of_lt (Nat.lt_of_lt_of_le (Heap.lt_size e) I.ok.above)
 refine ⟨I.ok,I.os,I.bare,⟨fun b o e z hb hx=>?_,fun b o e z hb hx=>?_,I.base.free,fun b o e hx=>?_,I.base.bM,I.base.bE,I.base.bN⟩,⟨_,mZ,fun j y v' e1 e2 e3=>?_⟩,fun y c e=>?_,I.free,I.cA,fun p hp=>?_,fun b ob e=>?_,by simpa using I.len⟩
 ·exact (hs.2 b (old b o e)).trans (I.base.keep b o e z hb hx)
 ·obtain ⟨sl,q⟩:=I.base.slot b o e z hb hx
  exact ⟨sl,(hs.2 b (old b o e)).trans q⟩
 ·obtain ⟨o',q⟩:=I.base.there b o e hx
  exact ⟨o',(hs.2 b (old b o e)).trans q⟩
 ·by_cases hj:j=i
  ·subst hj
   rw [List.getElem?_set_self kr] at e2
   cases e2
  ·rw [List.getElem?_set_ne (Ne.symm hj)] at e2
   obtain ⟨u',r',q⟩:=hl j y v' e1 e2 e3
   refine ⟨u',r',?_⟩
   rcases q with ⟨k,z⟩ | ⟨k,c,z1,z2⟩
   ·refine .inl ⟨k,?_⟩
    have ne:y≠n:=fun z=>hj (mX hN e1 (z▸hi))
    simp [ne,z]
   ·exact .inr ⟨k,c,z1,z2.sameBut hs (dy y c z1)⟩
 ·obtain ⟨w',z⟩:=I.cell y c e
  exact ⟨w',z.sameBut hs (dy y c e)⟩
 ·obtain ⟨a1,a2,a3,a4⟩:=I.pin p hp
  exact ⟨(hs.2 _ a3).trans a1,a2,a3,a4⟩
 ·refine (I.aq b ob e).dR (fun c w' hc q=>(hs.2 c ?_).trans q) (fun _ q=>q) fun _ _ q=>q
  intro z
  have z':c=X.env.locals:=z
  have fr:=I.free
  rcases hc with hc | hc
  ·rw [←z',hc,e] at fr
   cases fr
  ·rw [←z',hc] at fr
   cases fr
end
section
variable {M:Model} {A:Around} {E:Value→Shared→Prop} {h:Heap} {g:Array GenState} {d:Drawn} {t:Nat} {os:OsState} {e:Addr} {oe:Obj} {Q:Bool→Shared→Prop}
variable {nm q sR q':Str} {C N D N':Addr} {bs bm sS kX:List Value} {hdct sU:Bool} {sn sV:List Str} {sub kY:List Value} {ab sW:Bool} {col sX:Option Bool} {dd sY:Option Addr} {k0 k1 k2 k3 k5 j0 j1 j2 j3 j5:Option Value} {newId zO:String}
theorem zP(hC:h.get? C=some (excClassObj nm q C N bs bm hdct sn sub ab col dd k0 k1 k2 k3 k5 newId))(hD:h.get? D=some (excClassObj sR q' D N' sS kX sU sV kY sW sX sY j0 j1 j2 j3 j5 zO))(he:h.get? e=some oe)(mY:oe.cls=.ref C)
  (gb:kX.contains (.type "BaseException")=true) (zQ:(Value.ref C::bm).contains (.ref D)=true) (hq:Q true ⟨h,g,d,t,os⟩):wpAny M A (excMatches (.ref e) (.ref D)) Q E ⟨h,g,d,t,os⟩:=by
 have zR:(Value.ref D::kX).contains (.type "BaseException")=true:=by rw [List.contains_cons,gb,Bool.or_true]
 have f:=tc_notTuple
 unfold excMatches
 repeat (first | (with_reducible refine wpAny_loadPart_at he ?_;rw [mY]) | with_reducible refine wpAny_loadPart_at hD ?_ | (with_reducible refine wpAny_isSubtype_exc hD ?_;rw [zR]) | (with_reducible refine wpAny_isSubtype_exc hC ?_;rw [zQ]) | wp_step)
 exact hq
end
def zS(K:PySem.W.Frag)(cP:List Value)(newId:String)(C D:Addr):Prop:=PySem.W.excIn K C cP newId=true∧PySem.W.mroIn K C (.ref D)=some true
section
variable {X:Cx} {body:List Stmt} {b₀:Stmt} {sZ:List Stmt} {np zT pos:Pos} {x n:Str} {D:Addr} {tb:kU} {ts:TS} {cP:List Value} {newId:String} {i:Nat}
def Ends.s_(En:Ends)(i:Nat):Ends:={nx:=fun σ H=>En.nx (σ.set i none) H,rt:=En.rt,bk:=fun σ H=>En.bk (σ.set i none) H,ct:=fun σ H=>En.ct (σ.set i none) H}
def zU(K:PySem.W.Frag)(cP:List Value)(newId:String)(D:Addr)(i:Nat)(tb:kU)(ts:TS):TS:=fun En σ H=>
 tb En (fun c _ H'=>∃C,c=.ref C∧zS K cP newId C D∧∀ea,H' ea=none→ts (En.s_ i) (σ.set i (some (.ref ea))) (upd H' ea (dH ea C))) σ H
theorem zV(nZ:X.stack=X.env::X.outer)(zW:X.env.frame=some X.env.locals)(hN:X.N.Nodup)(hi:X.N[i]?=some n)(hk:X.env.scope.names.lookup n=some .local)(hb:sQ X body tb)(hs:∀ea,bF (X.dg ea) (b₀::sZ) ts)(hg:Gl X x)(hm:X.mg x=some (.ref D))
  (hq:PySem.W.excIn X.K D cP newId=true) (gb:cP.contains (.type "BaseException")=true) (hd:(x == ("__debug__":Str))=false:=by decide) :
  PS X (.Try body [.ExceptHandler (some (.Name x np)) (some n) (b₀::sZ) zT] [] [] pos) (zU X.K cP newId D i tb ts):=by
 intro pins s σ H En I h
 refine wpAny_Try_except (wpAny_mono (hb pins s σ H En _ I h) (fun f s1 q=>?_) fun e s1 q=>?_)
 ·cases f with
  | next=>exact wpAny_execs_nil q
  | brk=>exact q
  | cont=>exact q
  | ret u=>exact q
 ·obtain ⟨s₁,H₁,I₁,ea,C',H',B,t,rfl,f,C,eC,⟨zX,kT⟩,zY⟩:=q
  cases eC
  have fl:=f.fl
  rw [nZ] at fl
  refine wpAny_looks_onW (by rw [I.ok.frames,nZ]) zW fl fun h₄ held zZ=>?_
  refine wpAny_landsW held fun h₅ n6 z3=>?_
  have up:=zZ.trans z3
  have I₅:Inv X pins σ H' {s1 with heap:=h₅}:=f.land (tk:=s1.toks) I₁ n6.1 up
  obtain ⟨ob,z4,z5⟩:=n6.there
  refine wpAny_handleBy_cons (codeAny_handlers_test ?_) (by intro z;cases z)
  refine hE (X:=X.dg ea) I₅.dg hg hm ?_ hd
  obtain ⟨bm,N,nm,qn,bs,hdct,sn,sub,ab,col,dd,k0,k1,k2,k3,k5,mN,hC,Hh,sO,T,eM⟩:=nX I₅.aX zX
  obtain ⟨kX,N',sR,Hi,sS,sU,sV,kY,sW,sX,sY,j0,j1,j2,j3,j5,Hj,hD,Hk,Hl,T',_⟩:=nX I₅.aX hq
  rw [eM] at kT
  refine zP hC hD z4 z5 (T'.hasType gb) (Option.some.inj kT) (codeAny_handlers_suite_as ?_)
  refine lands_againW n6 fun h₆ z6 z7=>?_
  have tf:=z6
  rw [←nZ] at tf
  have I₆:Inv X pins σ (upd H' ea (dH ea C')) {s1 with heap:=h₆}:=f.zE (tk:=s1.toks) I₁ tf (up.trans z7)
  refine ku (X:=X.dg ea) (v:=.ref ea) I₆.dg hN hi (.inl hk) rfl (fun s2 I2=>?_) (.inr hk)
  refine wpAny_mono (hs ea pins _ _ _ (En.s_ i) I2 (zY ea f.nV)) (fun f s' q=>?_) fun _ _ z=>z.elim
  have q:=q.ig I.ok
  cases f with
  | next=>obtain ⟨a,b,J,q⟩:=q;exact kW J hN hi hk fun s3 J3=>⟨_,_,J3,q⟩
  | brk=>obtain ⟨a,b,J,q⟩:=q;exact kW J hN hi hk fun s3 J3=>⟨_,_,J3,q⟩
  | cont=>obtain ⟨a,b,J,q⟩:=q;exact kW J hN hi hk fun s3 J3=>⟨_,_,J3,q⟩
  | ret u=>obtain ⟨v,a,b,J,r,q⟩:=q;exact kW J hN hi hk fun s3 J3=>⟨v,_,_,J3,r,q⟩
end
section
variable {P:Program} {w:World} {K:PySem.W.Frag} {mg:Str→Option Value} {base:Heap}
theorem aA.eJ{x qual:Str}{st:Stmt}{f:Addr}{fd:FuncData}{N ps:List Str}{k:Nat}{sp:Sp}(F:aA K x qual st f fd)(S:ba N ps (aE st))(len:∀vs H Q E,sp vs H Q E→vs.length=ps.length)
  (f9:∀(av:Value) (A:Around) (outer:List Env) (s:Shared) (H:Hp) (vs:List V) (Q:VK) (E:XK),bc k (A.deeper (envOfC qual (aE st) s.heap.objs.size f av))→sp vs H Q E→
   jJ (dZ (bB P w) P w K mg base N qual (aE st) f av A outer s H E) E→
   ∃t,bF (dZ (bB P w) P w K mg base N qual (aE st) f av A outer s H E) (cm st) t∧t {nx:=fun _ H'=>Q .ay H',rt:=Q} (start N vs) H):aJ P w K mg base (bB P w) (k+1) f fd ps sp:=by
 obtain ⟨oc,od,kV,doc,pm,an,av,ct,bQ,rfl,lk,bO⟩:=F.ex
 exact nF lk bO S len fun A outer s H vs Q E hr cY=>f9 av A outer s H vs Q E hr cY ⟨rfl,rfl,rfl,rfl⟩
end
structure eK (K:PySem.W.Frag) (C:Addr):Prop where
 ci:PySem.W.hasDictIn K C=true
 ga:PySem.W.findIn K (.ref C) "__getattribute__" = some (some (.builtin "BaseException.__getattribute__"))
 gn:PySem.W.findIn K (.ref C) "__getattr__" = some none
 ca:PySem.W.findIn K (.ref C) "__class__" = some (some (.builtin "object.__class__"))
 mo:PySem.W.mroIn K C (.type "object")=some true
 mb:PySem.W.mroIn K C (.type "BaseException")=some true
section
variable {prog:Program} {w:World} {A:Around} {E:Value→Shared→Prop} {h:Heap} {g:Array GenState} {d:Drawn} {t:Nat} {os:OsState} {K:PySem.W.Frag} {a C:Addr} {o:Obj}
theorem z8{R:Result→Shared→Prop}(aU:K.In h)(c:eK K C)(hx:h.get? a=some o)(hc:o.cls=.ref C)(hq:R (.ok (.ret (.ref C))) ⟨h,g,d,t,os⟩) :
  codeAny (model prog w) A (.call (.builtin "getset_descriptor.__get__") ⟨[.builtin "object.__class__",.ref a,.ref C],[]⟩) R ⟨h,g,d,t,os⟩:=by
 have tj:(⟨h,g,d,t,os⟩:Shared).TypeIs (.builtin "object.__class__") "getset_descriptor":=F.typeOf_object_class
 have L1:=PySem.W.looks_mroIn (M:=model prog w) aU c.mo
 have ow:=F.owner_object_class
 refine codeAny_call_builtin F.slot_gs_get.plain F.entry_gs_get (F.slot_gs_get.check _ _ _ _ _ _ _ _ tj (F.args_gs_get _ _ _) ?_)
 repeat (any_goals (first | assumption | (with_reducible refine wpAny_loadPart_at hx ?_;rw [hc]) | (rw [ow];with_reducible refine L1.at ?_) | wp_step))
 refine ⟨Code.quiet_builtin _ (by decide +kernel),codeAny_builtin F.entry_object_class ?_⟩
 repeat (any_goals (first | assumption | (with_reducible refine wpAny_loadPart_at hx ?_;rw [hc]) | wp_step))
theorem z9{tk:Tok}{Q:Fin→Shared→Prop}(aU:K.In h)(c:eK K C)(hx:h.get? a=some o)(hc:o.cls=.ref C)(hq:Q (.done (.ret (.ref C))) ⟨h,g,d,t,os⟩) :
  wpAny (model prog w) A (Builtin.«object.__getattribute__» ⟨[.ref a,.str "__class__" tk],[]⟩) Q E ⟨h,g,d,t,os⟩:=by
 have tj:(⟨h,g,d,t,os⟩:Shared).TypeIs (.builtin "object.__class__") "getset_descriptor":=F.typeOf_object_class
 have L1:=PySem.W.looks_findIn (M:=model prog w) aU c.ca
 have f5:=F.typeOf_object_class
 have f6:=F.slot_gs_get.lookup
 have f7:=F.slot_gs_set.lookup
 repeat (any_goals (first | assumption | (with_reducible refine wpAny_loadPart_at hx ?_;rw [hc]) | with_reducible refine L1.at ?_ | wp_step))
 refine z8 aU c hx hc ?_
 repeat (any_goals (first | assumption | wp_step))
theorem z_{M:Model}{nv:Value}{Q:Unit→Shared→Prop}(aU:K.In h)(c:eK K C)(hx:h.get? a=some o)(hc:o.cls=.ref C)(hq:Q () ⟨h,g,d,t,os⟩) :
  wpAny M A (checkBuiltinCall "BaseException.__getattribute__" ⟨[.ref a,nv],[]⟩) Q E ⟨h,g,d,t,os⟩:=by
 have hk:builtinKind "BaseException.__getattribute__" = some .slot:=by decide +kernel
 have hs:splitId "BaseException.__getattribute__" = some ("BaseException","__getattribute__"):=by decide +kernel
 have L1:=PySem.W.looks_mroIn (M:=M) aU c.mb
 have ha:=F.args_bexc_ga (.ref a) nv
 simp only [checkBuiltinCall,hk,hs]
 refine wpAny_bind ?_
 unfold isInstance
 repeat (first | (with_reducible refine wpAny_loadPart_at hx ?_;rw [hc]) | with_reducible refine L1.at ?_ | wp_step)
 exact hq
theorem Aa{tk:Tok}{fill expr:Bool}{Q:Value→Shared→Prop}(aU:K.In h)(c:eK K C)(hx:h.get? a=some o)(hc:o.cls=.ref C)(hq:Q (.ref C) ⟨h,g,d,t,os⟩) :
  wpAny (model prog w) A (getAttrBy (.ref a) (.str "__class__" tk) fill expr) Q E ⟨h,g,d,t,os⟩:=by
 have f3:=F.attrBase_ValueError.ga.bind (.ref a)
 have z0:(expr && onTheHeap (Value.builtin "BaseException.__getattribute__"))=false:=by cases expr <;> rfl
 have z2:(Value.builtin "BaseException.__getattribute__" == Value.builtin "object.__getattribute__")=false:=by decide +kernel
 have z1:(onTheHeap (Value.ref C) && Value.builtin "BaseException.__getattribute__" == Value.builtin "object.__getattribute__")=false:=by rw [z2];rfl
 have L1:=PySem.W.looks_findIn (M:=model prog w) aU c.ga
 have L2:=PySem.W.looks_findIn (M:=model prog w) aU c.gn
 repeat (any_goals (first | assumption | (with_reducible refine wpAny_loadPart_at hx ?_;rw [hc]) | with_reducible refine L1.at ?_ | with_reducible refine L2.at ?_ | wp_step))
 refine codeAny_call_builtin F.attrBase_ValueError.ga.plain F.entry_bexc_ga (z_ aU c hx hc (z9 aU c hx hc ?_))
 repeat (any_goals (first | assumption | wp_step))
theorem Ab{Q:Option Value→Shared→Prop}(aU:K.In h)(c:eK K C)(hx:h.get? a=some o)(hc:o.cls=.ref C)(hq:Q (some (.ref C)) ⟨h,g,d,t+1,os⟩) :
  wpAny (model prog w) A (getAttr? (.ref a) "__class__") Q E ⟨h,g,d,t,os⟩:=by
 unfold getAttr? getAttrBy?
 repeat (any_goals (first | assumption | with_reducible apply Aa aU c hx hc | wp_step))
theorem tm(c:eK K C):PySem.W.KitX K (.ref a) (.ref C) (ExcAt a C) where
 ty:=fun M h _ k=>by
  obtain ⟨oe,e1,e2,_⟩:=k
  exact e2▸(PySem.W.Looks.ld e1).andThen .now
 it:=fun M h aU _=>by
  obtain ⟨cd,hc,_⟩:=PySem.W.any_some c.ci
  unfold PySem.W.clsIn at hc
  split at hc
  ·rename_i look
   intro A' Q' E' s' k q
   unfold isType loadHead
   exact wpAny_bind (wpAny_loadPart (k _ _ (aU _ _ look)) (wpAny_pure q))
  ·cases hc
 ne:=fun h tp dd ai n sl aU Ac=>by
  obtain ⟨cd,hc,_⟩:=PySem.W.any_some c.ci
  refine Bool.eq_false_iff.mpr fun q=>?_
  have e:C=tp:=Value.ref.inj (beq_iff_eq.mp q)
  subst e
  unfold PySem.W.clsIn at hc
  split at hc
  ·rename_i look
   have z:=(aU _ _ look).symm.trans Ac
   cases z
  ·cases hc
 ca:=fun{prog w A E Q s} aU k z=>by
  obtain ⟨oe,e1,e2,_⟩:=k
  obtain ⟨h,g,d,t,os⟩:=s
  exact Ab aU c e1 e2 z
end
def cG(a:Addr)(h:Heap):Prop:=∃o ep,h.get? a=some o∧o.ExactDict∧o.data=.dict #[] ep∧(a == sysModules)=false
theorem cG.n8{a:Addr}{h:Heap}(e:cG a h):PySem.W.KitAt a "dict" h:=by
 obtain ⟨o,_,e,c,_⟩:=e
 exact ⟨o,e,c.1⟩
def n_(a:Addr):HO:=.ext (cG a)
inductive gd (K:PySem.W.Frag) (H:Hp):V→Value→Prop where
 | of {x:V} {t:Value} (h:cM K H x t):gd K H x t
 | exc {a C:Addr} (e:H a=some (dH a C)) (c:eK K C):gd K H (.ref a) (.ref C)
 | ie {a:Addr} (e:H a=some (n_ a)):gd K H (.ref a) (.type "dict")
def tu:V→Value
 | .ty n=>.type n
 | .ref a=>.ref a
 | _=>.none
def Ad:V→Bool
 | .ty _=>true
 | .ref _=>true
 | _=>false
def Ae(K:PySem.W.Frag):List V→Hp→VK→Prop:=fun xs H Q=>∃x c t b,xs=[x,c]∧Ad c=true∧gd K H x t∧PySem.W.kitOne K t (tu c)=some b∧Q (.bl b) H
theorem gf{X:Cx}{K:PySem.W.Frag}(hK:X.K=K:=by rfl):bY X (.builtin "isinstance") (Ae K):=by
 intro pins s σ H xs us Q I r h
 subst hK
 obtain ⟨x,c,t,b,rfl,hc,ty,e,q⟩:=h
 obtain ⟨u,cv,rfl,rx,rc⟩:=vals2 r
 have ec:cv=tu c:=by
  cases c with
  | ty n=>exact rc
  | ref a=>exact rc
  | _=>cases hc
 subst ec
 cases ty with
 | of ty=>exact yC I rx ty e fun tk=>⟨.bl b,H,I.tok tk,rfl,q⟩
 | @ie a ea=>
  cases rx
  obtain ⟨k,_,_⟩:=(show aQ X.prog X.w H s.heap a (.ext (cG a)) from I.aq a _ ea)
  exact PySem.W.kia_one PySem.W.kitx_dict I.aX k.n8 e (fun z=>nomatch z) fun tk=>⟨.bl b,H,I.tok tk,rfl,q⟩
 | @exc a C ea cc=>
  cases rx
  obtain ⟨k,_,_⟩:=(show aQ X.prog X.w H s.heap a (.ext (ExcAt a C)) from I.aq a _ ea)
  exact PySem.W.kia_one (tm cc) I.aX k e (fun z=>nomatch z) fun tk=>⟨.bl b,H,I.tok tk,rfl,q⟩
def dI:List V→List V→Bool
 | [],[]=>true
 | x::xs,y::ys=>ia x y && dI xs ys
 | _,_=>false
def tw(K:PySem.W.Frag)(neg:Bool):R2:=fun x y H Q=>∃a b xs ys,x=.ref a∧y=.ref b∧bA K H a xs∧bA K H b ys∧xs.all cZ=true∧ys.all cZ=true∧Q (.bl (if neg then !dI xs ys else dI xs ys)) H
theorem tx{A:Around}{s:Shared}:∀{xs ys:List V} {us vs:List Value},Vals xs us→Vals ys vs→xs.all cZ=true→ys.all cZ=true→
  ∃e:Nat→Bool,(∀j (h1:j<us.length) (h2:j<vs.length),SeqAt.EqAt A s us[j] vs[j] (e j))∧((List.range (min us.length vs.length)).all e && us.length == vs.length)=dI xs ys
 | [],[],_,_,.nil,.nil,_,_=>⟨fun _=>true,fun j h1=>absurd h1 (Nat.not_lt_zero _),by simp [dI]⟩
 | [],_::_,_,_,.nil,.cons _ _,_,_=>⟨fun _=>true,fun j h1=>absurd h1 (Nat.not_lt_zero _),by simp [dI]⟩
 | _::_,[],_,_,.cons _ _,.nil,_,_=>⟨fun _=>true,fun j _ h2=>absurd h2 (Nat.not_lt_zero _),by simp [dI]⟩
 | x::xs,y::ys,u::us,v::vs,.cons r1 t1,.cons r2 t2,f1,f2=>by
  rw [List.all_cons,Bool.and_eq_true] at f1 f2
  obtain ⟨e,h,q⟩:=tx (A:=A) (s:=s) t1 t2 f1.2 f2.2
  refine ⟨fun j=>match j with | 0=>ia x y | k+1=>e k,fun j h1 h2=>?_,?_⟩
  ·cases j with
   | zero=>exact jG r1 r2 f1.1 f2.1
   | succ k=>exact h k (by simpa using h1) (by simpa using h2)
  ·have em:min (u::us).length (v::vs).length=min us.length vs.length+1:=by simp only [List.length_cons];omega
   rw [em,List.range_succ_eq_map,List.all_cons,List.all_map]
   show (ia x y && (List.range (min us.length vs.length)).all e && ((us.length+1) == (vs.length+1)))=(ia x y && dI xs ys)
   rw [←q]
   have eb:((us.length+1) == (vs.length+1))=(us.length == vs.length):=by
    rw [Bool.eq_iff_iff,beq_iff_eq,beq_iff_eq];omega
   rw [eb,Bool.and_assoc]
theorem Af{X:Cx}(hu:X.A.units<cLine):aY X (compareOp .NotEq) (tw X.K true):=by
 intro pins s σ H x y v u Q I rx ry h
 obtain ⟨a,b,xs,ys,rfl,rfl,h1,h2,f1,f2,q⟩:=h
 cases rx
 cases ry
 obtain ⟨us,r1,t1,_⟩:=I.tuple h1
 obtain ⟨vs,r2,t2,_⟩:=I.tuple h2
 obtain ⟨e,he,eq⟩:=tx (A:=X.A.in1) (s:=s) r1 r2 f1 f2
 refine SeqAt.RcNeAt.tuples (e:=e) t1 t2 hu (fun j z1 z2=>by simpa using he j (by simpa using z1) (by simpa using z2)) _ _ _ _ ⟨.bl (!dI xs ys),H,I,?_,q⟩
 show _=Value.bool (!dI xs ys)
 rw [←eq]
 simp
theorem boot_isinstance:bootBuiltins "isinstance" = some (.builtin "isinstance"):=by decide +kernel
theorem boot_abs:bootBuiltins "abs" = some (.builtin "abs"):=by decide +kernel
theorem boot_min:bootBuiltins "min" = some (.builtin "min"):=by decide +kernel
theorem boot_max:bootBuiltins "max" = some (.builtin "max"):=by decide +kernel
theorem boot_int:bootBuiltins "int" = some (.type "int"):=by decide +kernel
theorem boot_bool:bootBuiltins "bool" = some (.type "bool"):=by decide +kernel
theorem boot_tuple:bootBuiltins "tuple" = some (.type "tuple"):=by decide +kernel
theorem boot_list:bootBuiltins "list" = some (.type "list"):=by decide +kernel
theorem Ag:bootBuiltins "ValueError" = some (.type "ValueError"):=by decide +kernel
end L2
namespace My
open PySem L2
def dJ(n:Int):Bool:=(List.range 32).all fun e=>decide (e<2) || decide (n<(e:Int)*(e:Int)) || decide (n % (e:Int)≠0)
theorem tD{n d:Int}(h2:n≤997)(hd:2≤d)(hq:d*d≤n)(hm:n % d=0):dJ n=false:=by
 have hd2:d<32:=by
  by_cases h:d<32
  ·exact h
  ·have:32*32≤d*d:=Int.mul_le_mul (by omega) (by omega) (by omega) (by omega)
   omega
 obtain ⟨k,rfl⟩:∃k:Nat,d=(k:Int):=⟨d.toNat,by omega⟩
 cases e:dJ n with
 | false=>rfl
 | true=>
  have z:=List.all_eq_true.mp e k (List.mem_range.mpr (by omega))
  simp only [Bool.or_eq_true,decide_eq_true_eq] at z
  rcases z with (z | z) | z
  ·omega
  ·omega
  ·exact absurd hm z
theorem Ah{n d:Int}(hq:n<d*d)(hd:2≤d)(hm:∀e:Int,2≤e→e<d→n % e≠0):dJ n=true:=by
 refine List.all_eq_true.mpr fun k _=>?_
 simp only [Bool.or_eq_true,decide_eq_true_eq]
 by_cases h1:k<2
 ·exact .inl (.inl h1)
 ·by_cases h2:n<(k:Int)*(k:Int)
  ·exact .inl (.inr h2)
  ·refine .inr (hm k (by omega) ?_)
   by_cases h3:(k:Int)<d
   ·exact h3
   ·have:d*d≤(k:Int)*(k:Int):=Int.mul_le_mul (by omega) (by omega) (by omega) (by omega)
    omega
inductive Td where
 | a (w:Str)
 | b (w:Str) (n:Int)
def Td.vs:Td→List V
 | .a w=>[.str w]
 | .b w n=>[.str w,.int n]
def Td.jM:Td→Bool
 | .a w=>decide (w = "fractions")
 | .b _ _=>false
def Td.dh:Td→Bool
 | .a _=>false
 | .b w n=>decide (w = "wheel") && (decide (2≤n) && decide (n≤997) && dJ n)
def Td.good(d:Td):Bool:=d.jM || d.dh
def Td.prime:Td→V
 | .a _=>.ay
 | .b _ n=>.int n
end My
namespace L2
open PySem PySem.Spec PyProof.Rows
abbrev Cx.bb (X:Cx) (N:List Str) (scope:Scope) (cl:List (Str×Addr)) (s₃:Shared) (H₃:Hp) (fp:List Addr):Cx:=
 {X with N:=N,s₀:=s₃,H₀:=H₃,env:=compEnvC scope cl s₃.heap.objs.size X.env,outer:=X.stack,stack:=X.stack,ex:=fp,fn:=fun _=>false,pn:=[],xe:=fun _ _=>False}
inductive ik (X:Cx):List Expr→TT→Prop where
 | nil:ik X [] (fun _ H Q=>Q true H)
 | one {c:Expr} {t:TT} (h:PT X c t):ik X [c] t
def fm(wi:TI)(ρ:St→St)(tt:TT)(te:TE):TE:=fun σ H Q=>wi σ H fun J H1=>∀D,H1 D=none→∃W:Nat→Nat→List V→Hp→Prop,(∃m,W 0 m [] (upd H1 D (.lst []))) ∧
 ∀i m ys Hc,W i m ys Hc→Hc D=some (.lst ys)∧((J.stop i Hc∧Q (.ref D) Hc)∨(J.go i Hc∧∀x H',J.cC i Hc x H'→tt (some x::ρ σ) H' fun b H2=>
  if b=true then te (some x::ρ σ) H2 fun y H3=>H3 D=some (.lst ys)∧ys.length<sizeLine∧∃m',m'<m∧W (i+1) m' (ys++[y]) (upd H3 D (.lst (ys++[y]))) else ∃m',m'<m∧W (i+1) m' ys H2))
section
variable {X:Cx} {N:List Str} {scope:Scope} {cl:List (Str×Addr)} {x:Str} {px pos:Pos} {iter elt:Expr} {ifs:List Expr} {wi:TI} {ρ:St→St} {tt:TT} {te:TE}
structure tE (X:Cx) (N:List Str) (scope:Scope) (cl:List (Str×Addr)) (x:Str) (ρ:St→St):Prop where
 tF:closureFor scope X.env=pure cl
 kind:scope.kind=.function
 tG:∀y∈scope.names,y.2≠.cell
 names:∀y∈scope.names,y.2=.local→scope.names.lookup y.1=some .local
 sub:∀p∈cl,X.env.cells.lookup p.1=some p.2
 has:∀y,((relabel scope X.env).names.lookup y=some .cell∨(relabel scope X.env).names.lookup y=some .free)→∃c,cl.lookup y=some c
 n0:N[0]?=some x
 nd:N.Nodup
 hx:scope.names.lookup x=some .local
 tH:∀(σ:St) (j:Nat) (v:V),(ρ σ)[j]?=some (some v)→∃(i:Nat) (y:Str),N[j+1]?=some y∧X.N[i]?=some y∧σ[i]?=some (some v)∧jr X.env.scope y∧(X.env.kindOf y=some .cell∨X.env.kindOf y=some .free)∧((relabel scope X.env).names.lookup y=some .cell∨(relabel scope X.env).names.lookup y=some .free)
 len:∀σ:St,σ.length=X.N.length→(ρ σ).length+1=N.length
theorem fo{names:List (Str×NameKind)}{cl:List (Str×Addr)}(h:(names.all fun q=>(q.2 != .cell && q.2 != .free) || (cl.lookup q.1).isSome)=true) :
  ∀y,(names.lookup y=some .cell∨names.lookup y=some .free)→∃c,cl.lookup y=some c:=fun y hy=>by
 have key:∀k:NameKind,(k != .cell && k != .free)=false→names.lookup y=some k→∃c,cl.lookup y=some c:=fun k hk e=>by
  have z:=List.all_eq_true.mp h (y,k) (PySem.mem_of_lookup e)
  rw [hk,Bool.false_or] at z
  exact Option.isSome_iff_exists.mp z
 rcases hy with e | e
 ·exact key .cell rfl e
 ·exact key .free rfl e
theorem join_some{o:Option (Option V)}{v:V}(h:some o.join=some (some v)):o=some (some v):=by
 cases o with
 | none=>cases h
 | some o=>cases h;rfl
theorem il(B:tE X N scope cl x ρ)(hc:X.calm=true)(hi:PI X (.Name x px) iter wi)(ht:∀s₃ H₃ fp,ik (X.bb N scope cl s₃ H₃ fp) ifs tt)(he:∀s₃ H₃ fp,PE (X.bb N scope cl s₃ H₃ fp) elt te)
  (hs:∀x,foldedSetIterable iter X.env x=pure x:=by intro _;rfl):PE X (.ListComp elt [⟨.Name x px,iter,ifs,0⟩] scope pos) (fm wi ρ tt te):=by
 intro pins s σ H Q I h
 rw [eval_ListComp]
 refine wpAny_comprehension_free (use:=none) rfl hs B.tF B.kind B.names (aw (hi pins s σ H _ I h) fun v s1 h1=>aw h1 fun kF s2 h2=>?_)
 obtain ⟨it,fp,tn,J,H2,rfl,I2,T,eH,f2,q2⟩:=h2
 have nD:H2 s2.heap.objs.size=none:=I2.aq.fresh (Nat.le_refl _)
 obtain ⟨W,⟨m0,w0⟩,turn⟩:=q2 _ nD
 refine wpAny_newObj_type (wpAny_newFunctionEnv B.tG (by intro y hy;simp at hy) (fun h₁ eL eN=>?_) B.kind)
 dsimp only at eL eN ⊢
 generalize hD:s2.heap.objs.size=D at nD w0 turn eL eN ⊢
 generalize gg:({s2 with heap:=s2.heap.push {cls:=.type "list",dict:=none,data:=.seq ([]:List Value).toArray}}:Shared)=s3
 have I3:Inv X pins σ (upd H2 D (.lst [])) s3:=by
  subst hD gg
  exact I2.laid (t':=s2.toks) (fun b u e=>Heap.get?_push_of_some _ e) (Nat.le_refl _) ⟨Nat.zero_le _,[],_,.nil,Heap.get?_push_size _ rfl⟩
 have e3:s3.heap=s2.heap.push {cls:=.type "list",dict:=none,data:=.seq ([]:List Value).toArray}:=by rw [←gg]
 have eO:∀b o,s2.heap.get? b=some o→s3.heap.get? b=some o:=fun b o e=>by rw [e3];exact Heap.get?_push_of_some _ e
 rw [←e3] at eL eN ⊢
 have below:∀b o,s3.heap.get? b=some o→b≠s3.heap.objs.size:=fun b o e=>Nat.ne_of_lt (Heap.lt_size e)
 have cQ:∀b o,s3.heap.get? b=some o→h₁.get? b=some o:=fun b o e=>eN.extBut b o (below b o e) (Heap.get?_push_of_some _ e)
 have gh:∀b∈fp,∃o,s2.heap.get? b=some o∧∀v,o.data≠.cell v:=T.obj _ _ eH
 have oa:∀b∈fp,b≠D:=fun b hb z=>by
  obtain ⟨o,e,_⟩:=gh b hb
  rw [z,←hD] at e
  exact absurd (Heap.lt_size e) (Nat.lt_irrefl _)
 have cq:∀y c,cl.lookup y=some c→X.env.cells.lookup y=some c:=fun y c e=>B.sub (y,c) (PySem.mem_of_lookup e)
 have og:=I3.ko
 have jN:(X.bb N scope cl s3 (upd H2 D (.lst [])) fp).Ok:=by
  refine ⟨I.ok.mod,B.kind,I.ok.glob,I.ok.blt,Nat.le_refl _,fun a b c e1 e2=>I.ok.inj a b c (cq a c e1) (cq b c e2),fun y hy=>B.has y hy,(fun _ _ z _=>absurd z Bool.false_ne_true),(fun _=>I.ok.hd hc),I.ok.frames,.inl rfl,fun b hb=>⟨?_,fun y c e z=>?_⟩,fun b o e=>?_,Nat.le_trans I.ok.cW I3.sz,fun b o e hb=>?_,fun b hb z=>?_,I3.stack,og⟩
  ·obtain ⟨o,e,_⟩:=gh b hb
   exact below b o (eO b o e)
  ·exact (f2 b hb).2.2.2.2.1 y c (cq y c e) z
  ·exact I3.bs b o e
  ·rcases (f2 b hb).2.2.2.1 with z | z
   ·exact I.ok.fJ b o e z
   ·exact absurd (Nat.lt_of_lt_of_le (Heap.lt_size e) (Nat.le_trans I.ok.cW z)) (Nat.lt_irrefl _)
  ·rcases List.mem_cons.mp (I3.kn b z) with z | z
   ·exact (f2 b hb).2.1 z
   ·exact (f2 b hb).2.2.1 z
 have IB:∀tk:Nat,Inv (X.bb N scope cl s3 (upd H2 D (.lst [])) fp) [] (none::ρ σ) (upd H2 D (.lst [])) {s3 with heap:=h₁,toks:=tk}:=fun tk=>by
  refine ⟨jN,rfl,I3.bare,Un.kept cQ,⟨_,eL,fun j y v e1 e2 e3=>?_⟩,fun y c e=>?_,?_,fun y c e=>I3.cA y c (cq y c e),(fun p hp=>nomatch hp),I3.aq.kept cQ,?_⟩
  ·cases j with
   | zero=>cases e2
   | succ j=>
    obtain ⟨i,y',a1,a2,a3,a4,a5,a6⟩:=B.tH σ j v e2
    have oh:N[j+1]?=some y:=e1
    rw [oh] at a1
    cases a1
    obtain ⟨m,hn,hl⟩:=I3.loc
    obtain ⟨u,r,l⟩:=hl i y v a2 a3 a4
    refine ⟨u,r,.inr ⟨a6,?_⟩⟩
    obtain ⟨c,ec⟩:=B.has y a6
    rcases l with ⟨k,_⟩ | ⟨_,c',jO,z⟩
    ·rcases a5 with q | q <;> (rw [k] at q;cases q)
    ·have:=cq y c ec
     rw [this] at jO
     cases jO
     obtain ⟨o,ho,hd⟩:=z
     exact ⟨c,ec,o,cQ _ _ ho,hd⟩
  ·obtain ⟨v,o,ho,hd⟩:=I3.cell y c (cq y c e)
   exact ⟨v,o,cQ _ _ ho,hd⟩
  ·exact I3.aq.fresh (Nat.le_refl _)
  ·show (none::ρ σ).length=N.length
   rw [List.length_cons]
   exact B.len σ I.len
 have fin:∀{σ':St} {H':Hp} {s':Shared},Inv (X.bb N scope cl s3 (upd H2 D (.lst [])) fp) [] σ' H' s'→Q (.ref D) H'→compPost (model X.prog X.w) X.A X.xe none (EP X pins σ Q) (.ref D) s3.heap.objs.size (.ok .next) s':=fun{σ' H' s'} J q=>by
  obtain ⟨m,hn,_⟩:=J.loc
  refine ⟨m,hn,fun h' eQ=>⟨.ref D,H',?_,rfl,q⟩⟩
  have old:∀b o,s3.heap.get? b=some o→b≠s3.heap.objs.size:=below
  have u1:Un (aV X.stack) fp (upd H2 D (.lst [])) H' s3.heap h':=by
   refine ⟨fun b o e n hb hx=>?_,fun b o e n hb hx=>?_,J.base.free,fun b o e hx=>?_,J.base.bM,J.base.bE,J.base.bN⟩
   ·exact (eQ.2 b (old b o e)).trans (J.base.keep b o e n hb hx)
   ·obtain ⟨sl,z⟩:=J.base.slot b o e n hb hx
    exact ⟨sl,(eQ.2 b (old b o e)).trans z⟩
   ·obtain ⟨o',z⟩:=J.base.there b o e hx
    exact ⟨o',(eQ.2 b (old b o e)).trans z⟩
  have oi:a9 X.prog X.w H' h':=fun b u e=>by
   refine (J.aq b u e).dR (fun c v hc z=>(eQ.2 c fun y=>?_).trans z) (fun _ z=>z) fun _ _ z=>z
   have fr:=J.free
   have y':c=s3.heap.objs.size:=y
   rcases hc with hc | hc
   ·rw [←hc,y'] at e
    exact absurd (fr.symm.trans e) (by simp)
   ·rw [y'] at hc
    exact absurd (fr.symm.trans hc) (by simp)
  refine I3.jv (s':={s' with heap:=h'}) (ch:=fp) (J.os) u1 oi J.bare fun b hb=>?_
  obtain ⟨g0,g1,g2,g3,g4,g5⟩:=f2 b hb
  exact ⟨g3,g1,g4,g5⟩
 have dB:∀{H':Hp},(∀b∈fp,H' b=none)→∀b∈fp,e_ (X.bb N scope cl s3 (upd H2 D (.lst [])) fp) [] H' b:=fun hn b hb=>by
  refine ⟨hn b hb,?_,?_,.inl hb,fun y c e z=>(f2 b hb).2.2.2.2.1 y c (cq y c e) z,fun p hp=>nomatch hp⟩
  ·obtain ⟨o,e,_⟩:=gh b hb
   exact below b o (eO b o e)
  ·exact jN.fK b hb
 have loop:∀tk:Nat,codeAny (model X.prog X.w) X.A (.compLoop (.ListComp elt [⟨.Name x px,iter,ifs,0⟩] scope pos) 0 (.ref it) (.ref D) (compEnvC scope cl s3.heap.objs.size X.env))
   (compPost (model X.prog X.w) X.A X.xe none (EP X pins σ Q) (.ref D) s3.heap.objs.size) {s3 with heap:=h₁,toks:=tk}:=fun tk=>by
  refine codeAny_compLoop_tests (fun n s'=>∃i ys o H',Inv (X.bb N scope cl s3 (upd H2 D (.lst [])) fp) [] (o::ρ σ) H' s'∧tn i s'.heap∧(∀b∈fp,H' b=none)∧W i n ys H') ?_ m0
   ⟨0,[],none,_,IB tk,T.keep _ _ _ eH fun b hb o e=>cQ _ _ (eO _ _ e),fun b hb=>by rw [aD (oa b hb)];exact (f2 b hb).1,w0⟩
  rintro n s4 ⟨i,ys,o,H4,I4,jP,jQ,w4⟩
  obtain ⟨Ai,oj⟩:=turn i n ys H4 w4
  rcases oj with ⟨stop,qn⟩ | ⟨go,step⟩
  ·refine wpAny_mono (T.done (X.bb N scope cl s3 (upd H2 D (.lst [])) fp) rfl rfl rfl hc i [] s4 _ H4 (fun _ _=>False) I4 (dB jQ) jP stop) (fun r s5 ⟨hr,I5⟩=>?_) fun _ _ z=>z.elim
   subst hr
   exact fin I5 qn
  ·refine wpAny_mono (T.item (X.bb N scope cl s3 (upd H2 D (.lst [])) fp) rfl rfl rfl hc i [] s4 _ H4 (fun _ _=>False) I4 (dB jQ) jP go) (fun r s5 ⟨u,hr,h5⟩=>?_) fun _ _ z=>z.elim
   subst hr
   have z:letOwnedTupleGo (.Name x px) (.ref it) u=pure ():=rfl
   rw [z] at h5
   show wpAny _ _ ((pure ():Sem Unit) >>= fun _=>assign (.Name x px) (compEnvC scope cl s3.heap.objs.size X.env) u) _ _ s5
   refine wpAny_bind (wpAny_mono h5 (fun _ s5 ⟨y,H5,I5,r5,y5,dC,jB⟩=>?_) fun _ _ z=>z.elim)
   have jC:=I5.pinned (dB jB) (T.obj _ _ dC)
   have pg:PG (X.bb N scope cl s3 (upd H2 D (.lst [])) fp) (.Name x px) (aW 0):=cg (i:=0) B.nd B.n0 (.inl (lookup_relabel_local B.hx)) (.inr (lookup_relabel_local B.hx))
   have again:∀{σ7:St} {H7:Hp} {s7:Shared},Inv (X.bb N scope cl s3 (upd H2 D (.lst [])) fp) ([]++fi fp s5.heap) σ7 H7 s7→Inv (X.bb N scope cl s3 (upd H2 D (.lst [])) fp) [] σ7 H7 s7∧tn (i+1) s7.heap∧∀b∈fp,H7 b=none:=fun{σ7 H7 s7} I7=>by
    refine ⟨I7.jA,T.keep _ _ _ dC fun b hb o e=>(I7.pin (b,o) (List.mem_append_right _ (List.mem_append_right _ (h6 hb e)))).1,fun b hb=>?_⟩
    obtain ⟨o,e,d⟩:=T.obj _ _ dC b hb
    exact (I7.pin (b,o) (List.mem_append_right _ (List.mem_append_right _ (h6 hb e)))).2.1
   refine wpAny_mono (pg _ s5 _ H5 y u (fun σ2 H6=>σ2=some y::ρ σ∧H6=H5) jC r5 ⟨rfl,rfl⟩) (fun _ s6 ⟨σ6,H6,I6,q6⟩=>?_) fun _ _ z=>z.elim
   obtain ⟨rfl,rfl⟩:=q6
   have om:=step y _ y5
   have tests:∀{gk:TT},ik (X.bb N scope cl s3 (upd H2 D (.lst [])) fp) ifs gk→∀{R:Bool→Hp→Prop},gk (some y::ρ σ) H6 R→wpAny (model X.prog X.w) X.A
     (forIn ifs true fun c r=>if r=true then do let ok ←isTrue c (compEnvC scope cl s3.heap.objs.size X.env) (eval c (compEnvC scope cl s3.heap.objs.size X.env));pure (ForInStep.yield ok) else pure (ForInStep.yield r))
     (fun ok s7=>∃H7,Inv (X.bb N scope cl s3 (upd H2 D (.lst [])) fp) ([]++fi fp s5.heap) (some y::ρ σ) H7 s7∧R ok H7) (fun _ _=>False) s6:=fun{gk} p {R} hR=>by
    cases p with
    | nil=>exact wpAny_tests_nil ⟨_,I6,hR⟩
    | one p=>exact wpAny_tests_one (p _ s6 _ _ _ I6 hR)
   refine wpAny_mono (tests (ht s3 _ fp) om) (fun ok s7 ⟨H7,I7,q7⟩=>?_) fun _ _ z=>z.elim
   cases ok with
   | false=>
    obtain ⟨m',gm,w7⟩:=q7
    obtain ⟨a1,a2,a3⟩:=again I7
    exact ⟨m',gm,i+1,ys,_,H7,a1,a2,a3,w7⟩
   | true=>
    refine wpAny_mono (he s3 _ fp _ s7 _ H7 _ I7 q7) (fun ev s8 ⟨z,H8,I8,r8,oo,hz,m',gm,w8⟩=>?_) fun _ _ z=>z.elim
    refine wpAny_mono (ic (X:=X.bb N scope cl s3 (upd H2 D (.lst [])) fp) _ s8 _ H8 (.ref D) [z] (.ref D) [ev] (fun _ H9=>H9=upd H8 D (.lst (ys++[z]))) I8 rfl (.cons r8 .nil) ⟨D,ys,z,rfl,rfl,oo,hz,rfl⟩) (fun _ s9 ⟨_,H9,I9,_,q9⟩=>?_) fun _ _ z=>z.elim
    subst q9
    obtain ⟨a1,a2,a3⟩:=again I9
    exact ⟨m',gm,i+1,ys++[z],_,_,a1,a2,a3,w8⟩
 have start:=loop (s3.toks+([]:List (Str×Value)).length)
 have es:({s3 with heap:=h₁,toks:=s3.toks+([]:List (Str×Value)).length}:Shared)={s2 with heap:=h₁,toks:=s2.toks+([]:List (Str×Value)).length}:=by rw [←gg]
 rw [es] at start
 exact codeAny_compStart_list start (T.self _ 0 _ _ _ (T.keep _ _ _ eH fun b hb o e=>cQ _ _ (eO _ _ e)) start)
end
def aS(i:Int):Prop:=i.natAbs<2 ^ 2048
theorem aS.log{i:Int}(h:aS i):i.natAbs.log2<2048:=by
 by_cases z:i.natAbs=0
 ·rw [z];decide
 ·exact (Nat.log2_lt z).mpr h
def tI(i j:Int):Prop:=j≠0∧aS j
def tJ(i j:Int):Prop:=aS i∧aS j
theorem tJ.ok{i j:Int}(h:tJ i j):IntMulOk i j:=by
 have b:∀{k:Int},aS k→Builtin.Int.intBits k≤2048:=fun{k} hk=>by
  have z:=hk.log
  unfold Builtin.Int.intBits
  split <;> omega
 unfold IntMulOk
 have e:Builtin.Int.intTooBig ((Builtin.Int.intBits i:Int)+(Builtin.Int.intBits j:Int))=false:=by
  unfold Builtin.Int.intTooBig
  have h1:=b h.1
  have h2:=b h.2
  have h3:(4096:Int)≤bitsLine:=by decide +kernel
  exact decide_eq_false (by omega)
 intro z
 rw [Bool.and_eq_true] at z
 have z2:=z.2
 rw [show Builtin.Int.intTooBig ((Builtin.Int.intBits i:Int)+(Builtin.Int.intBits j:Int))=false from e] at z2
 cases z2
theorem tK:∀{xs:List V} {us:List Value},xs.length=us.length→(∀(i:Nat) (x:V) (u:Value),xs[i]?=some x→us[i]?=some u→RelV x u)→Vals xs us
 | [],[],_,_=>.nil
 | [],_::_,h,_=>by simp at h
 | _::_,[],h,_=>by simp at h
 | x::xs,u::us,h,k=>.cons (k 0 x u rfl rfl) (tK (by simpa using h) fun i a b h1 h2=>k (i+1) a b (by simpa using h1) (by simpa using h2))
section
variable {X:Cx}
theorem tL:aY X (binaryOp .FloorDiv) (rI tI fun i j=>.int (i.fdiv j)):=h7 fun _ _ _ _ _ _ _ hc q=>floordiv_int hc.1 q (.inl (PyProof.noPylong_of_log2 (Nat.lt_of_lt_of_le hc.2.log (by decide))))
def Aj(i j:Int):Prop:=0<j∧aS j
theorem Ak:aY X (binaryOp .FloorDiv) (rI Aj fun i j=>.int (i / j)):=h7 fun i j _ _ _ _ _ hc q=>
 floordiv_int (Int.ne_of_gt hc.1) (by rw [Int.fdiv_eq_ediv_of_nonneg i (Int.le_of_lt hc.1)];exact q) (.inl (PyProof.noPylong_of_log2 (Nat.lt_of_lt_of_le hc.2.log (by decide))))
def Al:List V→Hp→VK→Prop:=fun xs H Q=>∃j:Int,xs=[.int j]∧∀p,H p=none→Q (.ref p) (upd H p (.dw 0 j))
theorem Am:bY X (.type "range") Al:=by
 intro pins s σ H xs us Q I r h
 obtain ⟨j,rfl,q⟩:=h
 obtain ⟨u,rfl,ru⟩:=vals1 r
 obtain ⟨t,rfl⟩:=ru
 refine call_range_1 ⟨.ref s.heap.objs.size,_,I.laid (o:=.dw 0 j) (fun b o e=>Heap.get?_push_of_some _ e) (Nat.le_refl _) ⟨_,_,_,Heap.get?_push_size _ rfl⟩,rfl,q _ (I.aq.fresh (Nat.le_refl _))⟩
def b5(n:Nat):List V:=(List.range n).map fun i:Nat=>V.int (i:Int)
def An:List V→Hp→VK→Prop:=fun xs H Q=>∃p n,xs=[.ref p]∧H p=some (.dw 0 (n:Nat))∧n≤10000∧∀l,H l=none→Q (.ref l) (upd H l (.lst (b5 n)))
theorem Ao(hc:X.calm=true):bY X (.type "list") An:=by
 intro pins s σ H xs us Q I r h
 obtain ⟨p,n,rfl,hp,hn,q⟩:=h
 obtain ⟨u,rfl,ru⟩:=vals1 r
 cases ru
 obtain ⟨t,u,v,e⟩:=(show aQ X.prog X.w H s.heap p (.dw 0 n) from I.aq p _ hp)
 refine call_list_range (n:=n) (I.ok.hd hc) e (small_one (by omega) (by omega) (by omega) (by omega)) (by rw [rangeSize_one];split <;> omega) (by omega) fun h' tk acc c hk hD hit=>?_
 refine ⟨.ref s.heap.objs.size,_,I.laid (o:=.lst (b5 n)) (fun b o e=>hk b o e) (Nat.le_refl _) ⟨?_,acc.toList,c,?_,?_⟩,rfl,q _ (I.aq.fresh (Nat.le_refl _))⟩
 ·unfold b5
  rw [List.length_map,List.length_range]
  exact Nat.le_trans hn (by decide)
 ·refine tK ?_ fun i x u h1 h2=>?_
  ·unfold b5
   rw [List.length_map,List.length_range,Array.length_toList,hit.1]
  ·have tM:acc[i]?=some u:=by simpa using h2
   obtain ⟨Ap,e'⟩:=hit.2 i u tM
   unfold b5 at h1
   rw [List.getElem?_map] at h1
   have hi:i<n:=by
    have z:=(Array.getElem?_eq_some_iff.mp tM).1
    rw [hit.1] at z
    exact z
   rw [List.getElem?_range hi] at h1
   cases h1
   exact ⟨Ap,by rw [e'];simp⟩
 ·rw [hD]
end
theorem Aq:bootBuiltins "range" = some (.type "range"):=by decide +kernel
def tN:Expr→Bool
 | .Starred _ _=>false
 | _=>true
theorem Ar{e:Expr}{es:List Expr}{env:Env}(h:tN e=true):starEach (e::es) env=(false,eval e env)::starEach es env:=by
 cases e <;> first | rfl | cases h
theorem aa{X:Cx}{e:Expr}{es:List Expr}{te:TE}{t:TA}(hs:tN e=true)(ha:PE X e te)(hr:PA X es t):PA X (e::es) (nC te t):=
 yG ha hr (Ar hs)
theorem aB{X:Cx}{pos:Pos}{i:Nat}{x:Str}{e:Expr}{te:TE}{pos':Pos}(hs:swapsWith e (some (.Name x pos')) pos.line X.env=pure false)(hf:X.fn x=true∨X.env.scope.names.lookup x=some .local)(hN:X.N.Nodup)(hi:X.N[i]?=some x)(hx:Loc X.env.scope x)(he:PE X e te) :
  PS X (.Assign [.Name x pos'] e pos) (jy te (aW i)):=xO hN hi hx he hs hf
def As:V→List V→Hp→VK→Prop:=fun x xs H Q=>∃i:Int,x=.int i∧xs=[]∧Q (.int ((Builtin.Int.intBits i:Nat):Int)) H
theorem Au{X:Cx}:nH X "int.bit_length" As:=by
 intro pins s σ H x xs v us Q I rx rv h
 obtain ⟨i,rfl,rfl,q⟩:=h
 have Av:=rv.zero
 subst Av
 obtain ⟨t,rfl⟩:=rx
 exact call_int_bit_length ⟨.int ((Builtin.Int.intBits i:Nat):Int),H,I.tok _,⟨_,rfl⟩,q⟩
theorem Aw{i:Int}(h:aS i):Builtin.Int.intBits i≤2048:=by
 have z:=h.log
 unfold Builtin.Int.intBits
 split <;> omega
end L2
namespace My
open PySem L2
theorem oq(a b:Str):decide (V.str a=V.str b)=decide (a=b):=by
 by_cases h:a=b
 ·subst h;simp
 ·rw [decide_eq_false h];exact decide_eq_false fun e=>h (V.str.inj e)
theorem kZ(a b:Int):decide (V.int a=V.int b)=decide (a=b):=by
 by_cases h:a=b
 ·subst h;simp
 ·rw [decide_eq_false h];exact decide_eq_false fun e=>h (V.int.inj e)
theorem ot{K:PySem.W.Frag}{T:String}:PySem.W.kitOne K (.type T) (.type T)=some true:=by
 unfold PySem.W.kitOne
 rw [if_pos (beq_self_eq_true _)]
theorem aF{H:Hp}{p:Addr}{o:HO}(h:H p=none):ae H (upd H p o):=fun b u e=>by
 rw [aD (bL e h)]
 exact e
theorem tO{α:Type}{xs:List α}{i:Int}(h0:0≤i)(h1:i<xs.length):∃v,cD xs i=some v∧v∈xs:=by
 obtain ⟨k,rfl⟩:∃k:Nat,i=(k:Int):=⟨i.toNat,by omega⟩
 have hk:k<xs.length:=by omega
 exact ⟨xs[k],dF (by simp [hk]),List.getElem_mem _⟩
theorem k4(v:V):([(("prime":Str),v)]:List (Str×V)).lookup ("prime":Str)=some v:=by simp [List.lookup]
inductive Any (H:Hp):V→Prop where
 | ay:Any H .ay
 | bl (b:Bool):Any H (.bl b)
 | int (i:Int):Any H (.int i)
 | str (x:Str):Any H (.str x)
 | lst {a:Addr} {xs:List V} (e:H a=some (.lst xs)):Any H (.ref a)
 | tup {a:Addr} {xs:List V} (e:H a=some (.tup xs)):Any H (.ref a)
 | ie {a:Addr} (e:H a=some (n_ a)):Any H (.ref a)
def ip:V→Bool
 | .int _=>true
 | _=>false
def iq:V→Bool
 | .bl _=>true
 | _=>false
def k6(H:Hp):V→Bool
 | .ref a=>(match H a with | some (.tup _)=>true | _=>false)
 | _=>false
theorem Any.n8{K:PySem.W.Frag}{H:Hp}{v:V}(h:Any H v):∃T:String,gd K H v (.type T)∧PySem.W.kitOne K (.type T) (.type "int")=some (ip v || iq v)∧PySem.W.kitOne K (.type T) (.type "bool")=some (iq v) ∧
  PySem.W.kitOne K (.type T) (.type "tuple")=some (k6 H v):=by
 cases h with
 | ay=>exact ⟨"NoneType",.of .ay,rfl,rfl,rfl⟩
 | bl b=>exact ⟨"bool",.of (.bl b),rfl,rfl,rfl⟩
 | int i=>exact ⟨"int",.of (.int i),rfl,rfl,rfl⟩
 | str x=>exact ⟨"str",.of (.str x),rfl,rfl,rfl⟩
 | lst e=>exact ⟨"list",.of (.lst e),rfl,rfl,by unfold k6;dsimp only;rw [e];rfl⟩
 | tup e=>exact ⟨"tuple",.of (.tup e),rfl,rfl,by unfold k6;dsimp only;rw [e];rfl⟩
 | ie e=>exact ⟨"dict",.ie e,rfl,rfl,by unfold k6;dsimp only;rw [e];rfl⟩
theorem Ax{v:V}(h:iq v=true):ip v=false:=by cases v <;> first | rfl | cases h
theorem Ay{v:V}{m:Str}(e:(m == ("prime":Str))=false):([(("prime":Str),v)]:List (Str×V)).lookup m=none:=by simp [List.lookup,e]
theorem Az(m n:Nat):Nat.gcd n (m % n)=Nat.gcd m n:=by rw [Nat.gcd_comm n,←Nat.gcd_rec,Nat.gcd_comm]
theorem tP(a:Int):(if a<0 then -a else a)=(a.natAbs:Int):=by split <;> omega
def lowG(a b:Int):Int:=if b<0 then 0-(Int.gcd a b:Int) else (Int.gcd a b:Int)
theorem AA{a b:Int}(h:b≠0):0<Int.gcd a b:=Nat.gcd_pos_of_pos_right _ (Int.natAbs_pos.mpr h)
theorem AB{a b:Int}(h:b≠0)(m:aS b):Int.gcd a b<2 ^ 2048:=Nat.lt_of_le_of_lt (Nat.gcd_le_right _ (Int.natAbs_pos.mpr h)) m
theorem AD{a b:Int}(h:b≠0)(m:aS b):tI 0 (lowG a b):=by
 have h1:=AA (a:=a) h
 have h2:=AB (a:=a) h m
 unfold lowG
 refine ⟨by split <;> omega,?_⟩
 unfold aS
 split
 ·rw [show (0-(Int.gcd a b:Int)).natAbs=Int.gcd a b by omega];exact h2
 ·rw [Int.natAbs_natCast];exact h2
theorem aS.of_lt{i:Int}(h1:-(10 ^ 70)<i)(h2:i<10 ^ 70):aS i:=by
 have h3:i.natAbs<2 ^ 240:=by omega
 exact Nat.lt_of_lt_of_le h3 (Nat.pow_le_pow_right (by decide) (by decide))
def AE:Sp:=fun vs H Q _=>∃v:V,vs=[v]∧Any H v∧Q (.bl (ip v)) H
def AF:Sp:=fun vs H Q _=>∃a b:Int,vs=[.int a,.int b]∧aS b∧Q (.int (Int.gcd a b:Int)) H
def AG:Sp:=fun vs H Q _=>∃n:Int,vs=[.int n]∧2≤n∧n≤997∧Q (.bl (dJ n)) H
def AH:Sp:=fun vs H Q _=>∃(p:Addr) (d:Td),vs=[.ref p]∧H p=some (.tup d.vs)∧Q (.bl d.jM) H
def AI:Sp:=fun vs H Q _=>∃(p:Addr) (d:Td),vs=[.ref p]∧H p=some (.tup d.vs)∧Q (.bl d.dh) H
def AJ(C N:Addr):Sp:=fun vs H Q E=>∃(x dx p:Addr) (d:Td),vs=[.ref x,.ref p]∧H x=some (.ins C dx [])∧H p=some (.tup d.vs) ∧
 (d.good=true→Q .ay (upd H x (.ins C dx [("prime",d.prime)])))∧(d.good=false→E (.ref N) none H)
def di(C:Addr)(H:Hp)(x:Addr)(q:Int):Prop:=∃dx,H x=some (.ins C dx [("prime",if q=0 then .ay else .int q)])
theorem di.mono{C:Addr}{H H':Hp}{x:Addr}{q:Int}(h:di C H x q)(s:ae H H'):di C H' x q:=by
 obtain ⟨dx,e⟩:=h
 exact ⟨dx,s _ _ e⟩
def k8(K:PySem.W.Frag):Sp:=fun vs H Q _=>∃(a:Addr) (ns:List Int),vs=[.ref a]∧aH K H a (ns.map V.int)∧ns.length≤63∧∀H',Q (.bl true) H'
theorem AK{u v:Int}(hu:0<u)(h:0<u*v):0<v:=by
 by_cases z:0<v
 ·exact z
 ·have y:=Int.mul_le_mul_of_nonneg_left (show v≤0 by omega) (show 0≤u by omega)
  rw [Int.mul_zero] at y
  omega
theorem tQ{a b:Int}(h:∀d:Nat,(d:Int)∣a→(d:Int)∣b→d=1):Int.gcd a b=1:=h _ (Int.gcd_dvd_left ..) (Int.gcd_dvd_right ..)
theorem tR{a b:Int}(h:Int.gcd a b=1){d:Nat}(h1:(d:Int)∣a)(h2:(d:Int)∣b):d=1:=by
 have z:(d:Int)∣((Int.gcd a b:Nat):Int):=Int.dvd_coe_gcd h1 h2
 rw [h] at z
 exact Nat.dvd_one.mp (Int.natCast_dvd_natCast.mp z)
theorem ou{a b c:Int}{d:Nat}(h:Int.gcd b c=1)(h1:(d:Int)∣b)(h2:(d:Int)∣a*c):(d:Int)∣a:=by
 have hc:Nat.Coprime d c.natAbs:=by
  have z:Nat.Coprime b.natAbs c.natAbs:=h
  exact Nat.Coprime.coprime_dvd_left (Int.ofNat_dvd_left.mp h1) z
 have z:d∣a.natAbs*c.natAbs:=by
  rw [←Int.natAbs_mul]
  exact Int.ofNat_dvd_left.mp h2
 exact Int.ofNat_dvd_left.mpr (hc.dvd_of_dvd_mul_right z)
theorem tS{a b c:Int}(h1:Int.gcd a b=1)(h2:Int.gcd a c=1):Int.gcd a (b*c)=1:=by
 refine tQ fun d x y=>?_
 exact tR h1 x (ou (a:=b) (b:=a) (c:=c) h2 x y)
theorem AL{a b:Int}(h:Int.gcd a b=1):Int.gcd b a=1:=by rw [Int.gcd_comm];exact h
structure d4 (x m:Int):Prop where
 pos:1≤m
 ox:Int.gcd x m=1
def fq(x:Int):Prop:=x.natAbs≤10 ^ 300
def AM(C:Addr)(fr:Int→Int→Int→Int→Int)(rm:Int→Int→Int):Sp:=fun vs H Q _=>∃(z:Addr) (q:Int) (v u:V),vs=[.ref z,v,u]∧di C H z q ∧
  ((q=0∧∃(p r:Addr) (x m y n:Int),v=.ref p∧u=.ref r∧H p=some (.tup [.int x,.int m])∧H r=some (.tup [.int y,.int n])∧d4 x m∧d4 y n∧fq x∧fq m∧fq y∧fq n ∧
    ∀(r':Addr) (H':Hp) (a d:Int),ae H H'→H' r'=some (.tup [.int a,.int d])→d4 a d→a*(m*n)=fr x m y n*d→Q (.ref r') H') ∨
   (2≤q∧∃i j:Int,v=.int i∧u=.int j∧0≤i∧i<1000∧Q (.int (rm i j % q)) H))
def bV(p:Int):Prop:=p=0∨(2≤p∧p≤997∧dJ p=true)
inductive aM (B:Nat) (H:Hp):Int→V→Int→Int→Prop where
 | br {p:Addr} {x m:Int} (e:H p=some (.tup [.int x,.int m])) (l:d4 x m) (bx:x.natAbs≤B) (bm:m.natAbs≤B):aM B H 0 (.ref p) x m
 | rem {q i:Int} (h0:0≤i) (h1:i<q) (h2:q≤997):aM B H q (.int i) i 1
theorem aM.mono{B:Nat}{H H':Hp}{q:Int}{v:V}{x m:Int}(h:aM B H q v x m)(s:ae H H'):aM B H' q v x m:=by
 cases h with
 | br e l bx bm=>exact .br (s _ _ e) l bx bm
 | rem h0 h1 h2=>exact .rem h0 h1 h2
theorem k_{u d T B:Int}(l:d4 u d)(hB:0<B)(e:u*B=T*d):d≤B∧u.natAbs≤T.natAbs:=by
 have h0:=l.pos
 have hd:d∣B:=by
  have z:((d.natAbs:Nat):Int)∣B:=ou (a:=B) (b:=d) (c:=u) (AL l.ox) (Int.natAbs_dvd.mpr (Int.dvd_refl d)) ⟨T*(d / (d.natAbs:Int)),by
   have q:(d.natAbs:Int)=d:=by omega
   rw [q,Int.ediv_self (by omega),Int.mul_one,Int.mul_comm B u,e,Int.mul_comm]⟩
  exact Int.natAbs_dvd.mp z
 have hle:=Int.le_of_dvd hB hd
 refine ⟨hle,?_⟩
 have z:u.natAbs*B.natAbs=T.natAbs*d.natAbs:=by rw [←Int.natAbs_mul,e,Int.natAbs_mul]
 have z2:T.natAbs*d.natAbs≤T.natAbs*B.natAbs:=Nat.mul_le_mul_left _ (by omega)
 rw [←z] at z2
 exact Nat.le_of_mul_le_mul_right z2 (by omega)
theorem AN{q b:Int}(h1:2≤q)(h2:q≤997)(hp:dJ q=true)(b1:1≤b)(b2:b<q):Int.gcd q b=1:=by
 have gp:0<Int.gcd q b:=Nat.gcd_pos_of_pos_right _ (Int.natAbs_pos.mpr (by omega))
 by_cases g1:Int.gcd q b=1
 ·exact g1
 exfalso
 obtain ⟨k,ek⟩:=Int.gcd_dvd_left (a:=q) (b:=b)
 have hb:=Int.le_of_dvd (by omega) (Int.gcd_dvd_right (a:=q) (b:=b))
 generalize Int.gcd q b=g at *
 have kp:0<k:=AK (u:=(g:Int)) (by omega) (by rw [←ek];omega)
 have k2:k≠1:=fun z=>by
  rw [z,Int.mul_one] at ek
  omega
 have no:∀d:Int,2≤d→d*d≤q→q % d=0→False:=fun d x y z=>by
  rw [tD h2 x y z] at hp
  cases hp
 by_cases c:(g:Int)≤k
 ·exact no g (by omega) (by rw [ek];exact Int.mul_le_mul_of_nonneg_left c (by omega)) (by rw [ek];exact Int.mul_emod_right ..)
 ·exact no k (by omega) (by rw [ek];exact Int.mul_le_mul_of_nonneg_right (by omega) (by omega)) (by rw [ek];exact Int.mul_emod_left ..)
structure eR (q b last lt now nt:Int):Prop where
 l:∃s,last=lt*b+s*q
 n:∃s,now=nt*b+s*q
 ox:Int.gcd last now=1
 pos:1≤now
 less:now≤last
theorem eR.step{q b last lt now nt:Int}(h:eR q b last lt now nt)(h1:1<now):eR q b now nt (last-last / now*now) (lt-last / now*nt)∧last-last / now*now<now:=by
 obtain ⟨⟨s,es⟩,⟨r,er⟩,c,p,le⟩:=h
 have e:last-last / now*now=last % now:=by
  have z:=Int.emod_add_mul_ediv last now
  rw [Int.mul_comm] at z
  omega
 have tT:=Int.emod_lt_of_pos last (show 0<now by omega)
 have ge:=Int.emod_nonneg last (show now≠0 by omega)
 have c':Int.gcd now (last % now)=1:=tQ fun d x y=>tR c (by
  have z:=Int.emod_add_mul_ediv last now
  rw [←z]
  exact Int.dvd_add y (Int.dvd_trans x (Int.dvd_mul_right ..))) x
 have nz:last % now≠0:=fun z=>by
  rw [z,Int.gcd_zero_right] at c'
  omega
 refine ⟨⟨⟨r,er⟩,⟨s-last / now*r,?_⟩,by rw [e];exact c',by omega,by omega⟩,by omega⟩
 generalize last / now=f
 rw [es,er,Int.sub_mul,Int.sub_mul,Int.mul_add,Int.mul_assoc,Int.mul_assoc]
 omega
theorem eR.done{q b last lt nt:Int}(h:eR q b last lt 1 nt)(hq:2≤q):(nt % q*b) % q=1:=by
 obtain ⟨s,e⟩:=h.n
 have z:nt*b=1+(-s)*q:=by rw [Int.neg_mul];omega
 have y:nt % q*b % q=nt*b % q:=by rw [Int.mul_emod (nt % q) b,Int.emod_emod,←Int.mul_emod]
 rw [y,z,Int.add_mul_emod_self_right]
 exact Int.emod_eq_of_lt (by omega) (by omega)
theorem eR.start{q b:Int}(h1:2≤q)(h2:q≤997)(hp:dJ q=true)(b1:1≤b)(b2:b<q):eR q b q 0 b 1:=
 ⟨⟨1,by omega⟩,⟨0,by omega⟩,AN h1 h2 hp b1 b2,b1,by omega⟩
end My
namespace L2
open PySem PySem.Spec PyProof.Rows
end L2
namespace My
open PySem L2
def AO(N:Addr):Sp:=fun vs H Q E=>∃q b:Int,vs=[.int q,.int b]∧2≤q∧q≤997∧dJ q=true∧0≤b∧b<q∧(b=0→E (.ref N) none H)∧(b≠0→∀r:Int,0≤r→r<q→(r*b) % q=1→Q (.int r) H)
def AQ(N:Addr):Sp:=fun vs H Q E=>∃q i j:Int,vs=[.int q,.int i,.int j]∧2≤q∧q≤997∧dJ q=true∧0≤i∧i<q∧0≤j∧j<q∧(j=0→E (.ref N) none H)∧(j≠0→∀r:Int,0≤r→r<q→(r*j) % q=i→Q (.int r) H)
theorem AR{q i j r:Int}(hq:2≤q)(i0:0≤i)(i1:i<q)(h:(r*j) % q=1):(i*r % q*j) % q=i:=by
 have y:i*r % q*j % q=i*(r*j) % q:=by rw [Int.mul_emod (i*r % q) j,Int.emod_emod,←Int.mul_emod,Int.mul_assoc]
 rw [y,Int.mul_emod,h,Int.emod_eq_of_lt i0 i1,Int.mul_one,Int.emod_eq_of_lt i0 i1]
end My
namespace L2
open PySem PySem.Spec PyProof.Rows
structure cR (K:PySem.W.Frag) (x qual:Str) (st:Stmt) (i:Int) (f:Addr) (fd:FuncData):Prop where
 ex:∃(oc:Value) (od:Option Addr) (kV doc pm:Value) (an:Option Addr) (av ct:Value) (bQ:Array (Option Value)) (dT:Addr) (tk:Tok) (ft:Value) (fu:Option Addr) (n:Nat) (fv:Array (Option Value)),
  fd=PySem.W.fnOf x qual (de st) (cm st) (aE st) (.ref dT) kV doc pm an av ct∧K.lookup f=some ⟨oc,od,.func fd,bQ⟩∧PySem.W.codeIn K av qual=true∧K.lookup dT=some ⟨ft,fu,.seq #[.int i tk] n,fv⟩
 kp:PySem.W.keepIn K (.ref f)=true
section
variable {P:Program} {w:World} {K:PySem.W.Frag} {mg:Str→Option Value} {base:Heap}
theorem cR.eJ{x qual:Str}{st:Stmt}{i:Int}{f:Addr}{fd:FuncData}{N ps:List Str}{k:Nat}{sp:Sp}(F:cR K x qual st i f fd)(S:ba N ps (aE st))(len:∀vs H Q E,sp vs H Q E→vs.length=ps.length)
  (f9:∀(av:Value) (A:Around) (outer:List Env) (s:Shared) (H:Hp) (vs:List V) (Q:VK) (E:XK),bc k (A.deeper (envOfC qual (aE st) s.heap.objs.size f av))→sp vs H Q E→
   jJ (dZ (bB P w) P w K mg base N qual (aE st) f av A outer s H E) E→
   ∃t,bF (dZ (bB P w) P w K mg base N qual (aE st) f av A outer s H E) (cm st) t∧t {nx:=fun _ H'=>Q .ay H',rt:=Q} (start N vs) H):aJ P w K mg base (bB P w) (k+1) f fd ps sp:=by
 obtain ⟨oc,od,kV,doc,pm,an,av,ct,bQ,dT,tk,ft,fu,n,fv,rfl,lk,bO,ld⟩:=F.ex
 exact nF lk bO S len fun A outer s H vs Q E hr cY=>f9 av A outer s H vs Q E hr cY ⟨rfl,rfl,rfl,rfl⟩
theorem lb{x qual:Str}{st:Stmt}{i:Int}{f dT:Addr}{oc:Value}{od an:Option Addr}{bQ:Array (Option Value)}{kV doc pm av ct:Value}{tk:Tok}{ft:Value}{fu:Option Addr}{n:Nat}{fv:Array (Option Value)}
  (l:K.lookup f=some ⟨oc,od,.func (PySem.W.fnOf x qual (de st) (cm st) (aE st) (.ref dT) kV doc pm an av ct),bQ⟩)
  (c:PySem.W.codeIn K av qual=true) (k:PySem.W.keepIn K (.ref f)=true) (ld:K.lookup dT=some ⟨ft,fu,.seq #[.int i tk] n,fv⟩):cR K x qual st i f (PySem.W.fnOf x qual (de st) (cm st) (aE st) (.ref dT) kV doc pm an av ct):=
 ⟨⟨oc,od,kV,doc,pm,an,av,ct,bQ,dT,tk,ft,fu,n,fv,rfl,l,c,ld⟩,k⟩
theorem cR.binds{x qual:Str}{st:Stmt}{i:Int}{f:Addr}{fd:FuncData}{ps:List Str}(F:cR K x qual st i f fd)
  (h:∀(s:Shared) (dT:Addr) (kV doc pm:Value) (an:Option Addr) (av ct:Value) (tk:Tok) (o:Obj) (n:Nat) (us:List Value),s.heap.get? dT=some o→o.data=.seq #[.int i tk] n→us.length=ps.length→
   BindsTo s (PySem.W.fnOf x qual (de st) (cm st) (aE st) (.ref dT) kV doc pm an av ct) ⟨us,[]⟩ (ps.zip us)):Binds K fd ps []:=by
 obtain ⟨oc,od,kV,doc,pm,an,av,ct,bQ,dT,tk,ft,fu,n,fv,rfl,lk,bO,ld⟩:=F.ex
 intro s us X hl
 rw [List.append_nil] at hl ⊢
 exact h s dT kV doc pm an av ct tk _ n us (X _ _ ld) rfl hl
theorem cR.AS{x qual:Str}{st:Stmt}{i:Int}{f:Addr}{fd:FuncData}{ps:List Str}(F:cR K x qual st i f fd)
  (h:∀(s:Shared) (dT:Addr) (kV doc pm:Value) (an:Option Addr) (av ct:Value) (tk:Tok) (o:Obj) (n:Nat) (us:List Value),s.heap.get? dT=some o→o.data=.seq #[.int i tk] n→us.length+1=ps.length→
   BindsTo s (PySem.W.fnOf x qual (de st) (cm st) (aE st) (.ref dT) kV doc pm an av ct) ⟨us,[]⟩ (ps.zip (us++[.int i tk]))):∃v,Vals [V.int i] [v]∧Binds K fd ps [v]:=by
 obtain ⟨oc,od,kV,doc,pm,an,av,ct,bQ,dT,tk,ft,fu,n,fv,rfl,lk,bO,ld⟩:=F.ex
 refine ⟨.int i tk,.cons ⟨tk,rfl⟩ .nil,fun s us X hl=>?_⟩
 exact h s dT kV doc pm an av ct tk _ n us (X _ _ ld) rfl (by simpa using hl)
theorem cR.AU{x qual:Str}{st:Stmt}{i:Int}{f:Addr}{fd:FuncData}{ps:List Str}{y:Str}(F:cR K x qual st i f fd)
  (h:∀(s:Shared) (dT:Addr) (kV doc pm:Value) (an:Option Addr) (av ct:Value) (tk:Tok) (o:Obj) (n:Nat) (us ws:List Value),s.heap.get? dT=some o→o.data=.seq #[.int i tk] n→ws.length=1→us.length+1=ps.length→
   BindsTo s (PySem.W.fnOf x qual (de st) (cm st) (aE st) (.ref dT) kV doc pm an av ct) ⟨us,[y].zip ws⟩ (ps.zip (us++ws))) :
  ∀(s:Shared) (us ws:List Value),K.In s.heap→ws.length=1→us.length+1=ps.length→BindsTo s fd ⟨us,[y].zip ws⟩ (ps.zip (us++ws)):=by
 obtain ⟨oc,od,kV,doc,pm,an,av,ct,bQ,dT,tk,ft,fu,n,fv,rfl,lk,bO,ld⟩:=F.ex
 intro s us ws X hw hl
 exact h s dT kV doc pm an av ct tk _ n us ws (X _ _ ld) rfl hw hl
end
section
variable {X:Cx} {CX:cN} {k:Nat} {f C:Addr} {fd:FuncData} {ps:List Str} {y:Str} {sp:Sp} {E:XK} {m:Str} {pos apos yQ:Pos} {e e' o:Expr} {ta:TE} {t tk:TA}
def oy(K:PySem.W.Frag):R2:=fun x y H Q=>tw K true x y H Q∨rK x y H Q
theorem AV{X:Cx}(hu:X.A.units<cLine):aY X (compareOp .NotEq) (oy X.K):=by
 intro pins s σ H x y v u Q I rx ry h
 rcases h with h | h
 ·exact Af hu pins s σ H x y v u Q I rx ry h
 ·exact h8 pins s σ H x y v u Q I rx ry h
end
end L2
namespace My
open PySem L2
def jR(a b:Int):Int:=a.fdiv (lowG a b)
def jS(a b:Int):Int:=b.fdiv (lowG a b)
theorem tU(a:Int):jR a 1=a∧jS a 1=1:=by
 unfold jR jS lowG
 rw [Int.gcd_one_right,if_neg (by decide)]
 exact ⟨Int.fdiv_one a,Int.fdiv_one 1⟩
def AW(N:Addr):Sp:=fun vs H Q E=>∃a b:Int,vs=[.int a,.int b]∧aS b∧(b=0→E (.ref N) none H)∧(b≠0→∀(r:Addr) (H':Hp),ae H H'→H' r=some (.tup [.int (jR a b),.int (jS a b)])→Q (.ref r) H')
def fz(q b:Int):Prop:=if q=0 then b=0 else b % q=0
def tV(H:Hp)(q:Int)(v:V)(a b:Int):Prop:=
 (q=0∧∃r:Addr,v=.ref r∧H r=some (.tup [.int (jR a b),.int (jS a b)]))∨(2≤q∧∃r:Int,v=.int r∧0≤r∧r<q∧(r*(b % q)) % q=a % q)
def AX(C N:Addr):Sp:=fun vs H Q E=>∃(z:Addr) (q a b:Int),vs=[.ref z,.int a,.int b]∧di C H z q∧bV q∧aS b ∧
 (fz q b→E (.ref N) none H)∧(¬fz q b→∀(v:V) (H':Hp),ae H H'→tV H' q v a b→Q v H')
end My
namespace L2
open PySem PySem.Spec PyProof.Rows
section
variable {X:Cx}
end
end L2
namespace My
open PySem L2
inductive d5 (H:Hp):Int→V→Int→Int→Prop where
 | br {p:Addr} {u d t b:Int} (e:H p=some (.tup [.int u,.int d])) (l:d4 u d) (hb:b≠0) (h:u*b=t*d):d5 H 0 (.ref p) t b
 | rem {q r t b:Int} (q2:2≤q) (h0:0≤r) (h1:r<q) (g:Int.gcd q b=1) (h:q∣r*b-t):d5 H q (.int r) t b
theorem aM.tW{B:Nat}{H:Hp}{q:Int}{v:V}{x m:Int}(h:aM B H q v x m)(hq:bV q):d5 H q v x m:=by
 cases h with
 | br e l bx bm=>exact .br e l (by have:=l.pos;omega) rfl
 | rem h0 h1 h2=>
  have q2:2≤q:=(hq.resolve_left (by omega)).1
  exact .rem q2 h0 h1 (by rw [Int.gcd_one_right]) ⟨0,by omega⟩
theorem tX{u d t b:Int}(l:d4 u d)(hb:b≠0)(e:u*b=t*d):u.natAbs≤t.natAbs∧d.natAbs≤b.natAbs:=by
 have h3:=l.pos
 by_cases c:0<b
 ·obtain ⟨z1,z2⟩:=k_ l c e
  omega
 ·have e':u*(-b)=(-t)*d:=by rw [Int.mul_neg,e,Int.neg_mul]
  obtain ⟨z1,z2⟩:=k_ l (show 0 < -b by omega) e'
  omega
theorem oz{a b c:Int}(h:c≠0)(e:a*c=b*c):a=b:=Int.eq_of_mul_eq_mul_right h e
theorem AY{q a c:Int}(q2:2≤q)(g:Int.gcd q c=1)(d:q∣a*c):q∣a:=by
 have qq:((q.natAbs:Nat):Int)=q:=by omega
 have z:=ou (a:=a) (b:=q) (c:=c) (d:=q.natAbs) g (by rw [qq];exact Int.dvd_refl q) (by rw [qq];exact d)
 rw [qq] at z
 exact z
theorem AZ(a q:Int):∃w,a % q+q*w=a:=⟨a / q,Int.emod_add_mul_ediv a q⟩
section
variable {C N z:Addr} {q:Int} {v u:V} {t b t' b':Int} {H:Hp} {Q:VK} {E:XK}
theorem Hm(hw:di C H z q)(hq:bV q)(hv:d5 H q v t b)(hu:d5 H q u t' b')(b1:fq t)(b2:fq b)(b3:fq t')(b4:fq b')
  (k:∀(v':V) (H':Hp),ae H H'→d5 H' q v' (t*b'+t'*b) (b*b')→Q v' H'):AM C (fun x m y n=>x*n+y*m) (fun i j=>i+j) [.ref z,v,u] H Q E:=by
 refine ⟨z,q,v,u,rfl,hw,?_⟩
 cases hv with
 | br e l hb h=>
  cases hu with
  | br e' l' cH h'=>
   rename_i p x m p' y n
   obtain ⟨c1,c2⟩:=tX l hb h
   obtain ⟨c3,c4⟩:=tX l' cH h'
   refine .inl ⟨rfl,_,_,x,m,y,n,rfl,rfl,e,e',l,l',Nat.le_trans c1 b1,Nat.le_trans c2 b2,Nat.le_trans c3 b3,Nat.le_trans c4 b4,fun r' H' a d s' er la ea=>k _ H' s' (.br er la (Int.mul_ne_zero hb cH) ?_)⟩
   have m0:=l.pos
   have n0:=l'.pos
   refine oz (c:=m*n) (Int.mul_ne_zero (by omega) (by omega)) ?_
   grind
  | rem q2 h0 h1 g h=>omega
 | rem q2 h0 h1 g h=>
  cases hu with
  | br e' l' cH h'=>omega
  | rem A0 A1 A2 g' h'=>
   rename_i i j
   have q3:q≤997:=(hq.resolve_left (by omega)).2.1
   refine .inr ⟨q2,i,j,rfl,rfl,h0,by omega,k _ H (ae.refl H) (.rem q2 (Int.emod_nonneg _ (by omega)) (Int.emod_lt_of_pos _ (by omega)) (tS g g') ?_)⟩
   obtain ⟨k1,e1⟩:=h
   obtain ⟨k2,e2⟩:=h'
   obtain ⟨w,ew⟩:=AZ (i+j) q
   exact ⟨k1*b'+k2*b-w*(b*b'),by grind⟩
theorem A3{u d u' d':Int}(l:d4 u d)(l':d4 u' d')(e:u*d'=u'*d):u=u'∧d=d':=by
 have h1:=l.pos
 have h2:=l'.pos
 have a:=(k_ l (show 0<d' by omega) e).1
 have c:=(k_ l' (show 0<d by omega) e.symm).1
 have dd:d=d':=by omega
 subst dd
 exact ⟨oz (show d≠0 by omega) e,rfl⟩
theorem A4(hv:d5 H q v t b)(hu:d5 H q u t' b')(e:t*b'=t'*b) :
  (∃p p' x m,v=.ref p∧u=.ref p'∧H p=some (.tup [.int x,.int m])∧H p'=some (.tup [.int x,.int m]))∨(∃i:Int,v=.int i∧u=.int i):=by
 cases hv with
 | br e1 l hb h=>
  cases hu with
  | br e2 l' cH h'=>
   rename_i p x m p' y n
   have z:x*n=y*m:=by
    refine oz (c:=b*b') (Int.mul_ne_zero hb cH) ?_
    grind
   obtain ⟨rfl,rfl⟩:=A3 l l' z
   exact .inl ⟨_,_,_,_,rfl,rfl,e1,e2⟩
  | rem q2 h0 h1 g h=>omega
 | rem q2 h0 h1 g h=>
  cases hu with
  | br e' l' cH h'=>omega
  | rem A0 A1 A2 g' h'=>
   rename_i i j
   have d:q∣(i-j)*(b*b'):=by
    obtain ⟨k1,e1⟩:=h
    obtain ⟨k2,e2⟩:=h'
    exact ⟨k1*b'-k2*b,by grind⟩
   have d2:=AY q2 (tS g g') d
   have ij:i=j:=by
    obtain ⟨k,ek⟩:=d2
    by_cases z:k=0
    ·rw [z,Int.mul_zero] at ek;omega
    ·exfalso
     rcases Int.lt_or_gt_of_ne z with z | z
     ·have:=Int.mul_le_mul_of_nonneg_left (show k≤-1 by omega) (show 0≤q by omega)
      omega
     ·have:=Int.mul_le_mul_of_nonneg_left (show 1≤k by omega) (show 0≤q by omega)
      omega
   subst ij
   exact .inr ⟨_,rfl,rfl⟩
end
theorem aM.bu{B:Nat}{H H':Hp}{q:Int}{v:V}{x m:Int}{D:Addr}{ys:List V}(h:aM B H q v x m)(eD:H D=some (.lst ys))(k:∀b o,b≠D→H b=some o→H' b=some o):aM B H' q v x m:=by
 cases h with
 | br e l bx bm=>
  refine .br (k _ _ (fun z=>?_) e) l bx bm
  rw [z,eD] at e
  cases e
 | rem h0 h1 h2=>exact .rem h0 h1 h2
end My
namespace L2
open PySem PySem.Spec PyProof.Rows
structure gq (J:It) (xs:List V) (H1:Hp):Prop where
 go:∀i Hc,ae H1 Hc→i<xs.length→J.go i Hc
 cC:∀i Hc x H',ae H1 Hc→J.cC i Hc x H'→H'=Hc∧(i<xs.length→xs[i]?=some x)
 stop:∀i Hc,ae H1 Hc→xs.length≤i→J.stop i Hc
theorem lg{K:PySem.W.Frag}{a:Addr}{xs:List V}{H1:Hp}(h:aH K H1 a xs):gq (fQ K a) xs H1 where
 go:=fun i Hc s hi=>⟨xs,xs[i],s.seq h,by simp [hi]⟩
 cC:=fun i Hc x H' s y=>⟨y.1,fun _=>y.2 xs (s.seq h)⟩
 stop:=fun i Hc s hi=>⟨xs,s.seq h,hi⟩
theorem oA{lo:Int}{n:Nat}{H1:Hp}:gq (fb lo n) ((List.range n).map fun i:Nat=>V.int (lo+(i:Int))) H1 where
 go:=fun i Hc s hi=>by
  have hi:i<n:=by simpa using hi
  exact hi
 cC:=fun i Hc x H' s y=>⟨y.1,fun hi=>by
  have hi:i<n:=by simpa using hi
  rw [y.2]
  simp [hi]⟩
 stop:=fun i Hc s hi=>by
  have hi:n≤i:=by simpa using hi
  exact hi
theorem fA{H H':Hp}{D:Addr}{o:HO}(s:ae H H')(n:H D=none):ae H (upd H' D o):=fun b u e=>by
 rw [aD (bL e n)]
 exact s b u e
theorem tY{J:It}{xs:List V}{H1:Hp}{ρσ:St}{te:TE}{D:Addr}{Q:VK}(js:gq J xs H1)(nD:H1 D=none)(hn:xs.length<sizeLine)
  (P:Nat→V→Hp→Prop) (mono:∀i y H H' ys,P i y H→H D=some (.lst ys)→(∀b o,b≠D→H b=some o→H' b=some o)→P i y H')
  (step:∀i x,xs[i]?=some x→∀(Hc:Hp) (R:VK),ae H1 Hc→(∃ys,Hc D=some (.lst ys))→(∀y H3,ae Hc H3→P i y H3→R y H3)→te (some x::ρσ) Hc R)
  (fin:∀ys Hc,ae H1 Hc→ys.length=xs.length→(∀i y,ys[i]?=some y→P i y Hc)→Hc D=some (.lst ys)→Q (.ref D) Hc) :
  ∃W:Nat→Nat→List V→Hp→Prop,(∃m,W 0 m [] (upd H1 D (.lst []))) ∧
   ∀i m ys Hc,W i m ys Hc→Hc D=some (.lst ys)∧((J.stop i Hc∧Q (.ref D) Hc)∨(J.go i Hc∧∀x H',J.cC i Hc x H'→
    if true=true then te (some x::ρσ) H' fun y H3=>H3 D=some (.lst ys)∧ys.length<sizeLine∧∃m',m'<m∧W (i+1) m' (ys++[y]) (upd H3 D (.lst (ys++[y]))) else ∃m',m'<m∧W (i+1) m' ys H')):=by
 refine ⟨fun i m ys Hc=>m=xs.length-i∧i≤xs.length∧Hc D=some (.lst ys)∧ae H1 Hc∧ys.length=i∧∀j y,ys[j]?=some y→P j y Hc,⟨_,rfl,Nat.zero_le _,ar,fA (ae.refl H1) nD,rfl,fun j y e=>by simp at e⟩,?_⟩
 rintro i m ys Hc ⟨rfl,hi,eD,sH,el,hP⟩
 refine ⟨eD,?_⟩
 by_cases bj:i<xs.length
 ·refine .inr ⟨js.go i Hc sH bj,fun x H' hy=>?_⟩
  obtain ⟨rfl,hx⟩:=js.cC i Hc x H' sH hy
  rw [if_pos rfl]
  refine step i x (hx bj) _ _ sH ⟨ys,eD⟩ fun y H3 s3 hp=>?_
  have e3:=s3 _ _ eD
  refine ⟨e3,by omega,xs.length-(i+1),by omega,rfl,bj,ar,fA (sH.trans s3) nD,by simp [el],fun j y' e=>?_⟩
  have bu:∀b o,b≠D→H3 b=some o→upd H3 D (.lst (ys++[y])) b=some o:=fun b o nb e=>by rw [aD nb];exact e
  by_cases hj:j<i
  ·have e':ys[j]?=some y':=by rw [List.getElem?_append_left (by omega)] at e;exact e
   refine mono j y' H' _ ys (hP j y' e') eD fun b o nb e=>?_
   exact bu b o nb (s3 _ _ e)
  ·have hj:j=i:=by
    have:=(List.getElem?_eq_some_iff.mp e).1
    simp at this
    omega
   subst hj
   have e':y'=y:=by rw [List.getElem?_append_right (by omega),el,Nat.sub_self] at e;simpa using e.symm
   subst e'
   exact mono _ _ H3 _ ys hp e3 bu
 ·have e:i=xs.length:=by omega
  subst e
  exact .inl ⟨js.stop _ Hc sH (Nat.le_refl _),fin ys Hc sH el hP eD⟩
theorem A5{wi:TI}{ρ:St→St}{te:TE}{σ:St}{H:Hp}{Q:VK}{xs:List V}(eS:∀R:It→Hp→Prop,(∀J H1,ae H H1→gq J xs H1→R J H1)→wi σ H R)(hn:xs.length<sizeLine)
  (P:Addr→Nat→V→Hp→Prop) (mono:∀D i y H H' ys,P D i y H→H D=some (.lst ys)→(∀b o,b≠D→H b=some o→H' b=some o)→P D i y H')
  (step:∀D i x,xs[i]?=some x→∀(Hc:Hp) (R:VK),ae H Hc→(∃ys,Hc D=some (.lst ys))→(∀y H3,ae Hc H3→P D i y H3→R y H3)→te (some x::ρ σ) Hc R)
  (fin:∀D ys Hc,ae H Hc→ys.length=xs.length→(∀i y,ys[i]?=some y→P D i y Hc)→Hc D=some (.lst ys)→Q (.ref D) Hc):fm wi ρ (fun _ H Q=>Q true H) te σ H Q:=by
 refine eS _ fun J H1 s1 js=>?_
 intro D nD
 exact tY (ρσ:=ρ σ) (te:=te) (Q:=Q) js nD hn (P D) (mono D) (fun i x hx Hc R sc=>step D i x hx Hc R (s1.trans sc)) (fun ys Hc sc=>fin D ys Hc (s1.trans sc))
theorem lh{te:TE}{g:TG}{D:Ends}{σ:St}{H:Hp}(h:te σ H fun x H1=>g x σ H1 D.nx):jy te g D σ H:=h
theorem dj{a b:TS}{D:Ends}{σ:St}{H:Hp}(h:a {D with nx:=fun σ H=>b D σ H} σ H):rp a b D σ H:=h
section
variable {X:Cx} {N:List Str} {scope:Scope} {cl:List (Str×Addr)} {x:Str} {px pos:Pos} {iter elt:Expr} {ifs:List Expr} {wi:TI} {ρ:St→St} {tt:TT} {te:TE}
theorem tZ{y:Str}{py t7:Pos}{i0:Nat}(B:tE X N scope cl x ρ)(hc:X.calm=true)(hN:X.N.Nodup)(A6:X.N[i0]?=some y)(hy:Loc X.env.scope y)(hi:PI X (.Name x px) iter wi)(ht:∀s₃ H₃ fp,ik (X.bb N scope cl s₃ H₃ fp) ifs tt)(he:∀s₃ H₃ fp,PE (X.bb N scope cl s₃ H₃ fp) elt te)
  (A7:swapsWith (.ListComp elt [⟨.Name x px,iter,ifs,0⟩] scope pos) (some (.Name y py)) t7.line X.env=pure true:=by rfl) (hf:X.fn y=true∨X.env.scope.names.lookup y=some .local:=by first | exact .inl rfl | exact .inr rfl | assumption)
  (hs:∀x,foldedSetIterable iter X.env x=pure x:=by intro _;rfl):PS X (.Assign [.Name y py] (.ListComp elt [⟨.Name x px,iter,ifs,0⟩] scope pos) t7) (jy (fm wi ρ tt te) (aW i0)):=by
 intro pins s σ H D0 I h
 have h:fm wi ρ tt te σ H (fun v H1=>D0.nx (σ.set i0 (some v)) H1):=h
 rw [exec_Assign_Name_used _ _ _ _ A7]
 refine wpAny_bind (wpAny_standAt (wpAny_bind ?_))
 show wpAny _ X.A (do let _ ←comprehension (.ListComp elt [⟨.Name x px,iter,ifs,0⟩] scope pos) scope X.env _ (newList []) false (eval iter X.env) (some (assign (.Name y py) X.env))) _ _ s
 refine wpAny_bind (wpAny_mono (Q:=fun _ s'=>SP X pins D0 .next s') ?_ (fun _ s' hq=>wpAny_pure (wpAny_pure hq)) fun _ _ e=>e)
 refine wpAny_comprehension_free (use:=some (assign (.Name y py) X.env)) rfl hs B.tF B.kind B.names (aw (hi pins s σ H _ I h) fun v s1 h1=>aw h1 fun kF s2 h2=>?_)
 obtain ⟨it,fp,tn,J,H2,rfl,I2,T,eH,f2,q2⟩:=h2
 have nD:H2 s2.heap.objs.size=none:=I2.aq.fresh (Nat.le_refl _)
 obtain ⟨W,⟨m0,w0⟩,turn⟩:=q2 _ nD
 refine wpAny_newObj_type (wpAny_newFunctionEnv B.tG (by intro y hy;simp at hy) (fun h₁ eL eN=>?_) B.kind)
 dsimp only at eL eN ⊢
 generalize hD:s2.heap.objs.size=D at nD w0 turn eL eN ⊢
 generalize gg:({s2 with heap:=s2.heap.push {cls:=.type "list",dict:=none,data:=.seq ([]:List Value).toArray}}:Shared)=s3
 have I3:Inv X pins σ (upd H2 D (.lst [])) s3:=by
  subst hD gg
  exact I2.laid (t':=s2.toks) (fun b u e=>Heap.get?_push_of_some _ e) (Nat.le_refl _) ⟨Nat.zero_le _,[],_,.nil,Heap.get?_push_size _ rfl⟩
 have e3:s3.heap=s2.heap.push {cls:=.type "list",dict:=none,data:=.seq ([]:List Value).toArray}:=by rw [←gg]
 have eO:∀b o,s2.heap.get? b=some o→s3.heap.get? b=some o:=fun b o e=>by rw [e3];exact Heap.get?_push_of_some _ e
 rw [←e3] at eL eN ⊢
 have below:∀b o,s3.heap.get? b=some o→b≠s3.heap.objs.size:=fun b o e=>Nat.ne_of_lt (Heap.lt_size e)
 have cQ:∀b o,s3.heap.get? b=some o→h₁.get? b=some o:=fun b o e=>eN.extBut b o (below b o e) (Heap.get?_push_of_some _ e)
 have gh:∀b∈fp,∃o,s2.heap.get? b=some o∧∀v,o.data≠.cell v:=T.obj _ _ eH
 have oa:∀b∈fp,b≠D:=fun b hb z=>by
  obtain ⟨o,e,_⟩:=gh b hb
  rw [z,←hD] at e
  exact absurd (Heap.lt_size e) (Nat.lt_irrefl _)
 have cq:∀y c,cl.lookup y=some c→X.env.cells.lookup y=some c:=fun y c e=>B.sub (y,c) (PySem.mem_of_lookup e)
 have og:=I3.ko
 have jN:(X.bb N scope cl s3 (upd H2 D (.lst [])) fp).Ok:=by
  refine ⟨I.ok.mod,B.kind,I.ok.glob,I.ok.blt,Nat.le_refl _,fun a b c e1 e2=>I.ok.inj a b c (cq a c e1) (cq b c e2),fun y hy=>B.has y hy,(fun _ _ z _=>absurd z Bool.false_ne_true),(fun _=>I.ok.hd hc),I.ok.frames,.inl rfl,fun b hb=>⟨?_,fun y c e z=>?_⟩,fun b o e=>?_,Nat.le_trans I.ok.cW I3.sz,fun b o e hb=>?_,fun b hb z=>?_,I3.stack,og⟩
  ·obtain ⟨o,e,_⟩:=gh b hb
   exact below b o (eO b o e)
  ·exact (f2 b hb).2.2.2.2.1 y c (cq y c e) z
  ·exact I3.bs b o e
  ·rcases (f2 b hb).2.2.2.1 with z | z
   ·exact I.ok.fJ b o e z
   ·exact absurd (Nat.lt_of_lt_of_le (Heap.lt_size e) (Nat.le_trans I.ok.cW z)) (Nat.lt_irrefl _)
  ·rcases List.mem_cons.mp (I3.kn b z) with z | z
   ·exact (f2 b hb).2.1 z
   ·exact (f2 b hb).2.2.1 z
 have IB:∀tk:Nat,Inv (X.bb N scope cl s3 (upd H2 D (.lst [])) fp) [] (none::ρ σ) (upd H2 D (.lst [])) {s3 with heap:=h₁,toks:=tk}:=fun tk=>by
  refine ⟨jN,rfl,I3.bare,Un.kept cQ,⟨_,eL,fun j y v e1 e2 e3=>?_⟩,fun y c e=>?_,?_,fun y c e=>I3.cA y c (cq y c e),(fun p hp=>nomatch hp),I3.aq.kept cQ,?_⟩
  ·cases j with
   | zero=>cases e2
   | succ j=>
    obtain ⟨i,y',a1,a2,a3,a4,a5,a6⟩:=B.tH σ j v e2
    have oh:N[j+1]?=some y:=e1
    rw [oh] at a1
    cases a1
    obtain ⟨m,hn,hl⟩:=I3.loc
    obtain ⟨u,r,l⟩:=hl i y v a2 a3 a4
    refine ⟨u,r,.inr ⟨a6,?_⟩⟩
    obtain ⟨c,ec⟩:=B.has y a6
    rcases l with ⟨k,_⟩ | ⟨_,c',jO,z⟩
    ·rcases a5 with q | q <;> (rw [k] at q;cases q)
    ·have:=cq y c ec
     rw [this] at jO
     cases jO
     obtain ⟨o,ho,hd⟩:=z
     exact ⟨c,ec,o,cQ _ _ ho,hd⟩
  ·obtain ⟨v,o,ho,hd⟩:=I3.cell y c (cq y c e)
   exact ⟨v,o,cQ _ _ ho,hd⟩
  ·exact I3.aq.fresh (Nat.le_refl _)
  ·show (none::ρ σ).length=N.length
   rw [List.length_cons]
   exact B.len σ I.len
 have oB:∀b o,s3.heap.get? b=some o→b≠s3.heap.objs.size:=below
 have fin:∀{σ':St} {H':Hp} {s':Shared},Inv (X.bb N scope cl s3 (upd H2 D (.lst [])) fp) [] σ' H' s'→D0.nx (σ.set i0 (some (.ref D))) H'→compPost (model X.prog X.w) X.A X.xe (some (assign (.Name y py) X.env)) (fun _ s'=>SP X pins D0 .next s') (.ref D) s3.heap.objs.size (.ok .next) s':=fun{σ' H' s'} J q=>by
  obtain ⟨m,hn,_⟩:=J.loc
  have hn:s'.heap.Ns s3.heap.objs.size m:=hn
  have JC:H' s3.heap.objs.size=none:=J.free
  have u1:Un (aV X.stack) fp (upd H2 D (.lst [])) H' s3.heap s'.heap:=by
   refine ⟨fun b o e n hb hx=>J.base.keep b o e n hb hx,fun b o e n hb hx=>J.base.slot b o e n hb hx,J.base.free,fun b o e hx=>J.base.there b o e hx,J.base.bM,J.base.bE,J.base.bN⟩
  have IX:Inv X pins σ H' s':=I3.jv (ch:=fp) (J.os) u1 J.aq J.bare fun b hb=>by
   obtain ⟨g0,g1,g2,g3,g4,g5⟩:=f2 b hb
   exact ⟨g3,g1,g4,g5⟩
  have nl:X.env.locals≠s3.heap.objs.size:=by
   obtain ⟨m3,⟨o3,_,_,e3,_⟩,_⟩:=I3.loc
   exact oB _ _ e3
  have nc:∀z c,X.env.cells.lookup z=some c→c≠s3.heap.objs.size:=fun z c e=>by
   obtain ⟨v3,o3,e3,_⟩:=I3.cell z c e
   exact oB _ _ e3
  refine wpAny_assign_Name (q_ (v:=.ref D) IX hN A6 hy rfl (fun d0 oC oE=>?_) hf)
  obtain ⟨a,oE,ha⟩:=oE
  have na:s3.heap.objs.size≠a:=by
   rcases ha with rfl | e
   ·exact fun z=>nl z.symm
   ·exact fun z=>nc _ _ e z.symm
  refine ⟨m,hn.sameBut oE na,fun h' eQ=>⟨σ.set i0 (some (.ref D)),H',?_,q⟩⟩
  have u2:Un (aV X.stack) [s3.heap.objs.size] H' H' d0.heap h':=by
   refine ⟨fun b o e n hb hx=>(eQ.2 b (by simpa using hx)).trans e,fun b o e n hb hx=>⟨o.slots,(eQ.2 b (by simpa using hx)).trans e⟩,fun b o e n hx=>n,fun b o e hx=>⟨o,(eQ.2 b (by simpa using hx)).trans e⟩,fun b xs z=>z,fun b o u z=>z,fun b ps z=>⟨#[],by simpa using z⟩⟩
  have oi:a9 X.prog X.w H' h':=fun b u e=>by
   refine (oC.aq b u e).dR (fun c v hc z=>(eQ.2 c fun y=>?_).trans z) (fun _ z=>z) fun _ _ z=>z
   have y':c=s3.heap.objs.size:=y
   rcases hc with hc | hc
   ·rw [←hc,y',JC] at e
    cases e
   ·rw [y',JC] at hc
    cases hc
  refine oC.jv (s':={d0 with heap:=h'}) (ch:=[s3.heap.objs.size]) rfl u2 oi oC.bare fun b hb=>?_
  have eb:b=s3.heap.objs.size:=by simpa using hb
  subst eb
  refine ⟨.inr I3.sz,fun z=>nl z.symm,fun z c e=>nc z c e,fun p hp=>?_⟩
  exact oB _ _ (I3.pin p hp).1
 have dB:∀{H':Hp},(∀b∈fp,H' b=none)→∀b∈fp,e_ (X.bb N scope cl s3 (upd H2 D (.lst [])) fp) [] H' b:=fun hn b hb=>by
  refine ⟨hn b hb,?_,?_,.inl hb,fun y c e z=>(f2 b hb).2.2.2.2.1 y c (cq y c e) z,fun p hp=>nomatch hp⟩
  ·obtain ⟨o,e,_⟩:=gh b hb
   exact below b o (eO b o e)
  ·exact jN.fK b hb
 have loop:∀tk:Nat,codeAny (model X.prog X.w) X.A (.compLoop (.ListComp elt [⟨.Name x px,iter,ifs,0⟩] scope pos) 0 (.ref it) (.ref D) (compEnvC scope cl s3.heap.objs.size X.env))
   (compPost (model X.prog X.w) X.A X.xe (some (assign (.Name y py) X.env)) (fun _ s'=>SP X pins D0 .next s') (.ref D) s3.heap.objs.size) {s3 with heap:=h₁,toks:=tk}:=fun tk=>by
  refine codeAny_compLoop_tests (fun n s'=>∃i ys o H',Inv (X.bb N scope cl s3 (upd H2 D (.lst [])) fp) [] (o::ρ σ) H' s'∧tn i s'.heap∧(∀b∈fp,H' b=none)∧W i n ys H') ?_ m0
   ⟨0,[],none,_,IB tk,T.keep _ _ _ eH fun b hb o e=>cQ _ _ (eO _ _ e),fun b hb=>by rw [aD (oa b hb)];exact (f2 b hb).1,w0⟩
  rintro n s4 ⟨i,ys,o,H4,I4,jP,jQ,w4⟩
  obtain ⟨Ai,oj⟩:=turn i n ys H4 w4
  rcases oj with ⟨stop,qn⟩ | ⟨go,step⟩
  ·refine wpAny_mono (T.done (X.bb N scope cl s3 (upd H2 D (.lst [])) fp) rfl rfl rfl hc i [] s4 _ H4 (fun _ _=>False) I4 (dB jQ) jP stop) (fun r s5 ⟨hr,I5⟩=>?_) fun _ _ z=>z.elim
   subst hr
   exact fin I5 qn
  ·refine wpAny_mono (T.item (X.bb N scope cl s3 (upd H2 D (.lst [])) fp) rfl rfl rfl hc i [] s4 _ H4 (fun _ _=>False) I4 (dB jQ) jP go) (fun r s5 ⟨u,hr,h5⟩=>?_) fun _ _ z=>z.elim
   subst hr
   have z:letOwnedTupleGo (.Name x px) (.ref it) u=pure ():=rfl
   rw [z] at h5
   show wpAny _ _ ((pure ():Sem Unit) >>= fun _=>assign (.Name x px) (compEnvC scope cl s3.heap.objs.size X.env) u) _ _ s5
   refine wpAny_bind (wpAny_mono h5 (fun _ s5 ⟨y,H5,I5,r5,y5,dC,jB⟩=>?_) fun _ _ z=>z.elim)
   have jC:=I5.pinned (dB jB) (T.obj _ _ dC)
   have pg:PG (X.bb N scope cl s3 (upd H2 D (.lst [])) fp) (.Name x px) (aW 0):=cg (i:=0) B.nd B.n0 (.inl (lookup_relabel_local B.hx)) (.inr (lookup_relabel_local B.hx))
   have again:∀{σ7:St} {H7:Hp} {s7:Shared},Inv (X.bb N scope cl s3 (upd H2 D (.lst [])) fp) ([]++fi fp s5.heap) σ7 H7 s7→Inv (X.bb N scope cl s3 (upd H2 D (.lst [])) fp) [] σ7 H7 s7∧tn (i+1) s7.heap∧∀b∈fp,H7 b=none:=fun{σ7 H7 s7} I7=>by
    refine ⟨I7.jA,T.keep _ _ _ dC fun b hb o e=>(I7.pin (b,o) (List.mem_append_right _ (List.mem_append_right _ (h6 hb e)))).1,fun b hb=>?_⟩
    obtain ⟨o,e,d⟩:=T.obj _ _ dC b hb
    exact (I7.pin (b,o) (List.mem_append_right _ (List.mem_append_right _ (h6 hb e)))).2.1
   refine wpAny_mono (pg _ s5 _ H5 y u (fun σ2 H6=>σ2=some y::ρ σ∧H6=H5) jC r5 ⟨rfl,rfl⟩) (fun _ s6 ⟨σ6,H6,I6,q6⟩=>?_) fun _ _ z=>z.elim
   obtain ⟨rfl,rfl⟩:=q6
   have om:=step y _ y5
   have tests:∀{gk:TT},ik (X.bb N scope cl s3 (upd H2 D (.lst [])) fp) ifs gk→∀{R:Bool→Hp→Prop},gk (some y::ρ σ) H6 R→wpAny (model X.prog X.w) X.A
     (forIn ifs true fun c r=>if r=true then do let ok ←isTrue c (compEnvC scope cl s3.heap.objs.size X.env) (eval c (compEnvC scope cl s3.heap.objs.size X.env));pure (ForInStep.yield ok) else pure (ForInStep.yield r))
     (fun ok s7=>∃H7,Inv (X.bb N scope cl s3 (upd H2 D (.lst [])) fp) ([]++fi fp s5.heap) (some y::ρ σ) H7 s7∧R ok H7) (fun _ _=>False) s6:=fun{gk} p {R} hR=>by
    cases p with
    | nil=>exact wpAny_tests_nil ⟨_,I6,hR⟩
    | one p=>exact wpAny_tests_one (p _ s6 _ _ _ I6 hR)
   refine wpAny_mono (tests (ht s3 _ fp) om) (fun ok s7 ⟨H7,I7,q7⟩=>?_) fun _ _ z=>z.elim
   cases ok with
   | false=>
    obtain ⟨m',gm,w7⟩:=q7
    obtain ⟨a1,a2,a3⟩:=again I7
    exact ⟨m',gm,i+1,ys,_,H7,a1,a2,a3,w7⟩
   | true=>
    refine wpAny_mono (he s3 _ fp _ s7 _ H7 _ I7 q7) (fun ev s8 ⟨z,H8,I8,r8,oo,hz,m',gm,w8⟩=>?_) fun _ _ z=>z.elim
    refine wpAny_mono (ic (X:=X.bb N scope cl s3 (upd H2 D (.lst [])) fp) _ s8 _ H8 (.ref D) [z] (.ref D) [ev] (fun _ H9=>H9=upd H8 D (.lst (ys++[z]))) I8 rfl (.cons r8 .nil) ⟨D,ys,z,rfl,rfl,oo,hz,rfl⟩) (fun _ s9 ⟨_,H9,I9,_,q9⟩=>?_) fun _ _ z=>z.elim
    subst q9
    obtain ⟨a1,a2,a3⟩:=again I9
    exact ⟨m',gm,i+1,ys++[z],_,_,a1,a2,a3,w8⟩
 have start:=loop (s3.toks+([]:List (Str×Value)).length)
 have es:({s3 with heap:=h₁,toks:=s3.toks+([]:List (Str×Value)).length}:Shared)={s2 with heap:=h₁,toks:=s2.toks+([]:List (Str×Value)).length}:=by rw [←gg]
 rw [es] at start
 exact codeAny_compStart_list start (T.self _ 0 _ _ _ (T.keep _ _ _ eH fun b hb o e=>cQ _ _ (eO _ _ e)) start)
end
section
variable {X:Cx}
end
section
variable {prog:Program} {w:World} {A:Around} {R:Result→Shared→Prop} {s:Shared}
end
section
variable {X:Cx} {N:List Str} {scope:Scope} {cl:List (Str×Addr)} {x y:Str} {px py pos tp:Pos} {A8:Nat} {iter elt:Expr} {ifs:List Expr} {wi:TI} {ρ:St→St} {tt:TT} {te:TE}
end
section
variable {X:Cx}
def anyR(K:PySem.W.Frag):List V→Hp→VK→Prop:=fun xs H Q=>∃(p:Addr) (bs:List Bool),xs=[.ref p]∧aH K H p (bs.map V.bl)∧Q (.bl (bs.any id)) H
theorem A9{K:PySem.W.Frag}(hc:X.calm=true)(hK:X.K=K:=by rfl):bY X (.builtin "any") (anyR K):=by
 intro pins s σ H xs us Q I r h
 subst hK
 obtain ⟨p,bs,rfl,hq,q⟩:=h
 obtain ⟨u,rfl,ru⟩:=vals1 r
 cases ru
 obtain ⟨ai,rv,pl,hz⟩:=I.list hq
 have d6:p≠s.heap.objs.size:=by
  obtain ⟨o,e,_⟩:=pl.isList
  exact Nat.ne_of_lt (Heap.lt_size e)
 have hl:ai.length=bs.length:=by rw [←rv.length,List.length_map]
 refine call_any_walk (wpAny_pyIter_list pl.isList ?_)
 refine ⟨s.heap.objs.size,_,_,_,_,_,fun i=>bs.getD i false,rfl,Walks.list (A:=X.A.in1) (show X.A.in1.handled=none from I.ok.hd hc) s.heap.objs.size p d6 ai.toArray,⟨⟨_,Heap.get?_push_size _ rfl,rfl,rfl⟩,pl.isList.push _⟩,fun i v s' Q' E' hv fZ=>?_,fun h' tk hk=>?_⟩
 ·have h9:ai[i]?=some v:=by simpa using hv
  cases eb:bs[i]? with
  | none=>
   have:=rv.none_of (i:=i) (by rw [List.getElem?_map,eb];rfl)
   rw [this] at h9
   cases h9
  | some b=>
   obtain ⟨u,hu,ru⟩:=rv.get (i:=i) (x:=V.bl b) (by rw [List.getElem?_map,eb];rfl)
   rw [hu] at h9
   cases h9
   cases ru
   have e:bs.getD i false=b:=by rw [List.getD_eq_getElem?_getD,eb];rfl
   have t8:Q' (bs.getD i false) s':=fZ
   rw [e] at t8
   exact wpAny_truthy_bool t8
 ·refine ⟨.bl (bs.any id),H,I.kept fun b o e=>hk b o (fun z=>?_) (Heap.get?_push_of_some _ e),?_,q⟩
  ·exact absurd (Heap.lt_size e) (by rw [List.mem_singleton.mp z];exact Nat.lt_irrefl _)
  ·show Value.bool _=Value.bool _
   congr 1
   rw [List.size_toArray,hl]
   clear hk q rv pl hz hl hq
   induction bs with
   | nil=>rfl
   | cons b bs ih=>
    rw [List.length_cons,List.range_succ_eq_map,List.any_cons,List.any_map,List.any_cons]
    show (b || (List.range bs.length).any fun i=>bs.getD i false)=(b || bs.any id)
    rw [ih]
end
theorem boot_any:bootBuiltins "any" = some (.builtin "any"):=by decide +kernel
section
variable {M:Model} {A:Around} {E:Value→Shared→Prop} {s:Shared}
end
section
variable {X:Cx} {N:List Str} {scope:Scope} {cl:List (Str×Addr)} {x:Str} {px pos:Pos} {iter elt:Expr} {ifs:List Expr} {wi:TI} {ρ:St→St} {tt:TT} {te:TE}
end
def jT(K:PySem.W.Frag)(H:Hp):Nat→V→V→Prop
 | 0,v,u=>v=u∧cZ v=true
 | n+1,v,u=>(v=u∧cZ v=true)∨∃a b xs ys,v=.ref a∧u=.ref b∧((aH K H a xs∧aH K H b ys)∨(bA K H a xs∧bA K H b ys))∧xs.length=ys.length∧∀(j:Nat) (x y:V),xs[j]?=some x→ys[j]?=some y→jT K H n x y
theorem lq{v:V}(h:cZ v=true):ia v v=true:=by
 cases v with
 | ay=>rfl
 | bl b=>show (b == b)=true;simp
 | int i=>show (i == i)=true;simp
 | str x=>show (x == x)=true;simp
 | _=>cases h
theorem all_range(n:Nat):(List.range n).all (fun _=>true)=true:=by simp
section
variable {X:Cx} {pins:List (Addr×Obj)} {σ:St} {H:Hp} {s:Shared}
theorem lr(I:Inv X pins σ H s):∀(n:Nat) (A:Around) (v u:V) (a b:Value),jT X.K H n v u→RelV v a→RelV u b→A.units+n<cLine→SeqAt.EqAt A s a b true
 | 0,A,v,u,a,b,h,ra,rb,hu=>by
  obtain ⟨rfl,hf⟩:=h
  have z:=jG (A:=A) (s:=s) ra rb hf hf
  rw [lq hf] at z
  exact z
 | n+1,A,v,u,a,b,h,ra,rb,hu=>by
  rcases h with ⟨rfl,hf⟩ | ⟨p,q,xs,ys,rfl,rfl,hs,hl,hi⟩
  ·have z:=jG (A:=A) (s:=s) ra rb hf hf
   rw [lq hf] at z
   exact z
  ·cases ra
   cases rb
   by_cases pq:p=q
   ·subst pq
    exact SeqAt.EqAt.same _
   rcases hs with ⟨h1,h2⟩ | ⟨h1,h2⟩
   ·obtain ⟨us,r1,t1,_⟩:=I.list h1
    obtain ⟨vs,r2,t2,_⟩:=I.list h2
    have l1:=r1.length
    have l2:=r2.length
    have z:=SeqAt.RcAt.lists (A:=A) (e:=fun _=>true) t1.isList t2.isList (by simp;omega) (by omega) (fun j z1 z2=>by
     have oF:j<us.length:=by simpa using z1
     have oG:j<vs.length:=by simpa using z2
     obtain ⟨x,ex⟩:∃x,xs[j]?=some x:=⟨xs[j],by simp [show j<xs.length by omega]⟩
     obtain ⟨y,ey⟩:∃y,ys[j]?=some y:=⟨ys[j],by simp [show j<ys.length by omega]⟩
     obtain ⟨x',dS,rx⟩:=r1.get ex
     obtain ⟨y',eT,ry⟩:=r2.get ey
     have e1:us.toArray[j]=x':=by simpa using (List.getElem?_eq_some_iff.mp dS).2
     have e2:vs.toArray[j]=y':=by simpa using (List.getElem?_eq_some_iff.mp eT).2
     rw [e1,e2]
     exact lr I n A.in1 x y x' y' (hi j x y ex ey) rx ry (by rw [Around.in1_units];omega))
    rw [all_range] at z
    exact SeqAt.EqAt.of_refs pq z
   ·obtain ⟨us,r1,t1,_⟩:=I.tuple h1
    obtain ⟨vs,r2,t2,_⟩:=I.tuple h2
    have l1:=r1.length
    have l2:=r2.length
    have z:=SeqAt.RcAt.tuples (A:=A) (e:=fun _=>true) t1 t2 (by omega) (fun j z1 z2=>by
     have oF:j<us.length:=by simpa using z1
     have oG:j<vs.length:=by simpa using z2
     obtain ⟨x,ex⟩:∃x,xs[j]?=some x:=⟨xs[j],by simp [show j<xs.length by omega]⟩
     obtain ⟨y,ey⟩:∃y,ys[j]?=some y:=⟨ys[j],by simp [show j<ys.length by omega]⟩
     obtain ⟨x',dS,rx⟩:=r1.get ex
     obtain ⟨y',eT,ry⟩:=r2.get ey
     have e1:us.toArray[j]=x':=by simpa using (List.getElem?_eq_some_iff.mp dS).2
     have e2:vs.toArray[j]=y':=by simpa using (List.getElem?_eq_some_iff.mp eT).2
     rw [e1,e2]
     exact lr I n A.in1 x y x' y' (hi j x y ex ey) rx ry (by rw [Around.in1_units];omega))
    have e3:(us.toArray.size == vs.toArray.size)=true:=by simp;omega
    rw [all_range,e3] at z
    exact SeqAt.EqAt.of_refs pq z
end
section
variable {X:Cx}
def oH(K:PySem.W.Frag)(n:Nat)(r:Bool):R2:=fun x y H Q=>∃a b xs ys,x=.ref a∧y=.ref b∧aH K H a xs∧aH K H b ys∧xs.length=ys.length∧(∀(j:Nat) (x y:V),xs[j]?=some x→ys[j]?=some y→jT K H n x y)∧Q (.bl r) H
theorem Hn{n:Nat}(hu:X.A.units+64<cLine)(hn:n<60:=by decide):aY X (compareOp .Eq) (oH X.K n true):=by
 intro pins s σ H x y v u Q I rx ry h
 obtain ⟨a,b,xs,ys,rfl,rfl,h1,h2,hl,hi,q⟩:=h
 cases rx
 cases ry
 obtain ⟨us,r1,t1,_⟩:=I.list h1
 obtain ⟨vs,r2,t2,_⟩:=I.list h2
 have l1:=r1.length
 have l2:=r2.length
 refine SeqAt.eq_listAt (e:=fun _=>true) t1.isList t2.isList (by simp;omega) (by omega) (fun j z1 z2=>?_) ?_
 ·have oF:j<us.length:=by simpa using z1
  have oG:j<vs.length:=by simpa using z2
  obtain ⟨x,ex⟩:∃x,xs[j]?=some x:=⟨xs[j],by simp [show j<xs.length by omega]⟩
  obtain ⟨y,ey⟩:∃y,ys[j]?=some y:=⟨ys[j],by simp [show j<ys.length by omega]⟩
  obtain ⟨x',dS,rx⟩:=r1.get ex
  obtain ⟨y',eT,ry⟩:=r2.get ey
  have e1:us.toArray[j]=x':=by simpa using (List.getElem?_eq_some_iff.mp dS).2
  have e2:vs.toArray[j]=y':=by simpa using (List.getElem?_eq_some_iff.mp eT).2
  rw [e1,e2]
  exact lr I n X.A.in1 x y x' y' (hi j x y ex ey) rx ry (by rw [Around.in1_units];omega)
 ·rw [all_range]
  exact ⟨.bl true,H,I,rfl,q⟩
theorem A_{n:Nat}(hu:X.A.units+64<cLine)(hn:n<60:=by decide):aY X (compareOp .NotEq) (oH X.K n false):=by
 intro pins s σ H x y v u Q I rx ry h
 obtain ⟨a,b,xs,ys,rfl,rfl,h1,h2,hl,hi,q⟩:=h
 cases rx
 cases ry
 obtain ⟨us,r1,t1,_⟩:=I.list h1
 obtain ⟨vs,r2,t2,_⟩:=I.list h2
 have l1:=r1.length
 have l2:=r2.length
 refine SeqAt.RcNeAt.lists (e:=fun _=>true) t1.isList t2.isList (by simp;omega) (by omega) (fun j z1 z2=>?_) _ _ _ _ ?_
 ·have oF:j<us.length:=by simpa using z1
  have oG:j<vs.length:=by simpa using z2
  obtain ⟨x,ex⟩:∃x,xs[j]?=some x:=⟨xs[j],by simp [show j<xs.length by omega]⟩
  obtain ⟨y,ey⟩:∃y,ys[j]?=some y:=⟨ys[j],by simp [show j<ys.length by omega]⟩
  obtain ⟨x',dS,rx⟩:=r1.get ex
  obtain ⟨y',eT,ry⟩:=r2.get ey
  have e1:us.toArray[j]=x':=by simpa using (List.getElem?_eq_some_iff.mp dS).2
  have e2:vs.toArray[j]=y':=by simpa using (List.getElem?_eq_some_iff.mp eT).2
  rw [e1,e2]
  exact lr I n X.A.in1 x y x' y' (hi j x y ex ey) rx ry (by rw [Around.in1_units];omega)
 ·rw [all_range]
  exact ⟨.bl false,H,I,rfl,q⟩
end
section
variable {X:Cx} {N:List Str} {scope:Scope} {cl:List (Str×Addr)} {x:Str} {px pos:Pos} {iter elt:Expr} {ifs:List Expr} {wi:TI} {ρ:St→St} {tt:TT} {te:TE}
end
theorem t_{wi:TI}{ρ:St→St}{te:TE}{σ:St}{H:Hp}{Q:VK}{xs:List V}(eS:∀R:It→Hp→Prop,(∀J H1,ae H H1→gq J xs H1→R J H1)→wi σ H R)(hn:xs.length<sizeLine)
  (P:Addr→Nat→V→Hp→Prop) (mono:∀D i y H H' ys,P D i y H→H D=some (.lst ys)→(∀b o,b≠D→H b=some o→H' b=some o)→P D i y H')
  (step:∀D i x,xs[i]?=some x→∀(Hc:Hp) (R:VK),ae H Hc→(∃ys,Hc D=some (.lst ys))→(∀y H3,ae Hc H3→P D i y H3→R y H3)→te (some x::ρ σ) Hc R)
  (fin:∀D ys Hc,H D=none→ae H Hc→ys.length=xs.length→(∀(i:Nat) (y:V),ys[i]?=some y→P D i y Hc)→Hc D=some (.lst ys)→Q (.ref D) Hc):fm wi ρ (fun _ H Q=>Q true H) te σ H Q:=by
 refine eS _ fun J H1 s1 js=>?_
 intro D nD
 have hD:H D=none:=by
  cases e:H D with
  | none=>rfl
  | some o=>rw [s1 _ _ e] at nD;cases nD
 exact tY (ρσ:=ρ σ) (te:=te) (Q:=Q) js nD hn (P D) (mono D) (fun i x hx Hc R sc=>step D i x hx Hc R (s1.trans sc)) (fun ys Hc sc=>fin D ys Hc hD (s1.trans sc))
section
variable {X:Cx} {K:PySem.W.Frag}
theorem Ba(hK:X.K=K:=by rfl):jE X (su K):=by
 subst hK
 exact cO
theorem lA(hK:X.K=K:=by rfl):jE X (sr K):=by
 subst hK
 exact bp
def Bb(K:PySem.W.Frag):List V→Hp→VK→Prop:=fun xs H Q=>∃p ys,xs=[.ref p]∧(aH K H p ys∨bA K H p ys)∧Q (.int (ys.length:Int)) H
theorem Bc(hK:X.K=K:=by rfl):bY X (.builtin "len") (Bb K):=by
 subst hK
 exact c_
def Bd(K:PySem.W.Frag):List V→Hp→VK→Prop:=fun xs H Q=>∃p ys,xs=[.ref p]∧(aH K H p ys∨bA K H p ys)∧∀l,H l=none→Q (.ref l) (upd H l (.lst ys))
theorem Be(hK:X.K=K:=by rfl):bY X (.type "list") (Bd K):=by
 subst hK
 exact nI
end
end L2
namespace My
open PySem L2
theorem Bf{r:List V→Hp→VK→Prop}{te:TE}{σ:St}{H:Hp}{Q:VK}(h:te σ H fun x H1=>r [x] H1 Q):nG r (nC te r6) σ H Q:=h
theorem Bg{te:TE}{D:Ends}{σ:St}{H:Hp}(h:te σ H D.rt):rq te D σ H:=h
theorem Bh{c:TT}{t u:TS}{D:Ends}{σ:St}{H:Hp}(h:c σ H fun b H1=>if b=true then t D σ H1 else u D σ H1):kA c t u D σ H:=h
theorem Bi{te:TE}{σ:St}{H:Hp}{Q:Bool→Hp→Prop}(h:te σ H fun x H1=>∃c,x=.bl c∧Q c H1):tB te σ H Q:=h
theorem Bj{vs:List V}{b:Bool}(h:∀(i:Nat) (v:V),vs[i]?=some v→v=.bl b):vs=(List.replicate vs.length b).map V.bl:=by
 refine List.ext_getElem? fun i=>?_
 rw [List.getElem?_map]
 by_cases hi:i<vs.length
 ·rw [show vs[i]?=some vs[i] by simp [hi],h i vs[i] (by simp [hi])]
  simp [hi]
 ·rw [List.getElem?_eq_none (by omega),List.getElem?_eq_none (by simp;omega)]
  rfl
theorem Bk(n:Nat):(List.replicate n false).any id=false:=by simp
theorem none_of{H H':Hp}{b:Addr}(s:ae H H')(h:H' b=none):H b=none:=by
 cases e:H b with
 | none=>rfl
 | some o=>rw [s _ _ e] at h;cases h
theorem Bl{K:PySem.W.Frag}{H:Hp}{q:Int}{v u:V}{t b t' b':Int}(hv:d5 H q v t b)(hu:d5 H q u t' b')(e:t*b'=t'*b)(n:Nat):jT K H (n+1) v u:=by
 rcases A4 hv hu e with ⟨p,p',x,m,rfl,rfl,e1,e2⟩ | ⟨i,rfl,rfl⟩
 ·refine .inr ⟨p,p',_,_,rfl,rfl,.inr ⟨.of e1,.of e2⟩,rfl,fun j x y h1 h2=>?_⟩
  rw [h1] at h2
  cases h2
  have hf:cZ x=true:=by
   match j,h1 with
   | 0,h1=>cases h1;rfl
   | 1,h1=>cases h1;rfl
   | j+2,h1=>cases h1
  cases n with
  | zero=>exact ⟨rfl,hf⟩
  | succ n=>exact .inl ⟨rfl,hf⟩
 ·exact .inl ⟨rfl,rfl⟩
def o1:Int×Int:=(0,1)
theorem getD_at{α:Type}{xs:List α}{d:α}{i:Nat}(hi:i<xs.length):xs.getD i d=xs[i]:=by
 rw [List.getD_eq_getElem?_getD,show xs[i]?=some xs[i] by simp [hi]]
 rfl
theorem Bm{B:Nat}(hB:1≤B){H:Hp}{q:Int}{v:V}{a:Int}(h:tV H q v a 1)(hq:bV q)(ha:a=0∨a=1):aM B H q v a 1:=by
 rcases h with ⟨rfl,r,rfl,e⟩ | ⟨q2,r,rfl,r0,r1,er⟩
 ·rw [(tU a).1,(tU a).2] at e
  exact .br e ⟨by decide,Int.gcd_one_right ..⟩ (by rcases ha with rfl | rfl <;> simp [hB]) (by simpa using hB)
 ·have q3:q≤997:=by rcases hq with z | ⟨_,z,_⟩ <;> omega
  rw [Int.emod_eq_of_lt (show (0:Int)≤1 by decide) (show (1:Int)<q by omega),Int.mul_one,Int.emod_eq_of_lt r0 r1] at er
  have ea:a % q=a:=Int.emod_eq_of_lt (by omega) (by omega)
  rw [ea] at er
  subst er
  exact .rem r0 r1 q3
theorem Bn{q:Int}(hq:bV q):¬fz q 1:=fun h=>by
 unfold fz at h
 rcases hq with rfl | ⟨q2,q3,q4⟩
 ·rw [if_pos rfl] at h;omega
 ·rw [if_neg (by omega),Int.emod_eq_of_lt (by omega) (by omega)] at h;omega
def er(P:Addr)(H:Hp):Hp:=fun b=>if b=P then none else H b
theorem bW{P:Addr}{H:Hp}:ae (er P H) H:=fun b o e=>by
 unfold er at e
 split at e
 ·cases e
 ·exact e
theorem bH{P b:Addr}{H:Hp}(h:b≠P):er P H b=H b:=if_neg h
theorem jU{P b:Addr}{H:Hp}{o:HO}(h:b≠P)(e:H b=some o):er P H b=some o:=by rw [bH h];exact e
theorem jV{P:Addr}{H H':Hp}(s:ae H H'):ae (er P H) (er P H'):=fun b o e=>by
 unfold er at e ⊢
 split at e
 ·cases e
 ·rename_i h
  rw [if_neg h]
  exact s _ _ e
theorem ua{P:Addr}{H:Hp}{o:HO}:er P (upd H P o)=er P H:=funext fun b=>by
 unfold er
 split
 ·rfl
 ·rename_i h
  exact aD h
def aG(H:Hp)(P a:Addr):Prop:=∃x y:Int,H P=some (.lst [.ref a,.int x,.int y])∧0≤x∧0≤y
theorem aG.mono{H H':Hp}{P a:Addr}(h:aG H P a)(s:ae H H'):aG H' P a:=by
 obtain ⟨x,y,e,h1,h2⟩:=h
 exact ⟨x,y,s _ _ e,h1,h2⟩
theorem aG.upd{H:Hp}{P a D:Addr}{o:HO}(h:aG H P a)(n:D≠P):aG (L2.upd H D o) P a:=by
 obtain ⟨x,y,e,h1,h2⟩:=h
 exact ⟨x,y,by rw [aD n.symm];exact e,h1,h2⟩
theorem aG.ne{H:Hp}{P a D:Addr}(h:aG H P a)(n:H D=none):D≠P:=fun z=>by
 obtain ⟨x,y,e,_⟩:=h
 rw [z,e] at n
 cases n
def ao(P:Addr)(H H':Hp):Prop:=ae (er P H) (er P H')
theorem ao.refl{P:Addr}(H:Hp):ao P H H:=ae.refl _
theorem ao.trans{P:Addr}{H H' H2:Hp}(s:ao P H H')(t:ao P H' H2):ao P H H2:=ae.trans s t
theorem ao.of{P:Addr}{H H':Hp}(s:ae H H'):ao P H H':=jV s
theorem ao.d7{P:Addr}{H:Hp}{o:HO}:ao P H (upd H P o):=by
 unfold ao
 rw [ua]
 exact ae.refl _
theorem ao.but{P D:Addr}{H H':Hp}{o:HO}(s:ao P H H')(n:H D=none):ao P H (upd H' D o):=fun b u e=>by
 have e0:=s b u e
 have nb:b≠P:=fun z=>by unfold er at e;rw [if_pos z] at e;cases e
 rw [bH nb] at e e0 ⊢
 rw [aD (bL e n)]
 exact e0
theorem ao.at{P b:Addr}{H H':Hp}{o:HO}(s:ao P H H')(nb:b≠P)(e:H b=some o):H' b=some o:=by
 have z:=s b o (jU nb e)
 rw [bH nb] at z
 exact z
def bR(B:Nat)(H:Hp)(q:Int)(a:Addr)(ps:List (Int×Int)):Prop:=∃vs:List V,H a=some (.lst vs)∧vs.length=ps.length∧∀(i:Nat) (v:V) (p:Int×Int),vs[i]?=some v→ps[i]?=some p→aM B H q v p.1 p.2
theorem bR.mono{B:Nat}{H H':Hp}{q:Int}{a:Addr}{ps:List (Int×Int)}(h:bR B H q a ps)(s:ae H H'):bR B H' q a ps:=by
 obtain ⟨vs,e,l,k⟩:=h
 exact ⟨vs,s _ _ e,l,fun i v p h1 h2=>(k i v p h1 h2).mono s⟩
theorem Bo{K:PySem.W.Frag}{B B':Nat}{H:Hp}{q:Int}(hq:bV q){a b:Addr}{ps:List (Int×Int)}(h1:bR B H q a ps)(h2:bR B' H q b ps)(n:Nat):jT K H (n+2) (.ref a) (.ref b):=by
 obtain ⟨vs,e1,l1,f1⟩:=h1
 obtain ⟨us,e2,l2,f2⟩:=h2
 refine .inr ⟨a,b,vs,us,rfl,rfl,.inl ⟨.of e1,.of e2⟩,by omega,fun j x y hx hy=>?_⟩
 have hj:j<ps.length:=by rw [←l1];exact (List.getElem?_eq_some_iff.mp hx).1
 exact Bl ((f1 j x ps[j] hx (by simp [hj])).tW hq) ((f2 j y ps[j] hy (by simp [hj])).tW hq) rfl n
end My
namespace L2
open PySem PySem.Spec PyProof.Rows
end L2
namespace My
open PySem L2
def dM(q:Int):Td:=if q=0 then .a "fractions" else .b "wheel" q
theorem Bp{q:Int}(hq:bV q):(dM q).good=true:=by
 unfold dM
 rcases hq with rfl | ⟨h1,h2,h3⟩
 ·rw [if_pos rfl];simp [Td.good,Td.jM]
 ·rw [if_neg (by omega)];simp [Td.good,Td.jM,Td.dh,h1,h2,h3]
theorem oI:dM 0=.a "fractions":=if_pos rfl
theorem oJ{q:Int}(h:q≠0):dM q=.b "wheel" q:=if_neg h
def dk(H:Hp)(td:Addr)(q:Int):Prop:=H td=some (.tup (dM q).vs)
theorem dk.mono{H H':Hp}{td:Addr}{q:Int}(h:dk H td q)(s:ae H H'):dk H' td q:=s _ _ h
def Bq:Sp:=fun vs H Q _=>∃c a:Int,vs=[.int c,.int a]∧0≤a∧∀r:Int,0≤r→Q (.int r) H
def Br(K:PySem.W.Frag):Sp:=fun vs H Q _=>∃(P a:Addr) (ns:List Int) (many:Int),vs=[.ref P,.int many]∧aG H P a∧aH K (er P H) a (ns.map V.int)∧1≤many∧aS many∧∀(r:Int) (H':Hp),0≤r→r<many→ao P H H'→aG H' P a→Q (.int r) H'
theorem aM.er{B:Nat}{H H':Hp}{q:Int}{v:V}{x m:Int}{P a:Addr}(h:aM B H q v x m)(p:aG H P a):aM B (er P H) q v x m:=by
 cases h with
 | br e l bx bm=>
  refine .br (jU (fun z=>?_) e) l bx bm
  obtain ⟨x,y,e',_⟩:=p
  rw [z,e'] at e
  cases e
 | rem h0 h1 h2=>exact .rem h0 h1 h2
theorem aM.lB{B:Nat}{H H':Hp}{q:Int}{v:V}{x m:Int}{P D:Addr}{ys:List V}(h:aM B (My.er P H) q v x m)(eD:H D=some (.lst ys))(k:∀b o,b≠D→b≠P→H b=some o→H' b=some o):aM B (My.er P H') q v x m:=by
 cases h with
 | br e l bx bm=>
  rename_i r
  have nP:r≠P:=fun z=>by unfold My.er at e;rw [if_pos z] at e;cases e
  rw [bH nP] at e
  refine .br (jU nP (k _ _ (fun z=>?_) nP e)) l bx bm
  rw [z,eD] at e
  cases e
 | rem h0 h1 h2=>exact .rem h0 h1 h2
theorem bR.cat{B:Nat}{H:Hp}{q:Int}{r:Addr}{vs us:List V}{ps rs:List (Int×Int)}(e:H r=some (.lst (vs++us)))(l1:vs.length=ps.length)(l2:us.length=rs.length)(f1:∀(i:Nat) (v:V) (p:Int×Int),vs[i]?=some v→ps[i]?=some p→aM B H q v p.1 p.2)(f2:∀(i:Nat) (v:V) (p:Int×Int),us[i]?=some v→rs[i]?=some p→aM B H q v p.1 p.2):bR B H q r (ps++rs):=by
 refine ⟨vs++us,e,by simp [l1,l2],fun i v p h1 h2=>?_⟩
 by_cases hi:i<vs.length
 ·rw [List.getElem?_append_left hi] at h1
  rw [List.getElem?_append_left (by omega)] at h2
  exact f1 i v p h1 h2
 ·rw [List.getElem?_append_right (by omega)] at h1
  rw [List.getElem?_append_right (by omega),←l1] at h2
  exact f2 _ v p h1 h2
end My
namespace L2
open PySem PySem.Spec PyProof.Rows
end L2
namespace My
open PySem L2
end My
namespace L2
open PySem PySem.Spec PyProof.Rows
section
variable {X:Cx}
end
end L2
namespace My
open PySem L2
end My
namespace L2
open PySem PySem.Spec PyProof.Rows
section
variable {X:Cx} {tg:Expr}
end
end L2
namespace My
open PySem L2
theorem oK{wi:TI}{ρ:St→St}{te:TE}{σ:St}{H:Hp}{Q:VK}{xs:List V}{n:Nat}(hl:xs.length=n)(eS:∀R:It→Hp→Prop,(∀J H1,ae H H1→gq J xs H1→R J H1)→wi σ H R)(hn:n<sizeLine)
  (P:Addr→Nat→Addr→Hp→Prop) (mono:∀D i y H H' ys,P D i y H→y≠D→H D=some (.lst ys)→(∀b o,b≠D→H b=some o→H' b=some o)→P D i y H')
  (step:∀D (i:Nat) (x:V),xs[i]?=some x→∀(Hc:Hp) (R:VK),ae H Hc→(∃ys,Hc D=some (.lst ys))→(∀y H3,ae Hc H3→Hc y=none→(∃o,H3 y=some o)→P D i y H3→R (.ref y) H3)→te (some x::ρ σ) Hc R)
  (fin:∀D (A:Nat→Addr) Hc,H D=none→ae H Hc→(∀i j,i<n→j<n→A i=A j→i=j)→(∀i,i<n→P D i (A i) Hc∧A i≠D)→Hc D=some (.lst ((List.range n).map fun i=>V.ref (A i)))→Q (.ref D) Hc):fm wi ρ (fun _ H Q=>Q true H) te σ H Q:=by
 refine eS _ fun J H1 s1 js=>?_
 intro D nD
 have hD:H D=none:=by
  cases e:H D with
  | none=>rfl
  | some o=>rw [s1 _ _ e] at nD;cases nD
 refine ⟨fun i m ys Hc=>m=n-i∧i≤n∧Hc D=some (.lst ys)∧ae H1 Hc∧∃A:Nat→Addr,ys=(List.range i).map (fun j=>V.ref (A j))∧(∀a b,a<i→b<i→A a=A b→a=b)∧∀j,j<i→P D j (A j) Hc∧A j≠D∧∃o,Hc (A j)=some o,⟨_,rfl,Nat.zero_le _,ar,fA (ae.refl H1) nD,fun _=>D,rfl,(fun a b h=>by omega),fun j h=>by omega⟩,?_⟩
 rintro i m ys Hc ⟨rfl,hi,eD,sH,A,rfl,inj,hA⟩
 refine ⟨eD,?_⟩
 by_cases bj:i<n
 ·refine .inr ⟨js.go i Hc sH (by omega),fun x H' hy=>?_⟩
  obtain ⟨rfl,hx⟩:=js.cC i Hc x H' sH hy
  rw [if_pos rfl]
  refine step D i x (hx (by omega)) _ _ (s1.trans sH) ⟨_,eD⟩ fun y H3 s3 ny ⟨o,ho⟩ hp=>?_
  have e3:=s3 _ _ eD
  have yD:y≠D:=fun e=>by rw [e,eD] at ny;cases ny
  have bu:∀b o,b≠D→H3 b=some o→upd H3 D (.lst ((List.range i).map (fun j=>V.ref (A j))++[.ref y])) b=some o:=fun b o nb e=>by rw [aD nb];exact e
  have nA:∀j,j<i→A j≠y:=fun j hj e=>by
   obtain ⟨_,_,o',h'⟩:=hA j hj
   rw [e,ny] at h'
   cases h'
  refine ⟨e3,by simp;omega,n-(i+1),by omega,rfl,bj,ar,fA (sH.trans s3) nD,fun j=>if j=i then y else A j,?_,fun a b ha hb e=>?_,fun j hj=>?_⟩
  ·rw [List.range_succ,List.map_append]
   congr 1
   ·refine List.map_congr_left fun j hj=>?_
    dsimp only
    rw [if_neg (by have:=List.mem_range.mp hj;omega)]
   ·simp
  ·dsimp only at e
   by_cases z1:a=i
   ·by_cases z2:b=i
    ·omega
    ·rw [if_pos z1,if_neg z2] at e
     exact absurd e.symm (nA b (by omega))
   ·by_cases z2:b=i
    ·rw [if_neg z1,if_pos z2] at e
     exact absurd e (nA a (by omega))
    ·rw [if_neg z1,if_neg z2] at e
     exact inj a b (by omega) (by omega) e
  ·dsimp only
   by_cases z:j=i
   ·rw [if_pos z,z]
    exact ⟨mono D i y H3 _ _ hp yD e3 bu,yD,o,bu _ _ yD ho⟩
   ·rw [if_neg z]
    obtain ⟨h1,h2,o',h3⟩:=hA j (by omega)
    exact ⟨mono D j (A j) H' _ _ h1 h2 eD (fun b o nb e=>bu b o nb (s3 _ _ e)),h2,o',bu _ _ h2 (s3 _ _ h3)⟩
 ·have e:i=n:=by omega
  subst e
  exact .inl ⟨js.stop _ Hc sH (by omega),fin D A Hc hD (s1.trans sH) inj (fun j hj=>⟨(hA j hj).1,(hA j hj).2.1⟩) eD⟩
end My
namespace L2
open PySem PySem.Spec PyProof.Rows
end L2
namespace My
open PySem L2
def b6(B:Nat)(H:Hp)(q:Int)(a:Addr)(ak:List (List (Int×Int))):Prop:=∃vs:List V,H a=some (.lst vs)∧vs.length=ak.length∧∀(i:Nat) (v:V) (ps:List (Int×Int)),vs[i]?=some v→ak[i]?=some ps→∃r:Addr,v=.ref r∧bR B H q r ps
theorem b6.mono{B:Nat}{H H':Hp}{q:Int}{a:Addr}{ak:List (List (Int×Int))}(h:b6 B H q a ak)(s:ae H H'):b6 B H' q a ak:=by
 obtain ⟨vs,e,l,k⟩:=h
 exact ⟨vs,s _ _ e,l,fun i v ps h1 h2=>by
  obtain ⟨r,e1,e2⟩:=k i v ps h1 h2
  exact ⟨r,e1,e2.mono s⟩⟩
def Bs(N:Addr):Sp:=fun vs H Q E=>∃(a:Addr) (q:Int) (B:Nat) (ak:List (List (Int×Int))) (m:Nat),vs=[.ref a]∧b6 B H q a ak∧1≤ak.length∧ak.length≤40∧(∀ps∈ak,ps.length=m)∧∀H',ae H H'→Q (.int (m:Int)) H'
def Bt(N:Addr):Sp:=fun vs H Q E=>∃(a:Addr) (q:Int) (B:Nat) (ak:List (List (Int×Int))) (m:Nat),vs=[.ref a]∧b6 B H q a ak∧1≤ak.length∧ak.length≤40∧(∀ps∈ak,ps.length=m)∧(m≠ak.length→∀H',ae H H'→E (.ref N) none H')∧(m=ak.length→∀H',ae H H'→Q (.int (m:Int)) H')
end My
namespace L2
open PySem PySem.Spec PyProof.Rows
end L2
namespace My
open PySem L2
end My
namespace L2
open PySem PySem.Spec PyProof.Rows
section
variable {X:Cx}
end
end L2
namespace My
open PySem L2
end My
namespace L2
open PySem PySem.Spec PyProof.Rows
end L2
namespace My
open PySem L2
theorem Bu{K:PySem.W.Frag}{B B':Nat}{H:Hp}{q:Int}(hq:bV q){a b:Addr}{ak:List (List (Int×Int))}{R:VK}{r:Bool}(h1:b6 B H q a ak)(h2:b6 B' H q b ak)(k:R (.bl r) H):oH K 2 r (.ref a) (.ref b) H R:=by
 obtain ⟨vs,e1,l1,f1⟩:=h1
 obtain ⟨us,e2,l2,f2⟩:=h2
 refine ⟨a,b,vs,us,rfl,rfl,.of e1,.of e2,by omega,fun j x y hx hy=>?_,k⟩
 have hj:j<ak.length:=by rw [←l1];exact (List.getElem?_eq_some_iff.mp hx).1
 obtain ⟨r1,rfl,g1⟩:=f1 j x ak[j] hx (by simp [hj])
 obtain ⟨r2,rfl,g2⟩:=f2 j y ak[j] hy (by simp [hj])
 exact Bo hq g1 g2 0
end My
namespace L2
open PySem PySem.Spec PyProof.Rows
section
variable {X:Cx} {N:List Str} {scope:Scope} {cl:List (Str×Addr)} {x y:Str} {px py pos tp:Pos} {A8:Nat} {iter elt:Expr} {ifs:List Expr} {wi:TI} {ρ:St→St} {tt:TT} {te:TE}
end
inductive Tr where
 | fl (v:V)
 | ls (xs:List Tr)
 | tp (xs:List Tr)
 | dc
inductive dN (H:Hp):Tr→V→Prop where
 | fl {v:V} (h:cZ v=true):dN H (.fl v) v
 | ls {a:Addr} {vs:List V} {ts:List Tr} (e:H a=some (.lst vs)) (l:vs.length=ts.length) (h:∀(i:Nat) (v:V) (t:Tr),vs[i]?=some v→ts[i]?=some t→dN H t v):dN H (.ls ts) (.ref a)
 | tp {a:Addr} {vs:List V} {ts:List Tr} (e:H a=some (.tup vs)) (l:vs.length=ts.length) (h:∀(i:Nat) (v:V) (t:Tr),vs[i]?=some v→ts[i]?=some t→dN H t v):dN H (.tp ts) (.ref a)
 | dc {a:Addr} (e:H a=some (n_ a)):dN H .dc (.ref a)
def Tr.In:Nat→Tr→Prop
 | _,.fl _=>True
 | _,.dc=>True
 | 0,.ls _=>False
 | 0,.tp _=>False
 | n+1,.ls ts=>∀t∈ts,t.In n
 | n+1,.tp ts=>∀t∈ts,t.In n
section
variable {X:Cx} {pins:List (Addr×Obj)} {σ:St} {H:Hp} {s:Shared}
theorem ub{A:Around}{a b:Addr}(ha:cG a s.heap)(hb:cG b s.heap)(hu:A.units<cLine):SeqAt.RcAt A s (.ref a) (.ref b) true:=fun prog w E Q h=>by
 obtain ⟨o,ep,e,c,d,z⟩:=ha
 obtain ⟨o',fL,e',c',d',z'⟩:=hb
 exact PySem.W.keq_eq (knd:=ki prog w) (ka:=[]) (kb:=[]) z z' ⟨o,#[],ep,e,c,d,fun _ h=>by simp at h,.nil,List.nodup_nil⟩ ⟨o',#[],fL,e',c',d',fun _ h=>by simp at h,.nil,List.nodup_nil⟩ hu (fun _=>.nil) h
theorem Bv{A:Around}{a b:Addr}(ha:cG a s.heap)(hb:cG b s.heap)(hu:A.units<cLine):SeqAt.RcNeAt A s (.ref a) (.ref b) false:=fun prog w E Q h=>by
 obtain ⟨o,ep,e,c,d,z⟩:=ha
 obtain ⟨o',fL,e',c',d',z'⟩:=hb
 exact PySem.W.keq_ne (knd:=ki prog w) (ka:=[]) (kb:=[]) z z' ⟨o,#[],ep,e,c,d,fun _ h=>by simp at h,.nil,List.nodup_nil⟩ ⟨o',#[],fL,e',c',d',fun _ h=>by simp at h,.nil,List.nodup_nil⟩ hu (fun _=>.nil) h
theorem lC{xs ys:List V}{us vs:List Value}(r1:Vals xs us)(r2:Vals ys vs){j:Nat}(h1:j<us.length)(h2:j<vs.length):∃x y,xs[j]?=some x∧ys[j]?=some y∧RelV x us.toArray[j]∧RelV y vs.toArray[j]:=by
 have l1:=r1.length
 have l2:=r2.length
 obtain ⟨x,ex⟩:∃x,xs[j]?=some x:=⟨xs[j],by simp [show j<xs.length by omega]⟩
 obtain ⟨y,ey⟩:∃y,ys[j]?=some y:=⟨ys[j],by simp [show j<ys.length by omega]⟩
 obtain ⟨x',dS,rx⟩:=r1.get ex
 obtain ⟨y',eT,ry⟩:=r2.get ey
 have e1:us.toArray[j]=x':=by simpa using (List.getElem?_eq_some_iff.mp dS).2
 have e2:vs.toArray[j]=y':=by simpa using (List.getElem?_eq_some_iff.mp eT).2
 exact ⟨x,y,ex,ey,by rw [e1];exact rx,by rw [e2];exact ry⟩
theorem uc(I:Inv X pins σ H s):∀(n:Nat) (A:Around) (t:Tr) (v u:V) (a b:Value),t.In n→dN H t v→dN H t u→RelV v a→RelV u b→A.units+n<cLine→SeqAt.EqAt A s a b true:=by
 intro n
 induction n with
 | zero=>
  intro A t v u a b hn h1 h2 ra rb hu
  cases h1 with
  | fl h=>
   cases h2 with
   | fl _=>
    have z:=jG (A:=A) (s:=s) ra rb h h
    rw [lq h] at z
    exact z
  | ls e l h=>exact hn.elim
  | tp e l h=>exact hn.elim
  | @dc p e=>
   cases h2 with
   | @dc p' e'=>
    cases ra
    cases rb
    by_cases pq:p=p'
    ·subst pq;exact SeqAt.EqAt.same _
    ·exact SeqAt.EqAt.of_refs pq (ub (show aQ X.prog X.w H s.heap p (.ext (cG p)) from I.aq p _ e).1 (show aQ X.prog X.w H s.heap p' (.ext (cG p')) from I.aq p' _ e').1 hu)
 | succ n ih=>
  intro A t v u a b hn h1 h2 ra rb hu
  cases h1 with
  | fl h=>
   cases h2 with
   | fl _=>
    have z:=jG (A:=A) (s:=s) ra rb h h
    rw [lq h] at z
    exact z
  | @dc p e=>
   cases h2 with
   | @dc p' e'=>
    cases ra
    cases rb
    by_cases pq:p=p'
    ·subst pq;exact SeqAt.EqAt.same _
    ·exact SeqAt.EqAt.of_refs pq (ub (show aQ X.prog X.w H s.heap p (.ext (cG p)) from I.aq p _ e).1 (show aQ X.prog X.w H s.heap p' (.ext (cG p')) from I.aq p' _ e').1 (by omega))
  | @ls p xs ts e l h=>
   cases h2 with
   | @ls p' ys _ e' l' h'=>
    cases ra
    cases rb
    by_cases pq:p=p'
    ·subst pq;exact SeqAt.EqAt.same _
    obtain ⟨us,r1,t1,_⟩:=I.list (.of e)
    obtain ⟨vs,r2,t2,_⟩:=I.list (.of e')
    have l1:=r1.length
    have l2:=r2.length
    have z:=SeqAt.RcAt.lists (A:=A) (e:=fun _=>true) t1.isList t2.isList (by simp;omega) (by omega) (fun j z1 z2=>by
     obtain ⟨x,y,ex,ey,rx,ry⟩:=lC r1 r2 (by simpa using z1) (by simpa using z2)
     have jt:j<ts.length:=by have:=(List.getElem?_eq_some_iff.mp ex).1;omega
     exact ih A.in1 ts[j] x y _ _ (hn _ (List.getElem_mem jt)) (h j x _ ex (by simp [jt])) (h' j y _ ey (by simp [jt])) rx ry (by rw [Around.in1_units];omega))
    rw [all_range] at z
    exact SeqAt.EqAt.of_refs pq z
  | @tp p xs ts e l h=>
   cases h2 with
   | @tp p' ys _ e' l' h'=>
    cases ra
    cases rb
    by_cases pq:p=p'
    ·subst pq;exact SeqAt.EqAt.same _
    obtain ⟨us,r1,t1,_⟩:=I.tuple (.of e)
    obtain ⟨vs,r2,t2,_⟩:=I.tuple (.of e')
    have l1:=r1.length
    have l2:=r2.length
    have z:=SeqAt.RcAt.tuples (A:=A) (e:=fun _=>true) t1 t2 (by omega) (fun j z1 z2=>by
     obtain ⟨x,y,ex,ey,rx,ry⟩:=lC r1 r2 (by simpa using z1) (by simpa using z2)
     have jt:j<ts.length:=by have:=(List.getElem?_eq_some_iff.mp ex).1;omega
     exact ih A.in1 ts[j] x y _ _ (hn _ (List.getElem_mem jt)) (h j x _ ex (by simp [jt])) (h' j y _ ey (by simp [jt])) rx ry (by rw [Around.in1_units];omega))
    have e3:(us.toArray.size == vs.toArray.size)=true:=by simp;omega
    rw [all_range,e3] at z
    exact SeqAt.EqAt.of_refs pq z
end
def Bw(n:Nat):R2:=fun x y H Q=>∃t:Tr,t.In n∧dN H t x∧dN H t y∧Q (.bl false) H
theorem Bx{v:V}(h:cZ v=true):nq v v=true:=by cases v <;> first | rfl | cases h
theorem By{X:Cx}{n:Nat}(hu:X.A.units+64<cLine)(hn:n<60:=by decide):aY X (compareOp .NotEq) (Bw n):=by
 intro pins s σ H x y v u Q I rx ry h
 obtain ⟨t,lE,h1,h2,q⟩:=h
 cases h1 with
 | fl h=>
  cases h2 with
  | fl _=>
   refine h8 pins s σ H x x v u Q I rx ry ⟨Bx h,?_⟩
   rw [decide_eq_true rfl]
   exact q
 | @dc p e=>
  cases h2 with
  | @dc p' e'=>
   cases rx
   cases ry
   exact (Bv (show aQ X.prog X.w H s.heap p (.ext (cG p)) from I.aq p _ e).1 (show aQ X.prog X.w H s.heap p' (.ext (cG p')) from I.aq p' _ e').1 (by omega)) _ _ _ _ ⟨.bl false,H,I,rfl,q⟩
 | @ls p xs ts e l h=>
  cases h2 with
  | @ls p' ys _ e' l' h'=>
   cases rx
   cases ry
   cases n with
   | zero=>exact lE.elim
   | succ n=>
    obtain ⟨us,r1,t1,_⟩:=I.list (.of e)
    obtain ⟨vs,r2,t2,_⟩:=I.list (.of e')
    have l1:=r1.length
    have l2:=r2.length
    refine SeqAt.RcNeAt.lists (e:=fun _=>true) t1.isList t2.isList (by simp;omega) (by omega) (fun j z1 z2=>?_) _ _ _ _ ?_
    ·obtain ⟨x,y,ex,ey,rx,ry⟩:=lC r1 r2 (by simpa using z1) (by simpa using z2)
     have jt:j<ts.length:=by have:=(List.getElem?_eq_some_iff.mp ex).1;omega
     exact uc I n X.A.in1 ts[j] x y _ _ (lE _ (List.getElem_mem jt)) (h j x _ ex (by simp [jt])) (h' j y _ ey (by simp [jt])) rx ry (by rw [Around.in1_units];omega)
    ·rw [all_range]
     exact ⟨.bl false,H,I,rfl,q⟩
 | @tp p xs ts e l h=>
  cases h2 with
  | @tp p' ys _ e' l' h'=>
   cases rx
   cases ry
   cases n with
   | zero=>exact lE.elim
   | succ n=>
    obtain ⟨us,r1,t1,_⟩:=I.tuple (.of e)
    obtain ⟨vs,r2,t2,_⟩:=I.tuple (.of e')
    have l1:=r1.length
    have l2:=r2.length
    refine SeqAt.RcNeAt.tuples (e:=fun _=>true) t1 t2 (by omega) (fun j z1 z2=>?_) _ _ _ _ ?_
    ·obtain ⟨x,y,ex,ey,rx,ry⟩:=lC r1 r2 (by simpa using z1) (by simpa using z2)
     have jt:j<ts.length:=by have:=(List.getElem?_eq_some_iff.mp ex).1;omega
     exact uc I n X.A.in1 ts[j] x y _ _ (lE _ (List.getElem_mem jt)) (h j x _ ex (by simp [jt])) (h' j y _ ey (by simp [jt])) rx ry (by rw [Around.in1_units];omega)
    ·have e3:(us.toArray.size == vs.toArray.size)=true:=by simp;omega
     rw [all_range,e3]
     exact ⟨.bl false,H,I,rfl,q⟩
end L2
namespace My
open PySem PySem.W PyProof.Rows
def KH{α:Type}(n:Nat)(c:Nat→Int):KasT α→(α→Prop)→Prop
 | .ret a,Q=>Q a
 | .ask i j k,Q=>i<n∧j<n∧KH n c (k (decide (c i<c j))) Q
section
variable {n:Nat} {c:Nat→Int}
theorem KH.bind{α β:Type}{f:α→KasT β}{Q:β→Prop}:∀(t:KasT α),KH n c t (fun a=>KH n c (f a) Q)→KH n c (t.bind f) Q
 | .ret _,h=>h
 | .ask _ _ k,h=>⟨h.1,h.2.1,KH.bind (k _) h.2.2⟩
theorem KH.wp{α:Type}{cmp:Nat→Nat→(Bool→Shared→Prop)→Shared→Prop}{s:Shared}(hc:∀i j (C:Bool→Shared→Prop),i<n→j<n→C (decide (c i<c j)) s→cmp i j C s){Q:α→Shared→Prop}:∀(t:KasT α),KH n c t (fun a=>Q a s)→t.kasWp cmp Q s
 | .ret _,h=>h
 | .ask i j k,h=>hc i j _ h.1 h.2.1 (KH.wp hc (k _) h.2.2)
def a8(n:Nat)(p:Array Nat):Prop:=p.Perm (List.toArray (List.range n))
theorem a8.size{p:Array Nat}(h:a8 n p):p.size=n:=by
 rw [Array.Perm.size_eq h]
 simp
theorem a8.lt{p:Array Nat}(h:a8 n p){i:Nat}(hn:0<n):p.getD i 0<n:=by
 by_cases z:i<p.size
 ·have e:p.getD i 0=p[i]:=by simp [Array.getD,z]
  rw [e]
  have m:p[i]∈(List.toArray (List.range n)):=(Array.Perm.mem_iff h).mp (Array.getElem_mem z)
  simpa using m
 ·have e:p.getD i 0=0:=by simp [Array.getD,z]
  omega
def vN(c:Nat→Int)(p:Array Nat)(i:Nat):Int:=c (p.getD i 0)
theorem jW(p:Array Nat)(i:Nat):p.getD i 0=p[i]?.getD 0:=by
 by_cases z:i<p.size <;> simp [Array.getD,z]
theorem oM{p:Array Nat}{i j:Nat}(hj:j≤p.size)(k:Nat):vN c (kas_rev p i j) k=if i≤k∧k<j then vN c p (i+j-1-k) else vN c p k:=by
 have e:=getElem?_mirror_all (i:=i) hj k
 unfold vN kas_rev
 rw [jW,e]
 split <;> rw [jW]
theorem a8.rev{p:Array Nat}(h:a8 n p)(i j:Nat):a8 n (kas_rev p i j):=Array.Perm.trans (mirror_perm p i j _) h
theorem a8.Bz{p:Array Nat}(h:a8 n p)(k d:Nat):a8 n (bubble p k d):=Array.Perm.trans (bubble_perm p k d) h
def bw(c:Nat→Int)(p:Array Nat)(k:Nat):Prop:=∀a b,a≤b→b<k→vN c p a≤vN c p b
def d8(c:Nat→Int)(p:Array Nat)(k:Nat):Prop:=∀a b,a≤b→b<k→vN c p b≤vN c p a
theorem bw.one(p:Array Nat):bw c p 1:=fun a b h1 h2=>by
 obtain rfl:a=b:=by omega
 exact Int.le_refl _
theorem bw.more{p:Array Nat}{k:Nat}(h:bw c p k)(hk:vN c p (k-1)≤vN c p k)(k1:1≤k):bw c p (k+1):=fun a b h1 h2=>by
 by_cases z:b<k
 ·exact h a b h1 z
 ·obtain rfl:b=k:=by omega
  by_cases y:a=b
  ·rw [y];exact Int.le_refl _
  ·exact Int.le_trans (h a (b-1) (by omega) (by omega)) hk
theorem d8.more{p:Array Nat}{k:Nat}(h:d8 c p k)(hk:vN c p k≤vN c p (k-1))(k1:1≤k):d8 c p (k+1):=fun a b h1 h2=>by
 by_cases z:b<k
 ·exact h a b h1 z
 ·obtain rfl:b=k:=by omega
  by_cases y:a=b
  ·rw [y];exact Int.le_refl _
  ·exact Int.le_trans hk (h a (b-1) (by omega) (by omega))
theorem oN{p:Array Nat}(P:a8 n p)(n0:0<n){Q:Nat→Prop}:∀(f m:Nat),1≤m→bw c p m→(∀k,m≤k→k≤m+f→bw c p k→(k<m+f→vN c p k<vN c p (k-1))→Q k)→KH n c (kas_asc p f m) Q
 | 0,m,_,hu,k=>k m (Nat.le_refl _) (Nat.le_refl _) hu fun z=>absurd z (Nat.lt_irrefl _)
 | f+1,m,m1,hu,k=>by
  refine ⟨P.lt n0,P.lt n0,?_⟩
  by_cases z:c (p.getD m 0)<c (p.getD (m-1) 0)
  ·rw [decide_eq_true z]
   dsimp only
   rw [if_pos rfl]
   exact k m (Nat.le_refl _) (by omega) hu fun _=>z
  ·rw [decide_eq_false z]
   dsimp only
   rw [if_neg (by simp)]
   refine oN P n0 f (m+1) (by omega) (hu.more (Int.not_lt.mp z) m1) fun j h1 h2 h3 h4=>k j (by omega) (by omega) h3 fun z=>h4 (by omega)
def jX(c:Nat→Int)(p:Array Nat)(a b:Nat):Prop:=∀i,a≤i→i<b→vN c p i=vN c p a
theorem oO{p:Array Nat}{i j:Nat}(hj:j≤p.size)(h:jX c p i j)(k:Nat):vN c (kas_rev p i j) k=vN c p k:=by
 rw [oM hj]
 split
 ·rw [h _ (by omega) (by omega),h k (by omega) (by omega)]
 ·rfl
theorem lF(n0:0<n){Q:Array Nat×Nat×Nat→Prop}:∀(f:Nat) (p:Array Nat) (m q:Nat),a8 n p→1≤m→m+f≤n→q+1≤m→d8 c p m→jX c p (m-(q+1)) m→(∀p' k q',a8 n p'→m≤k→k≤m+f→q'+1≤k→d8 c p' k→jX c p' (k-(q'+1)) k→Q (p',k,q'))→KH n c (kas_desc f p m q) Q
 | 0,p,m,q,P,_,_,hq,hd,he,k=>k p m q P (Nat.le_refl _) (Nat.le_refl _) hq hd he
 | f+1,p,m,q,P,m1,hm,hq,hd,he,k=>by
  refine ⟨P.lt n0,P.lt n0,?_⟩
  have sz:=P.size
  have one:∀(p:Array Nat),jX c p (m+1-(0+1)) (m+1):=fun p i h1 h2=>by
   obtain rfl:i=m+1-(0+1):=by omega
   rfl
  by_cases z:c (p.getD m 0)<c (p.getD (m-1) 0)
  ·rw [decide_eq_true z]
   dsimp only
   rw [if_pos rfl]
   split
   ·rename_i q0
    have same:=oO (c:=c) (p:=p) (i:=m-(q+1)) (j:=m) (by omega) he
    refine lF n0 f _ (m+1) 0 (P.rev _ _) (by omega) (by omega) (by omega) ?_ (one _) fun p' j q' a1 a2 a3 a4 a5 a6=>k p' j q' a1 (by omega) (by omega) a4 a5 a6
    refine d8.more (fun a b h1 h2=>?_) ?_ m1
    ·rw [same,same]
     exact hd a b h1 h2
    ·rw [same,same]
     exact Int.le_of_lt z
   ·exact lF n0 f p (m+1) 0 P (by omega) (by omega) (by omega) (hd.more (Int.le_of_lt z) m1) (one _) fun p' j q' a1 a2 a3 a4 a5 a6=>k p' j q' a1 (by omega) (by omega) a4 a5 a6
  ·rw [decide_eq_false z]
   dsimp only
   rw [if_neg (by simp)]
   refine ⟨P.lt n0,P.lt n0,?_⟩
   by_cases y:c (p.getD (m-1) 0)<c (p.getD m 0)
   ·rw [decide_eq_true y]
    dsimp only
    rw [if_pos rfl]
    exact k p m q P (Nat.le_refl _) (by omega) hq hd he
   ·rw [decide_eq_false y]
    dsimp only
    rw [if_neg (by simp)]
    have e:vN c p m=vN c p (m-1):=Int.le_antisymm (Int.not_lt.mp y) (Int.not_lt.mp z)
    refine lF n0 f p (m+1) (q+1) P (by omega) (by omega) (by omega) (hd.more (Int.le_of_eq e) m1) (fun i h1 h2=>?_) fun p' j q' a1 a2 a3 a4 a5 a6=>k p' j q' a1 (by omega) (by omega) a4 a5 a6
    rw [show m+1-(q+1+1)=m-(q+1) by omega] at h1 ⊢
    by_cases x:i<m
    ·exact he i h1 x
    ·rw [show i=m by omega,e]
     exact he (m-1) (by omega) (by omega)
theorem ud{p:Array Nat}{m:Nat}(P:a8 n p)(n0:0<n)(m1:1≤m)(hm:m≤n)(hd:d8 c p m){Q:Nat×Array Nat→Prop}(k:∀j p',a8 n p'→m≤j→j≤n→bw c p' j→Q (j,p')):KH n c (kas_tail3 m n p) Q:=by
 have sz:=P.size
 have P':=P.rev 0 m
 refine KH.bind _ (oN P' n0 (n-m) m m1 (fun a b h1 h2=>?_) fun j h1 h2 h3 _=>k j _ P' h1 (by omega) h3)
 rw [oM (by omega),oM (by omega),if_pos (by omega),if_pos (by omega)]
 exact hd _ _ (by omega) (by omega)
theorem ue{p:Array Nat}{m:Nat}(P:a8 n p)(n0:0<n)(m1:1≤m)(hm:m+1≤n)(hd:d8 c p (m+1)){Q:Nat×Array Nat→Prop}(k:∀j p',a8 n p'→m≤j→j≤n→bw c p' j→Q (j,p')):KH n c (kas_descPart m n p) Q:=by
 refine KH.bind _ (lF n0 (n-(m+1)) p (m+1) 0 P (by omega) (by omega) (by omega) hd (fun i h1 h2=>by
  obtain rfl:i=m+1-(0+1):=by omega
  rfl) fun p' j q' P' h1 h2 h3 h4 h5=>?_)
 have sz:=P'.size
 dsimp only
 split
 ·have same:=oO (c:=c) (p:=p') (i:=j-(q'+1)) (j:=j) (by omega) h5
  exact ud (P'.rev _ _) n0 (by omega) (by omega) (fun a b y1 y2=>by rw [same,same];exact h4 a b y1 y2) fun i x a1 a2 a3 a4=>k i x a1 (by omega) a3 a4
 ·exact ud P' n0 (by omega) (by omega) h4 fun i x a1 a2 a3 a4=>k i x a1 (by omega) a3 a4
theorem BA{p:Array Nat}(P:a8 n p)(n0:0<n){Q:Nat×Array Nat→Prop}(k:∀j p',a8 n p'→1≤j→j≤n→bw c p' j→Q (j,p')):KH n c (kas_count n p) Q:=by
 have sz:=P.size
 refine KH.bind _ (oN P n0 (n-1) 1 (Nat.le_refl 1) (bw.one p) fun j h1 h2 h3 h4=>?_)
 split
 ·exact k j p P h1 (by omega) h3
 ·rename_i z
  have jn:j<n:=by
   have:j≠n:=fun e=>z (by rw [e];simp)
   omega
  have lt:=h4 (by omega)
  split
  ·rename_i j1
   refine ⟨P.lt n0,P.lt n0,?_⟩
   by_cases y:c (p.getD 0 0)<c (p.getD (j-1) 0)
   ·rw [decide_eq_true y]
    dsimp only
    rw [if_pos rfl]
    exact k j p P h1 (by omega) h3
   ·rw [decide_eq_false y]
    dsimp only
    rw [if_neg (by simp)]
    have eq:jX c p 0 j:=fun i a1 a2=>Int.le_antisymm (Int.le_trans (h3 i (j-1) (by omega) (by omega)) (Int.not_lt.mp y)) (h3 0 i (by omega) a2)
    have same:=oO (c:=c) (p:=p) (i:=0) (j:=j) (by omega) eq
    refine ue (P.rev 0 j) n0 h1 (by omega) ?_ fun i x a1 a2 a3 a4=>k i x a1 (by omega) a3 a4
    refine d8.more (fun a b a1 a2=>?_) (by rw [same,same];exact Int.le_of_lt lt) h1
    rw [same,same,eq a (by omega) (by omega),eq b (by omega) a2]
    exact Int.le_refl _
  ·refine ue P n0 h1 (by omega) ?_ fun i x a1 a2 a3 a4=>k i x a1 (by omega) a3 a4
   refine d8.more (fun a b a1 a2=>?_) (Int.le_of_lt lt) h1
   obtain rfl:a=b:=by omega
   exact Int.le_refl _
theorem oP{p:Array Nat}{k:Nat}(P:a8 n p)(n0:0<n){Q:Nat→Prop}(hu:bw c p k):∀(f l r:Nat),l≤r→r≤k→r-l≤f→(∀i,i<l→vN c p i≤vN c p k)→(∀i,r≤i→i<k→vN c p k≤vN c p i)→(∀l,l≤k→(∀i,i<l→vN c p i≤vN c p k)→(∀i,l≤i→i<k→vN c p k≤vN c p i)→Q l)→KH n c (kas_place p k f l r) Q
 | 0,l,r,h1,h2,h3,h4,h5,kk=>kk l (by omega) h4 fun i a1 a2=>h5 i (by omega) a2
 | f+1,l,r,h1,h2,h3,h4,h5,kk=>by
  unfold kas_place
  split
  ·exact kk l (by omega) h4 fun i a1 a2=>h5 i (by omega) a2
  ·refine ⟨P.lt n0,P.lt n0,?_⟩
   by_cases z:c (p.getD k 0)<c (p.getD ((l+r) / 2) 0)
   ·rw [decide_eq_true z]
    dsimp only
    rw [if_pos rfl]
    exact oP P n0 hu f l ((l+r) / 2) (by omega) (by omega) (by omega) h4 (fun i a1 a2=>Int.le_trans (Int.le_of_lt z) (hu _ i a1 a2)) kk
   ·rw [decide_eq_false z]
    dsimp only
    rw [if_neg (by simp)]
    exact oP P n0 hu f ((l+r) / 2+1) r (by omega) h2 (by omega) (fun i a1=>Int.le_trans (hu i ((l+r) / 2) (by omega) (by omega)) (Int.not_lt.mp z)) h5 kk
theorem uf{p:Array Nat}{k d:Nat}(hk:k<p.size)(hd:d≤k)(i:Nat):vN c (bubble p k d) i=if i=k-d then vN c p k else if k-d<i∧i≤k then vN c p (i-1) else vN c p i:=by
 have e:=getElem?_bubble hk d hd i
 unfold vN
 rw [jW,e]
 by_cases z:i=k-d
 ·rw [if_pos z,if_pos z,jW]
 ·rw [if_neg z,if_neg z]
  split <;> rw [jW]
theorem ug(n0:0<n){Q:Array Nat→Prop}:∀(f:Nat) (p:Array Nat) (k:Nat),a8 n p→k+f=n→bw c p k→(∀p',a8 n p'→bw c p' n→Q p')→KH n c (kas_bin f p k) Q
 | 0,p,k,P,e,hu,kk=>by
  obtain rfl:k=n:=by omega
  exact kk p P hu
 | f+1,p,k,P,e,hu,kk=>by
  have sz:=P.size
  refine KH.bind _ (oP P n0 hu k 0 k (Nat.zero_le _) (Nat.le_refl _) (by omega) (fun i h=>by omega) (fun i h1 h2=>by omega) fun l hl h1 h2=>?_)
  refine ug n0 f _ (k+1) (P.Bz k (k-l)) (by omega) (fun a b y1 y2=>?_) kk
  rw [uf (by omega) (by omega),uf (by omega) (by omega),show k-(k-l)=l by omega]
  by_cases a1:a=l
  ·rw [if_pos a1]
   by_cases b1:b=l
   ·rw [if_pos b1];exact Int.le_refl _
   ·rw [if_neg b1,if_pos (by omega)]
    exact h2 (b-1) (by omega) (by omega)
  ·rw [if_neg a1]
   by_cases a2:l<a∧a≤k
   ·rw [if_pos a2,if_neg (by omega),if_pos (by omega)]
    exact hu _ _ (by omega) (by omega)
   ·rw [if_neg a2]
    by_cases b1:b=l
    ·rw [if_pos b1]
     exact h1 a (by omega)
    ·rw [if_neg b1]
     split
     ·exact hu _ _ (by omega) (by omega)
     ·exact hu _ _ (by omega) (by omega)
theorem BB(n0:0<n){Q:Array Nat→Prop}(k:∀p,a8 n p→bw c p n→Q p):KH n c (kas_sort n) Q:=by
 refine KH.bind _ (BA (p:=List.toArray (List.range n)) (Array.Perm.refl _) n0 fun j p P h1 h2 h3=>?_)
 dsimp only
 split
 ·rw [show max j 1=j by omega]
  exact ug n0 _ p j P (by omega) h3 k
 ·obtain rfl:j=n:=by omega
  exact k p P h3
end
section
variable {prog:Program} {w:World} {A:Around} {E:Value→Shared→Prop} {s:Shared}
def dO(h:Heap)(v:Value)(x y:Int):Prop:=∃a o t u e,v=.ref a∧h.get? a=some o∧o.cls=.type "tuple"∧o.data=.seq #[.int x t,.int y u] e
theorem BC{v v':Value}{x y x' y':Int}(h1:dO s.heap v x y)(h2:dO s.heap v' x' y'){Q:Bool→Shared→Prop}(h:Q (decide (x<x'∨x=x'∧y<y')) s):wpAny (model prog w) A (keyLt' (tuples' true) v v') Q E s:=by
 obtain ⟨a,o,t,u,e,rfl,g,_,d⟩:=h1
 obtain ⟨a',o',t',u',e',rfl,g',_,d'⟩:=h2
 refine kat_lt g d g' d' ?_
 show KatLex prog w A true (decide (2<2)) Q [(.int x t,.int x' t'),(.int y u,.int y' u')] 0 s
 refine kat_cons (wpAny_eqBool_int ?_)
 by_cases z:x=x'
 ·subst z
  rw [show (x == x)=true by simp]
  refine kat_yes (kat_cons (wpAny_eqBool_int ?_))
  by_cases z2:y=y'
  ·subst z2
   rw [show (y == y)=true by simp]
   refine kat_yes (kat_nil ?_)
   rw [decide_eq_false (by omega)] at h
   exact h
  ·rw [show (y == y')=false by simp [z2]]
   refine kat_no ?_
   show wpAny (model prog w) A (oneLt' false (.int y u) (.int y' u')) Q _ s
   refine kat_one _ _ (lt_int ?_)
   show Q (decide (y<y')) s
   rw [show decide (y<y')=decide (x<x∨x=x∧y<y') from decide_eq_decide.mpr (by omega)]
   exact h
 ·rw [show (x == x')=false by simp [z]]
  refine kat_no ?_
  show wpAny (model prog w) A (oneLt' true (.int x t) (.int x' t')) Q _ s
  refine oneLt_int ?_
  rw [show decide (x<x')=decide (x<x'∨x=x'∧y<y') from decide_eq_decide.mpr (by omega)]
  exact h
theorem uh{h:Heap}:∀{vs:List Value},(∀v∈vs,∃x y,dO h v x y)→∃fs:List Value,KatTups h vs fs∧fs.length=vs.length∧∀f∈fs,∃n t,f=.int n t
 | [],_=>⟨[],.nil,rfl,fun f hf=>by cases hf⟩
 | v::vs,hv=>by
  obtain ⟨fs,k,l,i⟩:=uh (vs:=vs) fun v h=>hv v (List.mem_cons_of_mem _ h)
  obtain ⟨x,y,a,o,t,u,e,rfl,g,c,d⟩:=hv v List.mem_cons_self
  refine ⟨.int x t::fs,.cons g c d rfl k,by rw [List.length_cons,List.length_cons,l],fun f hf=>?_⟩
  rcases List.mem_cons.mp hf with rfl | hf
  ·exact ⟨x,t,rfl⟩
  ·exact i f hf
theorem BD{vs:List Value}{x y:Nat→Int}(h2:2≤vs.length)(ir:vs.length<64)(hv:∀i v,vs[i]?=some v→dO s.heap v (x i) (y i)∧0≤y i∧y i<1000){Q:SortSt→Shared→Prop}
  (hQ:∀(p:Array Nat) (st:SortSt),a8 vs.length p→bw (fun i=>x i*1000+y i) p vs.length→(arrOf st).map (·.2)=List.toArray (p.toList.map fun i=>vs.getD i Value.none)→failedOf st=none→Q st s) :
  wpAny (model prog w) A (sortRuns'.run (SortSt.mk' (tuples' true) (vs.toArray.zip vs.toArray) #[] 7 none)) (fun r s'=>Q r.2 s') E s:=by
 refine kat_run (G:=fun p s'=>s'=s∧a8 vs.length p∧bw (fun i=>x i*1000+y i) p vs.length) rfl h2 ir (fun p st s' _ ha hf hg=>?_) ?_
 ·obtain ⟨rfl,hp,hu⟩:=hg
  exact hQ p st hp hu (kat_snds rfl ha) hf
 ·refine KH.wp (n:=vs.length) (c:=fun i=>x i*1000+y i) (fun i j C hi hj hC=>?_) _ (BB (by omega) fun p hp hu=>⟨rfl,hp,hu⟩)
  have gi:vs[i]?=some vs[i]:=by simp [hi]
  have gj:vs[j]?=some vs[j]:=by simp [hj]
  obtain ⟨pi,y0,y1⟩:=hv i _ gi
  obtain ⟨pj,y2,y3⟩:=hv j _ gj
  unfold kas_ask
  rw [show vs.getD i Value.none=vs[i] by simp [hi],show vs.getD j Value.none=vs[j] by simp [hj]]
  refine BC pi pj ?_
  rw [show decide (x i<x j∨x i=x j∧y i<y j)=decide (x i*1000+y i<x j*1000+y j) from decide_eq_decide.mpr (by omega)]
  exact hC
theorem BE{vs:List Value}{Q:SortKind→Shared→Prop}(h1:1≤vs.length)(hv:∀v∈vs,∃x y,dO s.heap v x y)(h:Q (tuples' true) s):wpAny (model prog w) A (keyKind' vs.toArray) Q E s:=by
 obtain ⟨fs,k,l,i⟩:=uh hv
 refine kat_kind (T:=Value.type "int") k (by omega) (fun v hv=>?_) rfl h
 obtain ⟨n,t,rfl⟩:=i v hv
 exact .now
theorem dO.mono{h h':Heap}{v:Value}{x y:Int}(k:∀b o,h.get? b=some o→h'.get? b=some o)(p:dO h v x y):dO h' v x y:=by
 obtain ⟨a,o,t,u,e,rfl,g,c,d⟩:=p
 exact ⟨a,o,t,u,e,rfl,k _ _ g,c,d⟩
theorem BF{a:Addr}{vs:List Value}{n:Nat}{x y:Nat→Int}{P:PySem.Fin→Shared→Prop}(ho:s.heap.get? a=some (seqObj "list" vs.toArray n))(ir:vs.length<64)(hv:∀i v,vs[i]?=some v→dO s.heap v (x i) (y i)∧0≤y i∧y i<1000)
  (h:∀(p:Array Nat),a8 vs.length p→bw (fun i=>x i*1000+y i) p vs.length→P (.done (.ret .none)) {s with heap:=sortedHeap s.heap a vs (List.toArray (p.toList.map fun i=>vs.getD i Value.none))}) :
  wpAny (model prog w) A (Builtin.«list.sort» ⟨[.ref a],[]⟩) P E s:=by
 have sl:vs.length≤sizeLine:=by rw [sizeLine_eq];omega
 have lt:=Heap.lt_size ho
 obtain ⟨e1,g1⟩:∃e,(s.heap.update a (Obj.mapSeq fun _=>#[])).get? a=some (seqObj "list" #[] e):=⟨_,get?_update_seq ho fun _=>#[]⟩
 have z1:(s.heap.update a (Obj.mapSeq fun _=>#[])).objs.size=s.heap.objs.size:=Heap.size_update _ _ _
 have up:∀b u,b<s.heap.objs.size→(s.heap.update a (Obj.mapSeq fun _=>#[])).get? b=some u→(((s.heap.update a (Obj.mapSeq fun _=>#[])).push (seqObj "tuple" vs.toArray 0)).push (seqObj "list" #[] 0)).get? b=some u:=fun b u hb hu=>by
  rw [Heap.get?_push_ne _ _ _ (Nat.ne_of_lt (by rw [size_push',z1];exact Nat.lt_succ_of_lt hb)),Heap.get?_push_ne _ _ _ (Nat.ne_of_lt (by rw [z1];exact hb))]
  exact hu
 have g3:=up a _ lt g1
 have ui:∀i v,vs[i]?=some v→dO (((s.heap.update a (Obj.mapSeq fun _=>#[])).push (seqObj "tuple" vs.toArray 0)).push (seqObj "list" #[] 0)) v (x i) (y i)∧0≤y i∧y i<1000:=fun i v hi=>by
  obtain ⟨⟨b,o,t,u,e,rfl,g,cc,d⟩,y0⟩:=hv i v hi
  have nb:b≠a:=fun q=>by
   rw [q,ho] at g
   cases g
   exact absurd (Value.type.inj cc) (by decide)
  refine ⟨⟨b,o,t,u,e,rfl,up b o (Heap.lt_size g) ?_,cc,d⟩,y0⟩
  rw [Heap.get?_update_ne _ _ _ _ nb]
  exact g
 rw [list_sort_plain]
 refine wpAny_bind (listItems_at ho rfl (wpAny_bind (listUpdate_at ho rfl ?_ (by rw [List.size_toArray];omega) (Nat.zero_le _))))
 refine wpAny_bind (seqEpoch_at g1 rfl (wpAny_bind (wpAny_newTuple ?_ (by show vs.length≤_;omega))))
 refine wpAny_bind (wpAny_newList (wpAny_holding ?_) (Nat.zero_le _))
 show wpAny (model prog w) A _ P E {s with heap:=((s.heap.update a (Obj.mapSeq fun _=>#[])).push (seqObj "tuple" vs.toArray 0)).push (seqObj "list" #[] 0)}
 dsimp only
 have fin:∀(st:SortSt) (p:Array Nat),a8 vs.length p→bw (fun i=>x i*1000+y i) p vs.length→(arrOf st).map (·.2)=List.toArray (p.toList.map fun i=>vs.getD i Value.none)→failedOf st=none→
   wpAny (model prog w) A (do
    let touched:=(←seqEpoch a) != e1
    Builtin.List.listUpdate (.ref a) fun _=>(arrOf st).map (·.2)
    if let some e:=failedOf st then rule "list.sort.comparison-raised";throw e
    if touched then rule "list.sort.modified";raiseError "ValueError" "list modified during sort"
    ret .none) P E {s with heap:=((s.heap.update a (Obj.mapSeq fun _=>#[])).push (seqObj "tuple" vs.toArray 0)).push (seqObj "list" #[] 0)}:=fun st p hp hu ha hf=>by
  refine wpAny_bind (seqEpoch_at g3 rfl (wpAny_bind (listUpdate_at g3 rfl ?_ (Nat.zero_le _) ?_)))
  ·rw [hf,ha]
   simp only [bne_self_eq_false,Bool.false_eq_true,if_false]
   exact wpAny_pure (h p hp hu)
  ·rw [ha,List.size_toArray,List.length_map,Array.length_toList,hp.size]
   omega
 by_cases z:vs.toArray.size<2
 ·rw [if_pos z,if_pos z]
  refine wpAny_bind (wpAny_pure ?_)
  rw [StateT.run_pure]
  refine wpAny_bind (wpAny_pure ?_)
  have len:vs.length<2:=by simpa using z
  refine fin _ (List.toArray (List.range vs.length)) (Array.Perm.refl _) (fun a b h1 h2=>by
   obtain rfl:a=b:=by omega
   exact Int.le_refl _) ?_ rfl
  match vs,len with
  | [],_=>
   show Array.map (·.2) ((#[]:Array Value).zip #[])=_
   simp
  | [v],_=>
   show Array.map (·.2) (#[v].zip #[v])=_
   simp
 ·rw [if_neg z,if_neg z]
  have len:2≤vs.length:=by simpa using z
  refine wpAny_bind (BE (by omega) (fun v hm=>?_) ?_)
  ·obtain ⟨i,hi,rfl⟩:=List.getElem_of_mem hm
   exact ⟨_,_,(ui i _ (by simp [hi])).1⟩
  ·refine wpAny_bind (wpAny_mono (BD (Q:=fun st s'=>s'={s with heap:=((s.heap.update a (Obj.mapSeq fun _=>#[])).push (seqObj "tuple" vs.toArray 0)).push (seqObj "list" #[] 0)}∧∃p,a8 vs.length p∧bw (fun i=>x i*1000+y i) p vs.length∧(arrOf st).map (·.2)=List.toArray (p.toList.map fun i=>vs.getD i Value.none)∧failedOf st=none) len ir ui fun p st a1 a2 a3 a4=>⟨rfl,p,a1,a2,a3,a4⟩) ?_ fun _ _ e=>e)
   rintro ⟨⟨⟩,st⟩ s' ⟨rfl,p,a1,a2,a3,a4⟩
   exact fin st p a1 a2 a3 a4
end
section
variable {prog:Program} {w:World} {A:Around} {E:Value→Shared→Prop} {s:Shared}
theorem BG{l:Addr}{vs:List Value}{x y:Nat→Int}{Q:Value→Shared→Prop}(hl:s.heap.IsList l vs.toArray)(ir:vs.length<64)(hv:∀i v,vs[i]?=some v→dO s.heap v (x i) (y i)∧0≤y i∧y i<1000)
  (h:∀(p:Array Nat) (h':Heap) (c:Nat),a8 vs.length p→bw (fun i=>x i*1000+y i) p vs.length→(∀b o,s.heap.get? b=some o→h'.get? b=some o)→h'.get? (s.heap.objs.size+1)=some (seqObj "list" (List.toArray (p.toList.map fun i=>vs.getD i Value.none)) c)→Q (.ref (s.heap.objs.size+1)) {s with heap:=h'}) :
  wpAny (model prog w) A (call (.builtin "sorted") [.ref l]) Q E s:=by
 have sl:vs.length≤sizeLine:=by rw [sizeLine_eq];omega
 refine Calls.call_function_entry kind_sorted plain_sorted entry_sorted (args_sorted1 _) ?_
 unfold Builtin.«sorted»
 refine wpAny_bind (m:=checkCount "sorted" 1 1 _) (wpAny_pure (wpAny_bind (collect_list hl (wpAny_bind (wpAny_newList ?_ sl)) sl)))
 have zz:((s.heap.push (seqObj "list" #[] 0)).update s.heap.objs.size (Obj.mapSeq (·++vs.toArray))).objs.size=s.heap.objs.size+1:=by rw [Heap.size_update,size_push']
 have kp:∀b o,s.heap.get? b=some o→(((s.heap.push (seqObj "list" #[] 0)).update s.heap.objs.size (Obj.mapSeq (·++vs.toArray))).push (seqObj "list" vs.toArray 0)).get? b=some o:=fun b o g=>by
  have lt:=Heap.lt_size g
  rw [Heap.get?_push_ne _ _ _ (Nat.ne_of_lt (by rw [zz];exact Nat.lt_succ_of_lt lt)),Heap.get?_update_ne _ _ _ _ (Nat.ne_of_lt lt),Heap.get?_push_ne _ _ _ (Nat.ne_of_lt lt)]
  exact g
 have gL:(((s.heap.push (seqObj "list" #[] 0)).update s.heap.objs.size (Obj.mapSeq (·++vs.toArray))).push (seqObj "list" vs.toArray 0)).get? (s.heap.objs.size+1)=some (seqObj "list" vs.toArray 0):=by
  rw [←zz]
  exact Heap.get?_push_size _ rfl
 show wpAny _ _ _ _ _ {s with heap:=((s.heap.push (seqObj "list" #[] 0)).update s.heap.objs.size (Obj.mapSeq (·++vs.toArray))).push (seqObj "list" vs.toArray 0)}
 rw [zz]
 generalize ((s.heap.push (seqObj "list" #[] 0)).update s.heap.objs.size (Obj.mapSeq (·++vs.toArray))).push (seqObj "list" vs.toArray 0)=h1 at kp gL
 refine wpAny_bind (wpAny_holding (wpAny_call_entry slot_list_sort ⟨_,gL,rfl⟩ entry_list_sort (BF (s:={s with heap:=h1}) gL ir (fun i v hi=>⟨(hv i v hi).1.mono kp,(hv i v hi).2⟩) fun p hp hu=>⟨_,rfl,?_⟩) (args_list_sort _)))
 have tT:=Heap.lt_size gL
 have z1:(h1.update (s.heap.objs.size+1) (Obj.mapSeq fun _=>#[])).objs.size=h1.objs.size:=Heap.size_update _ _ _
 obtain ⟨e1,g1⟩:∃e,(h1.update (s.heap.objs.size+1) (Obj.mapSeq fun _=>#[])).get? (s.heap.objs.size+1)=some (seqObj "list" #[] e):=⟨_,get?_update_seq gL fun _=>#[]⟩
 have up:∀b u,b<h1.objs.size→(h1.update (s.heap.objs.size+1) (Obj.mapSeq fun _=>#[])).get? b=some u→(((h1.update (s.heap.objs.size+1) (Obj.mapSeq fun _=>#[])).push (seqObj "tuple" vs.toArray 0)).push (seqObj "list" #[] 0)).get? b=some u:=fun b u hb hu=>by
  rw [Heap.get?_push_ne _ _ _ (Nat.ne_of_lt (by rw [size_push',z1];exact Nat.lt_succ_of_lt hb)),Heap.get?_push_ne _ _ _ (Nat.ne_of_lt (by rw [z1];exact hb))]
  exact hu
 have g3:=up _ _ tT g1
 refine wpAny_pure ⟨_,rfl,h p _ _ hp hu (fun b o g=>?_) (get?_update_seq g3 fun _=>List.toArray (p.toList.map fun i=>vs.getD i Value.none))⟩
 have g':=kp b o g
 have ne:b≠s.heap.objs.size+1:=Nat.ne_of_lt (Nat.lt_succ_of_lt (Heap.lt_size g))
 show (Heap.update _ _ _).get? b=some o
 rw [Heap.get?_update_ne _ _ _ _ ne]
 refine up b o (Heap.lt_size g') ?_
 rw [Heap.get?_update_ne _ _ _ _ ne]
 exact g'
end
end My
namespace L2
open PySem PySem.W PyProof.Rows My
def BH:List V→Hp→VK→Prop:=fun xs H Q=>∃(a:Addr) (vs:List V) (x y:Nat→Int),xs=[.ref a]∧H a=some (.lst vs)∧vs.length<64∧(∀(i:Nat) (v:V),vs[i]?=some v→(∃b,v=.ref b∧H b=some (.tup [.int (x i),.int (y i)]))∧0≤y i∧y i<1000) ∧
 ∀(p:Array Nat) (l:Addr),a8 vs.length p→bw (fun i=>x i*1000+y i) p vs.length→H l=none→Q (.ref l) (upd H l (.lst (p.toList.map fun i=>vs.getD i .ay)))
theorem uj{xs:List V}{us:List Value}(r:Vals xs us):∀(ns:List Nat),(∀i∈ns,i<xs.length)→Vals (ns.map fun i=>xs.getD i .ay) (ns.map fun i=>us.getD i Value.none)
 | [],_=>.nil
 | i::ns,h=>by
  have hi:=h i List.mem_cons_self
  obtain ⟨u,e,ru⟩:=r.get (i:=i) (x:=xs[i]) (by simp [hi])
  refine .cons ?_ (uj r ns fun j hj=>h j (List.mem_cons_of_mem _ hj))
  dsimp only
  rw [show xs.getD i .ay=xs[i] by simp [hi],show us.getD i Value.none=u by rw [List.getD_eq_getElem?_getD,e];rfl]
  exact ru
theorem BI{X:Cx}:bY X (.builtin "sorted") BH:=by
 intro pins s σ H xs us Q I r h
 obtain ⟨a,vs,x,y,rfl,ha,ir,hv,k⟩:=h
 obtain ⟨u,rfl,ru⟩:=vals1 r
 cases ru
 obtain ⟨ai,rv,pl,hz⟩:=I.list (.of ha)
 have hl:=rv.length
 refine BG (x:=x) (y:=y) pl.isList (by omega) (fun i v hi=>?_) fun p h' c hp hu kp g=>?_
 ·have cu:i<vs.length:=by
   have:=(List.getElem?_eq_some_iff.mp hi).1
   omega
  have gi:vs[i]?=some vs[i]:=by simp [cu]
  obtain ⟨⟨b,eb,hb⟩,BJ⟩:=hv i _ gi
  obtain ⟨u,eu,ru⟩:=rv.get gi
  rw [hi] at eu
  cases eu
  rw [eb] at ru
  cases ru
  obtain ⟨_,fk,r2,o,g,cl,e,d⟩:=(show aQ X.prog X.w H s.heap b (.tup [.int (x i),.int (y i)]) from I.aq b _ hb)
  obtain ⟨u1,u2,rfl,q1,q2⟩:=vals2 r2
  obtain ⟨t1,rfl⟩:=q1
  obtain ⟨t2,rfl⟩:=q2
  exact ⟨⟨b,o,t1,t2,e,rfl,g,cl,d⟩,BJ⟩
 ·rw [←hl] at hp hu
  have sz:=hp.size
  refine ⟨.ref (s.heap.objs.size+1),_,I.laid (t':=s.toks) (o:=.lst (p.toList.map fun i=>vs.getD i .ay)) kp (Nat.le_succ _) ⟨?_,p.toList.map fun i=>ai.getD i Value.none,c,?_,g⟩,rfl,k p _ hp hu (I.aq.fresh (Nat.le_succ _))⟩
  ·rw [List.length_map,Array.length_toList,sz]
   exact hz
  ·refine uj rv _ fun i hi=>?_
   have m:i∈List.toArray (List.range vs.length):=(Array.Perm.mem_iff hp).mp (Array.mem_toList_iff.mp hi)
   simpa using m
end L2
namespace My
open PySem L2
def BK(K:PySem.W.Frag):R2:=fun x y H Q=>∃a b xs,x=.ref a∧y=.ref b∧aH K H a xs∧H b=some (.lst [])∧Q (.bl (!xs.isEmpty)) H
theorem BL{X:Cx}(hu:X.A.units+64<cLine):aY X (compareOp .NotEq) (BK X.K):=by
 intro pins s σ H x y v u Q I rx ry h
 obtain ⟨a,b,xs,rfl,rfl,h1,h2,q⟩:=h
 cases rx
 cases ry
 obtain ⟨us,r1,t1,_⟩:=I.list h1
 obtain ⟨vs,r2,t2,_⟩:=I.list (aH.of h2)
 have l1:=r1.length
 have l2:=r2.length
 cases xs with
 | nil=>
  refine SeqAt.RcNeAt.lists (e:=fun _=>true) t1.isList t2.isList (by simp at l1 l2 ⊢;omega) (by omega) (fun j z1 z2=>?_) _ _ _ _ ?_
  ·simp at l1
   have:us=[]:=List.length_eq_zero_iff.mp l1.symm
   subst this
   simp at z1
  ·rw [all_range]
   exact ⟨.bl false,H,I,rfl,q⟩
 | cons w ws=>
  refine SeqAt.RcNeAt.lists_lengths t1.isList t2.isList ?_ (by omega) _ _ _ _ ⟨.bl true,H,I,rfl,q⟩
  simp at l1 l2 ⊢
  omega
theorem oQ{c:TT}{t u:TS}{D:Ends}{σ:St}{H:Hp}(M:St→Hp→Prop)(hM:∀σ H,M σ H→D.nx σ H)(k:∀R:St→Hp→Prop,(∀σ H,M σ H→R σ H)→kA c t u {D with nx:=R} σ H):kA c t u D σ H:=k D.nx hM
def BM(K:PySem.W.Frag):Sp:=fun vs H Q _=>∃(P a l:Addr) (ns:List Int) (xs:List V),vs=[.ref P,.ref l]∧aG H P a∧aH K (er P H) a (ns.map V.int)∧l≠P∧H l=some (.lst xs)∧xs.length≤100 ∧
 ∀(r:Addr) (ys:List V) (H':Hp),ao P H H'→aG H' P a→er P H r=none→r≠P→H' r=some (.lst ys)→ys.Perm xs→Q (.ref r) H'
def BN(K:PySem.W.Frag):Sp:=fun vs H Q _=>∃(P a:Addr) (ns:List Int) (way size wide i j:Int),vs=[.ref P,.int way,.int size,.int wide,.int i,.int j]∧aG H P a∧aH K (er P H) a (ns.map V.int) ∧
 ∀(b:Bool) (H':Hp),ao P H H'→aG H' P a→Q (.bl b) H'
theorem uk{α:Type}:∀(zs:List α) (k:Nat) (h:k<zs.length),(zs[k]::zs.eraseIdx k).Perm zs
 | _::_,0,_=>.refl _
 | z::zs,k+1,h=>(List.Perm.swap _ _ _).trans ((uk zs k (by simpa using h)).cons z)
def aN(H:Hp)(vs:List V)(L:List (Int×Int)):Prop:=vs.length=L.length∧∀(k:Nat) (v:V) (p:Int×Int),vs[k]?=some v→L[k]?=some p→∃b,v=.ref b∧H b=some (.tup [.int p.1,.int p.2])
theorem aN.nil(H:Hp):aN H [] []:=⟨rfl,fun k v p h=>by simp at h⟩
theorem aN.mono{H H':Hp}{vs:List V}{L:List (Int×Int)}(h:aN H vs L)(s:ae H H'):aN H' vs L:=⟨h.1,fun k v p h1 h2=>by
 obtain ⟨b,e,g⟩:=h.2 k v p h1 h2
 exact ⟨b,e,s _ _ g⟩⟩
theorem aN.bu{H H':Hp}{vs:List V}{L:List (Int×Int)}{r:Addr}{xs:List V}(h:aN H vs L)(e:H r=some (.lst xs))(k:∀b o,b≠r→H b=some o→H' b=some o):aN H' vs L:=⟨h.1,fun i v p h1 h2=>by
 obtain ⟨b,eb,g⟩:=h.2 i v p h1 h2
 refine ⟨b,eb,k b _ (fun z=>?_) g⟩
 rw [z,e] at g
 cases g⟩
theorem aN.push{H:Hp}{vs:List V}{L:List (Int×Int)}{b:Addr}{p:Int×Int}(h:aN H vs L)(e:H b=some (.tup [.int p.1,.int p.2])):aN H (vs++[.ref b]) (L++[p]):=⟨by simp [h.1],fun k v q h1 h2=>by
 have hl:=h.1
 by_cases z:k<vs.length
 ·rw [List.getElem?_append_left z] at h1
  rw [List.getElem?_append_left (by omega)] at h2
  exact h.2 k v q h1 h2
 ·have hk:=(List.getElem?_eq_some_iff.mp h1).1
  rw [List.length_append,List.length_singleton] at hk
  obtain rfl:k=vs.length:=by omega
  rw [List.getElem?_append_right (Nat.le_refl _),Nat.sub_self] at h1
  rw [List.getElem?_append_right (by omega),show vs.length-L.length=0 by omega] at h2
  cases h1
  cases h2
  exact ⟨b,rfl,e⟩⟩
structure cI (n:Nat) (L:List (Int×Int)):Prop where
 nd:L.Nodup
 lt:∀p∈L,0≤p.1∧p.1<p.2∧p.2<n
 bC:L.length≤n*n / 2
def lexLt(p q:Int×Int):Prop:=p.1<q.1∨p.1=q.1∧p.2<q.2
theorem BO{M:List (Int×Int)}{p:Array Nat}(P:a8 M.length p)(U:bw (fun i=>(M.getD i (0,0)).1*1000+(M.getD i (0,0)).2) p M.length)(nd:M.Nodup)(b:∀q∈M,0≤q.2∧q.2<1000) :
  (p.toList.map fun i=>M.getD i (0,0)).Perm M∧(p.toList.map fun i=>M.getD i (0,0)).Pairwise lexLt:=by
 have pm:p.toList.Perm (List.range M.length):=Array.perm_iff_toList_perm.mp P
 have pn:p.toList.Nodup:=pm.nodup_iff.mpr List.nodup_range
 have lt:∀i∈p.toList,i<M.length:=fun i hi=>List.mem_range.mp (pm.mem_iff.mp hi)
 refine ⟨?_,?_⟩
 ·have e:((List.range M.length).map fun i=>M.getD i (0,0))=M:=by
   refine List.ext_getElem (by simp) fun i h1 h2=>?_
   rw [List.getElem_map,List.getElem_range,getD_at h2]
  have:=pm.map fun i=>M.getD i (0,0)
  rw [e] at this
  exact this
 ·rw [List.pairwise_iff_getElem]
  intro i j hi hj fB
  rw [List.length_map] at hi hj
  rw [List.getElem_map,List.getElem_map]
  have sz:=P.size
  have li:p.toList[i]<M.length:=lt _ (List.getElem_mem _)
  have lj:p.toList[j]<M.length:=lt _ (List.getElem_mem _)
  have u:=U i j (by omega) (by rw [←sz,←Array.length_toList];exact hj)
  unfold vN at u
  have gi:p.getD i 0=p.toList[i]:=by
   have:i<p.size:=by rw [←Array.length_toList];exact hi
   simp [Array.getD,this]
  have gj:p.getD j 0=p.toList[j]:=by
   have:j<p.size:=by rw [←Array.length_toList];exact hj
   simp [Array.getD,this]
  rw [gi,gj] at u
  dsimp only at u
  rw [getD_at li,getD_at lj] at u
  rw [getD_at li,getD_at lj]
  have ne:M[p.toList[i]]≠M[p.toList[j]]:=fun e=>by
   have e1:=(List.getElem_inj nd).mp e
   have e2:=(List.getElem_inj pn).mp e1
   omega
  have b1:=b _ (List.getElem_mem li)
  have b2:=b _ (List.getElem_mem lj)
  generalize M[p.toList[i]]=x at u ne b1
  generalize M[p.toList[j]]=y at u ne b2
  obtain ⟨x1,x2⟩:=x
  obtain ⟨y1,y2⟩:=y
  unfold lexLt
  dsimp only at u b1 b2 ⊢
  by_cases z:x1<y1
  ·exact .inl z
  ·right
   have e1:x1=y1:=by omega
   subst e1
   refine ⟨rfl,?_⟩
   by_cases y:x2=y2
   ·subst y
    exact absurd rfl ne
   ·omega
theorem lG{α β:Type}{f:α→β}:∀{L:List α},L.Nodup→(∀p q,p∈L→q∈L→f p=f q→p=q)→(L.map f).Nodup
 | [],_,_=>List.nodup_nil
 | x::L,h,k=>by
  obtain ⟨h1,h2⟩:=List.nodup_cons.mp h
  refine List.nodup_cons.mpr ⟨fun m=>?_,lG h2 fun p q hp hq=>k p q (List.mem_cons_of_mem _ hp) (List.mem_cons_of_mem _ hq)⟩
  obtain ⟨y,hy,e⟩:=List.mem_map.mp m
  have:=k y x (List.mem_cons_of_mem _ hy) List.mem_cons_self e
  rw [this] at hy
  exact h1 hy
def cw(nm:Nat→Int)(p:Int×Int):Int×Int:=(min (nm p.1.toNat) (nm p.2.toNat),max (nm p.1.toNat) (nm p.2.toNat))
structure oR (n:Nat) (nm:Nat→Int):Prop where
 lt:∀i,i<n→0≤nm i∧nm i<n
 inj:∀i j,i<n→j<n→nm i=nm j→i=j
theorem BP{n:Nat}{nm:Nat→Int}{L:List (Int×Int)}(h:cI n L)(N:oR n nm):cI n (L.map (cw nm)) where
 nd:=by
  refine lG h.nd fun p q hp hq e=>?_
  have a:=h.lt p hp
  have b:=h.lt q hq
  obtain ⟨p1,p2⟩:=p
  obtain ⟨q1,q2⟩:=q
  obtain ⟨i,rfl⟩:=Int.eq_ofNat_of_zero_le (show 0≤p1 by dsimp only at a;omega)
  obtain ⟨j,rfl⟩:=Int.eq_ofNat_of_zero_le (show 0≤p2 by dsimp only at a;omega)
  obtain ⟨k,rfl⟩:=Int.eq_ofNat_of_zero_le (show 0≤q1 by dsimp only at b;omega)
  obtain ⟨l,rfl⟩:=Int.eq_ofNat_of_zero_le (show 0≤q2 by dsimp only at b;omega)
  dsimp only at a b
  have e1:=congrArg Prod.fst e
  have e2:=congrArg Prod.snd e
  unfold cw at e1 e2
  simp only [Int.toNat_natCast] at e1 e2
  have ij:nm i≠nm j:=fun z=>by have:=N.inj i j (by omega) (by omega) z;omega
  have kl:nm k≠nm l:=fun z=>by have:=N.inj k l (by omega) (by omega) z;omega
  by_cases z:nm i=nm k
  ·have e3:nm j=nm l:=by omega
   have i1:=N.inj i k (by omega) (by omega) z
   have i2:=N.inj j l (by omega) (by omega) e3
   rw [i1,i2]
  ·have e3:nm i=nm l:=by omega
   have e4:nm j=nm k:=by omega
   have i1:=N.inj i l (by omega) (by omega) e3
   have i2:=N.inj j k (by omega) (by omega) e4
   omega
 lt:=fun p hp=>by
  obtain ⟨q,hq,rfl⟩:=List.mem_map.mp hp
  have a:=h.lt q hq
  have n1:=N.lt q.1.toNat (by omega)
  have n2:=N.lt q.2.toNat (by omega)
  have ne:nm q.1.toNat≠nm q.2.toNat:=fun z=>by have:=N.inj _ _ (by omega) (by omega) z;omega
  unfold cw
  dsimp only
  omega
 bC:=by rw [List.length_map];exact h.bC
theorem cI.perm{n:Nat}{L L':List (Int×Int)}(h:cI n L)(p:L'.Perm L):cI n L':=⟨p.nodup_iff.mpr h.nd,fun q hq=>h.lt q (p.mem_iff.mp hq),by rw [p.length_eq];exact h.bC⟩
def dm(H:Hp)(t:Addr)(n:Nat)(L:List (Int×Int)):Prop:=∃(lt:Addr) (us:List V),H t=some (.tup [.int (n:Int),.ref lt])∧H lt=some (.tup us)∧aN H us L
def BQ:Sp:=fun vs H Q _=>∃(l r:Addr) (n:Nat) (us ws:List V) (L:List (Int×Int)) (nm:Nat→Int),vs=[.int (n:Int),.ref l,.ref r]∧H l=some (.lst us)∧aN H us L∧cI n L∧n≤10∧H r=some (.lst ws)∧ws.length=n∧(∀i,i<n→ws[i]?=some (.int (nm i)))∧oR n nm ∧
 ∀(t:Addr) (L':List (Int×Int)) (H':Hp),ae H H'→H t=none→dm H' t n L'→cI n L'→L'.Pairwise lexLt→L'.Perm (L.map (cw nm))→Q (.ref t) H'
theorem aN.pick{H:Hp}{us:List V}{M:List (Int×Int)}(h:aN H us M)(ns:List Nat)(hn:∀i∈ns,i<M.length):aN H (ns.map fun i=>us.getD i .ay) (ns.map fun i=>M.getD i (0,0)):=⟨by simp,fun k v p h1 h2=>by
 have hl:=h.1
 have hk:k<ns.length:=by
  have:=(List.getElem?_eq_some_iff.mp h1).1
  simpa using this
 have hi:=hn ns[k] (List.getElem_mem hk)
 rw [List.getElem?_map,List.getElem?_eq_getElem hk] at h1 h2
 cases h1
 cases h2
 dsimp only
 have cu:ns[k]<us.length:=by omega
 rw [getD_at hi]
 have e:us.getD ns[k] .ay=us[ns[k]]:=by simp [cu]
 rw [e]
 exact h.2 ns[k] _ _ (by simp [cu]) (by simp [hi])⟩
theorem BR{K:PySem.W.Frag}{wi:TI}{ρ:St→St}{tt:TT}{te:TE}{σ:St}{H:Hp}{Q:VK}{P a l:Addr}{xs:List V}(hn:xs.length<sizeLine)(nl:l≠P)(el:H l=some (.lst xs))(pc:aG H P a)
  (eS:∀R:It→Hp→Prop,R (fQ K l) H→wi σ H R)
  (test:∀(i:Nat) (x:V),xs[i]?=some x→∀(Hc:Hp) (R:Bool→Hp→Prop),ao P H Hc→aG Hc P a→(∀b H3,ao P Hc H3→aG H3 P a→R b H3)→tt (some x::ρ σ) Hc R)
  (elem:∀(x:V) (Hc:Hp) (R:VK),R x Hc→te (some x::ρ σ) Hc R)
  (fin:∀(D:Addr) (ys:List V) (Hc:Hp),D≠P→er P H D=none→ao P H Hc→aG Hc P a→ys.Sublist xs→Hc D=some (.lst ys)→Q (.ref D) Hc):fm wi ρ tt te σ H Q:=by
 refine eS _ fun D nD=>?_
 have nP:=pc.ne nD
 have lD:l≠D:=fun e=>by rw [e,nD] at el;cases el
 refine ⟨fun i m ys Hc=>m=xs.length-i∧i≤xs.length∧Hc D=some (.lst ys)∧ao P H Hc∧aG Hc P a∧ys.Sublist (xs.take i),⟨_,rfl,Nat.zero_le _,ar,(ao.refl H).but nD,pc.upd nP,by simp⟩,?_⟩
 rintro i m ys Hc ⟨rfl,hi,eD,sH,lH,sub⟩
 refine ⟨eD,?_⟩
 have oS:=sH.at nl el
 by_cases bj:i<xs.length
 ·refine .inr ⟨⟨xs,xs[i],.of oS,by simp [bj]⟩,fun x H' hy=>?_⟩
  obtain ⟨rfl,hx⟩:=hy
  have ex:=hx xs (.of oS)
  refine test i x ex _ _ sH lH fun b H3 s3 p3=>?_
  have tk:xs.take (i+1)=xs.take i++[x]:=by rw [List.take_succ,ex];rfl
  have e3:=s3.at nP eD
  cases b with
  | true=>
   rw [if_pos rfl]
   refine elem x H3 _ ⟨e3,?_,xs.length-(i+1),by omega,rfl,bj,ar,(sH.trans s3).but nD,p3.upd nP,?_⟩
   ·have:=sub.length_le
    rw [List.length_take] at this
    omega
   ·rw [tk]
    exact sub.append (List.Sublist.refl _)
  | false=>
   rw [if_neg (by simp)]
   refine ⟨xs.length-(i+1),by omega,rfl,bj,e3,sH.trans s3,p3,?_⟩
   rw [tk]
   exact sub.trans (List.sublist_append_left _ _)
 ·have e:i=xs.length:=by omega
  subst e
  rw [List.take_length] at sub
  exact .inl ⟨⟨xs,.of oS,by omega⟩,fin D ys Hc nP (by rw [bH nP];exact nD) sH lH sub eD⟩
def bS(k:Nat)(d:List Nat):Prop:=d.Pairwise (fun a b=>b<a)∧∀x∈d,x<k
theorem bS.len:∀{d:List Nat} {k:Nat},bS k d→d.length≤k
 | [],_,_=>Nat.zero_le _
 | x::d,k,h=>by
  obtain ⟨h1,h2⟩:=List.pairwise_cons.mp h.1
  have:=bS.len (k:=x) ⟨h2,fun y hy=>h1 y hy⟩
  have:=h.2 x List.mem_cons_self
  rw [List.length_cons]
  omega
theorem bS.nil(k:Nat):bS k []:=⟨List.Pairwise.nil,fun x hx=>by cases hx⟩
theorem bS.sub{k:Nat}{d e:List Nat}(h:bS k d)(s:e.Sublist d):bS k e:=⟨h.1.sublist s,fun x hx=>h.2 x (s.subset hx)⟩
theorem bS.put{j k:Nat}{d:List Nat}(h:bS k d)(hk:k<j):bS j (k::d):=⟨List.pairwise_cons.mpr ⟨h.2,h.1⟩,fun x hx=>by
 rcases List.mem_cons.mp hx with rfl | hx
 ·exact hk
 ·have:=h.2 x hx
  omega⟩
theorem bS.nd{k:Nat}{d:List Nat}(h:bS k d):d.Nodup:=h.1.imp fun h=>by omega
def bI(d:List Nat):List V:=d.map fun(x:Nat)=>V.int (x:Int)
theorem oT:∀{d:List Nat} {ys:List V},ys.Sublist (bI d)→∃e:List Nat,e.Sublist d∧ys=bI e
 | [],ys,h=>⟨[],List.Sublist.refl _,by
  have h:ys.Sublist []:=h
  rw [List.sublist_nil.mp h]
  rfl⟩
 | x::d,ys,h=>by
  have h:ys.Sublist (V.int (x:Int)::bI d):=h
  cases h with
  | cons _ h=>
   obtain ⟨e,h1,h2⟩:=oT h
   exact ⟨e,h1.cons _,h2⟩
  | cons_cons _ h=>
   obtain ⟨e,h1,h2⟩:=oT h
   exact ⟨x::e,.cons_cons _ h1,by rw [h2];rfl⟩
structure eU (j:Nat) (L:List (Int×Int)):Prop where
 nd:L.Nodup
 lt:∀p∈L,0≤p.1∧p.1<p.2∧p.2<j
 bC:2*L.length≤j*(j-1)
theorem eU.nil:eU 1 []:=⟨List.nodup_nil,(fun p hp=>by cases hp),by simp⟩
theorem eU.ok{n:Nat}{L:List (Int×Int)}(h:eU n L):cI n L:=⟨h.nd,h.lt,by
 have:=h.bC
 have:n*(n-1)≤n*n:=Nat.mul_le_mul_left _ (by omega)
 omega⟩
theorem eU.more{j:Nat}{L:List (Int×Int)}{d:List Nat}(h:eU j L)(hd:bS j d):eU (j+1) (L++d.map fun(x:Nat)=>((x:Int),(j:Int))) where
 nd:=by
  refine List.nodup_append.mpr ⟨h.nd,lG hd.nd fun p q _ _ e=>by
   have:=congrArg Prod.fst e
   dsimp only at this
   omega,fun p hp q hq e=>?_⟩
  obtain ⟨x,_,rfl⟩:=List.mem_map.mp hq
  have:=h.lt p hp
  rw [e] at this
  dsimp only at this
  omega
 lt:=fun p hp=>by
  rcases List.mem_append.mp hp with hp | hp
  ·have:=h.lt p hp
   omega
  ·obtain ⟨x,hx,rfl⟩:=List.mem_map.mp hp
   have:=hd.2 x hx
   dsimp only
   omega
 bC:=by
  have a:=h.bC
  have b:=hd.len
  rw [List.length_append,List.length_map,Nat.add_sub_cancel]
  cases j with
  | zero=>
   rw [Nat.zero_mul] at a
   rw [Nat.mul_zero]
   omega
  | succ j=>
   rw [Nat.add_sub_cancel] at a
   have e:(j+1+1)*(j+1)=(j+1)*j+2*(j+1):=by grind
   rw [e]
   omega
def BS(K:PySem.W.Frag):Sp:=fun vs H Q _=>∃(P a:Addr) (ns:List Int) (n:Nat),vs=[.ref P,.int (n:Int)]∧aG H P a∧aH K (er P H) a (ns.map V.int)∧1≤n∧n≤10 ∧
 ∀(r:Addr) (us:List V) (L:List (Int×Int)) (H':Hp),ao P H H'→aG H' P a→er P H r=none→r≠P→H' r=some (.lst us)→aN (er P H') us L→cI n L→Q (.ref r) H'
def BU(H:Hp)(vs:List V)(j:Nat)(D:Nat→List Nat):Prop:=vs.length=j∧∀k,k<j→bS k (D k)∧∃b,vs[k]?=some (.ref b)∧H b=some (.lst (bI (D k)))
theorem oU{P r:Addr}{H:Hp}{o:HO}:∀b o',b≠r→er P H b=some o'→er P (upd H r o) b=some o':=fun b o' nb e=>by
 by_cases z:b=P
 ·subst z
  unfold er at e
  rw [if_pos rfl] at e
  cases e
 ·rw [bH z] at e ⊢
  rw [aD nb]
  exact e
theorem aN.cat{H:Hp}{us zs:List V}{L M:List (Int×Int)}(h:aN H us L)(g:aN H zs M):aN H (us++zs) (L++M):=⟨by simp [h.1,g.1],fun k v p h1 h2=>by
 have hl:=h.1
 by_cases z:k<us.length
 ·rw [List.getElem?_append_left z] at h1
  rw [List.getElem?_append_left (by omega)] at h2
  exact h.2 k v p h1 h2
 ·rw [List.getElem?_append_right (by omega)] at h1
  rw [List.getElem?_append_right (by omega),show k-L.length=k-us.length by omega] at h2
  exact g.2 _ v p h1 h2⟩
theorem BV{d:List Nat}{i:Nat}{x:V}(h:(bI d)[i]?=some x):∃y,d[i]?=some y∧x=.int (y:Int):=by
 unfold bI at h
 rw [List.getElem?_map] at h
 cases e:d[i]? with
 | none=>rw [e] at h;cases h
 | some y=>rw [e] at h;cases h;exact ⟨y,rfl,rfl⟩
theorem eV{P a b:Addr}{H:Hp}{xs:List V}(p:aG H P a)(e:H b=some (.tup xs)):er P H b=some (.tup xs):=by
 refine jU (fun z=>?_) e
 obtain ⟨x,y,eP,_⟩:=p
 rw [z,eP] at e
 cases e
structure b7 (j i:Nat) (L:List (Int×Int)):Prop where
 nd:L.Nodup
 lt:∀p∈L,0≤p.1∧p.1<p.2∧(p.2<j∨p.2=j∧p.1<i)
 bC:2*L.length≤j*(j-1)+2*i
theorem b7.start:b7 0 0 []:=⟨List.nodup_nil,(fun p hp=>by cases hp),by simp⟩
theorem b7.skip{j i:Nat}{L:List (Int×Int)}(h:b7 j i L):b7 j (i+1) L:=⟨h.nd,fun p hp=>by
 have:=h.lt p hp
 omega,by
 have:=h.bC
 omega⟩
theorem b7.push{j i:Nat}{L:List (Int×Int)}(h:b7 j i L)(hi:i<j):b7 j (i+1) (L++[((i:Int),(j:Int))]) where
 nd:=by
  refine List.nodup_append.mpr ⟨h.nd,by simp,fun p hp q hq e=>?_⟩
  rw [List.mem_singleton.mp hq] at e
  have:=h.lt p hp
  rw [e] at this
  dsimp only at this
  omega
 lt:=fun p hp=>by
  rcases List.mem_append.mp hp with hp | hp
  ·have:=h.lt p hp
   omega
  ·rw [List.mem_singleton.mp hp]
   dsimp only
   omega
 bC:=by
  have:=h.bC
  rw [List.length_append,List.length_singleton]
  omega
theorem b7.next{j:Nat}{L:List (Int×Int)}(h:b7 j j L):b7 (j+1) 0 L:=⟨h.nd,fun p hp=>by
 have:=h.lt p hp
 omega,by
 have a:=h.bC
 rw [Nat.add_sub_cancel]
 cases j with
 | zero=>omega
 | succ j=>
  rw [Nat.add_sub_cancel] at a
  have e:(j+1+1)*(j+1)=(j+1)*j+2*(j+1):=by grind
  rw [e]
  omega⟩
theorem b7.ok{n:Nat}{L:List (Int×Int)}(h:b7 n 0 L):cI n L:=⟨h.nd,fun p hp=>by
 have:=h.lt p hp
 omega,by
 have:=h.bC
 have:n*(n-1)≤n*n:=Nat.mul_le_mul_left _ (by omega)
 omega⟩
theorem BW(n:Nat):(b5 n).Nodup:=lG List.nodup_range fun p q _ _ e=>by
 have:=V.int.inj e
 omega
theorem BX{n:Nat}{ys:List V}(h:ys.Perm (b5 n)):∃nm:Nat→Int,ys.length=n∧(∀i,i<n→ys[i]?=some (.int (nm i)))∧oR n nm:=by
 have ln:ys.length=n:=by rw [h.length_eq];unfold b5;simp
 have nd:ys.Nodup:=h.nodup_iff.mpr (BW n)
 have each:∀i,∃x:Int,i<n→ys[i]?=some (.int x)∧0≤x∧x<n:=fun i=>by
  by_cases hi:i<n
  ·have cu:i<ys.length:=by omega
   have m:ys[i]∈b5 n:=h.mem_iff.mp (List.getElem_mem cu)
   obtain ⟨k,hk,e⟩:=List.mem_map.mp m
   have:=List.mem_range.mp hk
   exact ⟨(k:Int),fun _=>⟨by rw [e];simp [cu],by omega,by omega⟩⟩
  ·exact ⟨0,fun z=>absurd z hi⟩
 obtain ⟨nm,hn⟩:=Classical.axiomOfChoice each
 refine ⟨nm,ln,fun i hi=>(hn i hi).1,fun i hi=>(hn i hi).2,fun i j hi hj e=>?_⟩
 have a:=(hn i hi).1
 have b:=(hn j hj).1
 rw [e] at a
 have cu:i<ys.length:=by omega
 have BY:j<ys.length:=by omega
 rw [List.getElem?_eq_getElem cu] at a
 rw [List.getElem?_eq_getElem BY] at b
 exact (List.getElem_inj nd).mp ((Option.some.inj a).trans (Option.some.inj b).symm)
def BZ(K:PySem.W.Frag):Sp:=fun vs H Q _=>∃(P a:Addr) (ns:List Int) (most:Nat),vs=[.ref P,.int (most:Int)]∧aG H P a∧aH K (er P H) a (ns.map V.int)∧1≤most∧most≤10 ∧
 ∀(t:Addr) (n:Nat) (L:List (Int×Int)) (H':Hp),ao P H H'→aG H' P a→er P H t=none→t≠P→dm (er P H') t n L→cI n L→L.Pairwise lexLt→1≤n→n≤most→Q (.ref t) H'
theorem aN.er{P a:Addr}{H:Hp}{us:List V}{L:List (Int×Int)}(h:aN H us L)(p:aG H P a):aN (er P H) us L:=⟨h.1,fun k v q h1 h2=>by
 obtain ⟨b,e,g⟩:=h.2 k v q h1 h2
 exact ⟨b,e,eV p g⟩⟩
theorem dm.er{P a t:Addr}{H:Hp}{n:Nat}{L:List (Int×Int)}(h:dm H t n L)(p:aG H P a):dm (er P H) t n L:=by
 obtain ⟨lt,us,h1,h2,h3⟩:=h
 exact ⟨lt,us,eV p h1,eV p h2,h3.er p⟩
theorem dm.mono{t:Addr}{H H':Hp}{n:Nat}{L:List (Int×Int)}(h:dm H t n L)(s:ae H H'):dm H' t n L:=by
 obtain ⟨lt,us,h1,h2,h3⟩:=h
 exact ⟨lt,us,s _ _ h1,s _ _ h2,h3.mono s⟩
theorem um{X:Cx}{K:PySem.W.Frag}(hu:X.A.units<cLine)(hK:X.K=K:=by rfl):aY X (compareOp .NotEq) (oy K):=by
 subst hK
 exact AV hu
theorem uo{K:PySem.W.Frag}{B B':Nat}{H:Hp}{q:Int}{v u:V}{x m:Int}{R:VK}(hv:aM B H q v x m)(hu:aM B' H q u 0 1)(k:R (.bl (!decide (x=0))) H):oy K v u H R:=by
 cases hv with
 | br e l bx bm=>
  cases hu with
  | br e' l' _ _=>
   refine .inl ⟨_,_,_,_,rfl,rfl,.of e,.of e',rfl,rfl,?_⟩
   have z:(dI [V.int x,V.int m] [V.int 0,V.int 1])=decide (x=0):=by
    show ((x == 0) && ((m == 1) && true))=_
    by_cases hx:x=0
    ·subst hx
     have:=l.ox
     rw [Int.gcd_zero_left] at this
     have:=l.pos
     have:m=1:=by omega
     subst this
     rfl
    ·rw [decide_eq_false hx,show (x == 0)=false by simp [hx],Bool.false_and]
   rw [z]
   simpa using k
  | rem h0 h1 _=>omega
 | rem h0 h1 h2=>
  cases hu with
  | br _ _ _ _=>omega
  | rem _ _ _=>
   refine .inr ⟨rfl,?_⟩
   rw [show decide (V.int x=V.int 0)=decide (x=0) by simp]
   exact k
theorem B0{wi:TI}{ρ:St→St}{tt:TT}{te:TE}{σ:St}{H:Hp}{Q:VK}{xs:List V}(pr:Nat→Bool)(eS:∀R:It→Hp→Prop,(∀J,gq J xs H→R J H)→wi σ H R)(hn:xs.length<sizeLine)
  (P:Addr→Nat→V→Hp→Prop) (mono:∀D i y H H' ys,P D i y H→H D=some (.lst ys)→(∀b o,b≠D→H b=some o→H' b=some o)→P D i y H')
  (test:∀(i:Nat) (x:V),xs[i]?=some x→∀(Hc:Hp) (R:Bool→Hp→Prop),ae H Hc→R (pr i) Hc→tt (some x::ρ σ) Hc R)
  (step:∀D (i:Nat) (x:V),xs[i]?=some x→∀(Hc:Hp) (R:VK),ae H Hc→(∃ys,Hc D=some (.lst ys))→(∀y H3,ae Hc H3→P D i y H3→R y H3)→te (some x::ρ σ) Hc R)
  (fin:∀D ys Hc,H D=none→ae H Hc→ys.length=((List.range xs.length).filter pr).length→(∀(k i:Nat) (y:V),ys[k]?=some y→((List.range xs.length).filter pr)[k]?=some i→P D i y Hc)→Hc D=some (.lst ys)→Q (.ref D) Hc):fm wi ρ tt te σ H Q:=by
 refine eS _ fun J js=>?_
 intro D nD
 refine ⟨fun i m ys Hc=>m=xs.length-i∧i≤xs.length∧Hc D=some (.lst ys)∧ae H Hc∧ys.length=((List.range i).filter pr).length∧∀(k i':Nat) (y:V),ys[k]?=some y→((List.range i).filter pr)[k]?=some i'→P D i' y Hc,⟨_,rfl,Nat.zero_le _,ar,fA (ae.refl H) nD,rfl,fun k i y h=>by simp at h⟩,?_⟩
 rintro i m ys Hc ⟨rfl,hi,eD,sH,ly,hP⟩
 refine ⟨eD,?_⟩
 by_cases bj:i<xs.length
 ·refine .inr ⟨js.go i Hc sH bj,fun x H' hy=>?_⟩
  obtain ⟨rfl,hx⟩:=js.cC i Hc x H' sH hy
  refine test i x (hx bj) _ _ sH ?_
  have fs:(List.range (i+1)).filter pr=(List.range i).filter pr++(if pr i=true then [i] else []):=by
   rw [List.range_succ,List.filter_append]
   congr 1
   cases e:pr i <;> simp [e]
  have fl:((List.range i).filter pr).length≤i:=Nat.le_trans (List.length_filter_le _ _) (by simp)
  cases e:pr i with
  | true=>
   rw [if_pos rfl]
   refine step D i x (hx bj) _ _ sH ⟨_,eD⟩ fun y H3 s3 hp=>?_
   have e3:=s3 _ _ eD
   have bu:∀b o,b≠D→H3 b=some o→upd H3 D (.lst (ys++[y])) b=some o:=fun b o nb e=>by rw [aD nb];exact e
   refine ⟨e3,by omega,xs.length-(i+1),by omega,rfl,bj,ar,fA (sH.trans s3) nD,?_,fun k i' y' h1 h2=>?_⟩
   ·rw [fs,e,if_pos rfl,List.length_append,List.length_append,ly]
    rfl
   ·rw [fs,e,if_pos rfl] at h2
    by_cases z:k<ys.length
    ·rw [List.getElem?_append_left z] at h1
     rw [List.getElem?_append_left (by omega)] at h2
     refine mono D i' y' H' _ ys (hP k i' y' h1 h2) eD fun b o nb e=>bu b o nb (s3 _ _ e)
    ·have hk:=(List.getElem?_eq_some_iff.mp h1).1
     rw [List.length_append,List.length_singleton] at hk
     obtain rfl:k=ys.length:=by omega
     rw [List.getElem?_append_right (Nat.le_refl _),Nat.sub_self] at h1
     rw [List.getElem?_append_right (by omega),show ys.length-((List.range i).filter pr).length=0 by omega] at h2
     cases h1
     cases h2
     exact mono D _ _ H3 _ ys hp e3 bu
  | false=>
   rw [if_neg (by simp)]
   refine ⟨xs.length-(i+1),by omega,rfl,bj,eD,sH,?_,fun k i' y' h1 h2=>?_⟩
   ·rw [fs,e,if_neg (by simp),List.append_nil]
    exact ly
   ·rw [fs,e,if_neg (by simp),List.append_nil] at h2
    exact hP k i' y' h1 h2
 ·have e:i=xs.length:=by omega
  subst e
  exact .inl ⟨js.stop _ Hc sH (Nat.le_refl _),fin D ys Hc nD sH ly hP eD⟩
def d9(n:Nat)(f:Nat→Nat→Bool)(i:Nat):List (Int×Int):=((List.range (n-(i+1))).filter fun k=>f i (i+1+k)).map fun k=>((i:Int),((i+1+k:Nat):Int))
def dn(n:Nat)(f:Nat→Nat→Bool):Nat→List (Int×Int)
 | 0=>[]
 | i+1=>dn n f i++d9 n f i
theorem uq{n:Nat}{f:Nat→Nat→Bool}{i:Nat}{p:Int×Int}(h:p∈d9 n f i):∃j,i<j∧j<n∧f i j=true∧p=((i:Int),(j:Int)):=by
 obtain ⟨k,hk,rfl⟩:=List.mem_map.mp h
 obtain ⟨h1,h2⟩:=List.mem_filter.mp hk
 have:=List.mem_range.mp h1
 exact ⟨i+1+k,by omega,by omega,h2,rfl⟩
theorem B2{n:Nat}{f:Nat→Nat→Bool}{i j:Nat}(h1:i<j)(h2:j<n)(h3:f i j=true):((i:Int),(j:Int))∈d9 n f i:=by
 refine List.mem_map.mpr ⟨j-(i+1),List.mem_filter.mpr ⟨List.mem_range.mpr (by omega),?_⟩,?_⟩
 ·show f i (i+1+(j-(i+1)))=true
  rw [show i+1+(j-(i+1))=j by omega]
  exact h3
 ·rw [show i+1+(j-(i+1))=j by omega]
theorem mem_of{n:Nat}{f:Nat→Nat→Bool}{p:Int×Int}:∀{k:Nat},p∈dn n f k→∃i j,i<k∧i<j∧j<n∧f i j=true∧p=((i:Int),(j:Int))
 | 0,h=>by cases h
 | k+1,h=>by
  rcases List.mem_append.mp h with h | h
  ·obtain ⟨i,j,h1,h2⟩:=mem_of h
   exact ⟨i,j,by omega,h2⟩
  ·obtain ⟨j,h1⟩:=uq h
   exact ⟨k,j,by omega,h1⟩
theorem ur{n:Nat}{f:Nat→Nat→Bool}{i j:Nat}(h1:i<j)(h2:j<n)(h3:f i j=true):∀{k:Nat},i<k→((i:Int),(j:Int))∈dn n f k
 | k+1,h=>by
  by_cases z:i=k
  ·subst z
   exact List.mem_append_right _ (B2 h1 h2 h3)
  ·exact List.mem_append_left _ (ur h1 h2 h3 (by omega))
theorem uu{n:Nat}{f:Nat→Nat→Bool}:∀k,(dn n f k).Pairwise lexLt
 | 0=>List.Pairwise.nil
 | k+1=>by
  refine List.pairwise_append.mpr ⟨uu k,?_,fun p hp q hq=>?_⟩
  ·refine List.pairwise_map.mpr ((List.pairwise_lt_range.sublist List.filter_sublist).imp fun h=>?_)
   right
   dsimp only
   omega
  ·obtain ⟨i,j,h1,_,_,_,rfl⟩:=mem_of hp
   obtain ⟨j',_,_,_,rfl⟩:=uq hq
   left
   dsimp only
   omega
theorem uv{p:Int×Int}:¬lexLt p p:=fun h=>by
 unfold lexLt at h
 omega
theorem B3{p q:Int×Int}(h1:lexLt p q)(h2:lexLt q p):False:=by
 unfold lexLt at h1 h2
 omega
theorem uw:∀{A B:List (Int×Int)},A.Pairwise lexLt→B.Pairwise lexLt→(∀p,p∈A↔p∈B)→A=B
 | [],[],_,_,_=>rfl
 | [],b::B,_,_,h=>absurd ((h b).mpr List.mem_cons_self) (by simp)
 | a::A,[],_,_,h=>absurd ((h a).mp List.mem_cons_self) (by simp)
 | a::A,b::B,ha,hb,h=>by
  obtain ⟨a1,a2⟩:=List.pairwise_cons.mp ha
  obtain ⟨b1,b2⟩:=List.pairwise_cons.mp hb
  have e:a=b:=by
   rcases List.mem_cons.mp ((h a).mp List.mem_cons_self) with z | z
   ·exact z
   ·rcases List.mem_cons.mp ((h b).mpr List.mem_cons_self) with y | y
    ·exact y.symm
    ·exact (B3 (b1 a z) (a1 b y)).elim
  subst e
  rw [uw a2 b2 fun p=>⟨fun m=>?_,fun m=>?_⟩]
  ·rcases List.mem_cons.mp ((h p).mp (List.mem_cons_of_mem _ m)) with z | z
   ·subst z
    exact (uv (a1 _ m)).elim
   ·exact z
  ·rcases List.mem_cons.mp ((h p).mpr (List.mem_cons_of_mem _ m)) with z | z
   ·subst z
    exact (uv (b1 _ m)).elim
   ·exact z
def gr(ak:List (List (Int×Int)))(i j:Nat):Bool:=!decide (((ak.getD i []).getD j o1).1=0)
def bJ(ak:List (List (Int×Int)))(i j:Nat):Bool:=gr ak i j || gr ak j i
def B4(C:Addr):Sp:=fun vs H Q _=>∃(z a:Addr) (q:Int) (B:Nat) (ak:List (List (Int×Int))) (n i:Nat),vs=[.ref z,.ref a,.int (i:Int)]∧di C H z q∧bV q∧b6 B H q a ak∧ak.length=n∧n≤40∧(∀ps∈ak,ps.length=n)∧i<n ∧
 ∀(r:Addr) (us:List V) (H':Hp),ae H H'→H r=none→H' r=some (.lst us)→aN H' us (d9 n (bJ ak) i)→Q (.ref r) H'
def B5(C N:Addr):Sp:=fun vs H Q E=>∃(z a:Addr) (q:Int) (B:Nat) (ak:List (List (Int×Int))) (m:Nat),vs=[.ref z,.ref a]∧di C H z q∧bV q∧b6 B H q a ak∧1≤ak.length∧ak.length≤40∧(∀ps∈ak,ps.length=m) ∧
 (m≠ak.length→∀H',ae H H'→E (.ref N) none H') ∧
 (m=ak.length→∀(t:Addr) (H':Hp),ae H H'→H t=none→dm H' t m (dn m (bJ ak) m)→Q (.ref t) H')
end My
namespace L2
open PySem PySem.Spec PyProof.Rows
def B6(K:PySem.W.Frag):List V→Hp→VK→Prop:=fun xs H Q=>∃(a C tp:Addr) (cs:List Addr),xs=[.ref a,.ref tp]∧H a=some (dH a C)∧eK K C∧H tp=some (.tup (cs.map V.ref))∧(∀c∈cs,PySem.W.kitOne K (.ref C) (.ref c)=some false)∧Q (.bl false) H
theorem ux:∀{cs:List Addr} {us:List Value},Vals (cs.map V.ref) us→us=cs.map Value.ref
 | [],_,.nil=>rfl
 | c::cs,_,.cons r t=>by
  cases r
  rw [ux t]
  rfl
theorem uy{K:PySem.W.Frag}{C:Addr}:∀{cs:List Addr},(∀c∈cs,PySem.W.kitOne K (.ref C) (.ref c)=some false)→PySem.W.kitAny K (.ref C) (cs.map Value.ref)=some false
 | [],_=>rfl
 | c::cs,h=>by
  show (match PySem.W.kitOne K (.ref C) (.ref c) with
   | some true=>some true
   | some false=>PySem.W.kitAny K (.ref C) (cs.map Value.ref)
   | none=>none)=some false
  rw [h c List.mem_cons_self]
  exact uy fun x hx=>h x (List.mem_cons_of_mem _ hx)
theorem B7{X:Cx}{K:PySem.W.Frag}(hK:X.K=K:=by rfl):bY X (.builtin "isinstance") (B6 K):=by
 intro pins s σ H xs us Q I r h
 subst hK
 obtain ⟨a,C,tp,cs,rfl,ea,cc,et,hn,q⟩:=h
 obtain ⟨u,v,rfl,rx,rt⟩:=vals2 r
 cases rx
 cases rt
 obtain ⟨k,_,_⟩:=(show aQ X.prog X.w H s.heap a (.ext (ExcAt a C)) from I.aq a _ ea)
 obtain ⟨_,ai,rv,o,g,hc,n,hd⟩:=(show aQ X.prog X.w H s.heap tp (.tup (cs.map V.ref)) from I.aq tp _ et)
 have ei:=ux rv
 subst ei
 obtain ⟨cl,dd,da,sl⟩:=o
 dsimp only at hc hd
 subst hc
 subst hd
 exact PySem.W.kia_tup (tm cc) I.aX k g (uy hn) (fun z=>nomatch z) fun tk=>⟨.bl false,H,I.tok tk,rfl,q⟩
end L2
namespace My
open PySem L2
def B8(K:PySem.W.Frag):Sp:=fun vs H Q _=>∃(P a td:Addr) (ns:List Int) (q:Int),vs=[.ref P,.ref td]∧aG H P a∧aH K (er P H) a (ns.map V.int)∧dk (er P H) td q∧bV q ∧
 ∀(v:V) (x m:Int) (H':Hp),ao P H H'→aG H' P a→aM (10 ^ 20) (er P H') q v x m→x≠0→Q v H'
def B9(C:Addr):Sp:=fun vs H Q _=>∃(z a:Addr) (q:Int) (B:Nat) (ak:List (List (Int×Int))) (m:Nat),vs=[.ref z,.ref a]∧di C H z q∧bV q∧b6 B H q a ak∧1≤ak.length∧ak.length≤40∧(∀ps∈ak,ps.length=m)∧m≠ak.length∧∀H',ae H H'→Q (.bl true) H'
structure bX (P:Addr) (H:Hp) (q:Int) (rs:Addr) (n:Nat) (R:Nat→Addr) (c:Nat→Nat→Int×Int):Prop where
 l:H rs=some (.lst ((List.range n).map fun i=>V.ref (R i)))
 nP:rs≠P∧∀i,i<n→R i≠P∧R i≠rs
 inj:∀i j,i<n→j<n→R i=R j→i=j
 row:∀i,i<n→∃ws:List V,H (R i)=some (.lst ws)∧ws.length=n∧∀j,j<n→∃v,ws[j]?=some v∧aM (10 ^ 20) (er P H) q v (c i j).1 (c i j).2
theorem bX.mono{P:Addr}{H H':Hp}{q:Int}{rs:Addr}{n:Nat}{R:Nat→Addr}{c:Nat→Nat→Int×Int}(h:bX P H q rs n R c)(s:ao P H H'):bX P H' q rs n R c where
 l:=s.at h.nP.1 h.l
 nP:=h.nP
 inj:=h.inj
 row:=fun i hi=>by
  obtain ⟨ws,e,l,k⟩:=h.row i hi
  exact ⟨ws,s.at (h.nP.2 i hi).1 e,l,fun j hj=>by
   obtain ⟨v,e1,e2⟩:=k j hj
   exact ⟨v,e1,e2.mono s⟩⟩
theorem bX.set{P:Addr}{H:Hp}{q:Int}{rs:Addr}{n:Nat}{R:Nat→Addr}{c:Nat→Nat→Int×Int}(h:bX P H q rs n R c){i j:Nat}{ws:List V}{v:V}{p:Int×Int}(hi:i<n)(ew:H (R i)=some (.lst ws))(hv:aM (10 ^ 20) (er P H) q v p.1 p.2) :
  bX P (upd H (R i) (.lst (ws.set j v))) q rs n R (fun a b=>if a=i∧b=j then p else c a b) where
 l:=by
  rw [aD fun e=>(h.nP.2 i hi).2 e.symm]
  exact h.l
 nP:=h.nP
 inj:=h.inj
 row:=fun a ha=>by
  have bu:∀b o,b≠R i→b≠P→H b=some o→upd H (R i) (.lst (ws.set j v)) b=some o:=fun b o nb _ e=>by rw [aD nb];exact e
  obtain ⟨us,e,l,k⟩:=h.row a ha
  by_cases z:a=i
  ·subst z
   rw [ew] at e
   cases e
   refine ⟨_,ar,by rw [List.length_set];exact l,fun b hb=>?_⟩
   obtain ⟨u,e1,e2⟩:=k b hb
   by_cases y:b=j
   ·subst y
    refine ⟨v,by rw [List.getElem?_set_self (by omega)],?_⟩
    rw [if_pos ⟨rfl,rfl⟩]
    exact hv.lB ew bu
   ·refine ⟨u,by rw [List.getElem?_set_ne (by omega)];exact e1,?_⟩
    rw [if_neg fun y'=>y y'.2]
    exact e2.lB ew bu
  ·refine ⟨us,?_,l,fun b hb=>?_⟩
   ·rw [aD fun y=>z (h.inj a i ha hi y)]
    exact e
   ·obtain ⟨u,e1,e2⟩:=k b hb
    refine ⟨u,e1,?_⟩
    rw [if_neg fun y'=>z y'.1]
    exact e2.lB ew bu
def b8(n:Nat)(L:List (Int×Int))(c:Nat→Nat→Int×Int):Prop:=∀a b,a<b→b<n→(((c a b).1≠0∨(c b a).1≠0)↔((a:Int),(b:Int))∈L)
def B_(K:PySem.W.Frag):Sp:=fun vs H Q _=>∃(P a td t:Addr) (ns:List Int) (q:Int) (n:Nat) (L:List (Int×Int)),vs=[.ref P,.ref td,.ref t]∧aG H P a∧aH K (er P H) a (ns.map V.int)∧dk (er P H) td q∧bV q∧dm (er P H) t n L∧cI n L∧1≤n∧n≤10 ∧
 ∀(tp rs:Addr) (nv:V) (R:Nat→Addr) (c:Nat→Nat→Int×Int) (H':Hp),ao P H H'→aG H' P a→er P H' tp=some (.tup [.ref rs,nv])→aM (10 ^ 20) (er P H') q nv 0 1→bX P H' q rs n R c→b8 n L c→Q (.ref tp) H'
theorem uz{te:TE}{σ:St}{H:Hp}{R:VK}(M:V→Hp→Prop)(h1:∀R':VK,(∀x H,M x H→R' x H)→te σ H R')(h2:∀x H,M x H→R x H):te σ H R:=h1 R h2
theorem b8.start(n:Nat):b8 n [] (fun _ _=>(0,1)):=fun a b _ _=>by simp
theorem b8.more{n i j:Nat}{L:List (Int×Int)}{c c':Nat→Nat→Int×Int}(h:b8 n L c)(fB:i<j)(off:∀a b,¬((a=i∧b=j)∨(a=j∧b=i))→c' a b=c a b)(nz:(c' i j).1≠0∨(c' j i).1≠0):b8 n (L++[((i:Int),(j:Int))]) c':=fun a b oV hb=>by
 by_cases z:a=i∧b=j
 ·obtain ⟨rfl,rfl⟩:=z
  exact ⟨fun _=>List.mem_append_right _ (List.mem_singleton.mpr rfl),fun _=>nz⟩
 ·rw [off a b (by omega),off b a (by omega),h a b oV hb]
  refine ⟨fun m=>List.mem_append_left _ m,fun m=>?_⟩
  rcases List.mem_append.mp m with m | m
  ·exact m
  ·have e:=List.mem_singleton.mp m
   have e1:=congrArg Prod.fst e
   have e2:=congrArg Prod.snd e
   dsimp only at e1 e2
   omega
theorem b8.diag{n i:Nat}{L:List (Int×Int)}{c:Nat→Nat→Int×Int}{p:Int×Int}(h:b8 n L c):b8 n L (fun a b=>if a=i∧b=i then p else c a b):=fun a b oV hb=>by
 dsimp only
 rw [if_neg (by omega),if_neg (by omega)]
 exact h a b oV hb
theorem Ca{ys:List V}{n:Nat}{v:V}(hl:ys.length=n)(h:∀(i:Nat) (y:V),ys[i]?=some y→y=v):ys=List.replicate n v:=by
 refine List.ext_getElem (by simp [hl]) fun i h1 h2=>?_
 rw [List.getElem_replicate]
 exact h i _ (by simp [h1])
theorem uA{B:Nat}{H H':Hp}{q:Int}{a D:Addr}{ps:List (Int×Int)}{ys:List V}(h:bR B H q a ps)(n:a≠D)(eD:H D=some (.lst ys))(k:∀b o,b≠D→H b=some o→H' b=some o):bR B H' q a ps:=by
 obtain ⟨vs,e,l,f⟩:=h
 exact ⟨vs,k _ _ n e,l,fun i v p h1 h2=>(f i v p h1 h2).bu eD k⟩
def b9(n:Nat)(c:Nat→Nat→Int×Int)(i:Nat):List (Int×Int):=(List.range n).map fun j=>c i j
def dq(n:Nat)(c:Nat→Nat→Int×Int):List (List (Int×Int)):=(List.range n).map (b9 n c)
theorem lI(n:Nat)(c:Nat→Nat→Int×Int):(dq n c).length=n:=by unfold dq;simp
theorem gs(n:Nat)(c:Nat→Nat→Int×Int)(i:Nat):(b9 n c i).length=n:=by unfold b9;simp
theorem uB{n:Nat}{c:Nat→Nat→Int×Int}:∀ps∈dq n c,ps.length=n:=fun ps h=>by
 obtain ⟨i,_,rfl⟩:=List.mem_map.mp h
 exact gs n c i
theorem uC{n:Nat}{c:Nat→Nat→Int×Int}{i j:Nat}(hi:i<n)(hj:j<n):((dq n c).getD i []).getD j o1=c i j:=by
 have e1:(dq n c).getD i []=b9 n c i:=by
  rw [getD_at (by rw [lI];exact hi)]
  unfold dq
  rw [List.getElem_map,List.getElem_range]
 rw [e1,getD_at (by rw [gs];exact hj)]
 unfold b9
 rw [List.getElem_map,List.getElem_range]
theorem bX.jY{P:Addr}{H:Hp}{q:Int}{rs:Addr}{n:Nat}{R:Nat→Addr}{c:Nat→Nat→Int×Int}(h:bX P H q rs n R c){i:Nat}(hi:i<n):bR (10 ^ 20) H q (R i) (b9 n c i):=by
 obtain ⟨ws,e,l,k⟩:=h.row i hi
 refine ⟨ws,e,by rw [gs];exact l,fun j v p h1 h2=>?_⟩
 have hj:j<n:=by
  rw [←l]
  exact (List.getElem?_eq_some_iff.mp h1).1
 obtain ⟨u,e1,e2⟩:=k j hj
 rw [e1] at h1
 cases h1
 unfold b9 at h2
 rw [List.getElem?_map,List.getElem?_range hj] at h2
 cases h2
 exact e2.mono bW
theorem tab_of{B:Nat}{H:Hp}{q:Int}{rs:Addr}{n:Nat}{R:Nat→Addr}{f:Nat→List (Int×Int)}(e:H rs=some (.lst ((List.range n).map fun i=>V.ref (R i))))(h:∀i,i<n→bR B H q (R i) (f i)):b6 B H q rs ((List.range n).map f):=by
 refine ⟨_,e,by simp,fun i v ps h1 h2=>?_⟩
 have hi:i<n:=by
  have:=(List.getElem?_eq_some_iff.mp h1).1
  simpa using this
 rw [List.getElem?_map,List.getElem?_range hi] at h1 h2
 cases h1
 cases h2
 exact ⟨R i,rfl,h i hi⟩
theorem Cb{n:Nat}{L:List (Int×Int)}{c:Nat→Nat→Int×Int}(ok:cI n L)(pw:L.Pairwise lexLt)(t:b8 n L c):dn n (bJ (dq n c)) n=L:=by
 have cx:∀i j,i<j→j<n→(bJ (dq n c) i j=true↔((i:Int),(j:Int))∈L):=fun i j fB hj=>by
  rw [←t i j fB hj]
  unfold bJ gr
  rw [uC (by omega) hj,uC hj (by omega)]
  simp
 refine uw (uu n) pw fun p=>⟨fun m=>?_,fun m=>?_⟩
 ·obtain ⟨i,j,_,fB,hj,ht,rfl⟩:=mem_of m
  exact (cx i j fB hj).mp ht
 ·have b:=ok.lt p m
  obtain ⟨p1,p2⟩:=p
  dsimp only at b
  obtain ⟨i,rfl⟩:=Int.eq_ofNat_of_zero_le b.1
  obtain ⟨j,rfl⟩:=Int.eq_ofNat_of_zero_le (show 0≤p2 by omega)
  exact ur (by omega) (by omega) ((cx i j (by omega) (by omega)).mpr m) (by omega)
def oW(n:Nat)(L:List (Int×Int)):Tr:=.tp [.fl (.int (n:Int)),.tp (L.map fun p=>.tp [.fl (.int p.1),.fl (.int p.2)])]
theorem uD{H:Hp}{t:Addr}{n:Nat}{L:List (Int×Int)}(h:dm H t n L):dN H (oW n L) (.ref t):=by
 obtain ⟨lt,us,e1,e2,h3⟩:=h
 refine .tp e1 rfl fun i v tr h1 h2=>?_
 match i,h1,h2 with
 | 0,h1,h2=>cases h1;cases h2;exact .fl rfl
 | 1,h1,h2=>
  cases h1
  cases h2
  refine .tp e2 (by rw [List.length_map];exact h3.1) fun k v tr g1 g2=>?_
  have hk:k<L.length:=by
   have:=(List.getElem?_eq_some_iff.mp g2).1
   simpa using this
  rw [List.getElem?_map,List.getElem?_eq_getElem hk] at g2
  cases g2
  obtain ⟨b,rfl,eb⟩:=h3.2 k v L[k] g1 (by simp [hk])
  refine .tp eb rfl fun m v tr f1 f2=>?_
  match m,f1,f2 with
  | 0,f1,f2=>cases f1;cases f2;exact .fl rfl
  | 1,f1,f2=>cases f1;cases f2;exact .fl rfl
  | m+2,f1,_=>cases f1
 | i+2,h1,_=>cases h1
theorem Cc(n:Nat)(L:List (Int×Int)):(oW n L).In 3:=fun t ht=>by
 rcases List.mem_cons.mp ht with rfl | ht
 ·trivial
 ·rw [List.mem_singleton.mp ht]
  intro u hu
  obtain ⟨p,_,rfl⟩:=List.mem_map.mp hu
  intro w hw
  rcases List.mem_cons.mp hw with rfl | hw
  ·trivial
  ·rw [List.mem_singleton.mp hw];trivial
theorem lJ{q:Int}(h:q=2∨q=3∨q=7∨q=997):bV q:=by
 rcases h with rfl | rfl | rfl | rfl
 ·exact .inr ⟨by decide,by decide,by decide +kernel⟩
 ·exact .inr ⟨by decide,by decide,by decide +kernel⟩
 ·exact .inr ⟨by decide,by decide,by decide +kernel⟩
 ·exact .inr ⟨by decide,by decide,by decide +kernel⟩
theorem Cd{B:Nat}{H:Hp}{q:Int}{a r:Addr}{n:Nat}{R:Nat→Addr}{f:Nat→List (Int×Int)}{ps:List (Int×Int)}(e:H a=some (.lst ((List.range n).map (fun i=>V.ref (R i))++[.ref r])))(h:∀i,i<n→bR B H q (R i) (f i))(hr:bR B H q r ps):b6 B H q a ((List.range n).map f++[ps]):=by
 refine ⟨_,e,by simp,fun i v qs h1 h2=>?_⟩
 by_cases hi:i<n
 ·rw [List.getElem?_append_left (by simp [hi]),List.getElem?_map,List.getElem?_range hi] at h1 h2
  cases h1
  cases h2
  exact ⟨R i,rfl,h i hi⟩
 ·have cu:=(List.getElem?_eq_some_iff.mp h1).1
  simp at cu
  rw [List.getElem?_append_right (by simp;omega)] at h1 h2
  rw [show i-((List.range n).map fun i=>V.ref (R i)).length=0 by simp;omega] at h1
  rw [show i-((List.range n).map f).length=0 by simp;omega] at h2
  cases h1
  cases h2
  exact ⟨r,rfl,hr⟩
theorem Ce{q:Int}:(dM q).prime=if q=0 then V.ay else .int q:=by
 unfold dM
 split <;> rfl
end My
set_option maxRecDepth 100000
set_option maxHeartbeats 4000000
namespace My
open PySem L2
def top(i:Nat):Stmt:=PySem.Challenge.pw_bandwright_k16_shapes_of_tables.main.body.getD i (.Pass ⟨0,0,0,0⟩)
abbrev lK:Stmt:=top 17
abbrev lN:Stmt:=top 19
abbrev lO:Stmt:=top 20
abbrev lP:Stmt:=top 25
abbrev lQ:Stmt:=top 29
abbrev lR:Stmt:=top 30
abbrev lS:Stmt:=top 33
abbrev lT:Stmt:=top 34
abbrev lU:Stmt:=top 12
abbrev lW:Stmt:=top 13
abbrev lY:Stmt:=top 22
abbrev lZ:Stmt:=top 23
abbrev l4:Stmt:=top 37
abbrev l5:Stmt:=top 38
abbrev l8:Stmt:=top 39
abbrev l_:Stmt:=top 40
abbrev ma:Stmt:=top 41
abbrev md:Stmt:=top 43
abbrev me:Stmt:=top 42
abbrev mf:Stmt:=top 44
abbrev mh:Stmt:=top 45
abbrev mi:Stmt:=top 46
abbrev mj:Stmt:=top 47
abbrev ml:Stmt:=inClass (top 35) 0
abbrev dr:Stmt:=inClass (top 35) 3
structure mn where
 gu:Addr
 iu:FuncData
 gv:Addr
 iw:FuncData
 gw:Addr
 ix:FuncData
 gx:Addr
 iy:FuncData
 gy:Addr
 iz:FuncData
 gz:Addr
 iA:FuncData
 gA:Addr
 iB:FuncData
 gB:Addr
 iC:FuncData
 gC:Addr
 iD:FuncData
 gD:Addr
 iE:FuncData
 gE:Addr
 iF:FuncData
 gF:Addr
 iG:FuncData
 gG:Addr
 iH:FuncData
 gH:Addr
 iI:FuncData
 gI:Addr
 iJ:FuncData
 gJ:Addr
 iK:FuncData
 gK:Addr
 iL:FuncData
 gM:Addr
 iM:FuncData
 gN:Addr
 iN:FuncData
 gO:Addr
 iO:FuncData
 gP:Addr
 iP:FuncData
 gQ:Addr
 iQ:FuncData
 fC:Addr
 gR:FuncData
 gS:Addr
 iR:FuncData
 eW:Addr
 jZ:FuncData
 aP:Addr
 cS:Addr
 b_:Addr
 fD:Addr
 az:Addr
 d_:Addr
 ed:Addr
 ee:Addr
 eg:Addr
 eh:Addr
structure Txt (K:PySem.W.Frag) (mg:Str→Option Value) (t:mn):Prop where
 iS:aA K "is_whole" "is_whole" lK t.gu t.iu
 uE:Binds K t.iu ["thing"] []
 uF:mg "is_whole" = some (.ref t.gu)
 iT:aA K "common_divisor" "common_divisor" lN t.gv t.iw
 uH:Binds K t.iw ["one","other"] []
 uI:mg "common_divisor" = some (.ref t.gv)
 iU:aA K "is_prime" "is_prime" lO t.gw t.ix
 uJ:Binds K t.ix ["number"] []
 uK:mg "is_prime" = some (.ref t.gw)
 iV:aA K "ratio" "ratio" lP t.gx t.iy
 uM:Binds K t.iy ["top","bottom"] []
 uN:mg "ratio" = some (.ref t.gx)
 iW:aA K "remainder_back" "remainder_back" lQ t.gy t.iz
 uO:Binds K t.iz ["prime","number"] []
 uP:mg "remainder_back" = some (.ref t.gy)
 iX:aA K "remainder_over" "remainder_over" lR t.gz t.iA
 uQ:Binds K t.iA ["prime","a","b"] []
 uR:mg "remainder_over" = some (.ref t.gz)
 iY:aA K "is_fractions" "is_fractions" lS t.gA t.iB
 uS:Binds K t.iB ["told"] []
 uT:mg "is_fractions" = some (.ref t.gA)
 iZ:aA K "is_wheel" "is_wheel" lT t.gB t.iC
 uU:Binds K t.iC ["told"] []
 uV:mg "is_wheel" = some (.ref t.gB)
 i3:aA K "width" "width" lU t.gC t.iD
 uW:Binds K t.iD ["table"] []
 uX:mg "width" = some (.ref t.gC)
 i4:aA K "square_size" "square_size" lW t.gD t.iE
 uY:Binds K t.iE ["table"] []
 uZ:mg "square_size" = some (.ref t.gD)
 i5:aA K "links_of_place" "links_of_place" lY t.gE t.iF
 u0:Binds K t.iF ["world","table","i"] []
 u3:mg "links_of_place" = some (.ref t.gE)
 gT:aA K "shape_of" "shape_of" lZ t.gF t.iG
 oX:Binds K t.iG ["world","table"] []
 oY:mg "shape_of" = some (.ref t.gF)
 i6:aA K "_law_fill" "_law_fill" l4 t.gG t.iH
 u4:Binds K t.iH ["_law_cell","_law_at"] []
 u5:mg "_law_fill" = some (.ref t.gG)
 bK:aA K "_law_next" "_law_next" l5 t.gH t.iI
 cb:Binds K t.iI ["_law_pen","_law_many"] []
 cf:mg "_law_next" = some (.ref t.gH)
 i7:aA K "_law_turned" "_law_turned" l8 t.gI t.iJ
 u6:Binds K t.iJ ["_law_pen","_law_some"] []
 u7:mg "_law_turned" = some (.ref t.gI)
 i8:aA K "_law_tied_by" "_law_tied_by" l_ t.gJ t.iK
 u9:Binds K t.iK ["_law_pen","_law_way","_law_size","_law_wide","_law_i","_law_j"] []
 u_:mg "_law_tied_by" = some (.ref t.gJ)
 i9:aA K "_law_grown_links" "_law_grown_links" ma t.gK t.iL
 va:Binds K t.iL ["_law_pen","_law_size"] []
 vb:mg "_law_grown_links" = some (.ref t.gK)
 i_:aA K "_law_named" "_law_named" md t.gM t.iM
 vc:Binds K t.iM ["_law_size","_law_links","_law_names"] []
 vd:mg "_law_named" = some (.ref t.gM)
 ja:aA K "_law_drawn" "_law_drawn" me t.gN t.iN
 ve:Binds K t.iN ["_law_pen","_law_most"] []
 vf:mg "_law_drawn" = some (.ref t.gN)
 fE:aA K "_law_number" "_law_number" mf t.gO t.iO
 mq:Binds K t.iO ["_law_pen","_law_told"] []
 mr:mg "_law_number" = some (.ref t.gO)
 jb:aA K "_law_table" "_law_table" mh t.gP t.iP
 vg:Binds K t.iP ["_law_pen","_law_told","_law_shape"] []
 vh:mg "_law_table" = some (.ref t.gP)
 gU:aA K "_law_refused" "_law_refused" mi t.gQ t.iQ
 oZ:Binds K t.iQ ["_law_world","_law_rows"] []
 o4:mg "_law_refused" = some (.ref t.gQ)
 jc:aA K "law" "law" mj t.fC t.gR
 Cf:Binds K t.gR ["script"] []
 vi:mg "law" = some (.ref t.fC)
 j4:aA K "__init__" "World.__init__" ml t.gS t.iR
 vj:Binds K t.iR ["self","told"] []
 mw:Mk K t.aP t.gS
 vk:cR K "of" "World.of" dr 1 t.eW t.jZ
 Cg:Binds K t.jZ ["self","top","bottom"] []
 vm:∃v,Vals [V.int 1] [v]∧Binds K t.jZ ["self","top","bottom"] [v]
 Ci:∀(s:Shared) (us ws:List Value),K.In s.heap→ws.length=1→us.length+1=(["self","top","bottom"]:List Str).length→BindsTo s t.jZ ⟨us,[("bottom":Str)].zip ws⟩ ((["self","top","bottom"]:List Str).zip (us++ws))
 vn:Meth K t.aP "of" t.eW
 fF:dE K t.aP
 vo:mg "World" = some (.ref t.aP)
 gW:fX K t.aP "prime"
 o5:mg "NoWorld" = some (.ref t.cS)
 mx:mg "NoOver" = some (.ref t.b_)
 vp:mg "WrightError" = some (.ref t.fD)
 my:mg "NoFit" = some (.ref t.az)
 vq:mg "NoShape" = some (.ref t.d_)
 vt:mg "NoOrder" = some (.ref t.ed)
 vv:mg "NoSize" = some (.ref t.ee)
 vw:mg "NoLink" = some (.ref t.eg)
 vx:mg "Tied" = some (.ref t.eh)
 cT:mg "len" = none
 eX:mg "isinstance" = none
 vy:mg "int" = none
 vz:mg "bool" = none
 jd:mg "tuple" = none
 j6:mg "list" = none
 du:mg "range" = none
 o6:mg "abs" = none
 vA:mg "any" = none
 vB:mg "min" = none
 vC:mg "max" = none
 vD:mg "sorted" = none
 vE:mg "ValueError" = none
 vF:∃u,mg "GREATEST_PRIME" = some u∧RelV (.int 997) u
 vG:∃u,mg "LONG" = some u∧RelV (.int 2048) u
 vH:PySem.W.excIn K t.cS [.type "ValueError",.type "Exception",.type "BaseException",.type "object"] "ValueError.__new__" = true
 o7:PySem.W.excIn K t.b_ [.type "ValueError",.type "Exception",.type "BaseException",.type "object"] "ValueError.__new__" = true
 mz:PySem.W.excIn K t.az [.type "ValueError",.type "Exception",.type "BaseException",.type "object"] "ValueError.__new__" = true
 vI:PySem.W.excIn K t.fD [.type "ValueError",.type "Exception",.type "BaseException",.type "object"] "ValueError.__new__" = true
 Cj:PySem.W.mroIn K t.az (.ref t.az)=some true
 vJ:PySem.W.mroIn K t.az (.ref t.fD)=some true
 vK:PySem.W.kitOne K (.ref t.az) (.type "ValueError")=some true
 vL:PySem.W.kitOne K (.ref t.az) (.ref t.az)=some true
 vM:PySem.W.kitOne K (.ref t.az) (.ref t.cS)=some false
 vO:PySem.W.kitOne K (.ref t.az) (.ref t.b_)=some false
 vP:PySem.W.kitOne K (.ref t.az) (.ref t.d_)=some false
 vQ:PySem.W.kitOne K (.ref t.az) (.ref t.ed)=some false
 vR:PySem.W.kitOne K (.ref t.az) (.ref t.ee)=some false
 vS:PySem.W.kitOne K (.ref t.az) (.ref t.eg)=some false
 vT:PySem.W.kitOne K (.ref t.az) (.ref t.eh)=some false
 vU:PySem.W.hasDictIn K t.az=true
 vV:PySem.W.findIn K (.ref t.az) "__getattribute__" = some (some (.builtin "BaseException.__getattribute__"))
 vW:PySem.W.findIn K (.ref t.az) "__getattr__" = some none
 vX:PySem.W.findIn K (.ref t.az) "__class__" = some (some (.builtin "object.__class__"))
 vY:PySem.W.mroIn K t.az (.type "object")=some true
 vZ:PySem.W.mroIn K t.az (.type "BaseException")=some true
section
variable {P:Program} {w:World} {K:PySem.W.Frag} {mg:Str→Option Value} {base:Heap} {t:mn}
theorem Ck:ba ["thing"] ["thing"] (aE lK):=⟨rfl,rfl,rfl,by decide +kernel,rfl,by decide +kernel,by decide +kernel⟩
theorem Cm(T:Txt K mg t):aJ P w K mg base bt 1 t.gu t.iu ["thing"] AE:=by
 have S:=Ck
 refine T.iS.ok S (fun vs H Q E h=>?_) (fun av A outer s H vs Q E hr h=>?_)
 ·obtain ⟨v,rfl,_⟩:=h
  rfl
 ·obtain ⟨v,rfl,ha,k⟩:=h
  refine ⟨_,(@ax _ _ _ (@aO _ _ _ _ (@fN _ _ _ _ _ _ _ (bo (gf (K:=K)) rfl T.eX boot_isinstance (@aa _ _ _ _ _ (by rfl) (pv 0) (@aa _ _ _ _ _ (by rfl) (hI (v:=.ty "int") rfl T.vy boot_int rfl) ag))) (@jx _ _ _ _ _ (@rn _ _ _ _ (bo (gf (K:=K)) rfl T.eX boot_isinstance (@aa _ _ _ _ _ (by rfl) (pv 0) (@aa _ _ _ _ _ (by rfl) (hI (v:=.ty "bool") rfl T.vz boot_bool rfl) ag)))))))),?_⟩
  obtain ⟨Ty,ty,k1,k2,_⟩:=ha.n8 (K:=K)
  refine ⟨_,rfl,_,_,_,_,rfl,rfl,ty,k1,_,rfl,a7 (fun h1=>?_) (fun h1=>?_)⟩
  ·refine ⟨_,rfl,_,_,_,_,rfl,rfl,ty,k2,_,rfl,?_⟩
   have e:(!iq v)=ip v:=by
    cases h2:iq v with
    | true=>rw [Ax h2];rfl
    | false=>rw [h2,Bool.or_false] at h1;rw [h1];rfl
   show Q (.bl (!iq v)) H
   rw [e]
   exact k
  ·have e:ip v=false:=by
    cases h2:ip v with
    | true=>rw [h2] at h1;exact absurd rfl h1
    | false=>rfl
   rw [e] at k
   exact k
theorem Cn:ba ["one","other","left","shorter"] ["one","other"] (aE lN):=⟨rfl,rfl,rfl,by decide +kernel,rfl,by decide +kernel,by decide +kernel⟩
theorem Co(T:Txt K mg t):aJ P w K mg base bt 1 t.gv t.iw ["one","other"] AF:=by
 have S:=Cn
 obtain ⟨uL,hL,rL⟩:=T.vG
 refine T.iT.ok S (fun vs H Q E h=>?_) (fun av A outer s H vs Q E hr h=>?_)
 ·obtain ⟨a,b,rfl,_⟩:=h
  rfl
 ·obtain ⟨a,b,rfl,mb,k⟩:=h
  refine ⟨_,(@au _ _ _ _ _ (@aB _ _ 0 _ _ _ _ (by rfl) (by first | exact .inl rfl | exact .inr rfl | assumption) S.nd rfl (Or.inl rfl) (bo rR rfl T.o6 boot_abs (@aa _ _ _ _ _ (by rfl) (pv 0) ag)))
   (@au _ _ _ _ _ (@aB _ _ 1 _ _ _ _ (by rfl) (by first | exact .inl rfl | exact .inr rfl | assumption) S.nd rfl (Or.inl rfl) (bo rR rfl T.o6 boot_abs (@aa _ _ _ _ _ (by rfl) (pv 1) ag)))
   (@au _ _ _ _ _ (@kD _ _ _ _ _ _ PassesOwn.never (@aR _ _ _ _ _ _ _ _ fV (pv 1) aj (aI _)) (@au _ _ _ _ _ (@aB _ _ 2 _ _ _ _ (by rfl) (by first | exact .inl rfl | exact .inr rfl | assumption) S.nd rfl (Or.inl rfl) (@aC _ _ _ _ _ _ _ _ cL (pv 0) (pv 1)))
   (@au _ _ _ _ _ (@aB _ _ 0 _ _ _ _ (by rfl) (by first | exact .inl rfl | exact .inr rfl | assumption) S.nd rfl (Or.inl rfl) (pv 1))
   (@au _ _ _ _ _ (@aB _ _ 1 _ _ _ _ (by rfl) (by first | exact .inl rfl | exact .inr rfl | assumption) S.nd rfl (Or.inl rfl) (pv 2))
   (@ax _ _ _ (@a_ _ _ _ _ _ _ _ _ (@aR _ _ _ _ _ _ _ _ fV (y_ PySem.F.plainAttrs_int PySem.F.slot_int_bit_length PySem.F.type_int_bit_length Au (pv 0)) (dX (v:=.int 2048) rfl hL rL) (aI _)) xH bh))))))
   (@ax _ _ _ (@aO _ _ _ _ (pv 0)))))),?_⟩
  refine ⟨_,rfl,a,rfl,_,rfl,b,rfl,fun m σ H'=>H'=H∧∃(x y:Nat) (v u:Option V),σ=[some (.int (x:Int)),some (.int (y:Int)),v,u]∧m=y∧y≤b.natAbs∧Nat.gcd x y=Int.gcd a b,⟨b.natAbs,rfl,a.natAbs,b.natAbs,none,none,?_,rfl,Nat.le_refl _,rfl⟩,?_⟩
  ·show [some (V.int (if a<0 then -a else a)),some (V.int (if b<0 then -b else b)),none,none]=_
   rw [tP,tP]
  ·rintro m σ H' ⟨rfl,x,y,v,u,rfl,em,hb,hg⟩
   refine ⟨_,rfl,_,_,rfl,rfl,_,rfl,a7 (fun hy=>?_) (fun hy=>?_)⟩
   ·have hy:(0:Int)<y:=of_decide_eq_true hy
    refine ⟨fun σ' H2=>H2=H'∧σ'=[some (.int (y:Int)),some (.int (((x % y:Nat)):Int)),some (.int (((x % y:Nat)):Int)),u],?_,?_⟩
    ·rintro σ' H2 ⟨rfl,rfl⟩
     exact ⟨x % y,by rw [em];exact Nat.mod_lt _ (by omega),rfl,y,x % y,_,_,rfl,rfl,Nat.le_trans (Nat.le_of_lt (Nat.mod_lt _ (by omega))) hb,by rw [Az];exact hg⟩
    ·have hm:aS (y:Int):=Nat.lt_of_le_of_lt (by rw [Int.natAbs_natCast];exact hb) mb
     have Ho:=Aw hm
     refine ⟨_,rfl,_,rfl,_,_,rfl,rfl,hy,_,rfl,_,rfl,_,rfl,rfl,_,rfl,rfl,_,_,rfl,rfl,_,rfl,a7 (fun hz=>?_) (fun _=>⟨rfl,rfl⟩)⟩
     have hz:=of_decide_eq_true hz
     exact absurd hz (by omega)
   ·have hy:¬(0:Int)<y:=fun z=>hy (decide_eq_true z)
    have y0:y=0:=by omega
    subst y0
    rw [Nat.gcd_zero_right] at hg
    rw [←hg] at k
    exact ⟨_,rfl,k⟩
theorem Cp:ba ["number","divisor"] ["number"] (aE lO):=⟨rfl,rfl,rfl,by decide +kernel,rfl,by decide +kernel,by decide +kernel⟩
theorem Cq(T:Txt K mg t):aJ P w K mg base bt 1 t.gw t.ix ["number"] AG:=by
 have S:=Cp
 refine T.iU.ok S (fun vs H Q E h=>?_) (fun av A outer s H vs Q E hr h=>?_)
 ·obtain ⟨n,rfl,_⟩:=h
  rfl
 ·obtain ⟨n,rfl,Cr,h_,k⟩:=h
  refine ⟨_,(@au _ _ _ _ _ (@aB _ _ 1 _ _ _ _ (by rfl) (by first | exact .inl rfl | exact .inr rfl | assumption) S.nd rfl (Or.inl rfl) aj)
   (@au _ _ _ _ _ (@kD _ _ _ _ _ _ PassesOwn.never (@aR _ _ _ _ _ _ _ _ kJ (@aC _ _ _ _ _ _ _ _ cK (pv 1) (pv 1)) (pv 0) (aI _)) (@au _ _ _ _ _ (@a_ _ _ _ _ _ _ _ _ (@aR _ _ _ _ _ _ _ _ bP (@aC _ _ _ _ _ _ _ _ cL (pv 0) (pv 1)) aj (aI _)) (@ax _ _ _ (@aO _ _ _ _ fM)) bh)
   (@ax _ _ _ (xQ (i:=1) S.nd rfl (Or.inl rfl) aj xT))))
   (@ax _ _ _ (@aO _ _ _ _ (@dY _ _ _ _ _ _ _ _ rQ (pv 0) aj (aI _)))))),?_⟩
  refine ⟨fun m σ H'=>H'=H∧∃d:Int,σ=[some (.int n),some (.int d)]∧2≤d∧d≤32∧m=(33-d).toNat∧∀e:Int,2≤e→e<d→n % e≠0,⟨_,rfl,2,rfl,by omega,by omega,rfl,fun e a b=>by omega⟩,?_⟩
  rintro m σ H' ⟨rfl,d,rfl,h1,h2,rfl,h3⟩
  refine ⟨_,rfl,_,rfl,_,_,rfl,rfl,.inl ⟨by omega,by omega⟩,_,rfl,_,_,rfl,rfl,_,rfl,a7 (fun hq=>?_) (fun hq=>?_)⟩
  ·have hq:=of_decide_eq_true hq
   have hd:d<32:=by
    by_cases z:d<32
    ·exact z
    ·have:d=32:=by omega
     subst this
     omega
   refine ⟨fun σ' H2=>H2=H'∧σ'=[some (.int n),some (.int (d+1))]∧n % d≠0,?_,?_⟩
   ·rintro σ' H2 ⟨rfl,rfl,hm⟩
    refine ⟨(33-(d+1)).toNat,by omega,rfl,d+1,rfl,by omega,by omega,rfl,fun e a b=>?_⟩
    by_cases z:e=d
    ·subst z;exact hm
    ·exact h3 e a (by omega)
   ·refine ⟨_,rfl,_,rfl,_,_,rfl,rfl,(show (0:Int)<d by omega),rfl,_,rfl,a7 (fun hm=>?_) (fun hm=>?_)⟩
    ·have hm:=V.int.inj (of_decide_eq_true hm)
     rw [tD h_ h1 hq hm] at k
     exact k
    ·exact ⟨_,rfl,_,_,rfl,rfl,rfl,rfl,fun z=>hm (decide_eq_true (congrArg V.int z))⟩
  ·have hq:¬d*d≤n:=fun z=>hq (decide_eq_true z)
   refine ⟨_,rfl,_,_,rfl,rfl,?_⟩
   rw [Ah (n:=n) (d:=d) (by omega) h1 h3] at k
   have e:decide ((2:Int)≤n)=true:=decide_eq_true Cr
   show Q (.bl (decide ((2:Int)≤n))) H'
   rw [e]
   exact k
theorem Cs:ba ["told"] ["told"] (aE lS):=⟨rfl,rfl,rfl,by decide +kernel,rfl,by decide +kernel,by decide +kernel⟩
theorem Ct(T:Txt K mg t):aJ P w K mg base bt 1 t.gA t.iB ["told"] AH:=by
 have S:=Cs
 refine T.iY.ok S (fun vs H Q E h=>?_) (fun av A outer s H vs Q E hr h=>?_)
 ·obtain ⟨p,d,rfl,_⟩:=h
  rfl
 ·obtain ⟨p,d,rfl,hp,k⟩:=h
  refine ⟨_,(@ax _ _ _ (@aO _ _ _ _ (@fN _ _ _ _ _ _ _ (bo (gf (K:=K)) rfl T.eX boot_isinstance (@aa _ _ _ _ _ (by rfl) (pv 0) (@aa _ _ _ _ _ (by rfl) (hI (v:=.ty "tuple") rfl T.jd boot_tuple rfl) ag))) (@fN _ _ _ _ _ _ _ (@dY _ _ _ _ _ _ _ _ bP (bo c_ rfl T.cT boot_len (@aa _ _ _ _ _ (by rfl) (pv 0) ag)) aj (aI _)) (@jx _ _ _ _ _ (@dY _ _ _ _ _ _ _ _ bP (@aK _ _ _ _ _ _ _ cO (pv 0) aj (fun _ _=>rfl)) cB (aI _))))))),?_⟩
  refine ⟨_,rfl,_,_,_,true,rfl,rfl,.of (.tup hp),ot,true,rfl,dG ?_⟩
  cases d with
  | a x=>
   refine ⟨_,rfl,p,_,rfl,.inr (.of hp),rfl,true,rfl,dG ?_⟩
   refine ⟨_,rfl,p,_,0,.str x,rfl,rfl,.of hp,rfl,rfl,?_⟩
   rw [oq]
   exact k
  | b x n=>
   exact ⟨_,rfl,p,_,rfl,.inr (.of hp),rfl,false,rfl,cn k⟩
theorem Cu:ba ["told"] ["told"] (aE lT):=⟨rfl,rfl,rfl,by decide +kernel,rfl,by decide +kernel,by decide +kernel⟩
theorem Cv(T:Txt K mg t):aJ P w K mg base bt 2 t.gB t.iC ["told"] AI:=by
 have S:=Cu
 have Cw:=Cm (P:=P) (w:=w) (base:=base) T
 have Cy:=Cq (P:=P) (w:=w) (base:=base) T
 obtain ⟨uG,hG,rG⟩:=T.vF
 refine T.iZ.ok S (fun vs H Q E h=>?_) (fun av A outer s H vs Q E hr h=>?_)
 ·obtain ⟨p,d,rfl,_⟩:=h
  rfl
 ·obtain ⟨p,d,rfl,hp,k⟩:=h
  refine ⟨_,(@au _ _ _ _ _ (@a_ _ _ _ _ _ _ _ _ (PW.pt (@pw_or _ _ _ _ _ _ _ (@ky _ _ _ _ (e8 (bo (gf (K:=K)) rfl T.eX boot_isinstance (@aa _ _ _ _ _ (by rfl) (pv 0) (@aa _ _ _ _ _ (by rfl) (hI (v:=.ty "tuple") rfl T.jd boot_tuple rfl) ag))))) (@pw_or _ _ _ _ _ _ _ (@aR _ _ _ _ _ _ _ _ h8 (bo c_ rfl T.cT boot_len (@aa _ _ _ _ _ (by rfl) (pv 0) ag)) aj (aI _)) (@pw_or1 _ _ _ _ (@aR _ _ _ _ _ _ _ _ h8 (@aK _ _ _ _ _ _ _ cO (pv 0) aj (fun _ _=>rfl)) cB (aI _)))))) (@ax _ _ _ (@aO _ _ _ _ fM)) bh)
   (@ax _ _ _ (@aO _ _ _ _ (@fN _ _ _ _ _ _ _ (aL Cw (hr.mono (by decide)) rfl T.uF T.iS.kp T.uE .nil aT (@aa _ _ _ _ _ (by rfl) (@aK _ _ _ _ _ _ _ cO (pv 0) aj (fun _ _=>rfl)) ag)) (@fN _ _ _ _ _ _ _ (yj kJ kJ aj (@aK _ _ _ _ _ _ _ cO (pv 0) aj (fun _ _=>rfl)) (dX (v:=.int 997) rfl hG rG)) (@jx _ _ _ _ _ (aL Cy (hr.mono (by decide)) rfl T.uK T.iU.kp T.uJ .nil aT (@aa _ _ _ _ _ (by rfl) (@aK _ _ _ _ _ _ _ cO (pv 0) aj (fun _ _=>rfl)) ag)))))))),?_⟩
  refine ⟨_,rfl,_,_,_,true,rfl,rfl,.of (.tup hp),ot,true,rfl,cn ?_⟩
  cases d with
  | a x=>exact ⟨_,rfl,p,_,rfl,.inr (.of hp),rfl,true,rfl,dG (dG k)⟩
  | b x n=>
   refine ⟨_,rfl,p,_,rfl,.inr (.of hp),rfl,false,rfl,cn ?_⟩
   refine ⟨_,rfl,p,_,0,.str x,rfl,rfl,.of hp,rfl,rfl,_,rfl,a7 (fun hw=>?_) (fun hw=>?_)⟩
   ·have hw:¬x = "wheel":=by
     rw [oq] at hw
     simpa using hw
    have e:(Td.b x n).dh=false:=by simp [Td.dh,hw]
    rw [e] at k
    exact k
   ·have hw:x = "wheel":=by
     rw [oq] at hw
     simpa using hw
    refine ⟨_,rfl,p,_,1,.int n,rfl,rfl,.of hp,rfl,.int n,rfl,.int n,true,rfl,dG ?_⟩
    refine ⟨_,rfl,p,_,1,.int n,rfl,rfl,.of hp,rfl,_,_,rfl,rfl,_,rfl,?_⟩
    refine a7 (fun h2=>?_) (fun h2=>?_)
    ·have h2:=of_decide_eq_true h2
     refine ⟨_,_,rfl,rfl,_,rfl,a7 (fun h3=>?_) (fun h3=>?_)⟩
     ·have h3:=of_decide_eq_true h3
      refine ⟨_,rfl,p,_,1,.int n,rfl,rfl,.of hp,rfl,n,rfl,h2,h3,?_⟩
      have e:(Td.b x n).dh=dJ n:=by simp [Td.dh,hw,h2,h3]
      rw [e] at k
      exact k
     ·have h3:¬n≤997:=fun z=>h3 (decide_eq_true z)
      have e:(Td.b x n).dh=false:=by simp [Td.dh,h3]
      rw [e] at k
      exact k
    ·have h2:¬2≤n:=fun z=>h2 (decide_eq_true z)
     have e:(Td.b x n).dh=false:=by simp [Td.dh,h2]
     rw [e] at k
     exact ⟨false,rfl,cn k⟩
theorem Cz:ba ["self","told"] ["self","told"] (aE ml):=⟨rfl,rfl,rfl,by decide +kernel,rfl,by decide +kernel,by decide +kernel⟩
theorem CA(T:Txt K mg t):aJ P w K mg base (bB P w) 3 t.gS t.iR ["self","told"] (AJ t.aP t.cS):=by
 have S:=Cz
 have CB:=Ct (P:=P) (w:=w) (base:=base) T
 have CD:=Cv (P:=P) (w:=w) (base:=base) T
 refine T.j4.eJ S (fun vs H Q E h=>?_) (fun av A outer s H vs Q E hr h L=>?_)
 ·obtain ⟨x,dx,p,d,rfl,_⟩:=h
  rfl
 ·obtain ⟨x,dx,p,d,rfl,hx,hp,k1,k2⟩:=h
  refine ⟨_,(@ax _ _ _ (@a_ _ _ _ _ _ _ _ _ (e8 (aL CB (hr.mono (by decide)) rfl T.uT T.iY.kp T.uS .nil aT (@aa _ _ _ _ _ (by rfl) (pv 1) ag))) (@ax _ _ _ (@rX _ _ _ _ _ _ _ _ (pv 0) rk rfl)) (@ax _ _ _ (@a_ _ _ _ _ _ _ _ _ (e8 (aL CD (hr.mono (by decide)) rfl T.uV T.iZ.kp T.uU .nil aT (@aa _ _ _ _ _ (by rfl) (pv 1) ag))) (@ax _ _ _ (@rX _ _ _ _ _ _ _ _ (pv 0) (@aK _ _ _ _ _ _ _ cO (pv 1) aj (fun _ _=>rfl)) rfl)) (@ax _ _ _ (jL L rfl PySem.F.excBase_ValueError T.vH rfl T.o5 (@aa _ _ _ _ _ (by rfl) cB ag))))))),?_⟩
  refine ⟨_,rfl,p,d,rfl,hp,_,rfl,a7 (fun hF=>?_) (fun hF=>?_)⟩
  ·refine ⟨_,rfl,x,t.aP,dx,[],rfl,hx,T.fF,T.gW,(by show 0<1000;decide),?_⟩
   have e:d.prime=.ay:=by
    cases d with
    | a x=>rfl
    | b x n=>cases hF
   have k:=k1 (by unfold Td.good;rw [hF];rfl)
   rw [e] at k
   exact k
  ·have hF:d.jM=false:=by simpa using hF
   refine ⟨_,rfl,p,d,rfl,hp,_,rfl,a7 (fun hW=>?_) (fun hW=>?_)⟩
   ·have k:=k1 (by unfold Td.good;rw [hW,Bool.or_true])
    cases d with
    | a x=>cases hW
    | b y n=>
     exact ⟨_,rfl,p,_,1,.int n,rfl,rfl,.of hp,rfl,_,rfl,x,t.aP,dx,[],rfl,hx,T.fF,T.gW,(by show 0<1000;decide),k⟩
   ·have hW:d.dh=false:=by simpa using hW
    exact ⟨by show 1≤sizeLine;decide,k2 (by unfold Td.good;rw [hF,hW];rfl)⟩
theorem CF:ba ["top","bottom","shared"] ["top","bottom"] (aE lP):=⟨rfl,rfl,rfl,by decide +kernel,rfl,by decide +kernel,by decide +kernel⟩
theorem CG(T:Txt K mg t):aJ P w K mg base (bB P w) 2 t.gx t.iy ["top","bottom"] (AW t.b_):=by
 have S:=CF
 have CH:=Co (P:=P) (w:=w) (base:=base) T
 refine T.iV.eJ S (fun vs H Q E h=>?_) (fun av A outer s H vs Q E hr h L=>?_)
 ·obtain ⟨a,b,rfl,_⟩:=h
  rfl
 ·obtain ⟨a,b,rfl,mb,kE,k⟩:=h
  refine ⟨_,(@au _ _ _ _ _ (@a_ _ _ _ _ _ _ _ _ (@aR _ _ _ _ _ _ _ _ bP (pv 1) aj (aI _)) (@ax _ _ _ (jL L rfl PySem.F.excBase_ValueError T.o7 rfl T.mx (@aa _ _ _ _ _ (by rfl) cB ag))) bh)
   (bF.e9 (@au _ _ _ _ _ (@aB _ _ 2 _ _ _ _ (by rfl) (by first | exact .inl rfl | exact .inr rfl | assumption) S.nd rfl (Or.inl rfl) (aL CH (hr.mono (by decide)) rfl T.uI T.iT.kp T.uH .nil aT (@aa _ _ _ _ _ (by rfl) (pv 0) (@aa _ _ _ _ _ (by rfl) (pv 1) ag))))
   (@au _ _ _ _ _ (@a_ _ _ _ _ _ _ _ _ (@aR _ _ _ _ _ _ _ _ kI (pv 1) aj (aI _)) (@ax _ _ _ (@aB _ _ 2 _ _ _ _ (by rfl) (by first | exact .inl rfl | exact .inr rfl | assumption) S.nd rfl (Or.inl rfl) (@ni _ _ _ _ _ _ nk (pv 2)))) bh)
   (@ax _ _ _ (@aO _ _ _ _ (@bG _ _ _ _ _ (@aa _ _ _ _ _ (by rfl) (@aC _ _ _ _ _ _ _ _ tL (pv 0) (pv 2)) (@aa _ _ _ _ _ (by rfl) (@aC _ _ _ _ _ _ _ _ tL (pv 1) (pv 2)) ag))))))))),?_⟩
  have n2:2≤sizeLine:=by decide
  refine ⟨_,rfl,rfl,_,rfl,a7 (fun hz=>?_) (fun hz=>?_)⟩
  ·have hz:b=0:=V.int.inj (of_decide_eq_true hz)
   exact ⟨by show 1≤sizeLine;decide,kE hz⟩
  have hz:b≠0:=fun z=>hz (decide_eq_true (by rw [z]))
  have ok:=AD (a:=a) hz mb
  have kk:=k hz
  unfold jR jS at kk
  refine ⟨_,rfl,_,rfl,a,b,rfl,mb,_,rfl,_,_,rfl,rfl,_,rfl,a7 (fun hn=>?_) (fun hn=>?_)⟩
  ·have hn:b<0:=of_decide_eq_true hn
   have e:lowG a b=-(Int.gcd a b:Int):=by unfold lowG;rw [if_pos hn,Int.zero_sub]
   rw [e] at ok kk
   refine ⟨_,rfl,_,rfl,_,rfl,_,rfl,_,_,rfl,rfl,ok,_,rfl,_,rfl,_,_,rfl,rfl,ok,n2,fun r hr=>kk r _ (aF hr) ar⟩
  ·have hn:¬b<0:=fun z=>hn (decide_eq_true z)
   have e:lowG a b=(Int.gcd a b:Int):=by unfold lowG;rw [if_neg hn]
   rw [e] at ok kk
   refine ⟨_,rfl,_,rfl,_,_,rfl,rfl,ok,_,rfl,_,rfl,_,_,rfl,rfl,ok,n2,fun r hr=>kk r _ (aF hr) ar⟩
theorem CI:ba ["prime","number","last","last_times","now","now_times","fits","left","left_times"] ["prime","number"] (aE lQ):=⟨rfl,rfl,rfl,by decide +kernel,rfl,by decide +kernel,by decide +kernel⟩
theorem CJ(T:Txt K mg t):aJ P w K mg base (bB P w) 1 t.gy t.iz ["prime","number"] (AO t.b_):=by
 have S:=CI
 refine T.iW.eJ S (fun vs H Q E h=>?_) (fun av A outer s H vs Q E hr h L=>?_)
 ·obtain ⟨q,b,rfl,_⟩:=h
  rfl
 ·obtain ⟨q,b,rfl,q1,q2,q3,b0,b1,kE,k⟩:=h
  refine ⟨_,(@au _ _ _ _ _ (@a_ _ _ _ _ _ _ _ _ (@aR _ _ _ _ _ _ _ _ bP (pv 1) aj (aI _)) (@ax _ _ _ (jL L rfl PySem.F.excBase_ValueError T.o7 rfl T.mx (@aa _ _ _ _ _ (by rfl) cB ag))) bh)
   (bF.e9 (@au _ _ _ _ _ (@aB _ _ 2 _ _ _ _ (by rfl) (by first | exact .inl rfl | exact .inr rfl | assumption) S.nd rfl (Or.inl rfl) (pv 0))
   (@au _ _ _ _ _ (@aB _ _ 3 _ _ _ _ (by rfl) (by first | exact .inl rfl | exact .inr rfl | assumption) S.nd rfl (Or.inl rfl) aj)
   (@au _ _ _ _ _ (@aB _ _ 4 _ _ _ _ (by rfl) (by first | exact .inl rfl | exact .inr rfl | assumption) S.nd rfl (Or.inl rfl) (pv 1))
   (@au _ _ _ _ _ (@aB _ _ 5 _ _ _ _ (by rfl) (by first | exact .inl rfl | exact .inr rfl | assumption) S.nd rfl (Or.inl rfl) aj)
   (@au _ _ _ _ _ (@kD _ _ _ _ _ _ PassesOwn.never (@aR _ _ _ _ _ _ _ _ fV (pv 4) aj (aI _)) (@au _ _ _ _ _ (@aB _ _ 6 _ _ _ _ (by rfl) (by first | exact .inl rfl | exact .inr rfl | assumption) S.nd rfl (Or.inl rfl) (@aC _ _ _ _ _ _ _ _ yd (pv 2) (pv 4)))
   (@au _ _ _ _ _ (@aB _ _ 7 _ _ _ _ (by rfl) (by first | exact .inl rfl | exact .inr rfl | assumption) S.nd rfl (Or.inl rfl) (@aC _ _ _ _ _ _ _ _ fU (pv 2) (@aC _ _ _ _ _ _ _ _ cK (pv 6) (pv 4))))
   (@au _ _ _ _ _ (@aB _ _ 8 _ _ _ _ (by rfl) (by first | exact .inl rfl | exact .inr rfl | assumption) S.nd rfl (Or.inl rfl) (@aC _ _ _ _ _ _ _ _ fU (pv 3) (@aC _ _ _ _ _ _ _ _ cK (pv 6) (pv 5))))
   (@au _ _ _ _ _ (@aB _ _ 2 _ _ _ _ (by rfl) (by first | exact .inl rfl | exact .inr rfl | assumption) S.nd rfl (Or.inl rfl) (pv 4))
   (@au _ _ _ _ _ (@aB _ _ 3 _ _ _ _ (by rfl) (by first | exact .inl rfl | exact .inr rfl | assumption) S.nd rfl (Or.inl rfl) (pv 5))
   (@au _ _ _ _ _ (@aB _ _ 4 _ _ _ _ (by rfl) (by first | exact .inl rfl | exact .inr rfl | assumption) S.nd rfl (Or.inl rfl) (pv 7))
   (@ax _ _ _ (@aB _ _ 5 _ _ _ _ (by rfl) (by first | exact .inl rfl | exact .inr rfl | assumption) S.nd rfl (Or.inl rfl) (pv 8))))))))))
   (@ax _ _ _ (@aO _ _ _ _ (@aC _ _ _ _ _ _ _ _ cL (pv 5) (pv 0))))))))))),?_⟩
  refine ⟨_,rfl,rfl,_,rfl,a7 (fun hz=>?_) (fun hz=>?_)⟩
  ·have hz:b=0:=V.int.inj (of_decide_eq_true hz)
   exact ⟨by show 1≤sizeLine;decide,kE hz⟩
  have hz:b≠0:=fun z=>hz (decide_eq_true (by rw [z]))
  refine ⟨_,rfl,_,rfl,fun m σ H'=>H'=H∧∃(l lt n nt:Int) (v1 v2 v3:Option V),σ=[some (.int q),some (.int b),some (.int l),some (.int lt),some (.int n),some (.int nt),v1,v2,v3]∧m=n.toNat∧eR q b l lt n nt∧l≤997,
   ⟨b.toNat,rfl,q,0,b,1,none,none,none,rfl,rfl,eR.start q1 q2 q3 (by omega) b1,q2⟩,?_⟩
  rintro m σ H' ⟨rfl,l,lt,n,nt,v1,v2,v3,rfl,em,hb,hl⟩
  have p1:=hb.pos
  have p2:=hb.less
  refine ⟨_,rfl,_,_,rfl,rfl,_,rfl,a7 (fun hy=>?_) (fun hy=>?_)⟩
  ·have hy:1<n:=of_decide_eq_true hy
   have hs:=hb.step hy
   have f0:0≤l / n:=Int.ediv_nonneg (by omega) (by omega)
   have f1:l / n≤l:=Int.ediv_le_self _ (by omega)
   refine ⟨fun σ' H2=>H2=H'∧σ'=[some (.int q),some (.int b),some (.int n),some (.int nt),some (.int (l-l / n*n)),some (.int (lt-l / n*nt)),some (.int (l / n)),some (.int (l-l / n*n)),some (.int (lt-l / n*nt))],?_,?_⟩
   ·rintro σ' H2 ⟨rfl,rfl⟩
    exact ⟨(l-l / n*n).toNat,by rw [em];omega,rfl,_,_,_,_,_,_,_,rfl,rfl,hs.1,by omega⟩
   ·exact ⟨_,rfl,_,rfl,_,_,rfl,rfl,⟨by omega,by omega⟩,_,rfl,_,rfl,_,rfl,_,_,rfl,rfl,.inr ⟨by omega,by omega⟩,_,_,rfl,rfl,
     _,rfl,_,rfl,_,rfl,_,_,rfl,rfl,.inl ⟨by omega,by omega⟩,_,_,rfl,rfl,_,rfl,_,rfl,_,rfl,_,rfl,rfl,rfl⟩
  ·have hy:¬1<n:=fun z=>hy (decide_eq_true z)
   have n1:n=1:=by omega
   subst n1
   exact ⟨_,rfl,_,rfl,_,_,rfl,rfl,(show (0:Int)<q by omega),k hz _ (Int.emod_nonneg _ (by omega)) (Int.emod_lt_of_pos _ (by omega)) (hb.done q1)⟩
theorem CK:ba ["prime","a","b"] ["prime","a","b"] (aE lR):=⟨rfl,rfl,rfl,by decide +kernel,rfl,by decide +kernel,by decide +kernel⟩
theorem CL(T:Txt K mg t):aJ P w K mg base (bB P w) 2 t.gz t.iA ["prime","a","b"] (AQ t.b_):=by
 have S:=CK
 have CM:=CJ (P:=P) (w:=w) (base:=base) T
 refine T.iX.eJ S (fun vs H Q E h=>?_) (fun av A outer s H vs Q E hr h L=>?_)
 ·obtain ⟨q,i,j,rfl,_⟩:=h
  rfl
 ·obtain ⟨q,i,j,rfl,q1,q2,q3,i0,i1,j0,j1,kE,k⟩:=h
  refine ⟨_,(@ax _ _ _ (@aO _ _ _ _ (@aC _ _ _ _ _ _ _ _ cL (@aC _ _ _ _ _ _ _ _ cK (pv 1) (aL CM (hr.mono (by decide)) rfl T.uP T.iW.kp T.uO .nil (jK L) (@aa _ _ _ _ _ (by rfl) (pv 0) (@aa _ _ _ _ _ (by rfl) (pv 2) ag)))) (pv 0)))),?_⟩
  exact ⟨_,rfl,_,rfl,_,rfl,q,j,rfl,q1,q2,q3,j0,j1,kE,fun hj r r0 r1 eY=>⟨_,_,rfl,rfl,.inl ⟨by omega,by omega⟩,_,rfl,_,_,rfl,rfl,(show (0:Int)<q by omega),
   k hj _ (Int.emod_nonneg _ (by omega)) (Int.emod_lt_of_pos _ (by omega)) (AR q1 i0 i1 eY)⟩⟩
theorem CN:ba ["self","top","bottom"] ["self","top","bottom"] (aE dr):=⟨rfl,rfl,rfl,by decide +kernel,rfl,by decide +kernel,by decide +kernel⟩
theorem CO(T:Txt K mg t):aJ P w K mg base (bB P w) 3 t.eW t.jZ ["self","top","bottom"] (AX t.aP t.b_):=by
 have S:=CN
 have CP:=CG (P:=P) (w:=w) (base:=base) T
 have CQ:=CL (P:=P) (w:=w) (base:=base) T
 refine T.vk.eJ S (fun vs H Q E h=>?_) (fun av A outer s H vs Q E hr h L=>?_)
 ·obtain ⟨z,q,a,b,rfl,_⟩:=h
  rfl
 ·obtain ⟨z,q,a,b,rfl,⟨dx,hx⟩,hq,mb,kE,k⟩:=h
  refine ⟨_,(@au _ _ _ _ _ (@a_ _ _ _ _ _ _ _ _ (@aR _ _ _ _ _ _ _ _ yg (@kM _ _ _ _ _ (pv 0) rfl) rk (aI _)) (@ax _ _ _ (@aO _ _ _ _ (aL CP (hr.mono (by decide)) rfl T.uN T.iV.kp T.uM .nil (jK L) (@aa _ _ _ _ _ (by rfl) (pv 1) (@aa _ _ _ _ _ (by rfl) (pv 2) ag))))) bh)
   (@ax _ _ _ (@aO _ _ _ _ (aL CQ (hr.mono (by decide)) rfl T.uR T.iX.kp T.uQ .nil (jK L) (@aa _ _ _ _ _ (by rfl) (@kM _ _ _ _ _ (pv 0) rfl) (@aa _ _ _ _ _ (by rfl) (@aC _ _ _ _ _ _ _ _ cL (pv 1) (@kM _ _ _ _ _ (pv 0) rfl)) (@aa _ _ _ _ _ (by rfl) (@aC _ _ _ _ _ _ _ _ cL (pv 2) (@kM _ _ _ _ _ (pv 0) rfl)) ag))))))),?_⟩
  refine ⟨_,rfl,z,t.aP,dx,_,_,rfl,hx,T.fF,T.gW,k4 _,rfl,_,rfl,?_⟩
  rcases hq with rfl | ⟨q2,q3,q4⟩
  ·rw [if_pos rfl]
   refine dG ⟨_,rfl,_,rfl,a,b,rfl,mb,fun hb=>kE (by unfold fz;rw [if_pos rfl];exact hb),fun hb r H' s' er=>k (fun hn=>hb (by unfold fz at hn;rw [if_pos rfl] at hn;exact hn)) _ H' s' (.inl ⟨rfl,r,rfl,er⟩)⟩
  ·have hq:q≠0:=by omega
   rw [if_neg hq] at hx ⊢
   have p0:(0:Int)<q:=by omega
   refine cn ⟨_,rfl,z,t.aP,dx,_,_,rfl,hx,T.fF,T.gW,k4 _,_,rfl,_,rfl,z,t.aP,dx,_,_,rfl,hx,T.fF,T.gW,k4 _,_,_,rfl,rfl,p0,_,rfl,_,rfl,z,t.aP,dx,_,_,rfl,hx,T.fF,T.gW,k4 _,_,_,rfl,rfl,p0,?_⟩
   have nv:fz q b↔b % q=0:=by unfold fz;rw [if_neg hq]
   exact ⟨q,a % q,b % q,rfl,q2,q3,q4,Int.emod_nonneg _ hq,Int.emod_lt_of_pos _ p0,Int.emod_nonneg _ hq,Int.emod_lt_of_pos _ p0,fun hj=>kE (nv.mpr hj),fun hj r r0 r1 eY=>k (fun z=>hj (nv.mp z)) _ H (ae.refl H) (.inr ⟨q2,r,rfl,r0,r1,eY⟩)⟩
theorem CS:ba ["table","wide"] ["table"] (aE lU):=⟨rfl,rfl,rfl,by decide +kernel,rfl,by decide +kernel,by decide +kernel⟩
theorem CT(T:Txt K mg t):aJ P w K mg base (bB P w) 1 t.gC t.iD ["table"] (Bs t.az):=by
 have S:=CS
 refine T.i3.eJ S (fun vs H Q E h=>?_) (fun av A outer s H vs Q E hr h L=>?_)
 ·obtain ⟨a,q,B,ak,m,rfl,_⟩:=h
  rfl
 ·obtain ⟨a,q,B,ak,m,rfl,⟨vs,ea,hl,hn⟩,h1,gX,hm,k⟩:=h
  refine ⟨_,(@au _ _ _ _ _ (@a_ _ _ _ _ _ _ _ _ (@aR _ _ _ _ _ _ _ _ bP (bo c_ rfl T.cT boot_len (@aa _ _ _ _ _ (by rfl) (pv 0) ag)) aj (aI _)) (@ax _ _ _ (@aO _ _ _ _ aj)) bh)
   (@au _ _ _ _ _ (@aB _ _ 1 _ _ _ _ (by rfl) (by first | exact .inl rfl | exact .inr rfl | assumption) S.nd rfl (Or.inr rfl) (bo c_ rfl T.cT boot_len (@aa _ _ _ _ _ (by rfl) (@aK _ _ _ _ _ _ _ bp (pv 0) aj (fun _ _=>rfl)) ag)))
   (@au _ _ _ _ _ (@a_ _ _ _ _ _ _ _ _ (e8 (bo (A9 (K:=K) rfl) rfl T.vA boot_any (@aa _ _ _ _ _ (by rfl) (il (N:=["row","wide"]) (ρ:=(fun σ=>[σ[1]?.join])) ⟨rfl,rfl,by decide +kernel,by decide +kernel,(List.forall_mem_cons.mpr ⟨rfl,(List.forall_mem_nil _)⟩),fo (by rfl),rfl,by decide +kernel,rfl,(fun σ j v h=>match j,h with | 0,h=>⟨1,_,rfl,rfl,join_some h,Or.inr (Or.inl rfl),.inl rfl,.inl rfl⟩ | j+1,h=>by cases h),(fun _ _=>rfl)⟩ rfl (hZ (pv 0)) (fun s₃ H₃ fp=>.nil) (fun s₃ H₃ fp=>(@dY _ _ _ _ _ _ _ _ h8 (bo (Bc (K:=K)) rfl T.cT boot_len (@aa _ _ _ _ _ (by rfl) (pv 0) ag)) (pv 1) (aI _)))) ag))) (@ax _ _ _ (jL L rfl PySem.F.excBase_ValueError T.mz rfl T.my (@aa _ _ _ _ _ (by rfl) cB ag))) bh)
   (@ax _ _ _ (@aO _ _ _ _ (pv 1)))))),?_⟩
  have h0:0<vs.length:=by omega
  refine ⟨_,rfl,a,vs,rfl,.inl (.of ea),rfl,false,by rw [kZ,decide_eq_false (by omega)],cn ?_⟩
  have CU:0<ak.length:=by omega
  obtain ⟨r,er,us,eu,lu,_⟩:=hn 0 vs[0] ak[0] (by simp [h0]) (by simp [CU])
  have v_:=hm ak[0] (List.getElem_mem ..)
  refine ⟨_,rfl,a,vs,_,vs[0],rfl,rfl,.of ea,(by exact dF (j:=0) (by simp [h0])),r,us,by rw [er],.inl (.of eu),?_⟩
  have em:(us.length:Int)=(m:Int):=by omega
  rw [em]
  dsimp only [aW]
  have CV:∀(i:Nat) (v:V),vs[i]?=some v→∃(r:Addr) (us:List V),v=.ref r∧H r=some (.lst us)∧us.length=m:=fun i v e=>by
   have cu:i<ak.length:=by rw [←hl];exact (List.getElem?_eq_some_iff.mp e).1
   obtain ⟨r,e1,us,e2,e3,_⟩:=hn i v ak[i] e (by simp [cu])
   exact ⟨r,us,e1,e2,by rw [e3];exact hm _ (List.getElem_mem ..)⟩
  refine dj (Bh (Bi (Bf (A5 (xs:=vs) (fun R h=>⟨_,rfl,a,rfl,⟨_,.of ea⟩,h _ _ (ae.refl _) (lg (.of ea))⟩) (by rw [hl];exact df (by omega)) (fun _ i y _=>y=.bl false) (fun _ _ _ _ _ _ h _ _=>h) ?_ ?_))))
  ·intro D i v hi Hc R sc _ kc
   obtain ⟨r',mB,rfl,e2,e3⟩:=CV i v hi
   refine ⟨_,rfl,r',mB,rfl,.inl (.of (sc _ _ e2)),_,rfl,rfl,?_⟩
   have zz:(!decide (V.int (mB.length:Int)=V.int (m:Int)))=false:=by rw [kZ,decide_eq_true (by omega)];rfl
   rw [zz]
   exact kc _ Hc (ae.refl _) rfl
  ·intro D ys Hc sc Hq hP eD
   refine ⟨D,List.replicate ys.length false,rfl,.of (by rw [eD];exact congrArg _ (congrArg _ (Bj hP))),false,by rw [Bk],cn ?_⟩
   exact ⟨_,rfl,k Hc sc⟩
theorem CW:ba ["table"] ["table"] (aE lW):=⟨rfl,rfl,rfl,by decide +kernel,rfl,by decide +kernel,by decide +kernel⟩
theorem CY(T:Txt K mg t):aJ P w K mg base (bB P w) 2 t.gD t.iE ["table"] (Bt t.az):=by
 have S:=CW
 have CZ:=CT (P:=P) (w:=w) (base:=base) T
 refine T.i4.eJ S (fun vs H Q E h=>?_) (fun av A outer s H vs Q E hr h L=>?_)
 ·obtain ⟨a,q,B,ak,m,rfl,_⟩:=h
  rfl
 ·obtain ⟨a,q,B,ak,m,rfl,hA,h1,gX,hm,kE,k⟩:=h
  refine ⟨_,(@au _ _ _ _ _ (@a_ _ _ _ _ _ _ _ _ (@aR _ _ _ _ _ _ _ _ h8 (aL CZ (hr.mono (by decide)) rfl T.uX T.i3.kp T.uW .nil (jK L) (@aa _ _ _ _ _ (by rfl) (pv 0) ag)) (bo c_ rfl T.cT boot_len (@aa _ _ _ _ _ (by rfl) (pv 0) ag)) (aI _)) (@ax _ _ _ (jL L rfl PySem.F.excBase_ValueError T.mz rfl T.my (@aa _ _ _ _ _ (by rfl) cB ag))) bh)
   (@ax _ _ _ (@aO _ _ _ _ (bo c_ rfl T.cT boot_len (@aa _ _ _ _ _ (by rfl) (pv 0) ag))))),?_⟩
  refine ⟨_,rfl,a,q,B,ak,m,rfl,hA,h1,gX,hm,fun H1 s1=>?_⟩
  obtain ⟨vs,ea,lv,_⟩:=id (hA.mono s1)
  refine ⟨_,rfl,a,vs,rfl,.inl (.of ea),rfl,_,rfl,a7 (fun d6=>?_) (fun d6=>?_)⟩
  ·have d6:m≠ak.length:=fun z=>by
    have:(m:Int)=(vs.length:Int):=by omega
    rw [kZ,decide_eq_true this] at d6
    cases d6
   exact ⟨by show 1≤sizeLine;decide,kE d6 H1 s1⟩
  ·have heq:m=ak.length:=by
    by_cases z:(m:Int)=(vs.length:Int)
    ·omega
    ·exact absurd (by rw [kZ,decide_eq_false z];rfl) d6
   have z:=k heq H1 s1
   dsimp only [eF]
   refine ⟨_,rfl,a,vs,rfl,.inl (.of ea),?_⟩
   rw [show (vs.length:Int)=(m:Int) by omega]
   exact z
theorem C0:ba ["_law_cell","_law_at","_law_x"] ["_law_cell","_law_at"] (aE l4):=⟨rfl,rfl,rfl,by decide +kernel,rfl,by decide +kernel,by decide +kernel⟩
theorem C1(T:Txt K mg t):aJ P w K mg base bt 1 t.gG t.iH ["_law_cell","_law_at"] Bq:=by
 have S:=C0
 refine T.i6.ok S (fun vs H Q E h=>?_) (fun av A outer s H vs Q E hr h=>?_)
 ·obtain ⟨c,a,rfl,_⟩:=h
  rfl
 ·obtain ⟨c,a,rfl,ha,k⟩:=h
  refine ⟨_,(@au _ _ _ _ _ (@a_ _ _ _ _ _ _ _ _ (@aR _ _ _ _ _ _ _ _ rQ (pv 0) (@aC _ _ _ _ _ _ _ _ rJ aj aj) (aI _)) (@ax _ _ _ (@aO _ _ _ _ (pv 0))) bh)
   (@au _ _ _ _ _ (@aB _ _ 2 _ _ _ _ (by rfl) (by first | exact .inl rfl | exact .inr rfl | assumption) S.nd rfl (Or.inl rfl) (@aC _ _ _ _ _ _ _ _ cL (@aC _ _ _ _ _ _ _ _ dD (@aC _ _ _ _ _ _ _ _ dD (@aC _ _ _ _ _ _ _ _ cK (@aC _ _ _ _ _ _ _ _ cL (pv 0) aj) aj) (@aC _ _ _ _ _ _ _ _ cK (pv 1) aj)) aj) aj))
   (@au _ _ _ _ _ (@aB _ _ 2 _ _ _ _ (by rfl) (by first | exact .inl rfl | exact .inr rfl | assumption) S.nd rfl (Or.inl rfl) (@aC _ _ _ _ _ _ _ _ cL (@aC _ _ _ _ _ _ _ _ dD (@aC _ _ _ _ _ _ _ _ dD (@aC _ _ _ _ _ _ _ _ cK (pv 2) (pv 2)) (@aC _ _ _ _ _ _ _ _ cK aj (pv 2))) (pv 1)) aj))
   (@ax _ _ _ (@aO _ _ _ _ (@aC _ _ _ _ _ _ _ _ dD (@aC _ _ _ _ _ _ _ _ cK (pv 2) aj) (@aC _ _ _ _ _ _ _ _ cL (@aC _ _ _ _ _ _ _ _ dD (@aC _ _ _ _ _ _ _ _ cK (pv 2) (pv 2)) (@aC _ _ _ _ _ _ _ _ cK aj (pv 1))) aj))))))),?_⟩
  refine ⟨_,rfl,_,_,rfl,rfl,⟨by decide,by decide,by decide⟩,_,_,rfl,rfl,_,rfl,a7 (fun h=>?_) (fun h=>?_)⟩
  ·have h:=of_decide_eq_true h
   exact ⟨_,rfl,k _ (Int.le_trans (by decide) h)⟩
  ·refine ⟨_,rfl,_,_,rfl,rfl,(by show (0:Int)<2147483647;decide),_,_,rfl,rfl,.inr ⟨by decide,by decide⟩,_,rfl,_,_,rfl,rfl,.inr ⟨by decide,by decide⟩,_,_,rfl,rfl,_,_,rfl,rfl,_,_,rfl,rfl,(by show (0:Int)<2147483629;decide),?_⟩
   have b0:=Int.emod_nonneg (c % 2147483647*48271+a*69621+11) (show (2147483629:Int)≠0 by decide)
   have b1:=Int.emod_lt_of_pos (c % 2147483647*48271+a*69621+11) (show (0:Int)<2147483629 by decide)
   generalize (c % 2147483647*48271+a*69621+11) % 2147483629=x at b0 b1 ⊢
   refine ⟨_,rfl,_,rfl,_,_,rfl,rfl,.inl ⟨by omega,by omega⟩,_,rfl,_,_,rfl,rfl,.inl ⟨by decide,by decide⟩,_,_,rfl,rfl,_,rfl,_,_,rfl,rfl,_,_,rfl,rfl,(by show (0:Int)<2147483587;decide),?_⟩
   have c0:=Int.emod_nonneg (x*x+48271*x+a) (show (2147483587:Int)≠0 by decide)
   have c1:=Int.emod_lt_of_pos (x*x+48271*x+a) (show (0:Int)<2147483587 by decide)
   generalize (x*x+48271*x+a) % 2147483587=y at c0 c1 ⊢
   refine ⟨_,rfl,_,_,rfl,rfl,.inr ⟨by decide,by decide⟩,_,rfl,_,rfl,_,_,rfl,rfl,.inl ⟨by omega,by omega⟩,_,rfl,_,_,rfl,rfl,.inl ⟨by decide,by decide⟩,_,_,rfl,rfl,_,_,rfl,rfl,(by show (0:Int)<2147483579;decide),_,_,rfl,rfl,k _ (Int.add_nonneg (Int.mul_nonneg (Int.emod_nonneg _ (by decide)) (by decide)) (Int.emod_nonneg _ (by decide)))⟩
theorem C2:ba ["_law_pen","_law_many","_law_at","_law_cell","_law_found"] ["_law_pen","_law_many"] (aE l5):=⟨rfl,rfl,rfl,by decide +kernel,rfl,by decide +kernel,by decide +kernel⟩
theorem gY(T:Txt K mg t):aJ P w K mg base bt 2 t.gH t.iI ["_law_pen","_law_many"] (Br K):=by
 have S:=C2
 have C3:=C1 (P:=P) (w:=w) (base:=base) T
 refine T.bK.ok S (fun vs H Q E h=>?_) (fun av A outer s H vs Q E hr h=>?_)
 ·obtain ⟨P0,a,ns,many,rfl,_⟩:=h
  rfl
 ·obtain ⟨P0,a,ns,many,rfl,⟨x,y,eP,hx,hy⟩,hS,m1,mm,k⟩:=h
  have j7:=hr.units
  refine ⟨_,(@au _ _ _ _ _ (@a_ _ _ _ _ _ _ _ _ (@aR _ _ _ _ _ _ _ _ kI (@aK _ _ _ _ _ _ _ bp (pv 0) aj (fun _ _=>rfl)) (pv 1) (aI _)) (@au _ _ _ _ _ (@aB _ _ 2 _ _ _ _ (by rfl) (by first | exact .inl rfl | exact .inr rfl | assumption) S.nd rfl (Or.inl rfl) (@aK _ _ _ _ _ _ _ bp (pv 0) aj (fun _ _=>rfl)))
   (@au _ _ _ _ _ (@aB _ _ 3 _ _ _ _ (by rfl) (by first | exact .inl rfl | exact .inr rfl | assumption) S.nd rfl (Or.inl rfl) aj)
   (@au _ _ _ _ _ (@a_ _ _ _ _ _ _ _ _ (@aR _ _ _ _ _ _ _ _ kI (pv 2) (bo c_ rfl T.cT boot_len (@aa _ _ _ _ _ (by rfl) (@aK _ _ _ _ _ _ _ bp (pv 0) aj (fun _ _=>rfl)) ag)) (aI _)) (@ax _ _ _ (@aB _ _ 3 _ _ _ _ (by rfl) (by first | exact .inl rfl | exact .inr rfl | assumption) S.nd rfl (Or.inl rfl) (@aK _ _ _ _ _ _ _ bp (@aK _ _ _ _ _ _ _ bp (pv 0) aj (fun _ _=>rfl)) (pv 2) (fun _ _=>rfl)))) (@ax _ _ _ (@a_ _ _ _ _ _ _ _ _ (@aR _ _ _ _ _ _ _ _ fV (bo c_ rfl T.cT boot_len (@aa _ _ _ _ _ (by rfl) (@aK _ _ _ _ _ _ _ bp (pv 0) aj (fun _ _=>rfl)) ag)) aj (aI _)) (@ax _ _ _ (@aB _ _ 3 _ _ _ _ (by rfl) (by first | exact .inl rfl | exact .inr rfl | assumption) S.nd rfl (Or.inl rfl) (@aC _ _ _ _ _ _ _ _ dD (@aC _ _ _ _ _ _ _ _ cL (@aK _ _ _ _ _ _ _ bp (@aK _ _ _ _ _ _ _ bp (pv 0) aj (fun _ _=>rfl)) (@aC _ _ _ _ _ _ _ _ cL (@aC _ _ _ _ _ _ _ _ cK (pv 2) aj) (bo c_ rfl T.cT boot_len (@aa _ _ _ _ _ (by rfl) (@aK _ _ _ _ _ _ _ bp (pv 0) aj (fun _ _=>rfl)) ag))) (fun _ _=>rfl)) aj) (@aC _ _ _ _ _ _ _ _ cK (pv 2) aj)))) bh)))
   (@au _ _ _ _ _ (@fP _ _ _ _ _ _ (@aC _ _ _ _ _ _ _ _ dD (pv 2) aj) (hV (pv 0) aj set_list) (by rfl) (by rfl) (by rfl))
   (@ax _ _ _ (@fP _ _ _ _ _ _ (aL C3 (hr.mono (by decide)) rfl T.u5 T.i6.kp T.u4 .nil aT (@aa _ _ _ _ _ (by rfl) (pv 3) (@aa _ _ _ _ _ (by rfl) (pv 2) ag))) (hV (pv 0) aj set_list) (by rfl) (by rfl) (by rfl))))))) bh)
   (@au _ _ _ _ _ (@aB _ _ 4 _ _ _ _ (by rfl) (by first | exact .inl rfl | exact .inr rfl | assumption) S.nd rfl (Or.inl rfl) (@aC _ _ _ _ _ _ _ _ cL (@aK _ _ _ _ _ _ _ bp (pv 0) aj (fun _ _=>rfl)) (pv 1)))
   (@au _ _ _ _ _ (@fP _ _ _ _ _ _ (@aC _ _ _ _ _ _ _ _ Ak (@aK _ _ _ _ _ _ _ bp (pv 0) aj (fun _ _=>rfl)) (pv 1)) (hV (pv 0) aj set_list) (by rfl) (by rfl) (by rfl))
   (@ax _ _ _ (@aO _ _ _ _ (pv 4)))))),?_⟩
  have mC:=bW.seq hS
  refine ⟨_,rfl,P0,_,_,_,rfl,rfl,.of eP,rfl,_,rfl,_,_,rfl,rfl,_,rfl,a7 (fun bj=>?_) (fun bj=>?_)⟩
  ·refine ⟨_,rfl,P0,_,_,_,rfl,rfl,.of eP,rfl,?_⟩
   refine ⟨_,rfl,_,rfl,P0,_,_,_,rfl,rfl,.of eP,rfl,a,ns.map V.int,rfl,.inl mC,_,_,rfl,rfl,_,rfl,a7 (fun h1=>?_) (fun h1=>?_)⟩
   ·have h1:x<((ns.map V.int).length:Int):=of_decide_eq_true h1
    obtain ⟨v,hv,mv⟩:=tO (xs:=ns.map V.int) hx h1
    obtain ⟨c,_,rfl⟩:=List.mem_map.mp mv
    refine ⟨_,rfl,P0,_,_,_,rfl,rfl,.of eP,rfl,_,rfl,a,ns.map V.int,_,_,rfl,rfl,mC,hv,?_⟩
    refine ⟨_,rfl,_,_,rfl,rfl,_,rfl,P0,_,1,1,rfl,rfl,eP,rfl,?_⟩
    refine ⟨_,rfl,_,rfl,c,x,rfl,hx,fun r eY=>⟨_,rfl,P0,_,2,2,rfl,rfl,ar,rfl,?_⟩⟩
    have q0:=Int.emod_nonneg (r) (show many≠0 by omega)
    have q1:=Int.emod_lt_of_pos (r) (show 0<many by omega)
    have q2:=Int.ediv_nonneg (eY) (show 0≤many by omega)
    refine ⟨_,rfl,P0,_,_,_,rfl,rfl,.of ar,rfl,_,rfl,_,_,rfl,rfl,(show 0<many by omega),?_⟩
    refine ⟨_,rfl,P0,_,_,_,rfl,rfl,.of ar,rfl,_,rfl,_,_,rfl,rfl,⟨show 0<many by omega,mm⟩,_,rfl,P0,_,2,2,rfl,rfl,ar,rfl,?_⟩
    exact ⟨_,rfl,k _ _ q0 q1 (((ao.refl H).trans ao.d7).trans (ao.d7.trans ao.d7)) ⟨x+1,r / many,ar,by omega,q2⟩⟩
   ·refine ⟨_,rfl,P0,_,_,_,rfl,rfl,.of eP,rfl,a,ns.map V.int,rfl,.inl mC,_,_,rfl,rfl,_,rfl,?_⟩
    have mD:=eP
    have o8:=mC
    have sl:=ae.refl H
    refine a7 (fun h2=>?_) (fun h2=>?_)
    ·have hl:0<(ns.map V.int).length:=by
      have:=of_decide_eq_true h2
      omega
     have v_:=Int.emod_nonneg (x*7) (show ((ns.map V.int).length:Int)≠0 by omega)
     have C4:=Int.emod_lt_of_pos (x*7) (show (0:Int)<((ns.map V.int).length:Int) by omega)
     obtain ⟨v,hv,mv⟩:=tO (xs:=ns.map V.int) v_ C4
     obtain ⟨c,_,rfl⟩:=List.mem_map.mp mv
     refine ⟨_,rfl,P0,_,_,_,rfl,rfl,.of mD,rfl,_,rfl,_,_,rfl,rfl,.inr ⟨by decide,by decide⟩,_,rfl,P0,_,_,_,rfl,rfl,.of mD,rfl,a,ns.map V.int,rfl,.inl o8,_,_,rfl,rfl,(show (0:Int)<((ns.map V.int).length:Int) by omega),a,ns.map V.int,_,_,rfl,rfl,o8,hv,_,_,rfl,rfl,(show (0:Int)<1000003 by decide),_,rfl,_,_,rfl,rfl,.inr ⟨by decide,by decide⟩,_,_,rfl,rfl,?_⟩
     refine ⟨_,rfl,_,_,rfl,rfl,_,rfl,P0,_,1,1,rfl,rfl,mD,rfl,?_⟩
     refine ⟨_,rfl,_,rfl,_,x,rfl,hx,fun r eY=>⟨_,rfl,P0,_,2,2,rfl,rfl,ar,rfl,?_⟩⟩
     have q0:=Int.emod_nonneg (r) (show many≠0 by omega)
     have q1:=Int.emod_lt_of_pos (r) (show 0<many by omega)
     have q2:=Int.ediv_nonneg (eY) (show 0≤many by omega)
     refine ⟨_,rfl,P0,_,_,_,rfl,rfl,.of ar,rfl,_,rfl,_,_,rfl,rfl,(show 0<many by omega),?_⟩
     refine ⟨_,rfl,P0,_,_,_,rfl,rfl,.of ar,rfl,_,rfl,_,_,rfl,rfl,⟨show 0<many by omega,mm⟩,_,rfl,P0,_,2,2,rfl,rfl,ar,rfl,?_⟩
     exact ⟨_,rfl,k _ _ q0 q1 (((ao.of sl).trans ao.d7).trans (ao.d7.trans ao.d7)) ⟨x+1,r / many,ar,by omega,q2⟩⟩
    ·
     refine ⟨_,rfl,_,_,rfl,rfl,_,rfl,P0,_,1,1,rfl,rfl,mD,rfl,?_⟩
     refine ⟨_,rfl,_,rfl,0,x,rfl,hx,fun r eY=>⟨_,rfl,P0,_,2,2,rfl,rfl,ar,rfl,?_⟩⟩
     have q0:=Int.emod_nonneg (r) (show many≠0 by omega)
     have q1:=Int.emod_lt_of_pos (r) (show 0<many by omega)
     have q2:=Int.ediv_nonneg (eY) (show 0≤many by omega)
     refine ⟨_,rfl,P0,_,_,_,rfl,rfl,.of ar,rfl,_,rfl,_,_,rfl,rfl,(show 0<many by omega),?_⟩
     refine ⟨_,rfl,P0,_,_,_,rfl,rfl,.of ar,rfl,_,rfl,_,_,rfl,rfl,⟨show 0<many by omega,mm⟩,_,rfl,P0,_,2,2,rfl,rfl,ar,rfl,?_⟩
     exact ⟨_,rfl,k _ _ q0 q1 (((ao.of sl).trans ao.d7).trans (ao.d7.trans ao.d7)) ⟨x+1,r / many,ar,by omega,q2⟩⟩
  ·dsimp only [eF]
   have q0:=Int.emod_nonneg (y) (show many≠0 by omega)
   have q1:=Int.emod_lt_of_pos (y) (show 0<many by omega)
   have q2:=Int.ediv_nonneg (hy) (show 0≤many by omega)
   refine ⟨_,rfl,P0,_,_,_,rfl,rfl,.of eP,rfl,_,rfl,_,_,rfl,rfl,(show 0<many by omega),?_⟩
   refine ⟨_,rfl,P0,_,_,_,rfl,rfl,.of eP,rfl,_,rfl,_,_,rfl,rfl,⟨show 0<many by omega,mm⟩,_,rfl,P0,_,2,2,rfl,rfl,eP,rfl,?_⟩
   exact ⟨_,rfl,k _ _ q0 q1 (ao.d7) ⟨x,y / many,ar,hx,q2⟩⟩
theorem C5:ba ["_law_pen","_law_some","_law_left","_law_found"] ["_law_pen","_law_some"] (aE l8):=⟨rfl,rfl,rfl,by decide +kernel,rfl,by decide +kernel,by decide +kernel⟩
theorem C6(T:Txt K mg t):aJ P w K mg base bt 3 t.gI t.iJ ["_law_pen","_law_some"] (BM K):=by
 have S:=C5
 have bD:=gY (P:=P) (w:=w) (base:=base) T
 refine T.i7.ok S (fun vs H Q E h=>?_) (fun av A outer s H vs Q E hr h=>?_)
 ·obtain ⟨P0,a,l,ns,xs,rfl,_⟩:=h
  rfl
 ·obtain ⟨P0,a,l,ns,xs,rfl,pc,hS,nl,el,Hr,kk⟩:=h
  have j7:=hr.units
  refine ⟨_,(@au _ _ _ _ _ (@aB _ _ 2 _ _ _ _ (by rfl) (by first | exact .inl rfl | exact .inr rfl | assumption) S.nd rfl (Or.inl rfl) (f_ nI rfl T.j6 boot_list (@aa _ _ _ _ _ (by rfl) (pv 1) ag)))
   (@au _ _ _ _ _ (@aB _ _ 3 _ _ _ _ (by rfl) (by first | exact .inl rfl | exact .inr rfl | assumption) S.nd rfl (Or.inl rfl) (@cj _ _ _ _ ag))
   (@au _ _ _ _ _ (@kD _ _ _ _ _ _ PassesOwn.never (@aR _ _ _ _ _ _ _ _ (BL j7) (pv 2) (@cj _ _ _ _ ag) (aI _)) (@ax _ _ _ (hJ (gc PySem.F.plainAttrs_list PySem.F.slot_list_append PySem.F.type_list_append ic (pv 3) (@aa _ _ _ _ _ (by rfl) (gc PySem.F.plainAttrs_list PySem.F.slot_list_pop PySem.F.type_list_pop zj (pv 2) (@aa _ _ _ _ _ (by rfl) (aL bD (hr.mono (by decide)) rfl T.cf T.bK.kp T.cb .nil aT (@aa _ _ _ _ _ (by rfl) (pv 0) (@aa _ _ _ _ _ (by rfl) (bo c_ rfl T.cT boot_len (@aa _ _ _ _ _ (by rfl) (pv 2) ag)) ag))) ag)) ag)))))
   (@ax _ _ _ (@aO _ _ _ _ (pv 3)))))),?_⟩
  refine ⟨_,rfl,l,xs,rfl,.inl (.of el),fun l1 n1=>?_⟩
  have s1:ae H (upd H l1 (.lst xs)):=aF n1
  have e1:upd H l1 (.lst xs) l1=some (.lst xs):=ar
  dsimp only [aW]
  generalize upd H l1 (.lst xs)=H1 at s1 e1 ⊢
  refine ⟨by show 0≤sizeLine;decide,fun l2 n2=>?_⟩
  have s2:ae H1 (upd H1 l2 (.lst [])):=aF n2
  have e2:upd H1 l2 (.lst []) l2=some (.lst []):=ar
  dsimp only [aW]
  generalize upd H1 l2 (.lst [])=H2 at s2 e2 ⊢
  have wa:l1≠P0:=pc.ne n1
  have mE:l2≠P0:=(pc.mono s1).ne n2
  have wb:H l2=none:=none_of s1 n2
  have wc:l1≠l2:=fun e=>by rw [e,n2] at e1;cases e1
  refine dj ⟨fun m σ Hc=>∃zs ys:List V,σ=[some (.ref P0),some (.ref l),some (.ref l1),some (.ref l2)]∧m=zs.length∧Hc l1=some (.lst zs)∧Hc l2=some (.lst ys)∧(zs++ys).Perm xs∧ao P0 H Hc∧aG Hc P0 a,⟨_,xs,[],rfl,rfl,s2 _ _ e1,e2,by rw [List.append_nil],ao.of (s1.trans s2),(pc.mono s1).mono s2⟩,?_⟩
  rintro m σ Hc ⟨zs,ys,rfl,rfl,ez,ey,pm,sc,p1⟩
  have lz:zs.length≤100:=by
   have:=pm.length_eq
   rw [List.length_append] at this
   omega
  have ly:ys.length≤100:=by
   have:=pm.length_eq
   rw [List.length_append] at this
   omega
  refine ⟨_,rfl,by show 0≤sizeLine;decide,fun le C7=>?_⟩
  have s3:ae Hc (upd Hc le (.lst [])):=aF C7
  have e3:upd Hc le (.lst []) le=some (.lst []):=ar
  generalize upd Hc le (.lst [])=H3 at s3 e3 ⊢
  refine ⟨l1,le,zs,rfl,rfl,.of (s3 _ _ ez),e3,_,rfl,a7 (fun hz=>?_) (fun hz=>?_)⟩
  ·have z0:1≤zs.length:=by
    cases zs with
    | nil=>cases hz
    | cons=>simp
   have je:=sc.trans (ao.of s3)
   refine ⟨_,fun _ _ h=>h,?_⟩
   refine ⟨_,rfl,.inl ⟨rfl,_,.of (s3 _ _ ey)⟩,_,rfl,.inl ⟨rfl,_,.of (s3 _ _ ez)⟩,_,rfl,_,rfl,l1,zs,rfl,.inl (.of (s3 _ _ ez)),P0,a,ns,(zs.length:Int),rfl,p1.mono s3,ae.seq je hS,by omega,aS.of_lt (by omega) (by omega),fun c H4 c0 c1 s4 p4=>?_⟩
   obtain ⟨k,rfl⟩:=Int.eq_ofNat_of_zero_le c0
   have hk:k<zs.length:=by omega
   have C8:=s4.at wa (s3 _ _ ez)
   have C9:=s4.at mE (s3 _ _ ey)
   have sx:seqIndex? (k:Int) zs.length=some k:=by
    unfold seqIndex?
    simp
    omega
   refine ⟨l1,zs,(k:Int),k,zs[k],rfl,rfl,C8,by omega,by omega,sx,by simp [hk],?_⟩
   have nn:l2≠l1:=fun e=>wc e.symm
   refine ⟨l2,ys,zs[k],rfl,rfl,by rw [aD nn];exact C9,df (by omega),?_⟩
   refine ⟨_,?_,zs.eraseIdx k,ys++[zs[k]],rfl,rfl,by rw [aD wc,ar],ar,?_,?_,?_⟩
   ·rw [List.length_eraseIdx_of_lt hk]
    omega
   ·refine List.Perm.trans ?_ pm
    rw [←List.append_assoc]
    refine (List.perm_append_comm).trans ?_
    show (zs[k]::(zs.eraseIdx k++ys)).Perm (zs++ys)
    exact (uk zs k hk).append_right ys
   ·exact ((je.trans s4).but n1).but wb
   ·exact ((p4.upd wa).upd mE)
  ·have z0:zs=[]:=by
    cases zs with
    | nil=>rfl
    | cons=>exact absurd rfl hz
   subst z0
   refine ⟨_,rfl,kk l2 ys H3 (sc.trans (ao.of s3)) (p1.mono s3) ?_ mE (s3 _ _ ey) pm⟩
   rw [bH mE]
   exact wb
theorem C_:ba ["_law_pen","_law_way","_law_size","_law_wide","_law_i","_law_j"] ["_law_pen","_law_way","_law_size","_law_wide","_law_i","_law_j"] (aE l_):=⟨rfl,rfl,rfl,by decide +kernel,rfl,by decide +kernel,by decide +kernel⟩
theorem Dc(T:Txt K mg t):aJ P w K mg base bt 3 t.gJ t.iK ["_law_pen","_law_way","_law_size","_law_wide","_law_i","_law_j"] (BN K):=by
 have S:=C_
 have bD:=gY (P:=P) (w:=w) (base:=base) T
 refine T.i8.ok S (fun vs H Q E h=>?_) (fun av A outer s H vs Q E hr h=>?_)
 ·obtain ⟨P0,a,ns,way,size,wide,i,j,rfl,_⟩:=h
  rfl
 ·obtain ⟨P0,a,ns,way,size,wide,i,j,rfl,pc,hS,kk⟩:=h
  refine ⟨_,(@au _ _ _ _ _ (@a_ _ _ _ _ _ _ _ _ (@aR _ _ _ _ _ _ _ _ bP (pv 1) aj (aI _)) (@ax _ _ _ (@aO _ _ _ _ (@dY _ _ _ _ _ _ _ _ bP (aL bD (hr.mono (by decide)) rfl T.cf T.bK.kp T.cb .nil aT (@aa _ _ _ _ _ (by rfl) (pv 0) (@aa _ _ _ _ _ (by rfl) aj ag))) aj (aI _)))) bh)
   (@au _ _ _ _ _ (@a_ _ _ _ _ _ _ _ _ (@aR _ _ _ _ _ _ _ _ bP (pv 1) aj (aI _)) (@ax _ _ _ (@aO _ _ _ _ (@dY _ _ _ _ _ _ _ _ bP (aL bD (hr.mono (by decide)) rfl T.cf T.bK.kp T.cb .nil aT (@aa _ _ _ _ _ (by rfl) (pv 0) (@aa _ _ _ _ _ (by rfl) aj ag))) aj (aI _)))) bh)
   (@au _ _ _ _ _ (@a_ _ _ _ _ _ _ _ _ (@aR _ _ _ _ _ _ _ _ bP (pv 1) aj (aI _)) (@ax _ _ _ (@aO _ _ _ _ (@dY _ _ _ _ _ _ _ _ fV (aL bD (hr.mono (by decide)) rfl T.cf T.bK.kp T.cb .nil aT (@aa _ _ _ _ _ (by rfl) (pv 0) (@aa _ _ _ _ _ (by rfl) aj ag))) aj (aI _)))) bh)
   (@au _ _ _ _ _ (@a_ _ _ _ _ _ _ _ _ (@aR _ _ _ _ _ _ _ _ bP (pv 1) aj (aI _)) (@ax _ _ _ (@aO _ _ _ _ (xy (@dY _ _ _ _ _ _ _ _ bP (@aC _ _ _ _ _ _ _ _ fU (pv 5) (pv 4)) aj (aI _)) (@jx _ _ _ _ _ (@dY _ _ _ _ _ _ _ _ bP (@aC _ _ _ _ _ _ _ _ fU (pv 5) (pv 4)) (@aC _ _ _ _ _ _ _ _ fU (pv 2) aj) (aI _)))))) bh)
   (@ax _ _ _ (@aO _ _ _ _ (@dY _ _ _ _ _ _ _ _ kJ (@aC _ _ _ _ _ _ _ _ fU (pv 5) (pv 4)) (pv 3) (aI _)))))))),?_⟩
  refine ⟨_,rfl,rfl,_,rfl,a7 (fun _=>?_) (fun _=>?_)⟩
  ·exact ⟨_,rfl,P0,a,ns,2,rfl,pc,hS,by decide,aS.of_lt (by decide) (by decide),fun c H1 _ _ s1 p1=>⟨rfl,kk _ H1 s1 p1⟩⟩
  dsimp only [eF]
  refine ⟨_,rfl,rfl,_,rfl,a7 (fun _=>?_) (fun _=>?_)⟩
  ·exact ⟨_,rfl,P0,a,ns,4,rfl,pc,hS,by decide,aS.of_lt (by decide) (by decide),fun c H1 _ _ s1 p1=>⟨rfl,kk _ H1 s1 p1⟩⟩
  dsimp only [eF]
  refine ⟨_,rfl,rfl,_,rfl,a7 (fun _=>?_) (fun _=>?_)⟩
  ·exact ⟨_,rfl,P0,a,ns,4,rfl,pc,hS,by decide,aS.of_lt (by decide) (by decide),fun c H1 _ _ s1 p1=>⟨_,_,rfl,rfl,kk _ H1 s1 p1⟩⟩
  dsimp only [eF]
  refine ⟨_,rfl,rfl,_,rfl,a7 (fun _=>?_) (fun _=>?_)⟩
  ·refine ⟨_,rfl,_,rfl,_,_,rfl,rfl,rfl,_,rfl,a7 (fun _=>?_) (fun _=>?_)⟩
   ·exact kk _ H (ao.refl _) pc
   ·exact ⟨_,rfl,_,rfl,_,_,rfl,rfl,_,rfl,_,_,rfl,rfl,rfl,kk _ H (ao.refl _) pc⟩
  dsimp only [eF]
  exact ⟨_,rfl,_,rfl,_,_,rfl,rfl,_,rfl,_,_,rfl,rfl,kk _ H (ao.refl _) pc⟩
theorem De:ba ["_law_size","_law_links","_law_names","_law_found","_law_i","_law_j","_law_one"] ["_law_size","_law_links","_law_names"] (aE md):=⟨rfl,rfl,rfl,by decide +kernel,rfl,by decide +kernel,by decide +kernel⟩
theorem Df(T:Txt K mg t):aJ P w K mg base bt 3 t.gM t.iM ["_law_size","_law_links","_law_names"] BQ:=by
 have S:=De
 refine T.i_.ok S (fun vs H Q E h=>?_) (fun av A outer s H vs Q E hr h=>?_)
 ·obtain ⟨l,r,n,us,ws,L,nm,rfl,_⟩:=h
  rfl
 ·obtain ⟨l,r,n,us,ws,L,nm,rfl,el,hL,ok,jf,gZ,lw,hw,N,kk⟩:=h
  refine ⟨_,(@au _ _ _ _ _ (@aB _ _ 3 _ _ _ _ (by rfl) (by first | exact .inl rfl | exact .inr rfl | assumption) S.nd rfl (Or.inl rfl) (@cj _ _ _ _ ag))
   (@au _ _ _ _ _ (eG PassesOwn.never rfl (hZ (pv 1)) (m7 rfl (hU (cg (i:=4) S.nd rfl (Or.inl rfl)) (hU (cg (i:=5) S.nd rfl (Or.inl rfl)) m6)))
    (@au _ _ _ _ _ (@aB _ _ 6 _ _ _ _ (by rfl) (by first | exact .inl rfl | exact .inr rfl | assumption) S.nd rfl (Or.inl rfl) (bo (yl rfl) rfl T.vB boot_min (@aa _ _ _ _ _ (by rfl) (@aK _ _ _ _ _ _ _ bp (pv 2) (pv 4) (fun _ _=>rfl)) (@aa _ _ _ _ _ (by rfl) (@aK _ _ _ _ _ _ _ bp (pv 2) (pv 5) (fun _ _=>rfl)) ag))))
   (@ax _ _ _ (hJ (gc PySem.F.plainAttrs_list PySem.F.slot_list_append PySem.F.type_list_append ic (pv 3) (@aa _ _ _ _ _ (by rfl) (@bG _ _ _ _ _ (@aa _ _ _ _ _ (by rfl) (pv 6) (@aa _ _ _ _ _ (by rfl) (bo (yk rfl) rfl T.vC boot_max (@aa _ _ _ _ _ (by rfl) (@aK _ _ _ _ _ _ _ bp (pv 2) (pv 4) (fun _ _=>rfl)) (@aa _ _ _ _ _ (by rfl) (@aK _ _ _ _ _ _ _ bp (pv 2) (pv 5) (fun _ _=>rfl)) ag))) ag))) ag))))))
   (@ax _ _ _ (@aO _ _ _ _ (@bG _ _ _ _ _ (@aa _ _ _ _ _ (by rfl) (pv 0) (@aa _ _ _ _ _ (by rfl) (f_ sA rfl T.jd boot_tuple (@aa _ _ _ _ _ (by rfl) (bo BI rfl T.vD PyProof.Rows.boot_sorted (@aa _ _ _ _ _ (by rfl) (pv 3) ag)) ag)) ag))))))),?_⟩
  refine ⟨by show 0≤sizeLine;decide,fun fd bT=>?_⟩
  have s0:ae H (upd H fd (.lst [])):=aF bT
  have wd:upd H fd (.lst []) fd=some (.lst []):=ar
  dsimp only [aW]
  generalize upd H fd (.lst [])=H1 at s0 wd ⊢
  refine ⟨_,rfl,l,rfl,⟨_,.of (s0 _ _ el)⟩,?_⟩
  refine x9 (K:=K) (a:=l) (xs:=us) (fun k σ Hc=>∃(xs:List V) (v4 v5 v6:Option V),σ=[some (.int (n:Int)),some (.ref l),some (.ref r),some (.ref fd),v4,v5,v6]∧ae H Hc∧Hc fd=some (.lst xs)∧aN Hc xs ((L.take k).map (cw nm))) ⟨[],_,_,_,rfl,s0,wd,aN.nil _⟩ (fun k σ Hc _ ⟨_,_,_,_,_,sc,_⟩=>.of (sc _ _ el)) ?_ ?_
  ·rintro k x σ Hc hx ⟨xs,v4,v5,v6,rfl,sc,ef,hX⟩
   have hk:k<L.length:=by
    rw [←hL.1]
    exact (List.getElem?_eq_some_iff.mp hx).1
   obtain ⟨b,rfl,eb⟩:=(hL.mono sc).2 k x L[k] hx (by simp [hk])
   have pk:=ok.lt L[k] (List.getElem_mem hk)
   have tk:(L.take (k+1)).map (cw nm)=(L.take k).map (cw nm)++[cw nm L[k]]:=by
    rw [List.take_succ,List.getElem?_eq_getElem hk,List.map_append]
    rfl
   have lX:=hX.1
   rw [List.length_map,List.length_take] at lX
   have bC:L.length≤50:=Nat.le_trans ok.bC (by
    have:n*n≤10*10:=Nat.mul_le_mul jf jf
    omega)
   generalize L[k]=p at eb pk tk
   obtain ⟨p1,p2⟩:=p
   dsimp only at pk
   obtain ⟨i,rfl⟩:=Int.eq_ofNat_of_zero_le pk.1
   obtain ⟨j,rfl⟩:=Int.eq_ofNat_of_zero_le (show 0≤p2 by omega)
   have we:cD ws (i:Int)=some (.int (nm i)):=dF (hw i (by omega))
   have at2:cD ws (j:Int)=some (.int (nm j)):=dF (hw j (by omega))
   have mF:=sc _ _ gZ
   refine ⟨b,_,rfl,.of eb,rfl,_,_,rfl,_,_,rfl,rfl,?_⟩
   refine ⟨_,rfl,_,rfl,r,ws,_,.int (nm i),rfl,rfl,.of mF,we,_,rfl,_,rfl,r,ws,_,.int (nm j),rfl,rfl,.of mF,at2,nm i,nm j,rfl,?_⟩
   dsimp only [aW]
   refine ⟨_,rfl,.inl ⟨rfl,_,.of ef⟩,_,rfl,_,rfl,_,rfl,r,ws,_,.int (nm i),rfl,rfl,.of mF,we,_,rfl,_,rfl,r,ws,_,.int (nm j),rfl,rfl,.of mF,at2,nm i,nm j,rfl,by show 2≤sizeLine;decide,fun tp cy=>?_⟩
   have eq:cw nm ((i:Int),(j:Int))=(if nm j<nm i then nm j else nm i,if nm j>nm i then nm j else nm i):=by
    unfold cw
    simp only [Int.toNat_natCast]
    refine Prod.ext ?_ ?_
    ·show min (nm i) (nm j)=_
     split <;> omega
    ·show max (nm i) (nm j)=_
     split <;> omega
   have st:ae Hc (upd Hc tp (.tup [.int (if nm j<nm i then nm j else nm i),.int (if nm j>nm i then nm j else nm i)])):=aF cy
   have en:upd Hc tp (.tup [.int (if nm j<nm i then nm j else nm i),.int (if nm j>nm i then nm j else nm i)]) tp=some (.tup [.int (cw nm ((i:Int),(j:Int))).1,.int (cw nm ((i:Int),(j:Int))).2]):=by rw [ar,eq]
   generalize upd Hc tp (.tup [.int (if nm j<nm i then nm j else nm i),.int (if nm j>nm i then nm j else nm i)])=Hd at st en ⊢
   have bz:=st _ _ ef
   refine ⟨fd,xs,_,rfl,rfl,bz,df (by omega),xs++[.ref tp],_,_,_,rfl,fA (sc.trans st) bT,ar,?_⟩
   rw [tk]
   exact ((hX.mono st).push en).bu bz fun b o nb e=>by rw [aD nb];exact e
  ·rintro σ Hc ⟨xs,v4,v5,v6,rfl,sc,ef,hX⟩
   rw [hL.1,List.take_length] at hX
   have mG:=BP ok N
   have lX:=hX.1
   have bC:L.length≤50:=Nat.le_trans ok.bC (by
    have:n*n≤10*10:=Nat.mul_le_mul jf jf
    omega)
   have lM:(L.map (cw nm)).length=L.length:=List.length_map ..
   have small:∀q∈L.map (cw nm),0≤q.2∧q.2<1000:=fun q hq=>by
    have:=mG.lt q hq
    omega
   generalize hM:L.map (cw nm)=M at hX mG lX lM small kk
   dsimp only
   refine ⟨_,rfl,_,rfl,fd,xs,fun i=>(M.getD i (0,0)).1,fun i=>(M.getD i (0,0)).2,rfl,ef,by omega,fun i v hv=>?_,fun p l' hp hu Dg=>?_⟩
   ·have hi:i<M.length:=by
     rw [←lX]
     exact (List.getElem?_eq_some_iff.mp hv).1
    obtain ⟨b,rfl,eb⟩:=hX.2 i v M[i] hv (by simp [hi])
    dsimp only
    rw [getD_at hi]
    exact ⟨⟨b,rfl,eb⟩,small _ (List.getElem_mem hi)⟩
   rw [lX] at hp hu
   obtain ⟨pm,pw⟩:=BO hp hu mG.nd small
   have sl:ae Hc (upd Hc l' (.lst (p.toList.map fun i=>xs.getD i .ay))):=aF Dg
   have hP:aN Hc (p.toList.map fun i=>xs.getD i .ay) (p.toList.map fun i=>M.getD i (0,0)):=hX.pick _ fun i hi=>by
    have:p.toList.Perm (List.range M.length):=Array.perm_iff_toList_perm.mp hp
    exact List.mem_range.mp (this.mem_iff.mp hi)
   generalize (p.toList.map fun i=>xs.getD i .ay)=zs at sl hP ⊢
   refine ⟨l',zs,rfl,.inl ⟨.of ar,fun lt o9=>?_⟩⟩
   have mH:=sl.trans (aF (o:=.tup zs) o9)
   have elt:upd (upd Hc l' (.lst zs)) lt (.tup zs) lt=some (.tup zs):=ar
   generalize upd (upd Hc l' (.lst zs)) lt (.tup zs)=Hd at mH elt ⊢
   refine ⟨by show 2≤sizeLine;decide,fun tp cy=>?_⟩
   have st:ae Hd (upd Hd tp (.tup [.int (n:Int),.ref lt])):=aF cy
   have sT:=sc.trans (mH.trans st)
   exact kk tp _ _ sT (none_of (sc.trans mH) cy) ⟨lt,zs,ar,st _ _ elt,(hP.mono mH).mono st⟩ (mG.perm pm) pw pm
theorem Dh:ba ["_law_pen","_law_size","_law_ahead","_law_found","_law_j","_law_at","_law_some"] ["_law_pen","_law_size"] (aE ma):=⟨rfl,rfl,rfl,by decide +kernel,rfl,by decide +kernel,by decide +kernel⟩
theorem Di(T:Txt K mg t):aJ P w K mg base bt 3 t.gK t.iL ["_law_pen","_law_size"] (BS K):=by
 have S:=Dh
 have bD:=gY (P:=P) (w:=w) (base:=base) T
 refine T.i9.ok S (fun vs H Q E h=>?_) (fun av A outer s H vs Q E hr h=>?_)
 ·obtain ⟨P0,a,ns,n,rfl,_⟩:=h
  rfl
 ·obtain ⟨P0,a,ns,n,rfl,pc,hS,n1,jf,kk⟩:=h
  refine ⟨_,(@au _ _ _ _ _ (@aB _ _ 2 _ _ _ _ (by rfl) (by first | exact .inl rfl | exact .inr rfl | assumption) S.nd rfl (Or.inl rfl) (@cj _ _ _ _ (@aa _ _ _ _ _ (by rfl) (@cj _ _ _ _ ag) ag)))
   (@au _ _ _ _ _ (@aB _ _ 3 _ _ _ _ (by rfl) (by first | exact .inl rfl | exact .inr rfl | assumption) S.nd rfl (Or.inl rfl) (@cj _ _ _ _ ag))
   (@au _ _ _ _ _ (eG PassesOwn.never rfl (rD rfl T.du (@aa _ _ _ _ _ (by rfl) aj (@aa _ _ _ _ _ (by rfl) (pv 1) ag))) (cg (i:=4) S.nd rfl (Or.inr rfl))
    (@au _ _ _ _ _ (@aB _ _ 5 _ _ _ _ (by rfl) (by first | exact .inl rfl | exact .inr rfl | assumption) S.nd rfl (Or.inl rfl) (aL bD (hr.mono (by decide)) rfl T.cf T.bK.kp T.cb .nil aT (@aa _ _ _ _ _ (by rfl) (pv 0) (@aa _ _ _ _ _ (by rfl) (pv 4) ag))))
   (@au _ _ _ _ _ (@aB _ _ 6 _ _ _ _ (by rfl) (by first | exact .inl rfl | exact .inr rfl | assumption) S.nd rfl (Or.inl rfl) (@aC _ _ _ _ _ _ _ _ nQ (@cj _ _ _ _ (@aa _ _ _ _ _ (by rfl) (pv 5) ag)) (il (N:=["_law_i","_law_pen"]) (ρ:=(fun σ=>[σ[0]?.join])) ⟨rfl,rfl,by decide +kernel,by decide +kernel,(List.forall_mem_cons.mpr ⟨rfl,(List.forall_mem_nil _)⟩),fo (by rfl),rfl,by decide +kernel,rfl,(fun σ j v h=>match j,h with | 0,h=>⟨0,_,rfl,rfl,join_some h,Or.inr (Or.inl rfl),.inl rfl,.inl rfl⟩ | j+1,h=>by cases h),(fun _ _=>rfl)⟩ rfl (hZ (@aK _ _ _ _ _ _ _ bp (pv 2) (pv 5) (fun _ _=>rfl))) (fun s₃ H₃ fp=>(.one (@aR _ _ _ _ _ _ _ _ fV (aL bD (hr.mono (by decide)) rfl T.cf T.bK.kp T.cb .nil aT (@aa _ _ _ _ _ (by rfl) (pv 1) (@aa _ _ _ _ _ (by rfl) aj ag))) aj (aI _)))) (fun s₃ H₃ fp=>(pv 0)))))
   (@au _ _ _ _ _ (@a_ _ _ _ _ _ _ _ _ (@aR _ _ _ _ _ _ _ _ bP (aL bD (hr.mono (by decide)) rfl T.cf T.bK.kp T.cb .nil aT (@aa _ _ _ _ _ (by rfl) (pv 0) (@aa _ _ _ _ _ (by rfl) aj ag))) aj (aI _)) (@ax _ _ _ (@aB _ _ 6 _ _ _ _ (by rfl) (by first | exact .inl rfl | exact .inr rfl | assumption) S.nd rfl (Or.inl rfl) (@cj _ _ _ _ ag))) bh)
   (@au _ _ _ _ _ (hJ (gc PySem.F.plainAttrs_list PySem.F.slot_list_append PySem.F.type_list_append ic (pv 2) (@aa _ _ _ _ _ (by rfl) (pv 6) ag)))
   (@ax _ _ _ (hJ (gc PySem.F.plainAttrs_list PySem.F.slot_list_extend PySem.F.type_list_extend sE (pv 3) (@aa _ _ _ _ _ (by rfl) (il (N:=["_law_i","_law_j"]) (ρ:=(fun σ=>[σ[4]?.join])) ⟨rfl,rfl,by decide +kernel,by decide +kernel,(List.forall_mem_cons.mpr ⟨rfl,(List.forall_mem_nil _)⟩),fo (by rfl),rfl,by decide +kernel,rfl,(fun σ j v h=>match j,h with | 0,h=>⟨4,_,rfl,rfl,join_some h,Or.inr (Or.inl rfl),.inl rfl,.inl rfl⟩ | j+1,h=>by cases h),(fun _ _=>rfl)⟩ rfl (hZ (pv 6)) (fun s₃ H₃ fp=>.nil) (fun s₃ H₃ fp=>(@bG _ _ _ _ _ (@aa _ _ _ _ _ (by rfl) (pv 0) (@aa _ _ _ _ _ (by rfl) (pv 1) ag))))) ag)))))))))
   (@ax _ _ _ (@aO _ _ _ _ (pv 3)))))),?_⟩
  refine ⟨by show 0≤sizeLine;decide,fun l0 mI=>⟨by show 1≤sizeLine;decide,fun la j8=>?_⟩⟩
  have s1:ae H (upd H l0 (.lst [])):=aF mI
  have e0:upd H l0 (.lst []) l0=some (.lst []):=ar
  generalize upd H l0 (.lst [])=H1 at s1 e0 j8 ⊢
  have s2:ae H1 (upd H1 la (.lst [.ref l0])):=aF j8
  have ea:upd H1 la (.lst [.ref l0]) la=some (.lst [.ref l0]):=ar
  dsimp only [aW]
  generalize upd H1 la (.lst [.ref l0])=H2 at s2 ea ⊢
  refine ⟨by show 0≤sizeLine;decide,fun fd bT=>?_⟩
  have s3:ae H2 (upd H2 fd (.lst [])):=aF bT
  have ef:upd H2 fd (.lst []) fd=some (.lst []):=ar
  dsimp only [aW]
  generalize upd H2 fd (.lst [])=H3 at s3 ef ⊢
  have j9:=s1.trans (s2.trans s3)
  have j_:la≠P0:=(pc.mono s1).ne j8
  have cU:fd≠P0:=((pc.mono s1).mono s2).ne bT
  have Dj:l0≠P0:=pc.ne mI
  have Dk:H la=none:=none_of s1 j8
  have jg:H fd=none:=none_of (s1.trans s2) bT
  have af:la≠fd:=fun e=>by rw [e,bT] at ea;cases ea
  refine ⟨_,rfl,_,_,rfl,⟨by decide,by decide,by omega,by omega⟩,?_⟩
  rw [show ((n:Int)-1).toNat=n-1 by omega]
  refine fT (fun k σ Hc=>∃(vs us:List V) (L:List (Int×Int)) (D:Nat→List Nat) (v4 v5 v6:Option V),σ=[some (.ref P0),some (.int (n:Int)),some (.ref la),some (.ref fd),v4,v5,v6]∧ao P0 H Hc∧aG Hc P0 a∧Hc la=some (.lst vs)∧BU (er P0 Hc) vs (k+1) D∧(∀(i:Nat) (b:Addr),vs[i]?=some (V.ref b)→b≠la∧b≠fd)∧Hc fd=some (.lst us)∧aN (er P0 Hc) us L∧eU (k+1) L) ?_ ?_ ?_
  ·refine ⟨[.ref l0],[],[],fun _=>[],_,_,_,rfl,ao.of j9,pc.mono j9,s3 _ _ ea,⟨rfl,fun k hk=>⟨bS.nil k,l0,by rw [show k=0 by omega];rfl,?_⟩⟩,fun i b hb=>?_,ef,aN.nil _,eU.nil⟩
   ·rw [bH Dj]
    exact s3 _ _ (s2 _ _ e0)
   ·match i,hb with
    | 0,hb=>
     cases hb
     exact ⟨(fun e=>by rw [e,j8] at e0;cases e0),(fun e=>by rw [←e] at bT;rw [s2 _ _ e0] at bT;cases bT)⟩
    | i+1,hb=>simp at hb
  ·rintro k σ Hc hk ⟨vs,us,L,D,v4,v5,v6,rfl,sc,p1,mJ,ah,ap,bz,hL,ok⟩
   refine ⟨_,rfl,_,rfl,P0,a,ns,1+(k:Int),rfl,p1,ae.seq sc hS,by omega,aS.of_lt (by omega) (by omega),fun c H4 c0 c1 s4 p4=>?_⟩
   obtain ⟨c,rfl⟩:=Int.eq_ofNat_of_zero_le c0
   have hc:c<k+1:=by omega
   obtain ⟨fc,b,Dl,ke⟩:=ah.2 c hc
   have Dm:b≠P0:=fun z=>by
    rw [z] at ke
    unfold er at ke
    rw [if_pos rfl] at ke
    cases ke
   have Dn:=ah.1
   have jh:=sc.trans s4
   have Dp:=s4.at j_ mJ
   have wg:H4 b=some (.lst (bI (D c))):=bW _ _ (s4 _ _ ke)
   dsimp only [aW]
   simp only [List.set_cons_zero,List.set_cons_succ]
   refine ⟨_,rfl,by show 1≤sizeLine;decide,fun ji mK=>?_⟩
   have s5:ae H4 (upd H4 ji (.lst [.int (c:Int)])):=aF mK
   have e5:upd H4 ji (.lst [.int (c:Int)]) ji=some (.lst [.int (c:Int)]):=ar
   have Dq:ji≠P0:=p4.ne mK
   generalize upd H4 ji (.lst [.int (c:Int)])=H5 at s5 e5 ⊢
   have lD:(D c).length≤10:=Nat.le_trans fc.len (by omega)
   have lV:(bI (D c)).length≤10:=by unfold bI;rw [List.length_map];exact lD
   have wj:=jh.trans (ao.of s5)
   refine BR (K:=K) (l:=b) (xs:=bI (D c)) (df (by omega)) Dm (s5 _ _ wg) (p4.mono s5) (fun R h=>⟨_,rfl,_,rfl,la,vs,_,.ref b,rfl,rfl,.of (s5 _ _ Dp),dF Dl,b,rfl,⟨_,.of (s5 _ _ wg)⟩,h⟩) (fun i x hx Hx R sx px k=>⟨_,rfl,P0,a,ns,3,rfl,px,ae.seq (wj.trans sx) hS,by decide,aS.of_lt (by decide) (by decide),fun c' H' _ _ s' p'=>⟨_,_,rfl,rfl,_,rfl,k _ H' s' p'⟩⟩) (fun x Hx R h=>⟨_,rfl,h⟩) fun D' ys Hx o_ Hs sx px sub mL=>?_
   obtain ⟨e,kY,rfl⟩:=oT sub
   have fe:=(fc.sub kY).put hc
   have Ht:(bI e).length≤10:=Nat.le_trans sub.length_le lV
   refine ⟨ji,D',_,_,rfl,rfl,sx.at Dq e5,mL,Nat.le_trans (show _≤100 by simp;omega) (by decide),fun c2 n2=>?_⟩
   have s6:ae Hx (upd Hx c2 (.lst ([.int (c:Int)]++bI e))):=aF n2
   have e6:upd Hx c2 (.lst ([.int (c:Int)]++bI e)) c2=some (.lst (bI (c::e))):=ar
   have wk:=(wj.trans sx).trans (ao.of s6)
   have p6:=px.mono s6
   have pb:ao P0 H4 (upd Hx c2 (.lst ([.int (c:Int)]++bI e))):=(ao.of s5).trans (sx.trans (ao.of s6))
   have ph:c2≠P0:=px.ne n2
   have f2:er P0 Hc c2=none:=none_of (s4.trans ((ao.of s5).trans sx)) (by rw [bH ph];exact n2)
   dsimp only [aW]
   generalize upd Hx c2 (.lst ([.int (c:Int)]++bI e))=H6 at s6 e6 wk p6 pb ⊢
   simp only [List.set_cons_zero,List.set_cons_succ]
   refine dj (oQ (fun σ Hy=>∃(lc:Addr) (d:List Nat),σ=[some (.ref P0),some (.int (n:Int)),some (.ref la),some (.ref fd),some (.int (1+(k:Int))),some (.int (c:Int)),some (.ref lc)]∧ao P0 Hc Hy∧aG Hy P0 a∧Hy lc=some (.lst (bI d))∧bS (k+1) d∧lc≠P0∧er P0 Hc lc=none) ?_ ?_)
   ·rintro σ Hy ⟨lc,d,rfl,sy,py,Dr,pz,jj,mM⟩
    have ly:lc≠la:=fun z=>by rw [z,bH j_,mJ] at mM;cases mM
    have lf:lc≠fd:=fun z=>by rw [z,bH cU,bz] at mM;cases mM
    have pA:=sy.at j_ mJ
    have Ds:=sy.at cU bz
    have Hu:d.length≤10:=Nat.le_trans pz.len (by omega)
    dsimp only
    refine ⟨_,rfl,.inl ⟨rfl,_,.of pA⟩,_,rfl,la,vs,_,rfl,rfl,pA,df (by omega),?_⟩
    have e7:upd Hy la (.lst (vs++[.ref lc])) la=some (.lst (vs++[.ref lc])):=ar
    have k7:∀b o,b≠la→Hy b=some o→upd Hy la (.lst (vs++[.ref lc])) b=some o:=fun b o nb e=>by rw [aD nb];exact e
    have p7:=py.upd (o:=.lst (vs++[.ref lc])) j_
    have r7:=oU (P:=P0) (H:=Hy) (r:=la) (o:=.lst (vs++[.ref lc]))
    have wm:ao P0 H (upd Hy la (.lst (vs++[.ref lc]))):=(sc.trans sy).but Dk
    generalize upd Hy la (.lst (vs++[.ref lc]))=H7 at e7 k7 p7 r7 wm ⊢
    have pB:=k7 fd _ (fun z=>af z.symm) Ds
    have pC:=k7 lc _ ly Dr
    have Dt:(bI d).length=d.length:=by unfold bI;rw [List.length_map]
    refine ⟨_,rfl,.inl ⟨rfl,_,.of pB⟩,t_ (xs:=bI d) (fun R h=>⟨_,rfl,lc,rfl,⟨_,.of pC⟩,h _ _ (ae.refl _) (lg (.of pC))⟩) (df (by omega)) (fun _ i y Hz=>∃(b:Addr) (x:Nat),y=.ref b∧d[i]?=some x∧Hz b=some (.tup [.int (x:Int),.int (1+(k:Int))])) (fun Dd i y Ha Hb ys ⟨b,x,h1,h2,h3⟩ e f=>⟨b,x,h1,h2,f b _ (fun z=>by rw [z,e] at h3;cases h3) h3⟩) ?_ ?_⟩
    ·intro Dd i x hx Hz R sz _ kz
     obtain ⟨y,hy,rfl⟩:=BV hx
     refine ⟨_,rfl,_,rfl,by show 2≤sizeLine;decide,fun tp cy=>?_⟩
     exact kz _ _ (aF cy) ⟨tp,y,rfl,hy,ar⟩
    ·intro Dd zs H8 HA s8 Du Dv Dw
     have lL:=hL.1
     have l2:us.length≤50:=by
      have:=ok.bC
      have:(k+1)*(k+1-1)≤10*10:=Nat.mul_le_mul (by omega) (by omega)
      omega
     refine ⟨fd,Dd,us,zs,rfl,rfl,s8 _ _ pB,Dw,Nat.le_trans (show _≤100 by omega) (by decide),?_⟩
     have k9:∀b o,b≠fd→H8 b=some o→upd H8 fd (.lst (us++zs)) b=some o:=fun b o nb e=>by rw [aD nb];exact e
     have p8:=p7.mono s8
     have r9:=oU (P:=P0) (H:=H8) (r:=fd) (o:=.lst (us++zs))
     have wo:er P0 H8 fd=some (.lst us):=by rw [bH cU];exact s8 _ _ pB
     have Dx:er P0 Hy la=some (.lst vs):=by rw [bH j_];exact pA
     refine ⟨vs++[.ref lc],us++zs,L++d.map fun(x:Nat)=>((x:Int),((k+1:Nat):Int)),fun i=>if i=k+1 then d else D i,_,_,_,rfl,(wm.trans (ao.of s8)).but jg,p8.upd cU,k9 la _ af (s8 _ _ e7),⟨by simp [Dn],fun i hi=>?_⟩,fun i b' cH=>?_,ar,?_,ok.more pz⟩
     ·dsimp only
      by_cases z:i=k+1
      ·subst z
       rw [if_pos rfl]
       refine ⟨pz,lc,by rw [List.getElem?_append_right (by omega),show k+1-vs.length=0 by omega];rfl,?_⟩
       exact r9 _ _ lf (by rw [bH jj];exact s8 _ _ pC)
      ·rw [if_neg z]
       obtain ⟨f1,b1,v1,h1⟩:=ah.2 i (by omega)
       obtain ⟨a1,a2⟩:=ap i b1 v1
       refine ⟨f1,b1,by rw [List.getElem?_append_left (by omega)];exact v1,?_⟩
       exact r9 _ _ a2 (jV s8 _ _ (r7 _ _ a1 (sy _ _ h1)))
     ·by_cases z:i<vs.length
      ·rw [List.getElem?_append_left z] at cH
       exact ap i b' cH
      ·have cu:=(List.getElem?_eq_some_iff.mp cH).1
       rw [List.length_append,List.length_singleton] at cu
       rw [List.getElem?_append_right (by omega),show i-vs.length=0 by omega] at cH
       cases cH
       exact ⟨ly,lf⟩
     ·refine aN.cat ?_ ?_
      ·exact (((hL.mono sy).bu Dx r7).mono (jV s8)).bu wo r9
      ·refine aN.bu (H:=er P0 H8) ⟨by rw [Du,Dt,List.length_map],fun i v p h1 h2=>?_⟩ wo r9
       obtain ⟨b',x,rfl,hx,e'⟩:=Dv i v h1
       rw [List.getElem?_map,hx] at h2
       cases h2
       refine ⟨b',rfl,?_⟩
       rw [show (((k+1:Nat):Int))=1+(k:Int) by omega]
       exact eV p8 e'
   ·intro R hR
    refine ⟨_,rfl,P0,a,ns,9,rfl,p6,ae.seq wk hS,by decide,aS.of_lt (by decide) (by decide),fun c' H7 _ _ s7 p7=>⟨rfl,_,rfl,a7 (fun _=>?_) (fun _=>?_)⟩⟩
    ·refine ⟨by show 0≤sizeLine;decide,fun lc jj=>?_⟩
     have nP:=p7.ne jj
     have wq:=s4.trans (pb.trans s7)
     exact hR _ _ ⟨lc,[],rfl,wq.trans (ao.of (aF jj)),p7.mono (aF jj),ar,bS.nil _,nP,none_of wq (by rw [bH nP];exact jj)⟩
    ·exact hR _ _ ⟨c2,c::e,rfl,s4.trans (pb.trans s7),p7,s7.at ph e6,fe,ph,f2⟩
  ·rintro σ Hc ⟨vs,us,L,D,v4,v5,v6,rfl,sc,p1,mJ,ah,ap,bz,hL,ok⟩
   rw [show n-1+1=n by omega] at ok
   exact ⟨_,rfl,kk fd us L Hc sc p1 (by rw [bH cU];exact jg) cU bz hL ok.ok⟩
theorem Dy:ba ["_law_pen","_law_most","_law_size","_law_way","_law_wide","_law_links","_law_j","_law_i"] ["_law_pen","_law_most"] (aE me):=⟨rfl,rfl,rfl,by decide +kernel,rfl,by decide +kernel,by decide +kernel⟩
theorem Dz(T:Txt K mg t):aJ P w K mg base bt 4 t.gN t.iN ["_law_pen","_law_most"] (BZ K):=by
 have S:=Dy
 have bD:=gY (P:=P) (w:=w) (base:=base) T
 have DA:=Dc (P:=P) (w:=w) (base:=base) T
 have DB:=Di (P:=P) (w:=w) (base:=base) T
 have DC:=C6 (P:=P) (w:=w) (base:=base) T
 have DD:=Df (P:=P) (w:=w) (base:=base) T
 refine T.ja.ok S (fun vs H Q E h=>?_) (fun av A outer s H vs Q E hr h=>?_)
 ·obtain ⟨P0,a,ns,most,rfl,_⟩:=h
  rfl
 ·obtain ⟨P0,a,ns,most,rfl,pc,hS,m1,HB,kk⟩:=h
  refine ⟨_,(@au _ _ _ _ _ (@aB _ _ 2 _ _ _ _ (by rfl) (by first | exact .inl rfl | exact .inr rfl | assumption) S.nd rfl (Or.inl rfl) (@aC _ _ _ _ _ _ _ _ dD aj (aL bD (hr.mono (by decide)) rfl T.cf T.bK.kp T.cb .nil aT (@aa _ _ _ _ _ (by rfl) (pv 0) (@aa _ _ _ _ _ (by rfl) (pv 1) ag)))))
   (@au _ _ _ _ _ (@aB _ _ 3 _ _ _ _ (by rfl) (by first | exact .inl rfl | exact .inr rfl | assumption) S.nd rfl (Or.inl rfl) (aL bD (hr.mono (by decide)) rfl T.cf T.bK.kp T.cb .nil aT (@aa _ _ _ _ _ (by rfl) (pv 0) (@aa _ _ _ _ _ (by rfl) aj ag))))
   (@au _ _ _ _ _ (@aB _ _ 4 _ _ _ _ (by rfl) (by first | exact .inl rfl | exact .inr rfl | assumption) S.nd rfl (Or.inl rfl) (aL bD (hr.mono (by decide)) rfl T.cf T.bK.kp T.cb .nil aT (@aa _ _ _ _ _ (by rfl) (pv 0) (@aa _ _ _ _ _ (by rfl) (pv 2) ag))))
   (@au _ _ _ _ _ (@aB _ _ 5 _ _ _ _ (by rfl) (by first | exact .inl rfl | exact .inr rfl | assumption) S.nd rfl (Or.inl rfl) (@cj _ _ _ _ ag))
   (@au _ _ _ _ _ (eG PassesOwn.never rfl (fh rfl T.du (@aa _ _ _ _ _ (by rfl) (pv 2) ag)) (cg (i:=6) S.nd rfl (Or.inl rfl))
    (@ax _ _ _ (eG PassesOwn.never rfl (fh rfl T.du (@aa _ _ _ _ _ (by rfl) (pv 6) ag)) (cg (i:=7) S.nd rfl (Or.inl rfl))
    (@ax _ _ _ (@a_ _ _ _ _ _ _ _ _ (e8 (aL DA (hr.mono (by decide)) rfl T.u_ T.i8.kp T.u9 .nil aT (@aa _ _ _ _ _ (by rfl) (pv 0) (@aa _ _ _ _ _ (by rfl) (pv 3) (@aa _ _ _ _ _ (by rfl) (pv 2) (@aa _ _ _ _ _ (by rfl) (pv 4) (@aa _ _ _ _ _ (by rfl) (pv 7) (@aa _ _ _ _ _ (by rfl) (pv 6) ag)))))))) (@ax _ _ _ (hJ (gc PySem.F.plainAttrs_list PySem.F.slot_list_append PySem.F.type_list_append ic (pv 5) (@aa _ _ _ _ _ (by rfl) (@bG _ _ _ _ _ (@aa _ _ _ _ _ (by rfl) (pv 7) (@aa _ _ _ _ _ (by rfl) (pv 6) ag))) ag)))) bh)))))
   (@au _ _ _ _ _ (@a_ _ _ _ _ _ _ _ _ (@aR _ _ _ _ _ _ _ _ bP (pv 3) aj (aI _)) (@ax _ _ _ (@aB _ _ 5 _ _ _ _ (by rfl) (by first | exact .inl rfl | exact .inr rfl | assumption) S.nd rfl (Or.inl rfl) (aL DB (hr.mono (by decide)) rfl T.vb T.i9.kp T.va .nil aT (@aa _ _ _ _ _ (by rfl) (pv 0) (@aa _ _ _ _ _ (by rfl) (pv 2) ag))))) bh)
   (@ax _ _ _ (@aO _ _ _ _ (aL DD (hr.mono (by decide)) rfl T.vd T.i_.kp T.vc .nil aT (@aa _ _ _ _ _ (by rfl) (pv 2) (@aa _ _ _ _ _ (by rfl) (pv 5) (@aa _ _ _ _ _ (by rfl) (aL DC (hr.mono (by decide)) rfl T.u7 T.i7.kp T.u6 .nil aT (@aa _ _ _ _ _ (by rfl) (pv 0) (@aa _ _ _ _ _ (by rfl) (f_ (Ao rfl) rfl T.j6 boot_list (@aa _ _ _ _ _ (by rfl) (f_ Am rfl T.du Aq (@aa _ _ _ _ _ (by rfl) (pv 2) ag)) ag)) ag))) ag)))))))))))),?_⟩
  refine ⟨_,rfl,_,rfl,P0,a,ns,(most:Int),rfl,pc,hS,by omega,aS.of_lt (by omega) (by omega),fun c H1 c0 c1 s1 p1=>⟨_,_,rfl,rfl,?_⟩⟩
  obtain ⟨c,rfl⟩:=Int.eq_ofNat_of_zero_le c0
  dsimp only [aW]
  rw [show 1+(c:Int)=((c+1:Nat):Int) by omega]
  have n1:1≤c+1:=by omega
  have nm:c+1≤most:=by omega
  generalize c+1=n at n1 nm ⊢
  have jk:aH K (er P0 H1) a (ns.map V.int):=ae.seq s1 hS
  refine ⟨_,rfl,P0,a,ns,6,rfl,p1,jk,by decide,aS.of_lt (by decide) (by decide),fun way H2 _ _ s2 p2=>?_⟩
  have eZ:=s1.trans s2
  dsimp only [aW]
  refine ⟨_,rfl,_,rfl,P0,a,ns,(n:Int),rfl,p2,ae.seq eZ hS,by omega,aS.of_lt (by omega) (by omega),fun wide H3 _ _ s3 p3=>?_⟩
  have j9:=eZ.trans s3
  dsimp only [aW]
  refine ⟨by show 0≤sizeLine;decide,fun fd bT=>?_⟩
  have s4:ae H3 (upd H3 fd (.lst [])):=aF bT
  have ef:upd H3 fd (.lst []) fd=some (.lst []):=ar
  dsimp only [aW]
  generalize upd H3 fd (.lst [])=H4 at s4 ef ⊢
  have DE:=j9.trans (ao.of s4)
  have p4:=p3.mono s4
  have cU:fd≠P0:=p3.ne bT
  have wt:er P0 H fd=none:=none_of j9 (by rw [bH cU];exact bT)
  have jg:H fd=none:=by rw [bH cU] at wt;exact wt
  refine ⟨_,rfl,(n:Int),rfl,by omega,by omega,?_⟩
  rw [Int.toNat_natCast]
  refine fT (fun j σ Hc=>∃(us:List V) (L:List (Int×Int)) (v6 v7:Option V),σ=[some (.ref P0),some (.int (most:Int)),some (.int (n:Int)),some (.int way),some (.int wide),some (.ref fd),v6,v7]∧ao P0 H Hc∧aG Hc P0 a∧Hc fd=some (.lst us)∧aN (er P0 Hc) us L∧b7 j 0 L) ⟨[],[],_,_,rfl,DE,p4,ef,aN.nil _,b7.start⟩ ?_ ?_
  ·rintro j σ Hc hj ⟨us,L,v6,v7,rfl,sc,p5,bz,hL,ok⟩
   dsimp only [aW]
   simp only [List.set_cons_zero,List.set_cons_succ]
   refine ⟨_,rfl,(j:Int),by rw [Int.zero_add],by omega,by omega,?_⟩
   rw [Int.toNat_natCast]
   refine fT (fun i σ Hd=>∃(us:List V) (L:List (Int×Int)) (v7:Option V),σ=[some (.ref P0),some (.int (most:Int)),some (.int (n:Int)),some (.int way),some (.int wide),some (.ref fd),some (.int (0+(j:Int))),v7]∧ao P0 H Hd∧aG Hd P0 a∧Hd fd=some (.lst us)∧aN (er P0 Hd) us L∧b7 j i L) ⟨us,L,_,rfl,sc,p5,bz,hL,ok⟩ ?_ ?_
   ·rintro i σ Hd hi ⟨us,L,v7,rfl,sd,p6,bz,hL,ok⟩
    refine ⟨_,rfl,_,rfl,_,rfl,_,rfl,_,rfl,_,rfl,P0,a,ns,way,(n:Int),wide,0+(i:Int),0+(j:Int),rfl,p6,ae.seq sd hS,fun b He se pe=>?_⟩
    have pD:=se.at cU bz
    have wu:=hL.mono se
    have lL:=hL.1
    have l2:us.length≤100:=by
     have:=ok.bC
     have:j*(j-1)≤10*10:=Nat.mul_le_mul (by omega) (by omega)
     omega
    cases b with
    | true=>
     refine ⟨true,rfl,dG ?_⟩
     refine ⟨_,rfl,.inl ⟨rfl,_,.of pD⟩,_,rfl,_,rfl,by show 2≤sizeLine;decide,fun tp cy=>?_⟩
     have st:ae He (upd He tp (.tup [.int (0+(i:Int)),.int (0+(j:Int))])):=aF cy
     have et:upd He tp (.tup [.int (0+(i:Int)),.int (0+(j:Int))]) tp=some (.tup [.int (i:Int),.int (j:Int)]):=by rw [ar,Int.zero_add,Int.zero_add]
     generalize upd He tp (.tup [.int (0+(i:Int)),.int (0+(j:Int))])=Hf at st et ⊢
     have pf:=pe.mono st
     have wx:=st _ _ pD
     refine ⟨fd,us,_,rfl,rfl,wx,df (by omega),us++[.ref tp],L++[((i:Int),(j:Int))],_,rfl,((sd.trans se).trans (ao.of st)).but jg,pf.upd cU,ar,?_,ok.push hi⟩
     refine aN.bu (H:=er P0 Hf) ((wu.mono (jV st)).push (eV pf et)) (by rw [bH cU];exact wx) oU
    | false=>
     exact ⟨false,rfl,cn ⟨us,L,_,rfl,sd.trans se,pe,pD,wu,ok.skip⟩⟩
   ·rintro σ Hd ⟨us,L,v7,rfl,sd,p6,bz,hL,ok⟩
    exact ⟨us,L,_,_,rfl,sd,p6,bz,hL,ok.next⟩
  ·rintro σ Hc ⟨us,L,v6,v7,rfl,sc,p5,bz,hL,ok⟩
   dsimp only
   refine dj (oQ (fun σ Hy=>∃(lk:Addr) (us:List V) (L:List (Int×Int)),σ=[some (.ref P0),some (.int (most:Int)),some (.int (n:Int)),some (.int way),some (.int wide),some (.ref lk),v6,v7]∧ao P0 H Hy∧aG Hy P0 a∧lk≠P0∧Hy lk=some (.lst us)∧aN (er P0 Hy) us L∧cI n L) ?_ ?_)
   ·rintro σ Hy ⟨lk,us,L,rfl,sy,py,DF,DG,hL,ok⟩
    dsimp only
    refine ⟨_,rfl,_,rfl,_,rfl,_,rfl,(n:Int),rfl,fun pr DH=>?_⟩
    have s6:ae Hy (upd Hy pr (.dw 0 (n:Int))):=aF DH
    refine ⟨pr,n,rfl,ar,by omega,fun l0 n0=>?_⟩
    have s7:=s6.trans (aF (o:=.lst (b5 n)) n0)
    have e0:upd (upd Hy pr (.dw 0 (n:Int))) l0 (.lst (b5 n)) l0=some (.lst (b5 n)):=ar
    have mI:l0≠P0:=(py.mono s6).ne n0
    generalize upd (upd Hy pr (.dw 0 (n:Int))) l0 (.lst (b5 n))=Hz at s7 e0 ⊢
    have lu:(b5 n).length=n:=by unfold b5;simp
    refine ⟨P0,a,l0,ns,b5 n,rfl,py.mono s7,ae.seq (sy.trans (ao.of s7)) hS,mI,e0,by omega,fun r ys Hw sw pw fr nr gZ pm=>?_⟩
    obtain ⟨DI,ly,hy,NO⟩:=BX pm
    have mO:=(ao.of s7).trans sw
    refine ⟨lk,r,n,us,ys,L,DI,rfl,mO.at DF DG,(hL.mono mO).mono bW,ok,by omega,gZ,ly,hy,NO,fun tt L' Hv sv wy sh pE DJ HC=>?_⟩
    have nt:tt≠P0:=pw.ne wy
    exact kk tt n L' Hv ((sy.trans mO).trans (ao.of sv)) (pw.mono sv) (none_of (sy.trans mO) (by rw [bH nt];exact wy)) nt (sh.er (pw.mono sv)) pE DJ n1 nm
   ·intro R hR
    refine ⟨_,rfl,rfl,_,rfl,a7 (fun _=>?_) (fun _=>?_)⟩
    ·refine ⟨_,rfl,_,rfl,P0,a,ns,n,rfl,p5,ae.seq sc hS,n1,by omega,fun r mB L' Hy sy py fr nr gZ DK pE=>?_⟩
     exact hR _ _ ⟨r,mB,L',rfl,sc.trans sy,py,nr,gZ,DK,pE⟩
    ·exact hR _ _ ⟨fd,us,L,rfl,sc,p5,cU,bz,hL,ok.ok⟩
theorem DL:ba ["world","table","i","nought"] ["world","table","i"] (aE lY):=⟨rfl,rfl,rfl,by decide +kernel,rfl,by decide +kernel,by decide +kernel⟩
theorem DM(T:Txt K mg t):aJ P w K mg base bt 4 t.gE t.iF ["world","table","i"] (B4 t.aP):=by
 have S:=DL
 have DN:=CO (P:=P) (w:=w) (base:=base) T
 obtain ⟨dv,DO,DP⟩:=T.vm
 refine T.i5.ok S (fun vs H Q E h=>?_) (fun av A outer s H vs Q E hr h=>?_)
 ·obtain ⟨z,a,q,B,ak,n,i,rfl,_⟩:=h
  rfl
 ·obtain ⟨z,a,q,B,ak,n,i,rfl,⟨dz,hd⟩,hq,hT,ln,HD,hm,hi,kk⟩:=h
  have hu:=hr.rZ
  refine ⟨_,(@au _ _ _ _ _ (@aB _ _ 3 _ _ _ _ (by rfl) (by first | exact .inl rfl | exact .inr rfl | assumption) S.nd rfl (Or.inr rfl) (yN (pv 0) T.fF T.vn DN (hr.mono (by decide)) DP DO nW (@aa _ _ _ _ _ (by rfl) aj ag)))
   (@ax _ _ _ (@aO _ _ _ _ (il (N:=["j","i","table","nought"]) (ρ:=(fun σ=>[σ[2]?.join,σ[1]?.join,σ[3]?.join])) ⟨rfl,rfl,by decide +kernel,by decide +kernel,(List.forall_mem_cons.mpr ⟨rfl,(List.forall_mem_cons.mpr ⟨rfl,(List.forall_mem_cons.mpr ⟨rfl,(List.forall_mem_nil _)⟩)⟩)⟩),fo (by rfl),rfl,by decide +kernel,rfl,(fun σ j v h=>match j,h with | 0,h=>⟨2,_,rfl,rfl,join_some h,Or.inr (Or.inl rfl),.inl rfl,.inl rfl⟩ | 1,h=>⟨1,_,rfl,rfl,join_some h,Or.inr (Or.inl rfl),.inl rfl,.inl rfl⟩ | 2,h=>⟨3,_,rfl,rfl,join_some h,Or.inr (Or.inl rfl),.inl rfl,.inl rfl⟩ | j+3,h=>by cases h),(fun _ _=>rfl)⟩ rfl (rD rfl T.du (@aa _ _ _ _ _ (by rfl) (@aC _ _ _ _ _ _ _ _ dD (pv 2) aj) (@aa _ _ _ _ _ (by rfl) (bo c_ rfl T.cT boot_len (@aa _ _ _ _ _ (by rfl) (pv 1) ag)) ag))) (fun s₃ H₃ fp=>(.one (PW.pt (@pw_or _ _ _ _ _ _ _ (@aR _ _ _ _ _ _ _ _ (um (K:=K) hu) (@aK _ _ _ _ _ _ _ (lA (K:=K)) (@aK _ _ _ _ _ _ _ (lA (K:=K)) (pv 2) (pv 1) (fun _ _=>rfl)) (pv 0) (fun _ _=>rfl)) (pv 3) (aI _)) (@pw_or1 _ _ _ _ (@aR _ _ _ _ _ _ _ _ (um (K:=K) hu) (@aK _ _ _ _ _ _ _ (lA (K:=K)) (@aK _ _ _ _ _ _ _ (lA (K:=K)) (pv 2) (pv 0) (fun _ _=>rfl)) (pv 1) (fun _ _=>rfl)) (pv 3) (aI _))))))) (fun s₃ H₃ fp=>(@bG _ _ _ _ _ (@aa _ _ _ _ _ (by rfl) (pv 1) (@aa _ _ _ _ _ (by rfl) (pv 0) ag)))))))),?_⟩
  have nv:=Bn hq
  refine ⟨_,rfl,z,dz,_,rfl,hd,Ay (by decide +kernel),z,q,0,1,rfl,⟨dz,hd⟩,hq,aS.of_lt (by decide) (by decide),fun h=>absurd h nv,fun _ v0 H1 s1 ho=>?_⟩
  have h0:=Bm (B:=1000) (by decide) ho hq (.inl rfl)
  dsimp only [aW]
  obtain ⟨vs,ea,lv,hv⟩:=id (hT.mono s1)
  have cell:∀i j,i<n→j<n→∃(r:Addr) (ws:List V) (v:V),vs[i]?=some (.ref r)∧H1 r=some (.lst ws)∧ws[j]?=some v∧aM B H1 q v ((ak.getD i []).getD j o1).1 ((ak.getD i []).getD j o1).2:=fun i j hi hj=>by
   have i1:i<vs.length:=by omega
   have i2:i<ak.length:=by omega
   obtain ⟨r,e,ws,er,lw,fw⟩:=hv i vs[i] ak[i] (by simp [i1]) (by simp [i2])
   have lp:=hm ak[i] (List.getElem_mem i2)
   have j1:j<ws.length:=by omega
   have j2:j<ak[i].length:=by omega
   refine ⟨r,ws,ws[j],by rw [←e];simp [i1],er,by simp [j1],?_⟩
   rw [getD_at i2,getD_at j2]
   exact fw j _ _ (by simp [j1]) (by simp [j2])
  refine Bg (B0 (xs:=(List.range (n-(i+1))).map fun k:Nat=>V.int ((i:Int)+1+(k:Int))) (fun k=>bJ ak i (i+1+k)) (fun R h=>⟨_,rfl,_,_,rfl,rfl,_,rfl,a,vs,rfl,.inl (.of ea),_,_,rfl,⟨by omega,by omega,by omega,by omega⟩,h _ ?_⟩) (by rw [List.length_map,List.length_range];exact df (by omega)) (fun _ k y Hx=>∃b:Addr,y=.ref b∧Hx b=some (.tup [.int (i:Int),.int ((i+1+k:Nat):Int)])) (fun D k y Ha Hb ys ⟨b,h1,h2⟩ e f=>⟨b,h1,f b _ (fun z=>by rw [z,e] at h2;cases h2) h2⟩) ?_ ?_ ?_)
  ·rw [show ((vs.length:Int)-((i:Int)+1)).toNat=n-(i+1) by omega]
   exact oA
  ·intro k x hx Hc R sc hR
   have hk:k<n-(i+1):=by
    have:=(List.getElem?_eq_some_iff.mp hx).1
    simpa using this
   rw [List.getElem?_map,List.getElem?_range hk] at hx
   cases hx
   have ej:(i:Int)+1+(k:Int)=((i+1+k:Nat):Int):=by omega
   obtain ⟨r1,w1,v1,a1,a2,a3,a4⟩:=cell i (i+1+k) hi (by omega)
   obtain ⟨r2,w2,v2,b1,b2,b3,b4⟩:=cell (i+1+k) i (by omega) hi
   have wz:=sc _ _ ea
   refine ⟨_,rfl,_,rfl,a,vs,_,.ref r1,rfl,rfl,.of wz,dF a1,_,rfl,r1,w1,_,v1,rfl,rfl,.of (sc _ _ a2),(by show cD w1 ((i:Int)+1+(k:Int))=_;rw [ej];exact dF a3),_,rfl,uo (a4.mono sc) (h0.mono sc) ⟨_,rfl,a7 (fun hb=>?_) (fun hb=>?_)⟩⟩
   ·have e:bJ ak i (i+1+k)=true:=by
     unfold bJ gr
     rw [hb,Bool.true_or]
    rw [e] at hR
    exact hR
   ·have e:bJ ak i (i+1+k)=gr ak (i+1+k) i:=by
     have cH:gr ak i (i+1+k)=false:=by
      unfold gr
      simpa using hb
     unfold bJ
     rw [cH,Bool.false_or]
    rw [e] at hR
    refine ⟨_,rfl,_,rfl,a,vs,_,.ref r2,rfl,rfl,.of wz,(by show cD vs ((i:Int)+1+(k:Int))=_;rw [ej];exact dF b1),_,rfl,r2,w2,_,v2,rfl,rfl,.of (sc _ _ b2),dF b3,_,rfl,uo (b4.mono sc) (h0.mono sc) ⟨_,rfl,hR⟩⟩
  ·intro D k x hx Hc R sc _ kc
   have hk:k<n-(i+1):=by
    have:=(List.getElem?_eq_some_iff.mp hx).1
    simpa using this
   rw [List.getElem?_map,List.getElem?_range hk] at hx
   cases hx
   refine ⟨_,rfl,_,rfl,by show 2≤sizeLine;decide,fun tp cy=>?_⟩
   refine kc _ _ (aF cy) ⟨tp,rfl,?_⟩
   rw [ar,show ((i+1+k:Nat):Int)=(i:Int)+1+(k:Int) by omega]
  ·intro D ys Hc nD sc kf hP eD
   rw [List.length_map,List.length_range] at kf hP
   refine kk D ys Hc (s1.trans sc) (none_of s1 nD) eD ⟨by unfold d9;rw [List.length_map];exact kf,fun k v p h1 h2=>?_⟩
   unfold d9 at h2
   rw [List.getElem?_map] at h2
   cases e:((List.range (n-(i+1))).filter fun k=>bJ ak i (i+1+k))[k]? with
   | none=>
    rw [e] at h2
    cases h2
   | some k'=>
    rw [e] at h2
    cases h2
    exact hP k k' v h1 e
theorem DQ:ba ["world","table","n","links","i"] ["world","table"] (aE lZ):=⟨rfl,rfl,rfl,by decide +kernel,rfl,by decide +kernel,by decide +kernel⟩
theorem wA(T:Txt K mg t):aJ P w K mg base (bB P w) 6 t.gF t.iG ["world","table"] (B5 t.aP t.az):=by
 have S:=DQ
 have DR:=CY (P:=P) (w:=w) (base:=base) T
 have DS:=DM (P:=P) (w:=w) (base:=base) T
 refine T.gT.eJ S (fun vs H Q E h=>?_) (fun av A outer s H vs Q E hr h L=>?_)
 ·obtain ⟨z,a,q,B,ak,m,rfl,_⟩:=h
  rfl
 ·obtain ⟨z,a,q,B,ak,m,rfl,hz,hq,hT,h1,gX,hm,kE,kk⟩:=h
  refine ⟨_,(@au _ _ _ _ _ (@aB _ _ 2 _ _ _ _ (by rfl) (by first | exact .inl rfl | exact .inr rfl | assumption) S.nd rfl (Or.inl rfl) (aL DR (hr.mono (by decide)) rfl T.uZ T.i4.kp T.uY .nil (jK L) (@aa _ _ _ _ _ (by rfl) (pv 1) ag)))
   (bF.e9 (@au _ _ _ _ _ (@aB _ _ 3 _ _ _ _ (by rfl) (by first | exact .inl rfl | exact .inr rfl | assumption) S.nd rfl (Or.inl rfl) (@cj _ _ _ _ ag))
   (@au _ _ _ _ _ (eG PassesOwn.never rfl (fh rfl T.du (@aa _ _ _ _ _ (by rfl) (pv 2) ag)) (cg (i:=4) S.nd rfl (Or.inl rfl))
    (@ax _ _ _ (hJ (gc PySem.F.plainAttrs_list PySem.F.slot_list_extend PySem.F.type_list_extend sE (pv 3) (@aa _ _ _ _ _ (by rfl) (aL DS (hr.mono (by decide)) rfl T.u3 T.i5.kp T.u0 .nil aT (@aa _ _ _ _ _ (by rfl) (pv 0) (@aa _ _ _ _ _ (by rfl) (pv 1) (@aa _ _ _ _ _ (by rfl) (pv 4) ag)))) ag)))))
   (@ax _ _ _ (@aO _ _ _ _ (@bG _ _ _ _ _ (@aa _ _ _ _ _ (by rfl) (pv 2) (@aa _ _ _ _ _ (by rfl) (f_ sA rfl T.jd boot_tuple (@aa _ _ _ _ _ (by rfl) (pv 3) ag)) ag))))))))),?_⟩
  refine ⟨_,rfl,a,q,B,ak,m,rfl,hT,h1,gX,hm,fun d6 H1 s1=>kE d6 H1 s1,fun heq H1 s1=>?_⟩
  subst heq
  have kk:=kk rfl
  dsimp only [aW]
  refine ⟨by show 0≤sizeLine;decide,fun fd bT=>?_⟩
  have s2:ae H1 (upd H1 fd (.lst [])):=aF bT
  have ef:upd H1 fd (.lst []) fd=some (.lst []):=ar
  dsimp only [aW]
  generalize upd H1 fd (.lst [])=H2 at s2 ef ⊢
  have eZ:=s1.trans s2
  have jg:H fd=none:=none_of s1 bT
  refine ⟨_,rfl,(ak.length:Int),rfl,by omega,by omega,?_⟩
  rw [Int.toNat_natCast]
  have bC:∀i,i≤ak.length→(dn ak.length (bJ ak) i).length≤40*i:=fun i=>by
   induction i with
   | zero=>intro _;exact Nat.le_refl _
   | succ i ih=>
    intro hi
    have a:=ih (by omega)
    show (dn ak.length (bJ ak) i++d9 ak.length (bJ ak) i).length≤_
    have b:(d9 ak.length (bJ ak) i).length≤40:=by
     unfold d9
     rw [List.length_map]
     refine Nat.le_trans (List.length_filter_le _ _) ?_
     rw [List.length_range]
     omega
    rw [List.length_append]
    omega
  refine fT (fun i σ Hc=>∃(us:List V) (v4:Option V),σ=[some (.ref z),some (.ref a),some (.int (ak.length:Int)),some (.ref fd),v4]∧ae H Hc∧Hc fd=some (.lst us)∧aN Hc us (dn ak.length (bJ ak) i)) ⟨[],_,rfl,eZ,ef,aN.nil _⟩ ?_ ?_
  ·rintro i σ Hc hi ⟨us,v4,rfl,sc,bz,hL⟩
   refine ⟨_,rfl,.inl ⟨rfl,_,.of bz⟩,_,rfl,_,rfl,_,rfl,z,a,q,B,ak,ak.length,i,?_,hz.mono sc,hq,hT.mono sc,rfl,gX,hm,hi,fun r ws Hd sd nr gZ hR=>?_⟩
   ·show [V.ref z,V.ref a,V.int (0+(i:Int))]=_
    rw [Int.zero_add]
   have l1:=hL.1
   have l2:=hR.1
   have l3:=bC (i+1) (by omega)
   have e3:dn ak.length (bJ ak) (i+1)=dn ak.length (bJ ak) i++d9 ak.length (bJ ak) i:=rfl
   rw [e3,List.length_append] at l3
   refine ⟨fd,r,us,ws,rfl,rfl,sd _ _ bz,gZ,Nat.le_trans (show _≤2000 by omega) (by decide),us++ws,_,rfl,fA (sc.trans sd) jg,ar,?_⟩
   rw [e3]
   exact ((hL.mono sd).cat hR).bu (sd _ _ bz) fun b o nb e=>by rw [aD nb];exact e
  ·rintro σ Hc ⟨us,v4,rfl,sc,bz,hL⟩
   refine ⟨_,rfl,_,rfl,fd,us,rfl,.inl ⟨.of bz,fun lt o9=>?_⟩⟩
   have sl:ae Hc (upd Hc lt (.tup us)):=aF o9
   have el:upd Hc lt (.tup us) lt=some (.tup us):=ar
   generalize upd Hc lt (.tup us)=Hd at sl el ⊢
   refine ⟨by show 2≤sizeLine;decide,fun tp cy=>?_⟩
   have st:ae Hd (upd Hd tp (.tup [.int (ak.length:Int),.ref lt])):=aF cy
   exact kk tp _ (sc.trans (sl.trans st)) (none_of (sc.trans sl) cy) ⟨lt,us,ar,st _ _ el,(hL.mono sl).mono st⟩
theorem Txt.pF{K:PySem.W.Frag}{mg:Str→Option Value}{t:mn}(T:Txt K mg t):eK K t.az:=⟨T.vU,T.vV,T.vW,T.vX,T.vY,T.vZ⟩
theorem DT:ba ["_law_world","_law_rows","_law_found","e","_law_others"] ["_law_world","_law_rows"] (aE mi):=⟨rfl,rfl,rfl,by decide +kernel,rfl,by decide +kernel,by decide +kernel⟩
theorem DU(T:Txt K mg t):aJ P w K mg base bt 8 t.gQ t.iQ ["_law_world","_law_rows"] (B9 t.aP):=by
 have S:=DT
 have pG:=wA (P:=P) (w:=w) (base:=base) T
 refine T.gU.ok S (fun vs H0 Q E h=>?_) (fun av A outer s H0 vs Q E hr h=>?_)
 ·obtain ⟨z,a,q,B,ak,m,rfl,_⟩:=h
  rfl
 ·obtain ⟨z,a,q,B,ak,m,rfl,hz,hq,hT,h1,gX,hm,bad,k0⟩:=h
  refine ⟨_,(@au _ _ _ _ _ (@aB _ _ 2 _ _ _ _ (by rfl) (by first | exact .inl rfl | exact .inr rfl | assumption) S.nd rfl (Or.inl rfl) fM)
   (@au _ _ _ _ _ (zV rfl rfl S.nd (i:=3) rfl rfl (zN (zL pG (hr.mono (by decide)) rfl T.oY T.gT.kp T.oX .nil (@aa _ _ _ _ _ (by rfl) (pv 0) (@aa _ _ _ _ _ (by rfl) (pv 1) ag))))
    (fun ea=>(@au _ _ _ _ _ (@aB _ _ 4 _ _ _ _ (by rfl) (by first | exact .inl rfl | exact .inr rfl | assumption) S.nd rfl (Or.inl rfl) (bo (B7 (K:=K)) rfl T.eX boot_isinstance (@aa _ _ _ _ _ (by rfl) (pv 3) (@aa _ _ _ _ _ (by rfl) (@bG _ _ _ _ _ (@aa _ _ _ _ _ (by rfl) (dX (v:=.ref _) rfl T.vw rfl) (@aa _ _ _ _ _ (by rfl) (dX (v:=.ref _) rfl T.vt rfl) (@aa _ _ _ _ _ (by rfl) (dX (v:=.ref _) rfl T.mx rfl) (@aa _ _ _ _ _ (by rfl) (dX (v:=.ref _) rfl T.vq rfl) (@aa _ _ _ _ _ (by rfl) (dX (v:=.ref _) rfl T.vv rfl) (@aa _ _ _ _ _ (by rfl) (dX (v:=.ref _) rfl T.o5 rfl) (@aa _ _ _ _ _ (by rfl) (dX (v:=.ref _) rfl T.vx rfl) ag)))))))) ag))))
   (@ax _ _ _ (@aB _ _ 2 _ _ _ _ (by rfl) (by first | exact .inl rfl | exact .inr rfl | assumption) S.nd rfl (Or.inl rfl) (@fN _ _ _ _ _ _ _ (bo (gf (K:=K)) rfl T.eX boot_isinstance (@aa _ _ _ _ _ (by rfl) (pv 3) (@aa _ _ _ _ _ (by rfl) (dX (v:=.ref _) rfl T.my rfl) ag))) (@fN _ _ _ _ _ _ _ (bo (gf (K:=K)) rfl T.eX boot_isinstance (@aa _ _ _ _ _ (by rfl) (pv 3) (@aa _ _ _ _ _ (by rfl) (hI (v:=.ty "ValueError") rfl T.vE Ag rfl) ag))) (@jx _ _ _ _ _ (@rn _ _ _ _ (pv 4))))))))) rfl T.vp T.vI PySem.F.excBase_ValueError.hasBase)
   (@ax _ _ _ (@aO _ _ _ _ (pv 2))))),?_⟩
  refine ⟨_,rfl,_,rfl,z,a,q,B,ak,m,rfl,hz,hq,hT,h1,gX,hm,fun _ H s0=>⟨_,rfl,⟨T.mz,T.vJ⟩,fun ea DV=>?_⟩,fun e=>absurd e bad⟩
  have ty:gd K (upd H ea (dH ea t.az)) (.ref ea) (.ref t.az):=.exc ar T.pF
  have sx:ae H (upd H ea (dH ea t.az)):=aF DV
  have pH:upd H ea (dH ea t.az) ea=some (dH ea t.az):=ar
  generalize upd H ea (dH ea t.az)=H1 at ty sx pH ⊢
  refine ⟨_,rfl,by show 7≤sizeLine;decide,fun tp cy=>?_⟩
  have st:ae H1 (upd H1 tp (.tup [.ref t.eg,.ref t.ed,.ref t.b_,.ref t.d_,.ref t.ee,.ref t.cS,.ref t.eh])):=aF cy
  refine ⟨ea,t.az,tp,[t.eg,t.ed,t.b_,t.d_,t.ee,t.cS,t.eh],rfl,st _ _ pH,T.pF,ar,fun c hc=>?_,?_⟩
  ·rcases List.mem_cons.mp hc with rfl | hc
   ·exact T.vS
   rcases List.mem_cons.mp hc with rfl | hc
   ·exact T.vQ
   rcases List.mem_cons.mp hc with rfl | hc
   ·exact T.vO
   rcases List.mem_cons.mp hc with rfl | hc
   ·exact T.vP
   rcases List.mem_cons.mp hc with rfl | hc
   ·exact T.vR
   rcases List.mem_cons.mp hc with rfl | hc
   ·exact T.vM
   rw [List.mem_singleton.mp hc]
   exact T.vT
  have pI:gd K (upd H1 tp (.tup [.ref t.eg,.ref t.ed,.ref t.b_,.ref t.d_,.ref t.ee,.ref t.cS,.ref t.eh])) (.ref ea) (.ref t.az):=.exc (st _ _ pH) T.pF
  have s3:=s0.trans (sx.trans st)
  generalize upd H1 tp (.tup [.ref t.eg,.ref t.ed,.ref t.b_,.ref t.d_,.ref t.ee,.ref t.cS,.ref t.eh])=H2 at st pI s3 ⊢
  dsimp only [aW]
  refine ⟨_,rfl,_,_,_,true,rfl,rfl,pI,T.vL,true,rfl,dG ?_⟩
  refine ⟨_,rfl,_,_,_,true,rfl,rfl,pI,T.vK,true,rfl,dG ?_⟩
  exact ⟨_,rfl,_,rfl,_,rfl,k0 H2 s3⟩
theorem DW:ba ["_law_pen","_law_told"] ["_law_pen","_law_told"] (aE mf):=⟨rfl,rfl,rfl,by decide +kernel,rfl,by decide +kernel,by decide +kernel⟩
theorem DX(T:Txt K mg t):aJ P w K mg base bt 3 t.gO t.iO ["_law_pen","_law_told"] (B8 K):=by
 have S:=DW
 have bD:=gY (P:=P) (w:=w) (base:=base) T
 refine T.fE.ok S (fun vs H Q E h=>?_) (fun av A outer s H vs Q E hr h=>?_)
 ·obtain ⟨P0,a,td,ns,q,rfl,_⟩:=h
  rfl
 ·obtain ⟨P0,a,td,ns,q,rfl,pc,hS,ht,hq,kk⟩:=h
  refine ⟨_,(@au _ _ _ _ _ (@a_ _ _ _ _ _ _ _ _ (@aR _ _ _ _ _ _ _ _ bP (@aK _ _ _ _ _ _ _ cO (pv 1) aj (fun _ _=>rfl)) cB (aI _)) (@ax _ _ _ (@aO _ _ _ _ (@aC _ _ _ _ _ _ _ _ dD aj (aL bD (hr.mono (by decide)) rfl T.cf T.bK.kp T.cb .nil aT (@aa _ _ _ _ _ (by rfl) (pv 0) (@aa _ _ _ _ _ (by rfl) (@aC _ _ _ _ _ _ _ _ fU (@aK _ _ _ _ _ _ _ cO (pv 1) aj (fun _ _=>rfl)) aj) ag)))))) bh)
   (@ax _ _ _ (@aO _ _ _ _ (@aK _ _ _ _ _ _ _ bp (@cj _ _ _ _ (@aa _ _ _ _ _ (by rfl) (@bG _ _ _ _ _ (@aa _ _ _ _ _ (by rfl) aj (@aa _ _ _ _ _ (by rfl) aj ag))) (@aa _ _ _ _ _ (by rfl) (@bG _ _ _ _ _ (@aa _ _ _ _ _ (by rfl) (@ni _ _ _ _ _ _ nk aj) (@aa _ _ _ _ _ (by rfl) aj ag))) (@aa _ _ _ _ _ (by rfl) (@bG _ _ _ _ _ (@aa _ _ _ _ _ (by rfl) aj (@aa _ _ _ _ _ (by rfl) aj ag))) (@aa _ _ _ _ _ (by rfl) (@bG _ _ _ _ _ (@aa _ _ _ _ _ (by rfl) (@ni _ _ _ _ _ _ nk aj) (@aa _ _ _ _ _ (by rfl) aj ag))) (@aa _ _ _ _ _ (by rfl) (@bG _ _ _ _ _ (@aa _ _ _ _ _ (by rfl) aj (@aa _ _ _ _ _ (by rfl) (@aC _ _ _ _ _ _ _ _ rJ aj aj) ag))) ag)))))) (aL bD (hr.mono (by decide)) rfl T.cf T.bK.kp T.cb .nil aT (@aa _ _ _ _ _ (by rfl) (pv 0) (@aa _ _ _ _ _ (by rfl) aj ag))) (fun _ _=>rfl))))),?_⟩
  unfold dk at ht
  by_cases z:q=0
  ·subst z
   rw [oI] at ht
   refine ⟨_,rfl,td,_,_,_,rfl,rfl,.of (bW _ _ ht),rfl,rfl,false,by decide +kernel,cn ?_⟩
   dsimp only [eF]
   refine ⟨by show 2≤sizeLine;decide,fun t1 n1=>?_⟩
   have s1:ae H (upd H t1 (.tup [.int 1,.int 1])):=aF n1
   have e1:upd H t1 (.tup [.int 1,.int 1]) t1=some (.tup [.int 1,.int 1]):=ar
   generalize upd H t1 (.tup [.int 1,.int 1])=H1 at s1 e1 ⊢
   refine ⟨_,rfl,by show 2≤sizeLine;decide,fun t2 n2=>?_⟩
   have s2:ae H1 (upd H1 t2 (.tup [.int (-1),.int 1])):=aF n2
   have e2:upd H1 t2 (.tup [.int (-1),.int 1]) t2=some (.tup [.int (-1),.int 1]):=ar
   generalize upd H1 t2 (.tup [.int (-1),.int 1])=H2 at s2 e2 ⊢
   refine ⟨by show 2≤sizeLine;decide,fun t3 n3=>?_⟩
   have s3:ae H2 (upd H2 t3 (.tup [.int 2,.int 3])):=aF n3
   have e3:upd H2 t3 (.tup [.int 2,.int 3]) t3=some (.tup [.int 2,.int 3]):=ar
   generalize upd H2 t3 (.tup [.int 2,.int 3])=H3 at s3 e3 ⊢
   refine ⟨_,rfl,by show 2≤sizeLine;decide,fun t4 n4=>?_⟩
   have s4:ae H3 (upd H3 t4 (.tup [.int (-7),.int 2])):=aF n4
   have e4:upd H3 t4 (.tup [.int (-7),.int 2]) t4=some (.tup [.int (-7),.int 2]):=ar
   generalize upd H3 t4 (.tup [.int (-7),.int 2])=H4 at s4 e4 ⊢
   refine ⟨_,_,rfl,rfl,⟨by decide,by decide,by decide⟩,by show 2≤sizeLine;decide,fun t5 n5=>?_⟩
   have s5:ae H4 (upd H4 t5 (.tup [.int 1,.int (10 ^ Int.toNat 20)])):=aF n5
   have e5:upd H4 t5 (.tup [.int 1,.int (10 ^ Int.toNat 20)]) t5=some (.tup [.int 1,.int (10 ^ Int.toNat 20)]):=ar
   generalize upd H4 t5 (.tup [.int 1,.int (10 ^ Int.toNat 20)])=H5 at s5 e5 ⊢
   refine ⟨by show 5≤sizeLine;decide,fun l nl=>?_⟩
   have s6:ae H5 (upd H5 l (.lst [.ref t1,.ref t2,.ref t3,.ref t4,.ref t5])):=aF nl
   have e6:upd H5 l (.lst [.ref t1,.ref t2,.ref t3,.ref t4,.ref t5]) l=some (.lst [.ref t1,.ref t2,.ref t3,.ref t4,.ref t5]):=ar
   generalize upd H5 l (.lst [.ref t1,.ref t2,.ref t3,.ref t4,.ref t5])=H6 at s6 e6 ⊢
   have kg:=s2.trans (s3.trans (s4.trans (s5.trans s6)))
   have g6:=s1.trans kg
   have p6:=pc.mono g6
   have pJ:l≠P0:=fun z=>by
    obtain ⟨x,y,eP,_⟩:=p6
    rw [z] at e6
    rw [e6] at eP
    cases eP
   refine ⟨_,rfl,P0,a,ns,5,rfl,p6,ae.seq (ao.of g6) hS,by decide,aS.of_lt (by decide) (by decide),fun c H7 c0 c1 s7 p7=>?_⟩
   have e7:=s7.at pJ e6
   have sT:ao P0 H H7:=(ao.of g6).trans s7
   have num:∀{tt:Addr} {x m:Int},H6 tt=some (.tup [.int x,.int m])→d4 x m→x.natAbs≤10 ^ 20→m.natAbs≤10 ^ 20→aM (10 ^ 20) (er P0 H7) 0 (.ref tt) x m:=fun e l b1 b2=>.br (s7 _ _ (eV p6 e)) l b1 b2
   obtain ⟨c,rfl⟩:=Int.eq_ofNat_of_zero_le c0
   match c,c1 with
   | 0,_=>exact ⟨l,_,_,.ref t1,rfl,rfl,.of e7,rfl,kk _ 1 1 H7 sT p7 (num (kg _ _ e1) ⟨by decide,by decide⟩ (by decide) (by decide)) (by decide)⟩
   | 1,_=>exact ⟨l,_,_,.ref t2,rfl,rfl,.of e7,rfl,kk _ (-1) 1 H7 sT p7 (num ((s3.trans (s4.trans (s5.trans s6))) _ _ e2) ⟨by decide,by decide⟩ (by decide) (by decide)) (by decide)⟩
   | 2,_=>exact ⟨l,_,_,.ref t3,rfl,rfl,.of e7,rfl,kk _ 2 3 H7 sT p7 (num ((s4.trans (s5.trans s6)) _ _ e3) ⟨by decide,by decide⟩ (by decide) (by decide)) (by decide)⟩
   | 3,_=>exact ⟨l,_,_,.ref t4,rfl,rfl,.of e7,rfl,kk _ (-7) 2 H7 sT p7 (num ((s5.trans s6) _ _ e4) ⟨by decide,by decide⟩ (by decide) (by decide)) (by decide)⟩
   | 4,_=>exact ⟨l,_,_,.ref t5,rfl,rfl,.of e7,rfl,kk _ 1 (10 ^ 20) H7 sT p7 (num (s6 _ _ e5) ⟨by decide,by decide +kernel⟩ (by decide) (by decide +kernel)) (by decide)⟩
   | c+5,c1=>omega
  ·rw [oJ z] at ht
   have q2:2≤q∧q≤997:=by rcases hq with h | h <;> omega
   refine ⟨_,rfl,td,_,_,_,rfl,rfl,.of (bW _ _ ht),rfl,rfl,true,by decide +kernel,dG ?_⟩
   refine ⟨_,rfl,_,rfl,td,_,_,_,rfl,rfl,.of (bW _ _ ht),rfl,_,_,rfl,rfl,P0,a,ns,q-1,rfl,pc,hS,by omega,aS.of_lt (by omega) (by omega),fun c H1 c0 c1 s1 p1=>⟨_,_,rfl,rfl,?_⟩⟩
   exact kk _ (1+c) 1 H1 s1 p1 (.rem (by omega) (by omega) (by omega)) (by omega)
theorem DY:ba ["_law_pen","_law_told","_law_shape","_law_nought","_law_rows","_law_i","_law_j","_law_way"] ["_law_pen","_law_told","_law_shape"] (aE mh):=⟨rfl,rfl,rfl,by decide +kernel,rfl,by decide +kernel,by decide +kernel⟩
theorem DZ(T:Txt K mg t):aJ P w K mg base bt 4 t.gP t.iP ["_law_pen","_law_told","_law_shape"] (B_ K):=by
 have S:=DY
 have bD:=gY (P:=P) (w:=w) (base:=base) T
 have pK:=DX (P:=P) (w:=w) (base:=base) T
 refine T.jb.ok S (fun vs H Q E h=>?_) (fun av A outer s H vs Q E hr h=>?_)
 ·obtain ⟨P0,a,td,tp,ns,q,n,L,rfl,_⟩:=h
  rfl
 ·obtain ⟨P0,a,td,tp,ns,q,n,L,rfl,pc,hS,ht,hq,sh,ok,n1,jf,kk⟩:=h
  refine ⟨_,(@au _ _ _ _ _ (@aB _ _ 3 _ _ _ _ (by rfl) (by first | exact .inl rfl | exact .inr rfl | assumption) S.nd rfl (Or.inr rfl) (xB (@aR _ _ _ _ _ _ _ _ bP (@aK _ _ _ _ _ _ _ cO (pv 1) aj (fun _ _=>rfl)) cB (aI _)) aj (@bG _ _ _ _ _ (@aa _ _ _ _ _ (by rfl) aj (@aa _ _ _ _ _ (by rfl) aj ag)))))
   (@au _ _ _ _ _ (tZ (i0:=4) (N:=["_law_i","_law_shape","_law_nought"]) (ρ:=(fun σ=>[σ[2]?.join,σ[3]?.join])) ⟨rfl,rfl,by decide +kernel,by decide +kernel,(List.forall_mem_cons.mpr ⟨rfl,(List.forall_mem_cons.mpr ⟨rfl,(List.forall_mem_nil _)⟩)⟩),fo (by rfl),rfl,by decide +kernel,rfl,(fun σ j v h=>match j,h with | 0,h=>⟨2,_,rfl,rfl,join_some h,Or.inr (Or.inl rfl),.inl rfl,.inl rfl⟩ | 1,h=>⟨3,_,rfl,rfl,join_some h,Or.inr (Or.inl rfl),.inl rfl,.inl rfl⟩ | j+2,h=>by cases h),(fun _ _=>rfl)⟩ rfl S.nd rfl (Or.inl rfl) (fh rfl T.du (@aa _ _ _ _ _ (by rfl) (@aK _ _ _ _ _ _ _ cO (pv 2) aj (fun _ _=>rfl)) ag)) (fun s₃ H₃ fp=>.nil) (fun s₃ H₃ fp=>(il (N:=["_law_j","_law_nought"]) (ρ:=(fun σ=>[σ[2]?.join])) ⟨rfl,rfl,by decide +kernel,by decide +kernel,(List.forall_mem_cons.mpr ⟨rfl,(List.forall_mem_nil _)⟩),fo (by rfl),rfl,by decide +kernel,rfl,(fun σ j v h=>match j,h with | 0,h=>⟨2,_,rfl,rfl,join_some h,Or.inr (Or.inl rfl),.inl rfl,.inl rfl⟩ | j+1,h=>by cases h),(fun _ _=>rfl)⟩ rfl (fh rfl T.du (@aa _ _ _ _ _ (by rfl) (@aK _ _ _ _ _ _ _ (Ba (K:=K)) (pv 1) aj (fun _ _=>rfl)) ag)) (fun s₃ H₃ fp=>.nil) (fun s₃ H₃ fp=>(pv 1)))))
   (@au _ _ _ _ _ (eG PassesOwn.never rfl (x3 (@aK _ _ _ _ _ _ _ cO (pv 2) aj (fun _ _=>rfl))) (m7 rfl (hU (cg (i:=5) S.nd rfl (Or.inl rfl)) (hU (cg (i:=6) S.nd rfl (Or.inl rfl)) m6)))
    (@au _ _ _ _ _ (@aB _ _ 7 _ _ _ _ (by rfl) (by first | exact .inl rfl | exact .inr rfl | assumption) S.nd rfl (Or.inl rfl) (aL bD (hr.mono (by decide)) rfl T.cf T.bK.kp T.cb .nil aT (@aa _ _ _ _ _ (by rfl) (pv 0) (@aa _ _ _ _ _ (by rfl) aj ag))))
   (@au _ _ _ _ _ (@a_ _ _ _ _ _ _ _ _ (@aR _ _ _ _ _ _ _ _ kI (pv 7) aj (aI _)) (@ax _ _ _ (@fP _ _ _ _ _ _ (aL pK (hr.mono (by decide)) rfl T.mr T.fE.kp T.mq .nil aT (@aa _ _ _ _ _ (by rfl) (pv 0) (@aa _ _ _ _ _ (by rfl) (pv 1) ag))) (hV (@aK _ _ _ _ _ _ _ bp (pv 4) (pv 5) (fun _ _=>rfl)) (pv 6) set_list) (by rfl) (by rfl) (by rfl))) bh)
   (@ax _ _ _ (@a_ _ _ _ _ _ _ _ _ (@aR _ _ _ _ _ _ _ _ fV (pv 7) aj (aI _)) (@ax _ _ _ (@fP _ _ _ _ _ _ (aL pK (hr.mono (by decide)) rfl T.mr T.fE.kp T.mq .nil aT (@aa _ _ _ _ _ (by rfl) (pv 0) (@aa _ _ _ _ _ (by rfl) (pv 1) ag))) (hV (@aK _ _ _ _ _ _ _ bp (pv 4) (pv 6) (fun _ _=>rfl)) (pv 5) set_list) (by rfl) (by rfl) (by rfl))) bh)))))
   (@au _ _ _ _ _ (eG PassesOwn.never rfl (fh rfl T.du (@aa _ _ _ _ _ (by rfl) (@aK _ _ _ _ _ _ _ cO (pv 2) aj (fun _ _=>rfl)) ag)) (cg (i:=5) S.nd rfl (Or.inl rfl))
    (@ax _ _ _ (@a_ _ _ _ _ _ _ _ _ (@aR _ _ _ _ _ _ _ _ bP (aL bD (hr.mono (by decide)) rfl T.cf T.bK.kp T.cb .nil aT (@aa _ _ _ _ _ (by rfl) (pv 0) (@aa _ _ _ _ _ (by rfl) aj ag))) aj (aI _)) (@ax _ _ _ (@fP _ _ _ _ _ _ (aL pK (hr.mono (by decide)) rfl T.mr T.fE.kp T.mq .nil aT (@aa _ _ _ _ _ (by rfl) (pv 0) (@aa _ _ _ _ _ (by rfl) (pv 1) ag))) (hV (@aK _ _ _ _ _ _ _ bp (pv 4) (pv 5) (fun _ _=>rfl)) (pv 5) set_list) (by rfl) (by rfl) (by rfl))) bh)))
   (@ax _ _ _ (@aO _ _ _ _ (@bG _ _ _ _ _ (@aa _ _ _ _ _ (by rfl) (pv 4) (@aa _ _ _ _ _ (by rfl) (pv 3) ag))))))))),?_⟩
  obtain ⟨lt,us,en,elt,hL⟩:=id sh
  have mP:=bW _ _ en
  refine dj (lh (uz (fun nv H1=>ae H H1∧aM (10 ^ 20) H1 q nv 0 1) (fun R' hR=>?_) ?_))
  ·unfold dk at ht
   by_cases z:q=0
   ·subst z
    rw [oI] at ht
    refine ⟨_,rfl,td,_,_,_,rfl,rfl,.of (bW _ _ ht),rfl,rfl,false,by decide +kernel,cn ?_⟩
    refine ⟨by show 2≤sizeLine;decide,fun t1 n1=>hR _ _ ⟨aF n1,.br ar ⟨by decide,by decide⟩ (by decide) (by decide)⟩⟩
   ·rw [oJ z] at ht
    have q2:2≤q∧q≤997:=by rcases hq with h | h <;> omega
    refine ⟨_,rfl,td,_,_,_,rfl,rfl,.of (bW _ _ ht),rfl,rfl,true,by decide +kernel,dG ?_⟩
    exact hR _ _ ⟨ae.refl _,.rem (by omega) (by omega) (by omega)⟩
  rintro nv H1 ⟨s1,pL⟩
  dsimp only [aW]
  have pM:((List.range n).map fun i:Nat=>V.int (0+(i:Int))).length=n:=by simp
  refine dj (lh (oK (xs:=(List.range n).map fun i:Nat=>V.int (0+(i:Int))) (n:=n) pM (fun R h=>⟨_,rfl,tp,_,_,_,rfl,rfl,.of (s1 _ _ mP),rfl,(n:Int),rfl,by omega,by omega,h _ _ (ae.refl _) (by rw [Int.toNat_natCast];exact oA)⟩) (df (by omega)) (fun _ i y Hx=>Hx y=some (.lst (List.replicate n nv))∧H y=none) (fun D i y Ha Hb ys ⟨h1,h2⟩ ne e f=>⟨f y _ ne h1,h2⟩) ?_ ?_))
  ·intro D i x hx Hc R sc _ kc
   refine t_ (xs:=(List.range n).map fun i:Nat=>V.int (0+(i:Int))) (fun R h=>⟨_,rfl,tp,_,_,_,rfl,rfl,.of (sc _ _ (s1 _ _ mP)),rfl,(n:Int),rfl,by omega,by omega,h _ _ (ae.refl _) (by rw [Int.toNat_natCast];exact oA)⟩) (by rw [pM];exact df (by omega)) (fun _ j y Hx=>y=nv) (fun _ _ _ _ _ _ h _ _=>h) (fun D' j x' HE Hd R' sd _ kd=>⟨_,rfl,kd nv Hd (ae.refl _) rfl⟩) fun D' ys Hd o_ sd kf hP mL=>?_
   rw [pM] at kf
   have e:=Ca kf hP
   subst e
   exact kc D' Hd sd o_ ⟨_,mL⟩ ⟨mL,none_of (s1.trans sc) o_⟩
  intro rs R H2 D2 s2 inj hA D3
  have eZ:=s1.trans s2
  have D4:H rs=none:=none_of s1 D2
  have p2:=pc.mono eZ
  have wB:aM (10 ^ 20) (er P0 H2) q nv 0 1:=(pL.mono s2).er (H':=H2) p2
  have D5:bX P0 H2 q rs n R (fun _ _=>(0,1)):=⟨D3,⟨pc.ne D4,fun i hi=>⟨pc.ne (hA i hi).1.2,(hA i hi).2⟩⟩,inj,fun i hi=>⟨_,(hA i hi).1.1,List.length_replicate,fun j hj=>⟨nv,by rw [List.getElem?_replicate,if_pos hj],wB⟩⟩⟩
  have fR:∀i,i<n→H (R i)=none:=fun i hi=>(hA i hi).1.2
  have D6:ao P0 H H2:=ao.of eZ
  have put:∀{Hc:Hp} {c:Nat→Nat→Int×Int} {i j:Nat} {v:V} {p:Int×Int} {Rr:Hp→Prop},i<n→j<n→ao P0 H Hc→aG Hc P0 a→bX P0 Hc q rs n R c→aM (10 ^ 20) (er P0 Hc) q v p.1 p.2→(∀Hd,ao P0 H Hd→aG Hd P0 a→(aM (10 ^ 20) (er P0 Hc) q nv 0 1→aM (10 ^ 20) (er P0 Hd) q nv 0 1)→bX P0 Hd q rs n R (fun a b=>if a=i∧b=j then p else c a b)→Rr Hd)→∃ws:List V,Hc (R i)=some (.lst ws)∧d3 ws.length (j:Int)=some j∧Rr (upd Hc (R i) (.lst (ws.set j v))):=fun{Hc c i j v p Rr} hi hj sc lH M hv k=>by
   obtain ⟨ws,e,l,_⟩:=M.row i hi
   refine ⟨ws,e,?_,k _ (sc.but (fR i hi)) (lH.upd (M.nP.2 i hi).1) (fun h=>h.lB e fun b o nb _ e=>by rw [aD nb];exact e) (M.set hi e hv)⟩
   unfold d3
   rw [if_pos (by omega),if_pos (by omega),Int.toNat_natCast]
  have rowAt:∀{i:Nat},i<n→cD ((List.range n).map fun i=>V.ref (R i)) (i:Int)=some (.ref (R i)):=fun hi=>dF (by simp [hi])
  have wC:=hL.1
  dsimp only [aW]
  refine dj ⟨_,rfl,tp,_,_,_,rfl,rfl,.of (eZ _ _ mP),rfl,lt,rfl,⟨_,.of (eZ _ _ (bW _ _ elt))⟩,?_⟩
  refine x_ (K:=K) (a:=lt) (xs:=us) (fun k σ Hc=>∃(c:Nat→Nat→Int×Int) (v5 v6 v7:Option V),σ=[some (.ref P0),some (.ref td),some (.ref tp),some nv,some (.ref rs),v5,v6,v7]∧ao P0 H Hc∧aG Hc P0 a∧aM (10 ^ 20) (er P0 Hc) q nv 0 1∧bX P0 Hc q rs n R c∧b8 n (L.take k) c) ⟨_,_,_,_,rfl,D6,p2,wB,D5,b8.start n⟩ (fun k σ Hc _ ⟨_,_,_,_,_,sc,_⟩=>.of (bW _ _ (sc _ _ elt))) ?_ ?_
  ·rintro k x σ Hc hx ⟨c,v5,v6,v7,rfl,sc,p3,mQ,M,cx⟩
   have hk:k<L.length:=by
    rw [←wC]
    exact (List.getElem?_eq_some_iff.mp hx).1
   obtain ⟨b,rfl,eb⟩:=hL.2 k x L[k] hx (by simp [hk])
   have pk:=ok.lt L[k] (List.getElem_mem hk)
   have tk:L.take (k+1)=L.take k++[L[k]]:=by rw [List.take_succ,List.getElem?_eq_getElem hk];rfl
   generalize L[k]=p at eb pk tk
   obtain ⟨p1,D7⟩:=p
   dsimp only at pk eb
   obtain ⟨i,rfl⟩:=Int.eq_ofNat_of_zero_le pk.1
   obtain ⟨j,rfl⟩:=Int.eq_ofNat_of_zero_le (show 0≤D7 by omega)
   have hi:i<n:=by omega
   have hj:j<n:=by omega
   have fB:i<j:=by omega
   refine ⟨b,_,rfl,.of (bW _ _ (sc _ _ eb)),rfl,_,_,rfl,_,_,rfl,rfl,?_⟩
   refine ⟨_,rfl,P0,a,ns,3,rfl,p3,ae.seq sc hS,by decide,aS.of_lt (by decide) (by decide),fun way H4 w0 w1 s4 p4=>?_⟩
   have jh:=sc.trans s4
   dsimp only [aW]
   simp only [List.set_cons_zero,List.set_cons_succ]
   refine dj (oQ (fun σ Hy=>∃c1:Nat→Nat→Int×Int,σ=[some (.ref P0),some (.ref td),some (.ref tp),some nv,some (.ref rs),some (.int (i:Int)),some (.int (j:Int)),some (.int way)]∧ao P0 H Hy∧aG Hy P0 a∧aM (10 ^ 20) (er P0 Hy) q nv 0 1∧bX P0 Hy q rs n R c1∧(∀a b,¬(a=i∧b=j)→c1 a b=c a b)∧(way<2→(c1 i j).1≠0)) ?_ ?_)
   ·rintro σ Hy ⟨c1,rfl,sy,py,wD,wF,wG,D8⟩
    dsimp only
    refine ⟨_,rfl,_,_,rfl,rfl,_,rfl,a7 (fun hw=>?_) (fun hw=>?_)⟩
    ·refine ⟨_,rfl,_,rfl,P0,a,td,ns,q,rfl,py,ae.seq sy hS,ht.mono sy,hq,fun v x m H5 s5 p5 hv mR=>?_⟩
     have M5:=wF.mono s5
     have D9:b8 n (L.take (k+1)) (fun a b=>if a=j∧b=i then (x,m) else c1 a b):=by
      rw [tk]
      refine cx.more fB (fun a' b' hn=>?_) (.inr ?_)
      ·rw [if_neg (by omega)]
       exact wG a' b' (by omega)
      ·rw [if_pos ⟨rfl,rfl⟩]
       exact mR
     obtain ⟨ws,e1,e2,e3⟩:=put (p:=(x,m)) (Rr:=fun Hd=>∃(c:Nat→Nat→Int×Int) (v5 v6 v7:Option V),[some (.ref P0),some (.ref td),some (.ref tp),some nv,some (.ref rs),some (.int (i:Int)),some (.int (j:Int)),some (.int way)]=[some (.ref P0),some (.ref td),some (.ref tp),some nv,some (.ref rs),v5,v6,v7]∧ao P0 H Hd∧aG Hd P0 a∧aM (10 ^ 20) (er P0 Hd) q nv 0 1∧bX P0 Hd q rs n R c∧b8 n (L.take (k+1)) c) hj hi (sy.trans s5) p5 M5 hv fun Hd sd pd kv Md=>⟨_,_,_,_,rfl,sd,pd,kv (wD.mono s5),Md,D9⟩
     exact ⟨_,rfl,_,rfl,rs,_,_,.ref (R j),rfl,rfl,.of M5.l,rowAt hj,_,rfl,R j,ws,_,i,rfl,rfl,e1,e2,e3⟩
    ·have wH:¬(0:Int)<way:=fun z=>hw (decide_eq_true z)
     refine ⟨c1,_,_,_,rfl,sy,py,wD,wF,?_⟩
     rw [tk]
     exact cx.more fB (fun a' b' hn=>wG a' b' (by omega)) (.inl (D8 (by omega)))
   ·intro Rr wI
    refine ⟨_,rfl,_,_,rfl,rfl,_,rfl,a7 (fun hw=>?_) (fun hw=>?_)⟩
    ·refine ⟨_,rfl,_,rfl,P0,a,td,ns,q,rfl,p4,ae.seq jh hS,ht.mono jh,hq,fun v x m H5 s5 p5 hv mR=>?_⟩
     have M5:=(M.mono s4).mono s5
     obtain ⟨ws,e1,e2,e3⟩:=put (p:=(x,m)) (Rr:=fun Hd=>Rr [some (.ref P0),some (.ref td),some (.ref tp),some nv,some (.ref rs),some (.int (i:Int)),some (.int (j:Int)),some (.int way)] Hd) hi hj (jh.trans s5) p5 M5 hv fun Hd sd pd kv Md=>wI _ _ ⟨_,rfl,sd,pd,kv ((mQ.mono s4).mono s5),Md,fun a' b' hn=>by rw [if_neg hn],fun _=>by rw [if_pos ⟨rfl,rfl⟩];exact mR⟩
     exact ⟨_,rfl,_,rfl,rs,_,_,.ref (R i),rfl,rfl,.of M5.l,rowAt hi,_,rfl,R i,ws,_,j,rfl,rfl,e1,e2,e3⟩
    ·have wH:¬way<2:=fun z=>hw (decide_eq_true z)
     exact wI _ _ ⟨c,rfl,jh,p4,mQ.mono s4,M.mono s4,fun _ _ _=>rfl,fun z=>absurd z wH⟩
  ·rintro σ Hc ⟨c,v5,v6,v7,rfl,sc,p3,mQ,M,cx⟩
   rw [wC,List.take_length] at cx
   dsimp only
   refine dj ⟨_,rfl,tp,_,_,_,rfl,rfl,.of (sc.at (fun z=>by rw [z] at en;unfold er at en;rw [if_pos rfl] at en;cases en) mP),rfl,(n:Int),rfl,by omega,by omega,?_⟩
   rw [Int.toNat_natCast]
   refine fT (fun i σ Hd=>∃(c:Nat→Nat→Int×Int) (v5 v6 v7:Option V),σ=[some (.ref P0),some (.ref td),some (.ref tp),some nv,some (.ref rs),v5,v6,v7]∧ao P0 H Hd∧aG Hd P0 a∧aM (10 ^ 20) (er P0 Hd) q nv 0 1∧bX P0 Hd q rs n R c∧b8 n L c) ⟨c,_,_,_,rfl,sc,p3,mQ,M,cx⟩ ?_ ?_
   ·rintro i σ Hd hi ⟨c,v5,v6,v7,rfl,sd,p4,mS,M,cx⟩
    refine ⟨_,rfl,P0,a,ns,2,rfl,p4,ae.seq sd hS,by decide,aS.of_lt (by decide) (by decide),fun w H5 _ _ s5 p5=>⟨rfl,_,rfl,a7 (fun _=>?_) (fun _=>?_)⟩⟩
    ·refine ⟨_,rfl,_,rfl,P0,a,td,ns,q,rfl,p5,ae.seq (sd.trans s5) hS,ht.mono (sd.trans s5),hq,fun v x m H6 s6 p6 hv mR=>?_⟩
     have M6:=(M.mono s5).mono s6
     obtain ⟨ws,e1,e2,e3⟩:=put (p:=(x,m)) (Rr:=fun He=>∃(c:Nat→Nat→Int×Int) (D_ Ea Eb:Option V),[some (.ref P0),some (.ref td),some (.ref tp),some nv,some (.ref rs),some (.int (0+(i:Int))),v6,v7]=[some (.ref P0),some (.ref td),some (.ref tp),some nv,some (.ref rs),D_,Ea,Eb]∧ao P0 H He∧aG He P0 a∧aM (10 ^ 20) (er P0 He) q nv 0 1∧bX P0 He q rs n R c∧b8 n L c) hi hi ((sd.trans s5).trans s6) p6 M6 hv fun He se pe kv Me=>⟨_,_,_,_,rfl,se,pe,kv ((mS.mono s5).mono s6),Me,cx.diag⟩
     exact ⟨_,rfl,_,rfl,rs,_,_,.ref (R i),rfl,rfl,.of M6.l,(by show cD _ (0+(i:Int))=_;rw [Int.zero_add];exact rowAt hi),_,rfl,R i,ws,_,i,rfl,rfl,e1,(by show d3 ws.length (0+(i:Int))=_;rw [Int.zero_add];exact e2),e3⟩
    ·exact ⟨c,_,_,_,rfl,sd.trans s5,p5,mS.mono s5,M.mono s5,cx⟩
   ·rintro σ Hd ⟨c,v5,v6,v7,rfl,sd,p4,mS,M,cx⟩
    refine ⟨_,rfl,_,rfl,by show 2≤sizeLine;decide,fun tq Ec=>?_⟩
    have st:ae Hd (upd Hd tq (.tup [.ref rs,nv])):=aF Ec
    exact kk tq rs nv R c _ (sd.trans (ao.of st)) (p4.mono st) (eV (p4.mono st) ar) (mS.mono (ao.of st)) (M.mono (ao.of st)) cx
theorem Ed:ba ["script","_law_pen","_law_k","_law_told","_law_world","_law_shape","_law_rows","_law_nought","_law_handed","_law_turn","_law_found"] ["script"] (aE mj):=⟨rfl,rfl,rfl,by decide +kernel,rfl,by decide +kernel,by decide +kernel⟩
theorem Ee(T:Txt K mg t):aJ P w K mg base bt 9 t.fC t.gR ["script"] (k8 K):=by
 have S:=Ed
 have bD:=gY (P:=P) (w:=w) (base:=base) T
 have Ef:=Dz (P:=P) (w:=w) (base:=base) T
 have Eg:=DZ (P:=P) (w:=w) (base:=base) T
 have wJ:=DU (P:=P) (w:=w) (base:=base) T
 have pG:=wA (P:=P) (w:=w) (base:=base) T
 have Eh:=CA (P:=P) (w:=w) (base:=base) T
 refine T.jc.ok S (fun vs H Q E h=>?_) (fun av A outer s H vs Q E hr h=>?_)
 ·obtain ⟨a,ns,rfl,_⟩:=h
  rfl
 ·obtain ⟨a,ns,rfl,hS,hlen,kQ⟩:=h
  have j7:=hr.units
  have hu:=hr.rZ
  refine ⟨_,(@au _ _ _ _ _ (@aB _ _ 1 _ _ _ _ (by rfl) (by first | exact .inl rfl | exact .inr rfl | assumption) S.nd rfl (Or.inl rfl) (@cj _ _ _ _ (@aa _ _ _ _ _ (by rfl) (pv 0) (@aa _ _ _ _ _ (by rfl) aj (@aa _ _ _ _ _ (by rfl) aj ag)))))
   (@au _ _ _ _ _ (eG PassesOwn.never rfl (fh rfl T.du (@aa _ _ _ _ _ (by rfl) aj ag)) (cg (i:=2) S.nd rfl (Or.inl rfl))
    (@au _ _ _ _ _ (@aB _ _ 3 _ _ _ _ (by rfl) (by first | exact .inl rfl | exact .inr rfl | assumption) S.nd rfl (Or.inl rfl) (@aK _ _ _ _ _ _ _ bp (@cj _ _ _ _ (@aa _ _ _ _ _ (by rfl) (@bG _ _ _ _ _ (@aa _ _ _ _ _ (by rfl) cB ag)) (@aa _ _ _ _ _ (by rfl) (@bG _ _ _ _ _ (@aa _ _ _ _ _ (by rfl) cB (@aa _ _ _ _ _ (by rfl) aj ag))) (@aa _ _ _ _ _ (by rfl) (@bG _ _ _ _ _ (@aa _ _ _ _ _ (by rfl) cB (@aa _ _ _ _ _ (by rfl) aj ag))) (@aa _ _ _ _ _ (by rfl) (@bG _ _ _ _ _ (@aa _ _ _ _ _ (by rfl) cB (@aa _ _ _ _ _ (by rfl) aj ag))) (@aa _ _ _ _ _ (by rfl) (@bG _ _ _ _ _ (@aa _ _ _ _ _ (by rfl) cB (@aa _ _ _ _ _ (by rfl) aj ag))) ag)))))) (aL bD (hr.mono (by decide)) rfl T.cf T.bK.kp T.cb .nil aT (@aa _ _ _ _ _ (by rfl) (pv 1) (@aa _ _ _ _ _ (by rfl) aj ag))) (fun _ _=>rfl)))
   (@au _ _ _ _ _ (@aB _ _ 4 _ _ _ _ (by rfl) (by first | exact .inl rfl | exact .inr rfl | assumption) S.nd rfl (Or.inl rfl) (yP T.mw Eh (hr.mono (by decide)) rfl T.vo T.vj .nil nW (@aa _ _ _ _ _ (by rfl) (pv 3) ag)))
   (@au _ _ _ _ _ (@aB _ _ 5 _ _ _ _ (by rfl) (by first | exact .inl rfl | exact .inr rfl | assumption) S.nd rfl (Or.inl rfl) (aL Ef (hr.mono (by decide)) rfl T.vf T.ja.kp T.ve .nil aT (@aa _ _ _ _ _ (by rfl) (pv 1) (@aa _ _ _ _ _ (by rfl) aj ag))))
   (@au _ _ _ _ _ (@fP _ _ _ _ _ _ (aL Eg (hr.mono (by decide)) rfl T.vh T.jb.kp T.vg .nil aT (@aa _ _ _ _ _ (by rfl) (pv 1) (@aa _ _ _ _ _ (by rfl) (pv 3) (@aa _ _ _ _ _ (by rfl) (pv 5) ag)))) (m7 rfl (hU (cg (i:=6) S.nd rfl (Or.inl rfl)) (hU (cg (i:=7) S.nd rfl (Or.inr rfl)) m6))) (by rfl) (by rfl) (by rfl))
   (@au _ _ _ _ _ (tZ (i0:=8) (N:=["_law_row"]) (ρ:=(fun σ=>[])) ⟨rfl,rfl,by decide +kernel,by decide +kernel,(List.forall_mem_nil _),fo (by rfl),rfl,by decide +kernel,rfl,(fun σ j v h=>match j,h with | j,h=>by cases h),(fun _ _=>rfl)⟩ rfl S.nd rfl (Or.inl rfl) (hZ (pv 6)) (fun s₃ H₃ fp=>.nil) (fun s₃ H₃ fp=>(f_ (Be (K:=K)) rfl T.j6 boot_list (@aa _ _ _ _ _ (by rfl) (pv 0) ag))))
   (@au _ _ _ _ _ (eG PassesOwn.never rfl (fh rfl T.du (@aa _ _ _ _ _ (by rfl) aj ag)) (cg (i:=9) S.nd rfl (Or.inl rfl))
    (@au _ _ _ _ _ (@aB _ _ 10 _ _ _ _ (by rfl) (by first | exact .inl rfl | exact .inr rfl | assumption) S.nd rfl (Or.inl rfl) (aL pG (hr.mono (by decide)) rfl T.oY T.gT.kp T.oX .nil nW (@aa _ _ _ _ _ (by rfl) (pv 4) (@aa _ _ _ _ _ (by rfl) (pv 8) ag))))
   (@ax _ _ _ (@a_ _ _ _ _ _ _ _ _ (PW.pt (@pw_or _ _ _ _ _ _ _ (@ky _ _ _ _ (e8 (bo (gf (K:=K)) rfl T.eX boot_isinstance (@aa _ _ _ _ _ (by rfl) (pv 10) (@aa _ _ _ _ _ (by rfl) (hI (v:=.ty "tuple") rfl T.jd boot_tuple rfl) ag))))) (@pw_or _ _ _ _ _ _ _ (@aR _ _ _ _ _ _ _ _ (By (n:=3) j7) (pv 10) (pv 5) (aI _)) (@pw_or1 _ _ _ _ (@aR _ _ _ _ _ _ _ _ (A_ (n:=2) j7) (pv 8) (pv 6) (aI _)))))) (@ax _ _ _ (@aO _ _ _ _ fM)) bh))))
   (@au _ _ _ _ _ (@a_ _ _ _ _ _ _ _ _ (@ky _ _ _ _ (e8 (aL wJ (hr.mono (by decide)) rfl T.o4 T.gU.kp T.oZ .nil aT (@aa _ _ _ _ _ (by rfl) (pv 4) (@aa _ _ _ _ _ (by rfl) (il (N:=["_law_row","_law_nought"]) (ρ:=(fun σ=>[σ[7]?.join])) ⟨rfl,rfl,by decide +kernel,by decide +kernel,(List.forall_mem_cons.mpr ⟨rfl,(List.forall_mem_nil _)⟩),fo (by rfl),rfl,by decide +kernel,rfl,(fun σ j v h=>match j,h with | 0,h=>⟨7,_,rfl,rfl,join_some h,Or.inr (Or.inl rfl),.inl rfl,.inl rfl⟩ | j+1,h=>by cases h),(fun _ _=>rfl)⟩ rfl (hZ (pv 6)) (fun s₃ H₃ fp=>.nil) (fun s₃ H₃ fp=>(@aC _ _ _ _ _ _ _ _ nQ (pv 0) (@cj _ _ _ _ (@aa _ _ _ _ _ (by rfl) (pv 1) ag))))) ag))))) (@ax _ _ _ (@aO _ _ _ _ fM)) bh)
   (@ax _ _ _ (@a_ _ _ _ _ _ _ _ _ (@ky _ _ _ _ (e8 (aL wJ (hr.mono (by decide)) rfl T.o4 T.gU.kp T.oZ .nil aT (@aa _ _ _ _ _ (by rfl) (pv 4) (@aa _ _ _ _ _ (by rfl) (@aC _ _ _ _ _ _ _ _ nQ (pv 6) (@cj _ _ _ _ (@aa _ _ _ _ _ (by rfl) (f_ nI rfl T.j6 boot_list (@aa _ _ _ _ _ (by rfl) (@aK _ _ _ _ _ _ _ bp (pv 6) aj (fun _ _=>rfl)) ag)) ag))) ag))))) (@ax _ _ _ (@aO _ _ _ _ fM)) bh))))))))))
   (@ax _ _ _ (@aO _ _ _ _ fM)))),?_⟩
  refine ⟨_,rfl,by show 3≤sizeLine;decide,fun P0 nP=>?_⟩
  have p0:aG (upd H P0 (.lst [.ref a,.int 0,.int 0])) P0 a:=⟨0,0,ar,by decide,by decide⟩
  have wK:aH K (er P0 (upd H P0 (.lst [.ref a,.int 0,.int 0]))) a (ns.map V.int):=by
   rw [ua]
   exact ae.seq (fun b o e=>jU (bL e nP) e) hS
  generalize upd H P0 (.lst [.ref a,.int 0,.int 0])=H0 at p0 wK ⊢
  refine ⟨3,rfl,by decide,by decide,?_⟩
  refine fT (fun i σ Hc=>∃(v2 v3 v4 v5 v6 v7 v8 v9 v10:Option V),σ=[some (.ref a),some (.ref P0),v2,v3,v4,v5,v6,v7,v8,v9,v10]∧ao P0 H0 Hc∧aG Hc P0 a) ⟨_,_,_,_,_,_,_,_,_,rfl,ao.refl _,p0⟩ ?_ ?_
  ·rintro i σ Hc hi ⟨v2,v3,v4,v5,v6,v7,v8,v9,v10,rfl,sT,pc⟩
   have jk:aH K (er P0 Hc) a (ns.map V.int):=ae.seq sT wK
   refine dj (lh (uz (fun x H1=>∃(td:Addr) (q:Int),x=.ref td∧bV q∧dk (er P0 H1) td q∧ao P0 Hc H1∧aG H1 P0 a) (fun R' hR=>?_) ?_))
   ·refine ⟨by show 1≤sizeLine;decide,fun t1 n1=>?_⟩
    have s1:ae Hc (upd Hc t1 (.tup [.str "fractions"])):=aF n1
    have e1:upd Hc t1 (.tup [.str "fractions"]) t1=some (.tup [.str "fractions"]):=ar
    generalize upd Hc t1 (.tup [.str "fractions"])=H1 at s1 e1 ⊢
    refine ⟨by show 2≤sizeLine;decide,fun t2 n2=>?_⟩
    have s2:ae H1 (upd H1 t2 (.tup [.str "wheel",.int 2])):=aF n2
    have e2:upd H1 t2 (.tup [.str "wheel",.int 2]) t2=some (.tup [.str "wheel",.int 2]):=ar
    generalize upd H1 t2 (.tup [.str "wheel",.int 2])=H2 at s2 e2 ⊢
    refine ⟨by show 2≤sizeLine;decide,fun t3 n3=>?_⟩
    have s3:ae H2 (upd H2 t3 (.tup [.str "wheel",.int 3])):=aF n3
    have e3:upd H2 t3 (.tup [.str "wheel",.int 3]) t3=some (.tup [.str "wheel",.int 3]):=ar
    generalize upd H2 t3 (.tup [.str "wheel",.int 3])=H3 at s3 e3 ⊢
    refine ⟨by show 2≤sizeLine;decide,fun t4 n4=>?_⟩
    have s4:ae H3 (upd H3 t4 (.tup [.str "wheel",.int 7])):=aF n4
    have e4:upd H3 t4 (.tup [.str "wheel",.int 7]) t4=some (.tup [.str "wheel",.int 7]):=ar
    generalize upd H3 t4 (.tup [.str "wheel",.int 7])=H4 at s4 e4 ⊢
    refine ⟨by show 2≤sizeLine;decide,fun t5 n5=>?_⟩
    have s5:ae H4 (upd H4 t5 (.tup [.str "wheel",.int 997])):=aF n5
    have e5:upd H4 t5 (.tup [.str "wheel",.int 997]) t5=some (.tup [.str "wheel",.int 997]):=ar
    generalize upd H4 t5 (.tup [.str "wheel",.int 997])=H5 at s5 e5 ⊢
    refine ⟨by show 5≤sizeLine;decide,fun l nl=>?_⟩
    have s6:ae H5 (upd H5 l (.lst [.ref t1,.ref t2,.ref t3,.ref t4,.ref t5])):=aF nl
    have e6:upd H5 l (.lst [.ref t1,.ref t2,.ref t3,.ref t4,.ref t5]) l=some (.lst [.ref t1,.ref t2,.ref t3,.ref t4,.ref t5]):=ar
    generalize upd H5 l (.lst [.ref t1,.ref t2,.ref t3,.ref t4,.ref t5])=H6 at s6 e6 ⊢
    have kg:=s2.trans (s3.trans (s4.trans (s5.trans s6)))
    have g6:=s1.trans kg
    have p6:=pc.mono g6
    have pJ:l≠P0:=fun z=>by
     obtain ⟨x,y,eP,_⟩:=p6
     rw [z] at e6
     rw [e6] at eP
     cases eP
    refine ⟨_,rfl,P0,a,ns,5,rfl,p6,ae.seq (ao.of g6) jk,by decide,aS.of_lt (by decide) (by decide),fun c H7 c0 c1 s7 p7=>?_⟩
    have e7:=s7.at pJ e6
    have sT:ao P0 Hc H7:=(ao.of g6).trans s7
    have mT:∀{tt:Addr} {q:Int},H6 tt=some (.tup [.str "wheel",.int q])→q≠0→bV q→∃(td:Addr) (q:Int),V.ref tt=.ref td∧bV q∧dk (er P0 H7) td q∧ao P0 Hc H7∧aG H7 P0 a:=fun{tt q} e z hq=>⟨tt,q,rfl,hq,by unfold dk;rw [oJ z];exact s7 _ _ (eV p6 e),sT,p7⟩
    obtain ⟨c,rfl⟩:=Int.eq_ofNat_of_zero_le c0
    match c,c1 with
    | 0,_=>exact ⟨l,_,_,.ref t1,rfl,rfl,.of e7,rfl,hR _ _ ⟨t1,0,rfl,.inl rfl,by unfold dk;rw [oI];exact s7 _ _ (eV p6 (kg _ _ e1)),sT,p7⟩⟩
    | 1,_=>exact ⟨l,_,_,.ref t2,rfl,rfl,.of e7,rfl,hR _ _ (mT ((s3.trans (s4.trans (s5.trans s6))) _ _ e2) (by decide) (lJ (.inl rfl)))⟩
    | 2,_=>exact ⟨l,_,_,.ref t3,rfl,rfl,.of e7,rfl,hR _ _ (mT ((s4.trans (s5.trans s6)) _ _ e3) (by decide) (lJ (.inr (.inl rfl))))⟩
    | 3,_=>exact ⟨l,_,_,.ref t4,rfl,rfl,.of e7,rfl,hR _ _ (mT ((s5.trans s6) _ _ e4) (by decide) (lJ (.inr (.inr (.inl rfl)))))⟩
    | 4,_=>exact ⟨l,_,_,.ref t5,rfl,rfl,.of e7,rfl,hR _ _ (mT (s6 _ _ e5) (by decide) (lJ (.inr (.inr (.inr rfl)))))⟩
    | c+5,c1=>omega
   rintro x H1 ⟨td,q,rfl,hq,wL,s1,p1⟩
   have o8:aH K (er P0 H1) a (ns.map V.int):=ae.seq s1 jk
   dsimp only [aW]
   simp only [List.set_cons_zero,List.set_cons_succ]
   refine ⟨_,rfl,fun z dz nz wM ne=>⟨z,dz,td,dM q,rfl,ar,?_,fun _=>⟨rfl,?_⟩,fun hg=>absurd ((Bp hq).symm.trans hg) (by decide)⟩⟩
   ·have e:=bW _ _ wL
    rw [aD (bL e nz),aD (bL e wM)]
    exact e
   have sz:ae H1 (upd (upd (upd H1 dz (.own z)) z (.ins t.aP dz [])) z (.ins t.aP dz [("prime",(dM q).prime)])):=fun b o e=>by
    rw [aD (bL e nz),aD (bL e nz),aD (bL e wM)]
    exact e
   have pN:di t.aP (upd (upd (upd H1 dz (.own z)) z (.ins t.aP dz [])) z (.ins t.aP dz [("prime",(dM q).prime)])) z q:=⟨dz,by rw [ar,Ce]⟩
   generalize (upd (upd (upd H1 dz (.own z)) z (.ins t.aP dz [])) z (.ins t.aP dz [("prime",(dM q).prime)]))=H2 at sz pN ⊢
   have p2:=p1.mono sz
   have Ei:z≠P0:=fun e=>by
    obtain ⟨x,y,eP,_⟩:=p2
    obtain ⟨d',ez⟩:=pN
    rw [e,eP] at ez
    cases ez
   have Ej:∀{Hx:Hp},ao P0 H2 Hx→di t.aP Hx z q:=fun{Hx} s=>by
    obtain ⟨d',ez⟩:=pN
    exact ⟨d',s.at Ei ez⟩
   have Ek:dk (er P0 H2) td q:=wL.mono (jV sz)
   have wN:=s1.trans (ao.of sz)
   have El:aH K (er P0 H2) a (ns.map V.int):=ae.seq wN jk
   refine ⟨_,rfl,P0,a,ns,9,rfl,p2,El,by decide,by decide,fun sh n L H3 s3 p3 HF HG kP ok pw n1 n9=>?_⟩
   have wO:=wN.trans s3
   dsimp only [aW]
   simp only [List.set_cons_zero,List.set_cons_succ]
   refine ⟨_,rfl,_,rfl,_,rfl,P0,a,td,sh,ns,q,n,L,rfl,p3,ae.seq wO jk,Ek.mono s3,hq,kP,ok,n1,by omega,fun tp rs nv R c H4 s4 p4 en pL M cx=>?_⟩
   have Em:=wO.trans s4
   have Eo:dm H4 sh n L:=(kP.mono s4).mono bW
   have wQ:di t.aP H4 z q:=Ej (s3.trans s4)
   have Ep:aM (10 ^ 20) H4 q nv 0 1:=pL.mono bW
   refine ⟨tp,_,rfl,.of (bW _ _ en),rfl,_,_,rfl,_,_,rfl,rfl,?_⟩
   have Er:b6 (10 ^ 20) H4 q rs (dq n c):=tab_of M.l fun i hi=>M.jY hi
   have wR:((List.range n).map fun i=>V.ref (R i)).length=n:=by simp
   have wU:∀{i:Nat} {x:V},((List.range n).map fun i=>V.ref (R i))[i]?=some x→i<n∧x=.ref (R i):=fun{i x} h=>by
    have hi:i<n:=by
     have:=(List.getElem?_eq_some_iff.mp h).1
     simpa using this
    rw [List.getElem?_map,List.getElem?_range hi] at h
    cases h
    exact ⟨hi,rfl⟩
   dsimp only [aW]
   simp only [List.set_cons_zero,List.set_cons_succ]
   refine dj (lh (oK (xs:=(List.range n).map fun i=>V.ref (R i)) (n:=n) wR (fun Rr h=>⟨_,rfl,rs,rfl,⟨_,.of M.l⟩,h _ _ (ae.refl _) (lg (.of M.l))⟩) (df (by omega)) (fun _ i y Hx=>bR (10 ^ 20) Hx q y (b9 n c i)) (fun D i y Ha Hb ys h1 ne e f=>uA h1 ne e f) ?_ ?_))
   ·intro D i x hx Hd Rr sd _ kd
    obtain ⟨hi,rfl⟩:=wU hx
    obtain ⟨ws,ew,lw,fw⟩:=(M.jY hi).mono sd
    refine ⟨_,rfl,R i,ws,rfl,.inl (.of ew),fun cp wV=>?_⟩
    have sc:ae Hd (upd Hd cp (.lst ws)):=aF wV
    exact kd cp _ sc wV ⟨_,ar⟩ ⟨ws,ar,lw,fun j v p h1 h2=>(fw j v p h1 h2).mono sc⟩
   intro hd B H5 HH s5 HI hB Es
   have wW:b6 (10 ^ 20) H5 q hd (dq n c):=tab_of Es fun i hi=>(hB i hi).1
   have el:dn n (bJ (dq n c)) n=L:=Cb ok pw cx
   dsimp only [aW]
   refine dj ⟨2,rfl,by decide,by decide,?_⟩
   refine fT (fun j σ Hx=>∃(v9 v10:Option V),σ=[some (.ref a),some (.ref P0),some (.int (0+(i:Int))),some (.ref td),some (.ref z),some (.ref sh),some (.ref rs),some nv,some (.ref hd),v9,v10]∧ae H5 Hx) ⟨_,_,rfl,ae.refl _⟩ ?_ ?_
   ·rintro j σ Hx hj ⟨v9,v10,rfl,sx⟩
    have g7:=s5.trans sx
    refine ⟨_,rfl,_,rfl,z,hd,q,10 ^ 20,dq n c,n,rfl,wQ.mono g7,hq,wW.mono sx,by rw [lI];exact n1,by rw [lI];omega,uB,fun e=>absurd (lI n c).symm e,fun _ fd Hy sy bT pO=>?_⟩
    rw [el] at pO
    have wX:=g7.trans sy
    obtain ⟨lt,us,bz,_⟩:=id pO
    dsimp only [aW]
    refine ⟨_,rfl,_,_,_,true,rfl,rfl,.of (.tup bz),ot,true,rfl,cn ?_⟩
    refine ⟨_,rfl,_,rfl,oW n L,Cc n L,uD pO,uD (Eo.mono wX),false,rfl,cn ?_⟩
    refine ⟨_,rfl,_,rfl,Bu hq ((wW.mono sx).mono sy) (Er.mono wX) ⟨false,rfl,cn ?_⟩⟩
    exact ⟨_,_,rfl,sx.trans sy⟩
   ·rintro σ Hx ⟨v9,v10,rfl,sx⟩
    have g7:=s5.trans sx
    have Mx:=M.mono (ao.of g7)
    have lx:Hx rs=some (.lst ((List.range n).map fun i=>V.ref (R i))):=Mx.l
    have zx:=wQ.mono g7
    have Et:=Ep.mono g7
    dsimp only
    refine ⟨_,rfl,oK (xs:=(List.range n).map fun i=>V.ref (R i)) (n:=n) wR (fun Rr h=>⟨_,rfl,rs,rfl,⟨_,.of lx⟩,h _ _ (ae.refl _) (lg (.of lx))⟩) (df (by omega)) (fun _ i y Hw=>bR (10 ^ 20) Hw q y (b9 n c i++[((0:Int),(1:Int))])) (fun D i y Ha Hb ys h1 ne e f=>uA h1 ne e f) ?_ ?_⟩
    ·intro D i x hx Hd Rr sd _ kd
     obtain ⟨hi,rfl⟩:=wU hx
     obtain ⟨ws,ew,lw,fw⟩:=(Mx.jY hi).mono sd
     rw [gs] at lw
     refine ⟨_,rfl,_,rfl,by show 1≤sizeLine;decide,fun c1 n1=>?_⟩
     have fG:ae Hd (upd Hd c1 (.lst [nv])):=aF n1
     refine ⟨R i,c1,ws,_,rfl,rfl,fG _ _ ew,ar,Nat.le_trans (show _≤100 by simp;omega) (by decide),fun c2 n2=>?_⟩
     have jl:=fG.trans (aF (o:=.lst (ws++[nv])) n2)
     refine kd c2 _ jl (none_of fG n2) ⟨_,ar⟩ (bR.cat ar (by rw [gs];exact lw) rfl (fun j v p h1 h2=>(fw j v p h1 h2).mono jl) fun j v p h1 h2=>?_)
     match j,h1,h2 with
     | 0,h1,h2=>
      cases h1
      cases h2
      exact (Et.mono sd).mono jl
     | j+1,h1,_=>simp at h1
    intro D1 B1 H6 HJ s6 _ Eu Ew
    have t6:b6 (10 ^ 20) H6 q D1 ((List.range n).map fun i=>b9 n c i++[((0:Int),(1:Int))]):=tab_of Ew fun i hi=>(Eu i hi).1
    have l6:((List.range n).map fun i=>b9 n c i++[((0:Int),(1:Int))]).length=n:=by simp
    refine ⟨z,D1,q,10 ^ 20,_,n+1,rfl,zx.mono s6,hq,t6,by rw [l6];exact n1,by rw [l6];omega,fun ps hp=>?_,by rw [l6];omega,fun H7 s7=>⟨true,rfl,cn ?_⟩⟩
    ·obtain ⟨i,_,rfl⟩:=List.mem_map.mp hp
     rw [List.length_append,gs]
     rfl
    have pP:=s6.trans s7
    have M7:=Mx.mono (ao.of pP)
    have l7:=M7.l
    obtain ⟨kh,Ex,Ey,Ez⟩:=M7.jY n1
    dsimp only [eF]
    refine ⟨_,rfl,_,rfl,_,rfl,rs,_,_,.ref (R 0),rfl,rfl,.of l7,(by show cD _ ((0:Nat):Int)=_;exact dF (by rw [List.getElem?_map,List.getElem?_range n1];rfl)),R 0,kh,rfl,.inl (.of Ex),fun c1 mK=>?_⟩
    have fG:ae H7 (upd H7 c1 (.lst kh)):=aF mK
    have r1:bR (10 ^ 20) (upd H7 c1 (.lst kh)) q c1 (b9 n c 0):=⟨kh,ar,Ey,fun j v p h1 h2=>(Ez j v p h1 h2).mono fG⟩
    generalize upd H7 c1 (.lst kh)=H8 at fG r1 ⊢
    refine ⟨by show 1≤sizeLine;decide,fun c2 n2=>?_⟩
    have jl:ae H8 (upd H8 c2 (.lst [.ref c1])):=aF n2
    refine ⟨rs,c2,_,_,rfl,rfl,jl _ _ (fG _ _ l7),ar,Nat.le_trans (show _≤100 by simp;omega) (by decide),fun c3 n3=>?_⟩
    have je:=jl.trans (aF (o:=.lst (((List.range n).map fun i=>V.ref (R i))++[.ref c1])) n3)
    have e3:upd (upd H8 c2 (.lst [.ref c1])) c3 (.lst (((List.range n).map fun i=>V.ref (R i))++[.ref c1])) c3=some (.lst (((List.range n).map fun i=>V.ref (R i))++[.ref c1])):=ar
    generalize upd (upd H8 c2 (.lst [.ref c1])) c3 (.lst (((List.range n).map fun i=>V.ref (R i))++[.ref c1]))=H9 at je e3 ⊢
    have pQ:=fG.trans je
    have M9:=M7.mono (ao.of pQ)
    have t9:b6 (10 ^ 20) H9 q c3 ((List.range n).map (b9 n c)++[b9 n c 0]):=Cd e3 (fun i hi=>M9.jY hi) (r1.mono je)
    have l9:((List.range n).map (b9 n c)++[b9 n c 0]).length=n+1:=by simp
    refine ⟨z,c3,q,10 ^ 20,_,n,rfl,(zx.mono pP).mono pQ,hq,t9,by rw [l9];omega,by rw [l9];omega,fun ps hp=>?_,by rw [l9];omega,fun HK EA=>⟨true,rfl,cn ?_⟩⟩
    ·rcases List.mem_append.mp hp with hp | hp
     ·exact uB ps hp
     ·rw [List.mem_singleton.mp hp,gs]
    have wY:=g7.trans (pP.trans (pQ.trans EA))
    exact ⟨_,_,_,_,_,_,_,_,_,rfl,sT.trans (Em.trans (ao.of wY)),p4.mono wY⟩
  ·rintro σ Hc ⟨v2,v3,v4,v5,v6,v7,v8,v9,v10,rfl,sT,pc⟩
   exact kQ _
theorem EB{l:PySem.W.OpenLaw}(T:Txt K mg t):∃fd:FuncData,(∀(s:Shared) (v:Value),BindsTo s fd ⟨[v],[]⟩ [("script",v)])∧∀base:Heap,K.In base→base.Ns mainGlobals mg→aJ l.prog w K mg base bt 9 t.fC fd ["script"] (k8 K):=by
 obtain ⟨oc,od,kV,doc,pm,an,av,ct,bQ,e,lk,bO⟩:=T.jc.ex
 refine ⟨t.gR,fun s v=>?_,fun base _ _=>Ee T⟩
 rw [e]
 exact .of_eq rfl
end
theorem walk{l:PySem.W.OpenLaw}{q:Program}{loose:List Str}{XP:(Str→Option Value)→Heap→Prop}{YP:World→Heap→Prop}{d:DefRec}{K:Params→PySem.W.Frag}(hn:l.most=some 63)(jH:d.params.defaults=[])
  (hY:∀(w:World) (h:Heap),YP w h→(K w.params).In h)
  (F:∀(w:World) (mg:Str→Option Value) (fa:Addr) (h:Heap),(K w.params).In h→h.Ns mainGlobals mg→mg d.name=some (.ref fa)→
   ∃fd:FuncData,(∀(s:Shared) (u:Value),BindsTo s fd ⟨[u],[]⟩ [("script",u)])∧∀base:Heap,(K w.params).In base→base.Ns mainGlobals mg→aJ l.prog w (K w.params) mg base bt 9 fa fd ["script"] (k8 (K w.params))) :
  PySem.W.WalkO q loose XP YP l.row.toRowW d [] (fun f vs=>PySem.call f vs):=
 L2.zB (n:=63) (k:=9) (x:="script") (CX:=fun _=>bt) (sp:=fun w=>k8 (K w.params)) hn (by decide) jH ⟨rfl,by decide,by decide⟩ hY F (fun _ _ a ns hl _ hS=>⟨a,ns,rfl,hS,hl,fun _=>rfl⟩) fun _ _ _ _ _ z=>z
theorem EC{K:PySem.W.Frag}{h:Heap}{mg:Str→Option Value}(X:K.In h)(G:h.Ns mainGlobals mg)
  {aP:Addr}
  {cS:Addr}
  {b_:Addr}
  {fD:Addr}
  {az:Addr}
  {d_:Addr}
  {ed:Addr}
  {ee:Addr}
  {eg:Addr}
  {eh:Addr}
  {eW:Addr} {ED wZ:Option Addr} {EE:Array (Option Value)} {EF w5 w6 w9 pR w_:Value}
  {pS:Addr} {EG:Tok} {EH:Value} {EI:Option Addr} {EJ:Nat} {EK:Array (Option Value)}
  {EL:Tok}
  {EM:Tok}
  {gu gv gw gx gy gz gA gB gC gD gE gF gG gH gI gJ gK gM gN gO gP gQ fC gS:Addr} {iu iw ix iy iz iA iB iC iD iE iF iG iH iI iJ iK iL iM iN iO iP iQ gR iR:FuncData}
  (pT:PySem.W.nsIn K mainGlobals "World" = some (some (.ref aP)))
  (pU:PySem.W.nsIn K mainGlobals "NoWorld" = some (some (.ref cS)))
  (pV:PySem.W.nsIn K mainGlobals "NoOver" = some (some (.ref b_)))
  (pW:PySem.W.nsIn K mainGlobals "WrightError" = some (some (.ref fD)))
  (pX:PySem.W.nsIn K mainGlobals "NoFit" = some (some (.ref az)))
  (pY:PySem.W.nsIn K mainGlobals "NoShape" = some (some (.ref d_)))
  (pZ:PySem.W.nsIn K mainGlobals "NoOrder" = some (some (.ref ed)))
  (p9:PySem.W.nsIn K mainGlobals "NoSize" = some (some (.ref ee)))
  (p_:PySem.W.nsIn K mainGlobals "NoLink" = some (some (.ref eg)))
  (qa:PySem.W.nsIn K mainGlobals "Tied" = some (some (.ref eh)))
  (EN:mg "is_whole" = some (.ref gu))
  (iS:aA K "is_whole" "is_whole" lK gu iu)
  (EO:mg "common_divisor" = some (.ref gv))
  (iT:aA K "common_divisor" "common_divisor" lN gv iw)
  (ER:mg "is_prime" = some (.ref gw))
  (iU:aA K "is_prime" "is_prime" lO gw ix)
  (ES:mg "ratio" = some (.ref gx))
  (iV:aA K "ratio" "ratio" lP gx iy)
  (ET:mg "remainder_back" = some (.ref gy))
  (iW:aA K "remainder_back" "remainder_back" lQ gy iz)
  (EU:mg "remainder_over" = some (.ref gz))
  (iX:aA K "remainder_over" "remainder_over" lR gz iA)
  (EV:mg "is_fractions" = some (.ref gA))
  (iY:aA K "is_fractions" "is_fractions" lS gA iB)
  (EW:mg "is_wheel" = some (.ref gB))
  (iZ:aA K "is_wheel" "is_wheel" lT gB iC)
  (EX:mg "width" = some (.ref gC))
  (i3:aA K "width" "width" lU gC iD)
  (EY:mg "square_size" = some (.ref gD))
  (i4:aA K "square_size" "square_size" lW gD iE)
  (EZ:mg "links_of_place" = some (.ref gE))
  (i5:aA K "links_of_place" "links_of_place" lY gE iF)
  (E1:mg "shape_of" = some (.ref gF))
  (gT:aA K "shape_of" "shape_of" lZ gF iG)
  (E2:mg "_law_fill" = some (.ref gG))
  (i6:aA K "_law_fill" "_law_fill" l4 gG iH)
  (E3:mg "_law_next" = some (.ref gH))
  (bK:aA K "_law_next" "_law_next" l5 gH iI)
  (E4:mg "_law_turned" = some (.ref gI))
  (i7:aA K "_law_turned" "_law_turned" l8 gI iJ)
  (E5:mg "_law_tied_by" = some (.ref gJ))
  (i8:aA K "_law_tied_by" "_law_tied_by" l_ gJ iK)
  (E6:mg "_law_grown_links" = some (.ref gK))
  (i9:aA K "_law_grown_links" "_law_grown_links" ma gK iL)
  (E7:mg "_law_named" = some (.ref gM))
  (i_:aA K "_law_named" "_law_named" md gM iM)
  (E8:mg "_law_drawn" = some (.ref gN))
  (ja:aA K "_law_drawn" "_law_drawn" me gN iN)
  (E9:mg "_law_number" = some (.ref gO))
  (fE:aA K "_law_number" "_law_number" mf gO iO)
  (E_:mg "_law_table" = some (.ref gP))
  (jb:aA K "_law_table" "_law_table" mh gP iP)
  (Fb:mg "_law_refused" = some (.ref gQ))
  (gU:aA K "_law_refused" "_law_refused" mi gQ iQ)
  (Fc:mg "law" = some (.ref fC))
  (jc:aA K "law" "law" mj fC gR)
  (mw:Mk K aP gS)
  (j4:aA K "__init__" "World.__init__" ml gS iR)
  (qb:PySem.W.findIn K (.ref aP) "of" = some (some (.ref eW)))
  (qc:PySem.W.isFn K (.ref eW)=true)
  (jm:K.lookup eW=some ⟨EF,ED,.func (PySem.W.fnOf "of" "World.of" (de dr) (cm dr) (aE dr) (.ref pS) w5 w6 w9 wZ pR w_),EE⟩)
  (jo:PySem.W.codeIn K pR "World.of" = true)
  (g8:PySem.W.keepIn K (.ref eW)=true)
  (jq:K.lookup pS=some ⟨EH,EI,.seq #[.int 1 EG] EJ,EK⟩)
  (qd:PySem.W.plainGet K aP Str.empty=true)
  (qe:PySem.W.hasDictIn K aP=true)
  (qf:PySem.W.plainOver K aP=true)
  (qg:PySem.W.findIn K (.ref aP) "__setattr__" = some (some (.builtin "object.__setattr__")))
  (qh:PySem.W.findIn K (.ref aP) "prime" = some none)
  (qi:PySem.W.nsIn K mainGlobals "len" = some none)
  (qj:PySem.W.nsIn K mainGlobals "isinstance" = some none)
  (qk:PySem.W.nsIn K mainGlobals "int" = some none)
  (ql:PySem.W.nsIn K mainGlobals "bool" = some none)
  (qm:PySem.W.nsIn K mainGlobals "tuple" = some none)
  (qo:PySem.W.nsIn K mainGlobals "list" = some none)
  (qp:PySem.W.nsIn K mainGlobals "range" = some none)
  (qr:PySem.W.nsIn K mainGlobals "abs" = some none)
  (qt:PySem.W.nsIn K mainGlobals "any" = some none)
  (qu:PySem.W.nsIn K mainGlobals "min" = some none)
  (qv:PySem.W.nsIn K mainGlobals "max" = some none)
  (qw:PySem.W.nsIn K mainGlobals "sorted" = some none)
  (qx:PySem.W.nsIn K mainGlobals "ValueError" = some none)
  (qy:PySem.W.nsIn K mainGlobals "GREATEST_PRIME" = some (some (.int 997 EL)))
  (qz:PySem.W.nsIn K mainGlobals "LONG" = some (some (.int 2048 EM)))
  (qA:PySem.W.excIn K cS [.type "ValueError",.type "Exception",.type "BaseException",.type "object"] "ValueError.__new__" = true)
  (qB:PySem.W.excIn K b_ [.type "ValueError",.type "Exception",.type "BaseException",.type "object"] "ValueError.__new__" = true)
  (qC:PySem.W.excIn K az [.type "ValueError",.type "Exception",.type "BaseException",.type "object"] "ValueError.__new__" = true)
  (qD:PySem.W.excIn K fD [.type "ValueError",.type "Exception",.type "BaseException",.type "object"] "ValueError.__new__" = true)
  (qE:PySem.W.mroIn K az (.ref az)=some true)
  (qF:PySem.W.mroIn K az (.ref fD)=some true)
  (qG:PySem.W.kitOne K (.ref az) (.type "ValueError")=some true)
  (qH:PySem.W.kitOne K (.ref az) (.ref az)=some true)
  (qI:PySem.W.kitOne K (.ref az) (.ref cS)=some false)
  (qJ:PySem.W.kitOne K (.ref az) (.ref b_)=some false)
  (qK:PySem.W.kitOne K (.ref az) (.ref d_)=some false)
  (qL:PySem.W.kitOne K (.ref az) (.ref ed)=some false)
  (qM:PySem.W.kitOne K (.ref az) (.ref ee)=some false)
  (qN:PySem.W.kitOne K (.ref az) (.ref eg)=some false)
  (qO:PySem.W.kitOne K (.ref az) (.ref eh)=some false)
  (qP:PySem.W.hasDictIn K az=true)
  (qQ:PySem.W.findIn K (.ref az) "__getattribute__" = some (some (.builtin "BaseException.__getattribute__")))
  (qR:PySem.W.findIn K (.ref az) "__getattr__" = some none)
  (qS:PySem.W.findIn K (.ref az) "__class__" = some (some (.builtin "object.__class__")))
  (qT:PySem.W.mroIn K az (.type "object")=some true)
  (qU:PySem.W.mroIn K az (.type "BaseException")=some true)
  : ∃t:mn,Txt K mg t:=by
 refine ⟨⟨gu,iu,gv,iw,gw,ix,gx,iy,gy,iz,gz,iA,gA,iB,gB,iC,gC,iD,gD,iE,gE,iF,gF,iG,gG,iH,gH,iI,gI,iJ,gJ,iK,gK,iL,gM,iM,gN,iN,gO,iO,gP,iP,gQ,iQ,fC,gR,gS,iR,eW,PySem.W.fnOf "of" "World.of" (de dr) (cm dr) (aE dr) (.ref pS) w5 w6 w9 wZ pR w_,aP,cS,b_,fD,az,d_,ed,ee,eg,eh⟩,?_⟩
 exact {
  iS:=iS
  uE:=iS.binds (ps:=["thing"]) fun _ _ _ _ _ _ us hl=>match us,hl with | [_],_=>rfl
  uF:=EN
  iT:=iT
  uH:=iT.binds (ps:=["one","other"]) fun _ _ _ _ _ _ us hl=>match us,hl with | [_,_],_=>rfl
  uI:=EO
  iU:=iU
  uJ:=iU.binds (ps:=["number"]) fun _ _ _ _ _ _ us hl=>match us,hl with | [_],_=>rfl
  uK:=ER
  iV:=iV
  uM:=iV.binds (ps:=["top","bottom"]) fun _ _ _ _ _ _ us hl=>match us,hl with | [_,_],_=>rfl
  uN:=ES
  iW:=iW
  uO:=iW.binds (ps:=["prime","number"]) fun _ _ _ _ _ _ us hl=>match us,hl with | [_,_],_=>rfl
  uP:=ET
  iX:=iX
  uQ:=iX.binds (ps:=["prime","a","b"]) fun _ _ _ _ _ _ us hl=>match us,hl with | [_,_,_],_=>rfl
  uR:=EU
  iY:=iY
  uS:=iY.binds (ps:=["told"]) fun _ _ _ _ _ _ us hl=>match us,hl with | [_],_=>rfl
  uT:=EV
  iZ:=iZ
  uU:=iZ.binds (ps:=["told"]) fun _ _ _ _ _ _ us hl=>match us,hl with | [_],_=>rfl
  uV:=EW
  i3:=i3
  uW:=i3.binds (ps:=["table"]) fun _ _ _ _ _ _ us hl=>match us,hl with | [_],_=>rfl
  uX:=EX
  i4:=i4
  uY:=i4.binds (ps:=["table"]) fun _ _ _ _ _ _ us hl=>match us,hl with | [_],_=>rfl
  uZ:=EY
  i5:=i5
  u0:=i5.binds (ps:=["world","table","i"]) fun _ _ _ _ _ _ us hl=>match us,hl with | [_,_,_],_=>rfl
  u3:=EZ
  gT:=gT
  oX:=gT.binds (ps:=["world","table"]) fun _ _ _ _ _ _ us hl=>match us,hl with | [_,_],_=>rfl
  oY:=E1
  i6:=i6
  u4:=i6.binds (ps:=["_law_cell","_law_at"]) fun _ _ _ _ _ _ us hl=>match us,hl with | [_,_],_=>rfl
  u5:=E2
  bK:=bK
  cb:=bK.binds (ps:=["_law_pen","_law_many"]) fun _ _ _ _ _ _ us hl=>match us,hl with | [_,_],_=>rfl
  cf:=E3
  i7:=i7
  u6:=i7.binds (ps:=["_law_pen","_law_some"]) fun _ _ _ _ _ _ us hl=>match us,hl with | [_,_],_=>rfl
  u7:=E4
  i8:=i8
  u9:=i8.binds (ps:=["_law_pen","_law_way","_law_size","_law_wide","_law_i","_law_j"]) fun _ _ _ _ _ _ us hl=>match us,hl with | [_,_,_,_,_,_],_=>rfl
  u_:=E5
  i9:=i9
  va:=i9.binds (ps:=["_law_pen","_law_size"]) fun _ _ _ _ _ _ us hl=>match us,hl with | [_,_],_=>rfl
  vb:=E6
  i_:=i_
  vc:=i_.binds (ps:=["_law_size","_law_links","_law_names"]) fun _ _ _ _ _ _ us hl=>match us,hl with | [_,_,_],_=>rfl
  vd:=E7
  ja:=ja
  ve:=ja.binds (ps:=["_law_pen","_law_most"]) fun _ _ _ _ _ _ us hl=>match us,hl with | [_,_],_=>rfl
  vf:=E8
  fE:=fE
  mq:=fE.binds (ps:=["_law_pen","_law_told"]) fun _ _ _ _ _ _ us hl=>match us,hl with | [_,_],_=>rfl
  mr:=E9
  jb:=jb
  vg:=jb.binds (ps:=["_law_pen","_law_told","_law_shape"]) fun _ _ _ _ _ _ us hl=>match us,hl with | [_,_,_],_=>rfl
  vh:=E_
  gU:=gU
  oZ:=gU.binds (ps:=["_law_world","_law_rows"]) fun _ _ _ _ _ _ us hl=>match us,hl with | [_,_],_=>rfl
  o4:=Fb
  jc:=jc
  Cf:=jc.binds (ps:=["script"]) fun _ _ _ _ _ _ us hl=>match us,hl with | [_],_=>rfl
  vi:=Fc
  j4:=j4
  vj:=j4.binds (ps:=["self","told"]) fun _ _ _ _ _ _ us hl=>match us,hl with | [_,_],_=>rfl
  mw:=mw
  vk:=(lb (st:=dr) (i:=1) jm jo g8 jq)
  Cg:=cR.binds (ps:=["self","top","bottom"]) (lb (st:=dr) (i:=1) jm jo g8 jq) fun s dT kV doc pm an av ct tk o n us ho hd hl=>match us,hl with | [_,_,_],_=>.of_defaults rfl ho hd rfl rfl
  vm:=cR.AS (ps:=["self","top","bottom"]) (lb (st:=dr) (i:=1) jm jo g8 jq) fun s dT kV doc pm an av ct tk o n us ho hd hl=>match us,hl with | [_,_],_=>.of_defaults rfl ho hd rfl rfl
  Ci:=cR.AU (ps:=["self","top","bottom"]) (y:="bottom") (lb (st:=dr) (i:=1) jm jo g8 jq) fun s dT kV doc pm an av ct tk o n us ws ho hd hw hl=>match ws,us,hw,hl with | [_],[_,_],_,_=>.of_defaults rfl ho hd rfl rfl
  vn:=⟨qb,qc,g8⟩
  fF:=⟨qd,qe,qf,qg⟩
  vo:=PySem.W.mg_of X G pT
  gW:=qh
  o5:=PySem.W.mg_of X G pU
  mx:=PySem.W.mg_of X G pV
  vp:=PySem.W.mg_of X G pW
  my:=PySem.W.mg_of X G pX
  vq:=PySem.W.mg_of X G pY
  vt:=PySem.W.mg_of X G pZ
  vv:=PySem.W.mg_of X G p9
  vw:=PySem.W.mg_of X G p_
  vx:=PySem.W.mg_of X G qa
  cT:=PySem.W.mg_none_of X G qi
  eX:=PySem.W.mg_none_of X G qj
  vy:=PySem.W.mg_none_of X G qk
  vz:=PySem.W.mg_none_of X G ql
  jd:=PySem.W.mg_none_of X G qm
  j6:=PySem.W.mg_none_of X G qo
  du:=PySem.W.mg_none_of X G qp
  o6:=PySem.W.mg_none_of X G qr
  vA:=PySem.W.mg_none_of X G qt
  vB:=PySem.W.mg_none_of X G qu
  vC:=PySem.W.mg_none_of X G qv
  vD:=PySem.W.mg_none_of X G qw
  vE:=PySem.W.mg_none_of X G qx
  vF:=⟨_,PySem.W.mg_of X G qy,_,rfl⟩
  vG:=⟨_,PySem.W.mg_of X G qz,_,rfl⟩
  vH:=qA
  o7:=qB
  mz:=qC
  vI:=qD
  Cj:=qE
  vJ:=qF
  vK:=qG
  vL:=qH
  vM:=qI
  vO:=qJ
  vP:=qK
  vQ:=qL
  vR:=qM
  vS:=qN
  vT:=qO
  vU:=qP
  vV:=qQ
  vW:=qR
  vX:=qS
  vY:=qT
  vZ:=qU
 }
end My
def PySem.W.Fast.tw1405221796827443634:Unit:=()
def PySem.W.Fast.tw15240833088982977125:Unit:=()
def PySem.W.Fast.tw4267132752847156413:Unit:=()
def PySem.W.Fast.tw13910294941241043628:Unit:=()
def PySem.W.Fast.tw3357287964786833198:Unit:=()
def PySem.W.Fast.tw16818710952670741122:Unit:=()
def PySem.W.Fast.tw13395065731543599407:Unit:=()
def PySem.W.Fast.tw10028066187863619629:Unit:=()
def PySem.W.Fast.tw16380056266836316916:Unit:=()
def PySem.W.Fast.tw10605204955170225612:Unit:=()
def PySem.W.Fast.tw5571417385500426322:Unit:=()
def PySem.W.Fast.tw9860260748413716452:Unit:=()
def PySem.W.Fast.tw10251330878851449312:Unit:=()
def PySem.W.Fast.tw2616514594304190549:Unit:=()
def PySem.W.Fast.tw10296080437693193641:Unit:=()
def PySem.W.Fast.tw7363939044920524574:Unit:=()
def PySem.W.Fast.tw8041341611065233373:Unit:=()
def PySem.W.Fast.tw7872575758492112289:Unit:=()
def PySem.W.Fast.tw13736056113073713268:Unit:=()
def PySem.W.Fast.tw290047697120773638:Unit:=()
def PySem.W.Fast.tw13706126380774175778:Unit:=()
def PySem.W.Fast.tw10443745010231318383:Unit:=()
def PySem.W.Fast.tw17229886588543554070:Unit:=()
def PySem.W.Fast.tw8374087647857286142:Unit:=()
def PySem.W.Fast.tw5524718277252903577:Unit:=()
def PySem.W.Fast.tw8287885428868391698:Unit:=()
def PySem.W.Fast.tw1870888671579520841:Unit:=()
def PySem.W.Fast.tw6849704762265426901:Unit:=()
def PySem.W.Fast.tw18073688995635323287:Unit:=()
def PySem.W.Fast.tw231516837954733063:Unit:=()
def PySem.W.Fast.tw11881601621050840175:Unit:=()
open PySem PySem.W PyProof.Rows
set_option maxRecDepth 100000 in
set_option maxHeartbeats 0 in
theorem PySem.Challenge.cw_bandwright_k16_shapes_of_tables_holds : PySem.Challenge.rw_bandwright_k16_shapes_of_tables.Holds := by
 w_on;o_law;k_head;(case hw=>w_witness2)
 k_fill
 refine My.walk (l:=PySem.Challenge.rw_bandwright_k16_shapes_of_tables) rfl rfl (fun w h Y=>PySem.W.kIn_of Y) ?F
 case F=>
  intro w mg fa h KX G jI
  have T:∃t,My.Txt (L2.sM KX) mg t:=by
   dsimp only [L2.sM]
   refine' My.EC KX G ?pT ?pU ?pV ?pW ?pX ?pY ?pZ ?p9 ?p_ ?qa (PySem.W.mg_of KX G ?Fd) (L2.bq (st:=My.lK) ?Fe ?Ff ?Fg) (PySem.W.mg_of KX G ?Fh) (L2.bq (st:=My.lN) ?Fi ?Fj ?Fl) (PySem.W.mg_of KX G ?Fm) (L2.bq (st:=My.lO) ?Fn ?Fo ?Fp) (PySem.W.mg_of KX G ?Fq) (L2.bq (st:=My.lP) ?Fs ?Ft ?Fu) (PySem.W.mg_of KX G ?Fv) (L2.bq (st:=My.lQ) ?Fw ?Fx ?Fy) (PySem.W.mg_of KX G ?Fz) (L2.bq (st:=My.lR) ?FA ?FC ?FD) (PySem.W.mg_of KX G ?FE) (L2.bq (st:=My.lS) ?FF ?FG ?FH) (PySem.W.mg_of KX G ?FI) (L2.bq (st:=My.lT) ?FJ ?FK ?FL) (PySem.W.mg_of KX G ?FN) (L2.bq (st:=My.lU) ?FO ?FP ?FQ) (PySem.W.mg_of KX G ?FR) (L2.bq (st:=My.lW) ?FT ?FU ?FV) (PySem.W.mg_of KX G ?FW) (L2.bq (st:=My.lY) ?FX ?FY ?FZ) (PySem.W.mg_of KX G ?F0) (L2.bq (st:=My.lZ) ?F1 ?F2 ?F3) (PySem.W.mg_of KX G ?F4) (L2.bq (st:=My.l4) ?F5 ?F6 ?F7) (PySem.W.mg_of KX G ?F8) (L2.bq (st:=My.l5) ?F9 ?F_ ?Ga) (PySem.W.mg_of KX G ?Gb) (L2.bq (st:=My.l8) ?Gd ?Ge ?Gf) (PySem.W.mg_of KX G ?Gg) (L2.bq (st:=My.l_) ?Gh ?Gi ?Gj) (PySem.W.mg_of KX G ?Gk) (L2.bq (st:=My.ma) ?Gm ?Gn ?Gp) (PySem.W.mg_of KX G ?Gq) (L2.bq (st:=My.md) ?Gr ?Gs ?Gu) (PySem.W.mg_of KX G ?Gv) (L2.bq (st:=My.me) ?Gw ?Gx ?Gy) (PySem.W.mg_of KX G ?Gz) (L2.bq (st:=My.mf) ?GA ?GB ?GC) (PySem.W.mg_of KX G ?GD) (L2.bq (st:=My.mh) ?GF ?GG ?GH) (PySem.W.mg_of KX G ?GI) (L2.bq (st:=My.mi) ?GJ ?GK ?GL) (PySem.W.mg_of KX G ?GN) (L2.bq (st:=My.mj) ?GO ?GP ?GQ) ⟨?GR,?GS,?GU,?GV⟩ (L2.bq (st:=My.ml) ?GW ?GX ?GY) ?qb ?qc ?jm ?jo ?g8 ?jq ?qd ?qe ?qf ?qg ?qh ?qi ?qj ?qk ?ql ?qm ?qo ?qp ?qr ?qt ?qu ?qv ?qw ?qx ?qy ?qz ?qA ?qB ?qC ?qD ?qE ?qF ?qG ?qH ?qI ?qJ ?qK ?qL ?qM ?qN ?qO ?qP ?qQ ?qR ?qS ?qT ?qU
   (case pT=>k_is)
   (case pU=>k_is)
   (case pV=>k_is)
   (case pW=>k_is)
   (case pX=>k_is)
   (case pY=>k_is)
   (case pZ=>k_is)
   (case p9=>k_is)
   (case p_=>k_is)
   (case qa=>k_is)
   (case Fd=>k_is)
   (case Fe=>k_is)
   (case Ff=>k_is)
   (case Fg=>k_is)
   (case Fh=>k_is)
   (case Fi=>k_is)
   (case Fj=>k_is)
   (case Fl=>k_is)
   (case Fm=>k_is)
   (case Fn=>k_is)
   (case Fo=>k_is)
   (case Fp=>k_is)
   (case Fq=>k_is)
   (case Fs=>k_is)
   (case Ft=>k_is)
   (case Fu=>k_is)
   (case Fv=>k_is)
   (case Fw=>k_is)
   (case Fx=>k_is)
   (case Fy=>k_is)
   (case Fz=>k_is)
   (case FA=>k_is)
   (case FC=>k_is)
   (case FD=>k_is)
   (case FE=>k_is)
   (case FF=>k_is)
   (case FG=>k_is)
   (case FH=>k_is)
   (case FI=>k_is)
   (case FJ=>k_is)
   (case FK=>k_is)
   (case FL=>k_is)
   (case FN=>k_is)
   (case FO=>k_is)
   (case FP=>k_is)
   (case FQ=>k_is)
   (case FR=>k_is)
   (case FT=>k_is)
   (case FU=>k_is)
   (case FV=>k_is)
   (case FW=>k_is)
   (case FX=>k_is)
   (case FY=>k_is)
   (case FZ=>k_is)
   (case F0=>k_is)
   (case F1=>k_is)
   (case F2=>k_is)
   (case F3=>k_is)
   (case F4=>k_is)
   (case F5=>k_is)
   (case F6=>k_is)
   (case F7=>k_is)
   (case F8=>k_is)
   (case F9=>k_is)
   (case F_=>k_is)
   (case Ga=>k_is)
   (case Gb=>k_is)
   (case Gd=>k_is)
   (case Ge=>k_is)
   (case Gf=>k_is)
   (case Gg=>k_is)
   (case Gh=>k_is)
   (case Gi=>k_is)
   (case Gj=>k_is)
   (case Gk=>k_is)
   (case Gm=>k_is)
   (case Gn=>k_is)
   (case Gp=>k_is)
   (case Gq=>k_is)
   (case Gr=>k_is)
   (case Gs=>k_is)
   (case Gu=>k_is)
   (case Gv=>k_is)
   (case Gw=>k_is)
   (case Gx=>k_is)
   (case Gy=>k_is)
   (case Gz=>k_is)
   (case GA=>k_is)
   (case GB=>k_is)
   (case GC=>k_is)
   (case GD=>k_is)
   (case GF=>k_is)
   (case GG=>k_is)
   (case GH=>k_is)
   (case GI=>k_is)
   (case GJ=>k_is)
   (case GK=>k_is)
   (case GL=>k_is)
   (case GN=>k_is)
   (case GO=>k_is)
   (case GP=>k_is)
   (case GQ=>k_is)
   (case GR=>k_is)
   (case GS=>k_is)
   (case GU=>k_is)
   (case GV=>k_is)
   (case GW=>k_is)
   (case GX=>k_is)
   (case GY=>k_is)
   (case qb=>k_is)
   (case qc=>k_is)
   (case jm=>k_is)
   (case jo=>k_is)
   (case g8=>k_is)
   (case jq=>k_is)
   (case qd=>k_is)
   (case qe=>k_is)
   (case qf=>k_is)
   (case qg=>k_is)
   (case qh=>k_is)
   (case qi=>k_is)
   (case qj=>k_is)
   (case qk=>k_is)
   (case ql=>k_is)
   (case qm=>k_is)
   (case qo=>k_is)
   (case qp=>k_is)
   (case qr=>k_is)
   (case qt=>k_is)
   (case qu=>k_is)
   (case qv=>k_is)
   (case qw=>k_is)
   (case qx=>k_is)
   (case qy=>k_is)
   (case qz=>k_is)
   (case qA=>k_exc)
   (case qB=>k_exc)
   (case qC=>k_exc)
   (case qD=>k_exc)
   (case qE=>k_is)
   (case qF=>k_is)
   (case qG=>kit_is)
   (case qH=>kit_is)
   (case qI=>kit_is)
   (case qJ=>kit_is)
   (case qK=>kit_is)
   (case qL=>kit_is)
   (case qM=>kit_is)
   (case qN=>kit_is)
   (case qO=>kit_is)
   (case qP=>k_is)
   (case qQ=>k_is)
   (case qR=>k_is)
   (case qS=>k_is)
   (case qT=>k_is)
   (case qU=>k_is)
  obtain ⟨t,T⟩:=T
  have e0:=jI.symm.trans T.vi
  cases e0
  exact My.EB T
#print axioms PySem.Challenge.cw_bandwright_k16_shapes_of_tables_holds
