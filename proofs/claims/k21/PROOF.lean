import PyProof.Rows.All
import Wide.All
import OpenK.AllK
import Wide.FinOn
import Lean
import PyProof.EqAt
import PyProof.EqKinds
import PyProof.TupleCall
import PySem.Challenge.RW_bandwright_k21_orders_looked_at
set_option Elab.async false
set_option linter.all false
set_option maxRecDepth 100000
namespace L2
open PySem PySem.Spec PyProof.Rows
abbrev Key:=Sum Int Str
def iC:Key→Value→Bool
 | .inl k,v=>Value.isInt k v
 | .inr x,v=>Value.isStrOf x v
def Ar(w:World):Key→Int
 | .inl k=>hashInt k
 | .inr x=>hashStr w x
theorem fH:∀{k:Key} {v:Value},iC k v=true→(∃i t,k=Sum.inl i∧v=Value.int i t)∨(∃x t,k=Sum.inr x∧v=Value.str x t)
 | .inl i,v,h=>by
  obtain ⟨t,e⟩:=Value.isInt_shape (k:=i) (v:=v) h
  exact .inl ⟨i,t,rfl,e⟩
 | .inr x,v,h=>by
  obtain ⟨t,e⟩:=Value.isStrOf_shape (x:=x) (v:=v) h
  exact .inr ⟨x,t,rfl,e⟩
theorem As(i:Int)(t:Tok):iC (.inl i) (.int i t)=true:=by simp [iC,Value.isInt]
theorem Au(x:Str)(t:Tok):iC (.inr x) (.str x t)=true:=by simp [iC,Value.isStrOf]
theorem Av(a b:Int):decide ((Sum.inl a:Key)=Sum.inl b)=(a == b):=by
 by_cases e:a=b
 ·subst e;simp
 ·have h:¬(Sum.inl a:Key)=Sum.inl b:=fun q=>e (Sum.inl.inj q)
  rw [decide_eq_false h]
  exact (beq_eq_false_iff_ne.mpr e).symm
theorem Aw(a b:Str):decide ((Sum.inr a:Key)=Sum.inr b)=decide (a=b):=by
 by_cases e:a=b
 ·subst e;simp
 ·have h:¬(Sum.inr a:Key)=Sum.inr b:=fun q=>e (Sum.inr.inj q)
  rw [decide_eq_false h,decide_eq_false e]
theorem Ax(a:Int)(b:Str):decide ((Sum.inl a:Key)=Sum.inr b)=false:=decide_eq_false (fun q=>nomatch q)
theorem Ay(a:Str)(b:Int):decide ((Sum.inr a:Key)=Sum.inl b)=false:=decide_eq_false (fun q=>nomatch q)
def cW(prog:Program)(w:World):PySem.KeyKind prog w Key where
 is:=iC
 hash:=Ar w
 inj:=fun v a b ha hb=>by
  rcases fH ha with ⟨i,t,rfl,rfl⟩ | ⟨x,t,rfl,rfl⟩
  ·rcases fH hb with ⟨j,u,rfl,e⟩ | ⟨y,u,rfl,e⟩
   ·injection e with e1 _;rw [e1]
   ·exact nomatch e
  ·rcases fH hb with ⟨j,u,rfl,e⟩ | ⟨y,u,rfl,e⟩
   ·exact nomatch e
   ·injection e with e1 _;rw [e1]
 byValue:=fun k v h=>by
  rcases fH h with ⟨i,t,rfl,rfl⟩ | ⟨x,t,rfl,rfl⟩ <;> rfl
 pyHash:=fun hv h=>by
  rcases fH hv with ⟨i,t,rfl,rfl⟩ | ⟨x,t,rfl,rfl⟩
  ·exact wpAny_pyHash_int h
  ·exact wpAny_pyHash_str h
 eqBool:=fun hu hv h=>by
  rcases fH hu with ⟨i,t,rfl,rfl⟩ | ⟨x,t,rfl,rfl⟩
  ·rcases fH hv with ⟨j,u,rfl,rfl⟩ | ⟨y,u,rfl,rfl⟩
   ·rw [Av] at h;exact wpAny_eqBool_int h
   ·rw [Ax] at h;exact SeqAt.EqAt.int_str i t y u _ _ _ _ h
  ·rcases fH hv with ⟨j,u,rfl,rfl⟩ | ⟨y,u,rfl,rfl⟩
   ·rw [Ay] at h;exact SeqAt.EqAt.str_int x t j u _ _ _ _ h
   ·rw [Aw] at h;exact wpAny_eqBool_str h
 «strs»:=fun k x t v h=>by
  rcases fH h with ⟨i,u,rfl,e⟩ | ⟨y,u,rfl,e⟩
  ·exact nomatch e
  ·injection e with e1 _
   subst e1
   cases v <;> rfl
theorem Az(prog:Program)(w:World)(i:Int)(t:Tok):(cW prog w).is (.inl i) (.int i t)=true:=As i t
theorem AA(prog:Program)(w:World)(x:Str)(t:Tok):(cW prog w).is (.inr x) (.str x t)=true:=Au x t
inductive V where
 | aF | bl (b:Bool) | int (i:Int) | str (x:Str) | fb (b:Array UInt8) | jH (b:UInt64) | ref (a:Addr) | ty (n:String)
 deriving DecidableEq
def RelV:V→Value→Prop
 | .aF,u=>u=Value.none
 | .bl b,u=>u=Value.bool b
 | .int i,u=>∃t,u=Value.int i t
 | .str x,u=>∃t,u=Value.str x t
 | .fb b,u=>∃t,u=Value.bytes b t
 | .jH b,u=>∃t,u=Value.float b t
 | .ref a,u=>u=Value.ref a
 | .ty n,u=>u=Value.type n
abbrev Vals:List V→List Value→Prop:=Paired RelV
theorem Vals.length{xs:List V}{us:List Value}(r:Vals xs us):xs.length=us.length:=Paired.length r
theorem Vals.get:∀{xs:List V} {us:List Value} {i:Nat} {x:V},Vals xs us→xs[i]?=some x→∃u,us[i]?=some u∧RelV x u
 | _,_,_,_,.nil,e=>by simp at e
 | _,_,0,_,.cons r _,e=>by simp at e;subst e;exact ⟨_,rfl,r⟩
 | _,_,i+1,x,.cons _ t,e=>by
  obtain ⟨u,h1,h2⟩:=Vals.get (i:=i) (x:=x) t (by simpa using e)
  exact ⟨u,by simpa using h1,h2⟩
theorem Vals.set{x:V}{u:Value}(r:RelV x u):∀{xs:List V} {us:List Value} (i:Nat),Vals xs us→Vals (xs.set i x) (us.set i u)
 | _,_,_,.nil=>.nil
 | _,_,0,.cons _ t=>.cons r t
 | _,_,i+1,.cons q t=>.cons q (Vals.set r i t)
theorem Vals.append:∀{xs ys:List V} {us ws:List Value},Vals xs us→Vals ys ws→Vals (xs++ys) (us++ws)
 | _,_,_,_,.nil,s=>s
 | _,_,_,_,.cons r t,s=>.cons r (Vals.append t s)
theorem Vals.take:∀{xs:List V} {us:List Value} (n:Nat),Vals xs us→Vals (xs.take n) (us.take n)
 | _,_,0,_=>.nil
 | _,_,_+1,.nil=>.nil
 | _,_,n+1,.cons r t=>.cons r (Vals.take n t)
theorem Vals.drop:∀{xs:List V} {us:List Value} (n:Nat),Vals xs us→Vals (xs.drop n) (us.drop n)
 | _,_,0,r=>r
 | _,_,_+1,.nil=>.nil
 | _,_,n+1,.cons _ t=>Vals.drop n t
theorem Vals.none_of:∀{xs:List V} {us:List Value} {i:Nat},Vals xs us→xs[i]?=none→us[i]?=none:=fun{xs us i} r e=>by
 have h1:=r.length
 have h2:xs.length≤i:=List.getElem?_eq_none_iff.mp e
 exact List.getElem?_eq_none_iff.mpr (by omega)
def iD:Option V→Option Value→Prop
 | some v,some u=>RelV v u
 | none,none=>True
 | _,_=>False
def KV{κ:Type}:List (κ×V)→List (κ×Value)→Prop:=Paired fun(p:κ×V) (q:κ×Value)=>p.1=q.1∧RelV p.2 q.2
def kV:Key→V
 | .inl i=>.int i
 | .inr x=>.str x
inductive HO where
 | lst (xs:List V)
 | tup (xs:List V)
 | dK (ai:List (Key×V)) | dT (ai:List (List Key×V))
 | set (S:Int→Bool) (n:Nat)
 | ins (C dx:Addr) (fs:List (Str×V))
 | own (x:Addr)
 | xd (fs:List (Str×V))
 | met (f x:Addr)
 | cX (lo hi:Int)
 | bb (o:Obj) (u:HO)
 | f9 (ps:Array Value)
 | ext (φ:Heap→Prop)
abbrev Hp:=Addr→Option HO
def upd(H:Hp)(a:Addr)(o:HO):Hp:=fun b=>if b=a then some o else H b
theorem aq{H:Hp}{a:Addr}{o:HO}:upd H a o a=some o:=by unfold upd;rw [if_pos rfl]
theorem aA{H:Hp}{a b:Addr}{o:HO}(h:b≠a):upd H a o b=H b:=by unfold upd;rw [if_neg h]
theorem AB{H:Hp}{a b:Addr}{o u:HO}(h:H a=some o)(h':H b=some u)(d:o≠u):a≠b:=by
 intro e;subst e;rw [h] at h';exact d (Option.some.inj h')
theorem fI{H:Hp}{a b:Addr}{o:HO}(h:H a=some o)(h':H b=none):a≠b:=by
 intro e;subst e;rw [h] at h';cases h'
section
variable (P:Program) (w:World)
def bj(H:Hp)(h:Heap)(a:Addr):HO→Prop
 | .lst xs=>xs.length≤sizeLine∧∃(aa:List Value) (n:Nat),Vals xs aa∧h.get? a=some {cls:=.type "list",data:=.seq aa.toArray n}
 | .tup xs=>xs.length≤sizeLine∧∃aa:List Value,Vals xs aa∧IsTup h a aa.toArray
 | .dK ai=>ai.length≤sizeLine∧(a == sysModules)=false∧∃vs,KV ai vs∧h.DictOf (cW P w) a vs
 | .dT ai=>ai.length≤sizeLine∧(a == sysModules)=false∧∃xs:List (List Key×Addr×Value),
   Paired (fun(p:List Key×V) (q:List Key×Addr×Value)=>p.1=q.1∧H q.2.1=some (.tup (p.1.map kV))∧RelV p.2 q.2.2) ai xs ∧
   ∃o es ep,h.get? a=some o∧o.ExactDict∧o.data=.dict es ep∧es.toList=xs.map (entryOfKey (tupleKind (cW P w)))∧(xs.map (·.1)).Nodup
 | .set S n=>h.SetOf (intKind P w) a S n
 | .ins C dx fs=>H dx=some (.own a)∧fs.length≤1000∧dx≠a∧h.get? a=some (PySem.W.instObj C dx) ∧
   ∃mA,h.Ns1 dx mA∧(∀f,iD (fs.lookup f) (mA f))∧PySem.Within mA (fs.map (·.1))
 | .own _=>∃o,h.get? a=some o
 | .xd fs=>∃mA,h.Ns1 a mA∧∀f,iD (fs.lookup f) (mA f)
 | .cX lo hi=>∃t u v,h.get? a=some {cls:=.type "range",data:=.fields #[.int lo t,.int hi u,.int 1 v]}
 | .bb o u=>h.get? a=some o∧bj H h a u
 | .f9 ps=>h.get? a=some {cls:=.none,data:=.fields ps}
 | .met f x=>h.get? a=some (PySem.W.methodObj (.ref f) (.ref x))
 | .ext φ=>φ h∧(∃o,h.get? a=some o)∧∀h1 h2:Heap,φ h1→(∀o,h1.get? a=some o→h2.get? a=some o)→φ h2
def ba(H:Hp)(h:Heap):Prop:=∀a o,H a=some o→bj P w H h a o
end
section
variable {P:Program} {w:World} {H H':Hp} {h h':Heap} {a:Addr} {o:HO}
theorem bj.lt(x:bj P w H h a o):a<h.objs.size:=by
 cases o with
 | lst xs=>obtain ⟨_,_,_,_,e⟩:=x;exact Heap.lt_size e
 | tup xs=>obtain ⟨_,_,_,p⟩:=x;exact p.lt
 | dK ai=>obtain ⟨_,_,_,_,o,_,_,e,_⟩:=x;exact Heap.lt_size e
 | dT ai=>obtain ⟨_,_,_,_,o,_,_,e,_⟩:=x;exact Heap.lt_size e
 | set S n=>obtain ⟨o,_,_,_,e,_⟩:=x;exact Heap.lt_size e
 | ins C dx fs=>obtain ⟨_,_,_,e,_⟩:=x;exact Heap.lt_size e
 | own y=>obtain ⟨_,e⟩:=x;exact Heap.lt_size e
 | xd fs=>obtain ⟨_,⟨_,_,_,e,_⟩,_⟩:=x;exact Heap.lt_size e
 | cX lo hi=>obtain ⟨_,_,_,e⟩:=x;exact Heap.lt_size e
 | bb ob u=>obtain ⟨e,_⟩:=x;exact Heap.lt_size e
 | f9 ps=>exact Heap.lt_size (show h.get? a=some _ from x)
 | met f y=>exact Heap.lt_size (show h.get? a=some _ from x)
 | ext φ=>obtain ⟨_,⟨_,e⟩,_⟩:=x;exact Heap.lt_size e
theorem Paired.qS{α β:Type}{F G:α→β→Prop}:∀{l₁:List α} {l₂:List β},Paired F l₁ l₂→(∀a b,F a b→G a b)→Paired G l₁ l₂
 | _,_,.nil,_=>.nil
 | _,_,.cons r t,f=>.cons (f _ _ r) (Paired.qS t f)
theorem bj.fg(x:bj P w H h a o)(k:∀b u,(b=a∨H b=some (.own a))→h.get? b=some u→h'.get? b=some u)
  (ho:∀b,H b=some (.own a)→H' b=some (.own a)) (ht:∀b xs,H b=some (.tup xs)→H' b=some (.tup xs)):bj P w H' h' a o:=by
 induction o with
 | lst xs=>obtain ⟨z,aa,n,r,e⟩:=x;exact ⟨z,aa,n,r,k _ _ (.inl rfl) e⟩
 | tup xs=>obtain ⟨z,aa,r,ob,e,c⟩:=x;exact ⟨z,aa,r,ob,k _ _ (.inl rfl) e,c⟩
 | dK ai=>obtain ⟨z,y,vs,r,ob,es,ep,e,c⟩:=x;exact ⟨z,y,vs,r,ob,es,ep,k _ _ (.inl rfl) e,c⟩
 | dT ai=>
  obtain ⟨z,y,xs,r,ob,es,ep,e,c⟩:=x
  exact ⟨z,y,xs,Paired.qS r fun p q z=>⟨z.1,ht _ _ z.2.1,z.2.2⟩,ob,es,ep,k _ _ (.inl rfl) e,c⟩
 | set S n=>obtain ⟨ob,es,ep,t,e,c⟩:=x;exact ⟨ob,es,ep,t,k _ _ (.inl rfl) e,c⟩
 | ins C dx fs=>
  obtain ⟨d,z,ne,e,mA,⟨od,es,ep,e2,c⟩,r⟩:=x
  exact ⟨ho _ d,z,ne,k _ _ (.inl rfl) e,mA,⟨od,es,ep,k _ _ (.inr d) e2,c⟩,r⟩
 | own y=>obtain ⟨ob,e⟩:=x;exact ⟨ob,k _ _ (.inl rfl) e⟩
 | xd fs=>obtain ⟨mA,⟨od,es,ep,e,c⟩,r⟩:=x;exact ⟨mA,⟨od,es,ep,k _ _ (.inl rfl) e,c⟩,r⟩
 | cX lo hi=>obtain ⟨t,u,v,e⟩:=x;exact ⟨t,u,v,k _ _ (.inl rfl) e⟩
 | bb ob u ih=>obtain ⟨e,q⟩:=x;exact ⟨k _ _ (.inl rfl) e,ih q⟩
 | f9 ps=>
  have e:h.get? a=some {cls:=.none,data:=.fields ps}:=x
  show h'.get? a=some {cls:=.none,data:=.fields ps}
  exact k a _ (.inl rfl) e
 | met f y=>
  have e:h.get? a=some (PySem.W.methodObj (.ref f) (.ref y)):=x
  show h'.get? a=some (PySem.W.methodObj (.ref f) (.ref y))
  exact k a _ (.inl rfl) e
 | ext φ=>obtain ⟨p,⟨o,e⟩,st⟩:=x;exact ⟨st _ _ p fun o q=>k _ _ (.inl rfl) q,⟨o,k _ _ (.inl rfl) e⟩,st⟩
theorem ba.lt(x:ba P w H h)(e:H a=some o):a<h.objs.size:=(x a o e).lt
theorem ba.fresh(x:ba P w H h)(e:h.objs.size≤a):H a=none:=by
 cases q:H a with
 | none=>rfl
 | some u=>exact absurd (Nat.lt_of_lt_of_le (x.lt q) e) (Nat.lt_irrefl _)
theorem ba.kept(x:ba P w H h)(k:∀b u,h.get? b=some u→h'.get? b=some u):ba P w H h':=fun a o e=>
 (x a o e).fg (fun b u _ q=>k b u q) (fun _ q=>q) fun _ _ q=>q
theorem ba.laid(x:ba P w H h)(k:∀b u,h.get? b=some u→h'.get? b=some u)(hp:h.objs.size≤a)(new:bj P w (upd H a o) h' a o):ba P w (upd H a o) h':=fun b u e=>by
 have hn:=x.fresh hp
 by_cases hb:b=a
 ·subst hb;rw [aq] at e;cases e;exact new
 ·rw [aA hb] at e
  exact (x b u e).fg (fun c v _ q=>k c v q) (fun c q=>by rw [aA (fI q hn)];exact q) fun c xs q=>by rw [aA (fI q hn)];exact q
end
def Rd(H:Hp)(a:Addr)(u:HO):Prop:=H a=some u∨∃o,H a=some (.bb o u)
theorem Rd.ok{P:Program}{w:World}{H:Hp}{h:Heap}{a:Addr}{u:HO}(r:Rd H a u)(x:ba P w H h):bj P w H h a u:=by
 rcases r with r | ⟨o,r⟩
 ·exact x a u r
 ·obtain ⟨_,q⟩:=x a _ r
  exact q
def lJ:Option HO→Prop
 | some (.lst _)=>True
 | some (.dK _)=>True
 | some (.dT _)=>True
 | some (.set _ _)=>True
 | some (.ins _ _ _)=>True
 | some (.ext _)=>True
 | _=>False
section
variable {P:Program} {w:World} {H:Hp} {h h':Heap} {x e:Addr} {o':HO}
theorem ba.write(ok:ba P w H h)(mu:lJ (H x))(he:e=x∨H e=some (.own x))(k:∀b u,b≠e→h.get? b=some u→h'.get? b=some u)(jI:∃u,h'.get? e=some u)
  (new:bj P w (upd H x o') h' x o'):ba P w (upd H x o') h':=fun b u q=>by
 have vc:∀c y,H c=some (.own y)→c≠x:=fun c y r z=>by subst z;rw [r] at mu;exact mu
 have AD:∀c xs,H c=some (.tup xs)→c≠x:=fun c xs r z=>by subst z;rw [r] at mu;exact mu
 by_cases hb:b=x
 ·subst hb;rw [aq] at q;cases q;exact new
 ·rw [aA hb] at q
  by_cases iE:b=e
  ·have q':H b=some (.own x):=by
    rcases he with z | z
    ·exact absurd (iE.trans z) hb
    ·rw [iE];exact z
   rw [q] at q';cases q'
   obtain ⟨v,hv⟩:=jI
   exact ⟨v,by rw [iE];exact hv⟩
  ·refine (ok b u q).fg (fun c v hc r=>k c v ?_ r) (fun c r=>by rw [aA (vc c b r)];exact r) fun c xs r=>by rw [aA (AD c xs r)];exact r
   rcases hc with rfl | hc
   ·exact iE
   ·rintro rfl
    rcases he with z | z
    ·exact vc c b hc z
    ·rw [hc] at z;cases z;exact hb rfl
end
structure Un (fs ex:List Addr) (H H':Hp) (h h':Heap):Prop where
 keep:∀b o,h.get? b=some o→H b=none→b∉fs→b∉ex→h'.get? b=some o
 slot:∀b o,h.get? b=some o→H b=none→b∈fs→b∉ex→∃sl,h'.get? b=some {o with slots:=sl}
 free:∀b o,h.get? b=some o→H b=none→b∉ex→H' b=none
 there:∀b o,h.get? b=some o→b∉ex→∃o',h'.get? b=some o'
 di:∀b xs,H b=some (.tup xs)→H' b=some (.tup xs)
 cY:∀b o u,H b=some (.bb o u)→H' b=some (.bb o u)
 dj:∀b ps,H b=some (.f9 ps)→∃more,H' b=some (.f9 (ps++more))
section
variable {fs lK ex dZ:List Addr} {H H1 H2:Hp} {h h1 h2 h':Heap} {a x e:Addr} {o:HO}
theorem Un.any(u:Un fs ex H H1 h h1){b:Addr}{ob:Obj}(q:h.get? b=some ob)(n:H b=none)(hx:b∉ex):∃sl,h1.get? b=some {ob with slots:=sl}:=by
 by_cases hb:b∈fs
 ·exact u.slot b ob q n hb hx
 ·exact ⟨ob.slots,u.keep b ob q n hb hx⟩
theorem Un.kept(k:∀b u,h.get? b=some u→h'.get? b=some u):Un fs ex H H h h':=
 ⟨fun b ob q _ _ _=>k b ob q,fun b ob q _ _ _=>⟨ob.slots,k b ob q⟩,fun _ _ _ n _=>n,fun b ob q _=>⟨ob,k b ob q⟩,fun _ _ q=>q,fun _ _ _ q=>q,fun _ ps q=>⟨#[],by rw [q];simp⟩⟩
theorem Un.refl:Un fs ex H H h h:=Un.kept fun _ _ q=>q
theorem Un.laid(k:∀b u,h.get? b=some u→h'.get? b=some u)(hp:h.objs.size≤a)(hn:H a=none):Un fs ex H (upd H a o) h h' where
 keep:=fun b u q _ _ _=>k b u q
 slot:=fun b u q _ _ _=>⟨u.slots,k b u q⟩
 free:=fun b u q n _=>by rw [aA (Nat.ne_of_lt (Nat.lt_of_lt_of_le (Heap.lt_size q) hp))];exact n
 there:=fun b u q _=>⟨u,k b u q⟩
 di:=fun b xs q=>by rw [aA (fI q hn)];exact q
 cY:=fun b u xs q=>by rw [aA (fI q hn)];exact q
 dj:=fun b ps q=>⟨#[],by rw [aA (fI q hn),q];simp⟩
theorem Un.write(mu:lJ (H x))(he:e=x∨H e=some (.own x))(k:∀b u,b≠e→h.get? b=some u→h'.get? b=some u)(jI:∃u,h'.get? e=some u):Un fs ex H (upd H x o) h h':=by
 have hx:∀b,H b=none→b≠x:=fun b n z=>by subst z;rw [n] at mu;exact mu
 have hb:∀b,H b=none→b≠e:=fun b n z=>by
  subst z
  rcases he with r | r
  ·exact hx b n r
  ·rw [n] at r;cases r
 have hm:∀b u,H b=some u→¬lJ (some u)→b≠x:=fun b u q nm z=>by subst z;rw [q] at mu;exact nm mu
 refine ⟨fun b u q n _ _=>k b u (hb b n) q,fun b u q n _ _=>⟨u.slots,k b u (hb b n) q⟩,fun b u q n _=>by rw [aA (hx b n)];exact n,fun b u q _=>?_,
  fun b xs q=>by rw [aA (hm b _ q fun z=>z)];exact q,fun b u xs q=>by rw [aA (hm b _ q fun z=>z)];exact q,fun b ps q=>⟨#[],by rw [aA (hm b _ q fun z=>z),q];simp⟩⟩
 by_cases iE:b=e
 ·subst iE;exact jI
 ·exact ⟨u,k b u iE q⟩
end
def nW(h:Heap)(H:Hp):List Addr:=(List.range h.objs.size).filter fun a=>(H a).isSome
def f_(h:Heap)(H:Hp):Heap:=PySem.W.hideAll h (nW h H)
theorem AE(h:Heap)(H:Hp):(f_ h H).objs.size=h.objs.size:=PySem.W.hideAll_size _ _
theorem AF{h:Heap}{H:Hp}{b:Addr}{o:Obj}(e:h.get? b=some o)(n:H b=none):(f_ h H).get? b=some o:=
 PySem.W.hideAll_get _ e fun hm=>by
  have q:(H b).isSome=true:=(List.mem_filter.mp hm).2
  rw [n] at q;simp at q
theorem AG{h:Heap}{H:Hp}{b:Addr}{o:Obj}(e:(f_ h H).get? b=some o):h.get? b=some o∧H b=none:=by
 have e':h.get? b=some o:=PySem.W.of_hideAll (nW h H) e
 refine ⟨e',?_⟩
 cases q:H b with
 | none=>rfl
 | some x=>
  have hm:b∈nW h H:=List.mem_filter.mpr ⟨List.mem_range.mpr (Heap.lt_size e'),by simp [q]⟩
  have z:(f_ h H).get? b=none:=PySem.W.hideAll_none (nW h H) hm
  rw [z] at e;cases e
structure Mod (K:PySem.W.Frag) (mg:Str→Option Value) (base:Heap):Prop where
 bJ:K.In base
 glob:base.Ns mainGlobals mg
 blt:∃mb,base.Ns builtinsNs mb∧∀x:Str,x ≠ "__name__"→mb x=bootBuiltins x
 nolimit:base.NoLimit
structure Cx where
 prog:Program
 w:World
 K:PySem.W.Frag
 mg:Str→Option Value
 base:Heap
 A:Around
 N:List Str
 s₀:Shared
 H₀:Hp
 env:Env
 outer:List Env
 stack:List Env
 ex:List Addr
 fn:Str→Bool
 calm:Bool
 pn:List (Addr×Obj)
 xe:Value→Shared→Prop
def bt(l:List Env):List Addr:=l.filterMap (·.frame)
abbrev Cx.fs (X:Cx):List Addr:=bt X.outer
def lN(sc:Scope)(x:Str):Prop:=sc.names.lookup x=some .local∨sc.names.lookup x=some .cell∨sc.names.lookup x=some .free
def Loc(sc:Scope)(x:Str):Prop:=sc.names.lookup x=some .local∨sc.names.lookup x=some .cell
def Look(env:Env)(h:Heap)(m:Str→Option Value)(x:Str)(u:Value):Prop:=
 (env.kindOf x=some .local∧m x=some u)∨((env.kindOf x=some .cell∨env.kindOf x=some .free)∧∃c,env.cells.lookup x=some c∧h.IsCell c (some u))
structure Cx.Ok (X:Cx):Prop where
 mod:Mod X.K X.mg X.base
 kind:X.env.scope.kind=.function
 glob:X.env.globals=mainGlobals
 blt:X.env.builtins=builtinsNs
 above:X.s₀.heap.objs.size≤X.env.locals
 inj:∀x y c,X.env.cells.lookup x=some c→X.env.cells.lookup y=some c→x=y
 has:∀x,(X.env.kindOf x=some .cell∨X.env.kindOf x=some .free)→∃c,X.env.cells.lookup x=some c
 iF:∀x c,X.fn x=true→X.env.cells.lookup x=some c→X.s₀.heap.objs.size≤c
 hd:X.calm=true→X.A.handled=none
 frames:X.A.frames=some X.stack
 d5:X.stack=X.outer∨(X.stack=X.env::X.outer∧X.env.frame=some X.env.locals)
 vd:∀b∈X.ex,b≠X.env.locals∧∀x c,X.env.cells.lookup x=some c→c≠b
 bs:∀b o,X.base.get? b=some o→X.s₀.heap.get? b=some o∧X.H₀ b=none
 eL:X.base.objs.size≤X.s₀.heap.objs.size
 iG:∀b o,X.base.get? b=some o→b∉X.ex
 iH:∀b∈X.ex,b∉X.fs
 fh:X.s₀.heap.FunFrames X.base X.outer
 gH:∀b∈X.fs,X.H₀ b=none
structure Inv (X:Cx) (pins:List (Addr×Obj)) (σ:List (Option V)) (H:Hp) (s:Shared):Prop where
 ok:X.Ok
 os:s.os=X.s₀.os
 bare:AllBare s.gens
 base:Un X.fs X.ex X.H₀ H X.s₀.heap s.heap
 loc:∃m,s.heap.Ns X.env.locals m∧∀(i:Nat) (x:Str) (v:V),X.N[i]?=some x→σ[i]?=some (some v)→lN X.env.scope x→∃u,RelV v u∧Look X.env s.heap m x u
 cell:∀x c,X.env.cells.lookup x=some c→∃v,s.heap.IsCell c v
 free:H X.env.locals=none
 eN:∀x c,X.env.cells.lookup x=some c→H c=none
 pin:∀p∈X.pn++pins,s.heap.get? p.1=some p.2∧H p.1=none∧p.1≠X.env.locals∧p.1∉X.fs∧∀v,p.2.data≠.cell v
 ar:ba X.prog X.w H s.heap
 len:σ.length=X.N.length
section
variable {X:Cx} {pins:List (Addr×Obj)} {σ:List (Option V)} {H H':Hp} {s:Shared} {h':Heap}
theorem Cx.Ok.AH(ok:X.Ok){b:Addr}{o:Obj}(e:X.base.get? b=some o):b∉X.fs:=fun hb=>by
 have:=(ok.fh.mem hb).1
 rw [e] at this;cases this
theorem Inv.bs(I:Inv X pins σ H s):∀b o,X.base.get? b=some o→s.heap.get? b=some o∧H b=none:=fun b o e=>
 ⟨I.base.keep b o (I.ok.bs b o e).1 (I.ok.bs b o e).2 (I.ok.AH e) (I.ok.iG b o e),I.base.free b o (I.ok.bs b o e).1 (I.ok.bs b o e).2 (I.ok.iG b o e)⟩
theorem Inv.bk(I:Inv X pins σ H s):∀b o,X.base.get? b=some o→s.heap.get? b=some o:=fun b o e=>(I.bs b o e).1
theorem Inv.mod(I:Inv X pins σ H s):Mod X.K X.mg X.base:=I.ok.mod
theorem Inv.cC(I:Inv X pins σ H s):X.K.In s.heap:=I.ok.mod.bJ.keeps I.bk
theorem Inv.lt(I:Inv X pins σ H s):X.env.locals<s.heap.objs.size:=let ⟨_,hn,_⟩:=I.loc;hn.lt
theorem Inv.sz(I:Inv X pins σ H s):X.s₀.heap.objs.size≤s.heap.objs.size:=Nat.le_trans I.ok.above (Nat.le_of_lt I.lt)
theorem Inv.AI(I:Inv X pins σ H s){a:Addr}(h:s.heap.objs.size≤a):a∉X.fs:=fun hb=>by
 obtain ⟨_,o,ho,_⟩:=I.ok.fh.mem hb
 exact absurd (Nat.lt_of_lt_of_le (Heap.lt_size ho) (Nat.le_trans I.sz h)) (Nat.lt_irrefl _)
theorem Inv.iI(I:Inv X pins σ H s):∀x c,X.env.cells.lookup x=some c→c≠X.env.locals:=fun x c e z=>by
 obtain ⟨v,o,ho,hd⟩:=I.cell x c e
 obtain ⟨m,⟨o',es,ep,gI,AJ,_⟩,_⟩:=I.loc
 rw [z,gI] at ho;cases ho;rw [AJ] at hd;cases hd
theorem Inv.fh(I:Inv X pins σ H s):s.heap.FunFrames X.base X.outer:=by
 have all:∀(l:List Env),(∀b∈bt l,b∈X.fs)→X.s₀.heap.FunFrames X.base l→s.heap.FunFrames X.base l:=by
  intro l
  induction l with
  | nil=>intro _ _;trivial
  | cons env r ih=>
   intro hs hl
   obtain ⟨hk,⟨L,o,hf,hn,ho,hd⟩,hr⟩:=hl
   have hL:L∈X.fs:=hs L (by unfold bt;rw [List.filterMap_cons,hf];exact List.mem_cons_self)
   obtain ⟨sl,e⟩:=I.base.slot L o ho (I.ok.gH L hL) hL fun z=>I.ok.iH L z hL
   exact ⟨hk,⟨L,_,hf,hn,e,hd⟩,ih (fun b hb=>hs b (by unfold bt;rw [List.filterMap_cons,hf];exact List.mem_cons_of_mem _ hb)) hr⟩
 exact all X.outer (fun _ hb=>hb) I.ok.fh
theorem Inv.stack(I:Inv X pins σ H s):s.heap.FunFrames X.base X.stack:=by
 rcases I.ok.d5 with e | ⟨e,hf⟩
 ·rw [e];exact I.fh
 ·rw [e]
  obtain ⟨m,hn,_⟩:=I.loc
  refine .cons (by rw [I.ok.kind];decide) hf hn ?_ I.fh
  exact Heap.get?_none_of_le (Nat.le_trans I.ok.eL I.ok.above)
theorem Inv.lO(I:Inv X pins σ H s):∀b∈bt X.stack,b∈X.env.locals::X.fs:=fun b hb=>by
 rcases I.ok.d5 with e | ⟨e,hf⟩
 ·rw [e] at hb;exact List.mem_cons_of_mem _ hb
 ·rw [e] at hb
  unfold bt at hb
  rw [List.filterMap_cons,hf] at hb
  exact hb
theorem Inv.lQ(I:Inv X pins σ H s):∀b∈bt X.stack,H b=none:=fun b hb=>by
 rcases List.mem_cons.mp (I.lO b hb) with e | hb
 ·rw [e];exact I.free
 ·obtain ⟨_,o,ho,_⟩:=I.ok.fh.mem hb
  exact I.base.free b o ho (I.ok.gH b hb) fun z=>I.ok.iH b z hb
theorem Inv.step{g':Array GenState}{t':Nat}{d':Drawn}{ch:List Addr}(I:Inv X pins σ H s)
  (fJ:∀b∈ch,(b∈X.ex∨X.s₀.heap.objs.size≤b)∧b≠X.env.locals∧(∀x c,X.env.cells.lookup x=some c→c≠b)∧∀p∈X.pn++pins,p.1≠b)
  (keep:∀b o,b≠X.env.locals→b∉X.fs→b∉ch→s.heap.get? b=some o→H b=none→h'.get? b=some o)
  (slot:∀b o,b≠X.env.locals→b∈X.fs→b∉ch→s.heap.get? b=some o→H b=none→∃sl,h'.get? b=some {o with slots:=sl}) (free:∀b o,b∉ch→s.heap.get? b=some o→H b=none→H' b=none)
  (there:∀b o,b∉ch→s.heap.get? b=some o→∃o',h'.get? b=some o')
  (di:∀b xs,H b=some (.tup xs)→H' b=some (.tup xs)) (cY:∀b o u,H b=some (.bb o u)→H' b=some (.bb o u)) (dj:∀b ps,H b=some (.f9 ps)→∃more,H' b=some (.f9 (ps++more)))
  (ns:∀m,s.heap.Ns X.env.locals m→h'.Ns X.env.locals m) (ar:ba X.prog X.w H' h') (hg:AllBare g') :
  Inv X pins σ H' {s with heap:=h',gens:=g',drawn:=d',toks:=t'}:=by
 have ve:∀b o,X.s₀.heap.get? b=some o→b≠X.env.locals:=fun b o e=>Nat.ne_of_lt (Nat.lt_of_lt_of_le (Heap.lt_size e) I.ok.above)
 have nX:∀b o,X.s₀.heap.get? b=some o→b∉X.ex→b∉ch:=fun b o e hx hb=>by
  rcases (fJ b hb).1 with z | z
  ·exact hx z
  ·exact absurd (Nat.lt_of_lt_of_le (Heap.lt_size e) z) (Nat.lt_irrefl _)
 have cellK:∀x c,X.env.cells.lookup x=some c→∀v,s.heap.IsCell c v→h'.IsCell c v:=fun x c e v ⟨o,ho,hd⟩=>by
  have lR:c∉ch:=fun z=>(fJ c z).2.2.1 x c e rfl
  by_cases hc:c∈X.fs
  ·obtain ⟨sl,q⟩:=slot c o (I.iI x c e) hc lR ho (I.eN x c e)
   exact ⟨_,q,hd⟩
  ·exact ⟨o,keep c o (I.iI x c e) hc lR ho (I.eN x c e),hd⟩
 refine ⟨I.ok,I.os,hg,⟨fun b o e n hb hx=>?_,fun b o e n hb hx=>?_,fun b o e n hx=>?_,fun b o e hx=>?_,fun b xs e=>di b xs (I.base.di b xs e),fun b o xs e=>cY b o xs (I.base.cY b o xs e),fun b ps e=>?_⟩,?_,fun x c e=>?_,?_,fun x c e=>?_,fun p hp=>?_,ar,I.len⟩
 ·exact keep b o (ve b o e) hb (nX b o e hx) (I.base.keep b o e n hb hx) (I.base.free b o e n hx)
 ·obtain ⟨sl,e1⟩:=I.base.slot b o e n hb hx
  obtain ⟨AK,e2⟩:=slot b _ (ve b o e) hb (nX b o e hx) e1 (I.base.free b o e n hx)
  exact ⟨AK,e2⟩
 ·obtain ⟨o',e1⟩:=I.base.there b o e hx
  exact free b o' (nX b o e hx) e1 (I.base.free b o e n hx)
 ·obtain ⟨o',e1⟩:=I.base.there b o e hx
  exact there b o' (nX b o e hx) e1
 ·obtain ⟨m1,e1⟩:=I.base.dj b ps e
  obtain ⟨m2,e2⟩:=dj b _ e1
  exact ⟨m1++m2,by rw [e2,Array.append_assoc]⟩
 ·obtain ⟨m,hn,hl⟩:=I.loc
  refine ⟨m,ns m hn,fun i x v e1 e2 e3=>?_⟩
  obtain ⟨u,r,l⟩:=hl i x v e1 e2 e3
  refine ⟨u,r,?_⟩
  rcases l with l | ⟨k,c,e,z⟩
  ·exact .inl l
  ·exact .inr ⟨k,c,e,cellK x c e _ z⟩
 ·obtain ⟨v,z⟩:=I.cell x c e
  exact ⟨v,cellK x c e v z⟩
 ·obtain ⟨m,⟨o,_,_,ho,_⟩,_⟩:=I.loc
  exact free _ o (fun z=>(fJ _ z).2.1 rfl) ho I.free
 ·obtain ⟨v,o,ho,hd⟩:=I.cell x c e
  exact free c o (fun z=>(fJ c z).2.2.1 x c e rfl) ho (I.eN x c e)
 ·obtain ⟨e,n,ne,nf,d⟩:=I.pin p hp
  have lR:p.1∉ch:=fun z=>(fJ p.1 z).2.2.2 p hp rfl
  exact ⟨keep p.1 p.2 ne nf lR e n,free p.1 p.2 lR e n,ne,nf,d⟩
theorem Inv.un{t':Nat}(I:Inv X pins σ H s)(u:Un X.fs [] H H' s.heap h')(ar:ba X.prog X.w H' h'):Inv X pins σ H' {s with heap:=h',toks:=t'}:=by
 obtain ⟨m,⟨o,es,ep,ho,r⟩,_⟩:=id I.loc
 obtain ⟨sl,hL⟩:=u.any ho I.free (by simp)
 exact I.step (g':=s.gens) (d':=s.drawn) (ch:=[]) (fun _ z=>nomatch z) (fun b o _ hb _ e n=>u.keep b o e n hb (by simp)) (fun b o _ hb _ e n=>u.slot b o e n hb (by simp)) (fun b o _ e n=>u.free b o e n (by simp)) (fun b o _ e=>u.there b o e (by simp)) u.di u.cY u.dj (fun m' hm=>by
  obtain ⟨o',qT,gJ,gI,r'⟩:=hm
  rw [ho] at gI;cases gI
  exact ⟨_,qT,gJ,hL,r'⟩) ar I.bare
theorem Inv.call{g':Array GenState}{t':Nat}{d':Drawn}{ch:List Addr}(I:Inv X pins σ H s)(u:Un (bt X.stack) ch H H' s.heap h')(ar:ba X.prog X.w H' h')(hg:AllBare g')
  (fJ:∀b∈ch,(b∈X.ex∨X.s₀.heap.objs.size≤b)∧b≠X.env.locals∧(∀x c,X.env.cells.lookup x=some c→c≠b)∧∀p∈X.pn++pins,p.1≠b) :
  Inv X pins σ H' {s with heap:=h',gens:=g',drawn:=d',toks:=t'}:=by
 obtain ⟨m,⟨o,es,ep,ho,r⟩,_⟩:=id I.loc
 obtain ⟨sl,hL⟩:=u.any ho I.free fun z=>(fJ _ z).2.1 rfl
 exact I.step (ch:=ch) fJ (fun b o hL hb hc e n=>u.keep b o e n (fun z=>(List.mem_cons.mp (I.lO b z)).elim hL hb) hc) (fun b o _ _ hc e n=>u.any e n hc) (fun b o hc e n=>u.free b o e n hc) (fun b o hc e=>u.there b o e hc) u.di u.cY u.dj (fun m' hm=>by
  obtain ⟨o',qT,gJ,gI,r'⟩:=hm
  rw [ho] at gI;cases gI
  exact ⟨_,qT,gJ,hL,r'⟩) ar hg
theorem Inv.turned{t':Nat}{it:Addr}(I:Inv X pins σ H s)(k:∀b o,b≠it→s.heap.get? b=some o→h'.get? b=some o)(hn:H it=none)(hL:it≠X.env.locals)
  (h1:it∈X.ex∨X.s₀.heap.objs.size≤it) (h2:∀x c,X.env.cells.lookup x=some c→c≠it) (h3:∀p∈X.pn++pins,p.1≠it):Inv X pins σ H {s with heap:=h',toks:=t'}:=by
 have vf:∀b u,H b=some u→b≠it:=fun b u e z=>by rw [z,hn] at e;cases e
 refine I.step (g':=s.gens) (d':=s.drawn) (ch:=[it]) (fun b hb=>?_) (fun b o _ _ hc e _=>k b o (fun z=>hc (by simp [z])) e) (fun b o _ _ hc e _=>⟨o.slots,k b o (fun z=>hc (by simp [z])) e⟩) (fun _ _ _ _ n=>n)
  (fun b o hc e=>⟨o,k b o (fun z=>hc (by simp [z])) e⟩) (fun _ _ e=>e) (fun _ _ _ e=>e) (fun b ps e=>⟨#[],by rw [e];simp⟩) (fun m hm=>?_) (fun b u e=>?_) I.bare
 ·have e:b=it:=by simpa using hb
  subst e
  exact ⟨h1,hL,h2,h3⟩
 ·obtain ⟨o,es,ep,ho,r⟩:=hm
  exact ⟨o,es,ep,k _ o (Ne.symm hL) ho,r⟩
 ·refine (I.ar b u e).fg (fun c v hc q=>k c v ?_ q) (fun _ q=>q) fun _ _ q=>q
  rcases hc with z | z
  ·rw [z];exact vf b u e
  ·exact vf c _ z
theorem Inv.tok(I:Inv X pins σ H s)(t:Nat):Inv X pins σ H {s with toks:=t}:=I.un (h':=s.heap) (t':=t) Un.refl I.ar
theorem Inv.kept{t':Nat}(I:Inv X pins σ H s)(k:∀b u,s.heap.get? b=some u→h'.get? b=some u):Inv X pins σ H {s with heap:=h',toks:=t'}:=I.un (Un.kept k) (I.ar.kept k)
theorem Inv.laid{a:Addr}{o:HO}{t':Nat}(I:Inv X pins σ H s)(k:∀b u,s.heap.get? b=some u→h'.get? b=some u)(hp:s.heap.objs.size≤a)(new:bj X.prog X.w (upd H a o) h' a o) :
  Inv X pins σ (upd H a o) {s with heap:=h',toks:=t'}:=I.un (Un.laid k hp (I.ar.fresh hp)) (I.ar.laid k hp new)
theorem Inv.write{x e:Addr}{o:HO}{t':Nat}(I:Inv X pins σ H s)(mu:lJ (H x))(he:e=x∨H e=some (.own x))(k:∀b u,b≠e→s.heap.get? b=some u→h'.get? b=some u)(jI:∃u,h'.get? e=some u)
  (new:bj X.prog X.w (upd H x o) h' x o):Inv X pins σ (upd H x o) {s with heap:=h',toks:=t'}:=I.un (Un.write mu he k jI) (I.ar.write mu he k jI new)
theorem Inv.vg{vh:List (Addr×Obj)}(I:Inv X pins σ H s)(h:∀p∈vh,s.heap.get? p.1=some p.2∧H p.1=none∧p.1≠X.env.locals∧p.1∉X.fs∧∀v,p.2.data≠.cell v):Inv X vh σ H s:=
 ⟨I.ok,I.os,I.bare,I.base,I.loc,I.cell,I.free,I.eN,fun p hp=>(List.mem_append.mp hp).elim (fun z=>I.pin p (List.mem_append_left _ z)) (h p),I.ar,I.len⟩
theorem vi{N:List Str}(hN:N.Nodup){i j:Nat}{x:Str}(a:N[i]?=some x)(b:N[j]?=some x):i=j:=by
 obtain ⟨h1,e1⟩:=List.getElem?_eq_some_iff.mp a
 obtain ⟨h2,e2⟩:=List.getElem?_eq_some_iff.mp b
 exact (List.getElem_inj hN).mp (e1.trans e2.symm)
theorem qU{M:Model}{A:Around}{E:Value→Shared→Prop}{i:Nat}{x:Str}{v:V}{u:Value}{Q:Unit→Shared→Prop}(I:Inv X pins σ H s)(hN:X.N.Nodup)(hi:X.N[i]?=some x)(hx:Loc X.env.scope x)(r:RelV v u)
  (h:∀s',Inv X pins (σ.set i (some v)) H s'→(∃a,Heap.SameBut a s.heap s'.heap∧(a=X.env.locals∨X.env.cells.lookup x=some a))→Q () s') (hf:X.fn x=true∨X.env.scope.names.lookup x=some .local:=by first | exact .inl rfl | exact .inr rfl | assumption):wpAny M A (storeName X.env x u) Q E s:=by
 obtain ⟨m,hn,hl⟩:=id I.loc
 have AL:(X.env.scope.kind == .class || (X.env.scope.kind == .module && X.env.locals != X.env.globals))=false:=by rw [I.ok.kind];rfl
 have vj:i<σ.length:=by rw [I.len];exact (List.getElem?_eq_some_iff.mp hi).1
 have iI:=I.iI
 have tracked:∀{a:Addr} {h':Heap},(∃o,s.heap.get? a=some o∧H a=none)→Heap.SameBut a s.heap h'→ba X.prog X.w H h':=fun{a h'} ha hs b ob e=>by
  obtain ⟨_,_,vk⟩:=ha
  refine (I.ar b ob e).fg (fun c w' hc q=>(hs.2 c ?_).trans q) (fun _ q=>q) fun _ _ q=>q
  rintro rfl
  rcases hc with rfl | hc
  ·rw [vk] at e;cases e
  ·rw [vk] at hc;cases hc
 rcases hx with hk | hk
 ·refine wpAny_storeName_local hk hn (fun h' AM hs=>?_) AL
  obtain ⟨oL,_,_,AN,_⟩:=id hn
  refine h _ ⟨I.ok,I.os,I.bare,⟨fun b o e n hb hx=>?_,fun b o e n hb hx=>?_,I.base.free,fun b o e hx=>?_,I.base.di,I.base.cY,I.base.dj⟩,⟨_,AM,fun j y v' e1 e2 e3=>?_⟩,fun y c e=>?_,I.free,I.eN,fun p hp=>?_,tracked ⟨oL,AN,I.free⟩ hs,by simpa using I.len⟩ ⟨_,hs,.inl rfl⟩
  ·exact (hs.2 b (Nat.ne_of_lt (Nat.lt_of_lt_of_le (Heap.lt_size e) I.ok.above))).trans (I.base.keep b o e n hb hx)
  ·obtain ⟨sl,e1⟩:=I.base.slot b o e n hb hx
   exact ⟨sl,(hs.2 b (Nat.ne_of_lt (Nat.lt_of_lt_of_le (Heap.lt_size e) I.ok.above))).trans e1⟩
  ·obtain ⟨o',e1⟩:=I.base.there b o e hx
   exact ⟨o',(hs.2 b (Nat.ne_of_lt (Nat.lt_of_lt_of_le (Heap.lt_size e) I.ok.above))).trans e1⟩
  ·by_cases hj:j=i
   ·subst hj
    rw [hi] at e1;cases e1
    rw [List.getElem?_set_self vj] at e2
    cases e2
    exact ⟨u,r,.inl ⟨hk,by simp⟩⟩
   ·rw [List.getElem?_set_ne (Ne.symm hj)] at e2
    obtain ⟨u',r',q⟩:=hl j y v' e1 e2 e3
    refine ⟨u',r',?_⟩
    rcases q with ⟨k,e⟩ | ⟨k,c,e,z⟩
    ·refine .inl ⟨k,?_⟩
     have:y≠x:=fun e=>hj (vi hN e1 (e▸hi))
     simp [this,e]
    ·exact .inr ⟨k,c,e,z.sameBut hs (iI y c e)⟩
  ·obtain ⟨w',z⟩:=I.cell y c e
   exact ⟨w',z.sameBut hs (iI y c e)⟩
  ·obtain ⟨e,n,ne,nf,d⟩:=I.pin p hp
   exact ⟨(hs.2 p.1 ne).trans e,n,ne,nf,d⟩
 ·have qV:X.fn x=true:=by
   rcases hf with z | z
   ·exact z
   ·rw [z] at hk;cases hk
  obtain ⟨c,hc⟩:=I.ok.has x (.inl hk)
  obtain ⟨w',z⟩:=I.cell x c hc
  refine wpAny_storeName_cell I.ok.kind hk hc z (fun h' eO hs=>?_)
  obtain ⟨oc,vn,AO⟩:=id z
  refine h {s with heap:=h'} ⟨I.ok,I.os,I.bare,⟨fun b o e n hb hx=>?_,fun b o e n hb hx=>?_,I.base.free,fun b o e hx=>?_,I.base.di,I.base.cY,I.base.dj⟩,⟨m,hn.sameBut hs (Ne.symm (iI x c hc)),fun j y v' e1 e2 e3=>?_⟩,fun y c' e=>?_,I.free,I.eN,fun p hp=>?_,tracked ⟨oc,vn,I.eN x c hc⟩ hs,by simpa using I.len⟩ ⟨c,hs,.inr hc⟩
  ·exact (hs.2 b (Nat.ne_of_lt (Nat.lt_of_lt_of_le (Heap.lt_size e) (I.ok.iF x c qV hc)))).trans (I.base.keep b o e n hb hx)
  ·obtain ⟨sl,e1⟩:=I.base.slot b o e n hb hx
   exact ⟨sl,(hs.2 b (Nat.ne_of_lt (Nat.lt_of_lt_of_le (Heap.lt_size e) (I.ok.iF x c qV hc)))).trans e1⟩
  ·obtain ⟨o',e1⟩:=I.base.there b o e hx
   exact ⟨o',(hs.2 b (Nat.ne_of_lt (Nat.lt_of_lt_of_le (Heap.lt_size e) (I.ok.iF x c qV hc)))).trans e1⟩
  ·by_cases hj:j=i
   ·subst hj
    rw [hi] at e1;cases e1
    rw [List.getElem?_set_self vj] at e2
    cases e2
    exact ⟨u,r,.inr ⟨.inl hk,c,hc,eO⟩⟩
   ·rw [List.getElem?_set_ne (Ne.symm hj)] at e2
    obtain ⟨u',r',q⟩:=hl j y v' e1 e2 e3
    refine ⟨u',r',?_⟩
    rcases q with q | ⟨k,c',e,z'⟩
    ·exact .inl q
    ·refine .inr ⟨k,c',e,z'.sameBut hs ?_⟩
     rintro rfl
     exact hj (vi hN e1 (I.ok.inj _ _ _ e hc▸hi))
  ·by_cases vp:c'=c
   ·subst vp;exact ⟨_,eO⟩
   ·obtain ⟨w2,z2⟩:=I.cell y c' e
    exact ⟨w2,z2.sameBut hs vp⟩
  ·obtain ⟨e,n,ne,nf,d⟩:=I.pin p hp
   refine ⟨(hs.2 p.1 ?_).trans e,n,ne,nf,d⟩
   intro q
   rw [q,vn] at e
   have q':oc=p.2:=Option.some.inj e
   exact d w' (by rw [←q'];exact AO)
theorem vt{M:Model}{A:Around}{E:Value→Shared→Prop}{i:Nat}{x:Str}{v:V}{u:Value}{Q:Unit→Shared→Prop}(I:Inv X pins σ H s)(hN:X.N.Nodup)(hi:X.N[i]?=some x)(hx:Loc X.env.scope x)(r:RelV v u)
  (h:∀s',Inv X pins (σ.set i (some v)) H s'→Q () s') (hf:X.fn x=true∨X.env.scope.names.lookup x=some .local:=by first | exact .inl rfl | exact .inr rfl | assumption):wpAny M A (storeName X.env x u) Q E s:=
 qU I hN hi hx r (fun s' I' _=>h s' I') hf
theorem Inv.iJ{s':Shared}{ch:List Addr}(I:Inv X pins σ H s)(ho:s'.os=s.os)(u:Un (bt X.stack) ch H H' s.heap s'.heap)(ar:ba X.prog X.w H' s'.heap)(hg:AllBare s'.gens)
  (fJ:∀b∈ch,(b∈X.ex∨X.s₀.heap.objs.size≤b)∧b≠X.env.locals∧(∀x c,X.env.cells.lookup x=some c→c≠b)∧∀p∈X.pn++pins,p.1≠b):Inv X pins σ H' s':=by
 obtain ⟨h',g',d',t',o'⟩:=s'
 have e:o'=s.os:=ho
 subst e
 exact I.call (g':=g') (t':=t') (d':=d') u ar hg fJ
end
abbrev XK:=Value→Option Addr→Hp→Prop
abbrev St:=List (Option V)
abbrev VK:=V→Hp→Prop
abbrev TE:=St→Hp→VK→Prop
abbrev TT:=St→Hp→(Bool→Hp→Prop)→Prop
abbrev TA:=St→Hp→(List V→Hp→Prop)→Prop
structure Ends where
 nx:St→Hp→Prop
 rt:VK
 bk:St→Hp→Prop:=fun _ _=>False
 ct:St→Hp→Prop:=fun _ _=>False
abbrev TS:=Ends→St→Hp→Prop
def EP(X:Cx)(pins:List (Addr×Obj))(σ:St)(Q:VK)(u:Value)(s':Shared):Prop:=∃v H',Inv X pins σ H' s'∧RelV v u∧Q v H'
def TP(X:Cx)(pins:List (Addr×Obj))(σ:St)(Q:Bool→Hp→Prop)(b:Bool)(s':Shared):Prop:=∃H',Inv X pins σ H' s'∧Q b H'
def AP(X:Cx)(pins:List (Addr×Obj))(σ:St)(Q:List V→Hp→Prop)(us:List Value)(s':Shared):Prop:=∃vs H',Inv X pins σ H' s'∧Vals vs us∧Q vs H'
def SP(X:Cx)(pins:List (Addr×Obj))(D:Ends)(f:Flow)(s':Shared):Prop:=
 match f with
 | .next=>∃σ' H',Inv X pins σ' H' s'∧D.nx σ' H'
 | .brk=>∃σ' H',Inv X pins σ' H' s'∧D.bk σ' H'
 | .cont=>∃σ' H',Inv X pins σ' H' s'∧D.ct σ' H'
 | .ret u=>∃v σ' H',Inv X pins σ' H' s'∧RelV v u∧D.rt v H'
def PE(X:Cx)(e:Expr)(t:TE):Prop:=
 ∀(pins:List (Addr×Obj)) (s:Shared) (σ:St) (H:Hp) (Q:VK),Inv X pins σ H s→t σ H Q→wpAny (model X.prog X.w) X.A (eval e X.env) (EP X pins σ Q) X.xe s
def PT(X:Cx)(e:Expr)(t:TT):Prop:=
 ∀(pins:List (Addr×Obj)) (s:Shared) (σ:St) (H:Hp) (Q:Bool→Hp→Prop),Inv X pins σ H s→t σ H Q→wpAny (model X.prog X.w) X.A (isTrue e X.env (eval e X.env)) (TP X pins σ Q) X.xe s
def PW(X:Cx)(e:Expr)(t:TT):Prop:=
 ∀(whole:Sem Value) (pins:List (Addr×Obj)) (s:Shared) (σ:St) (H:Hp) (Q:Bool→Hp→Prop),Inv X pins σ H s→t σ H Q→wpAny (model X.prog X.w) X.A (isTrue e X.env whole) (TP X pins σ Q) X.xe s
theorem PW.pt{X:Cx}{e:Expr}{t:TT}(h:PW X e t):PT X e t:=h _
def PA(X:Cx)(es:List Expr)(t:TA):Prop:=
 ∀(pos:Pos) (pins:List (Addr×Obj)) (s:Shared) (σ:St) (H:Hp) (Q:List V→Hp→Prop),Inv X pins σ H s→t σ H Q→wpAny (model X.prog X.w) X.A (spliced (backTo pos (starEach es X.env))) (AP X pins σ Q) X.xe s
def PS(X:Cx)(st:Stmt)(t:TS):Prop:=
 ∀(pins:List (Addr×Obj)) (s:Shared) (σ:St) (H:Hp) (D:Ends),Inv X pins σ H s→t D σ H→wpAny (model X.prog X.w) X.A (exec st X.env) (SP X pins D) X.xe s
def dm(X:Cx)(st:List Stmt)(t:TS):Prop:=
 ∀(pins:List (Addr×Obj)) (s:Shared) (σ:St) (H:Hp) (D:Ends),Inv X pins σ H s→t D σ H→wpAny (model X.prog X.w) X.A (execs st X.env) (SP X pins D) X.xe s
theorem aw{α:Type}{t:Sem α}{Q Q':α→Shared→Prop}{M:Model}{A:Around}{E:Value→Shared→Prop}{s:Shared}(h:wpAny M A t Q E s)(hQ:∀a s,Q a s→Q' a s):wpAny M A t Q' E s:=wpAny_mono h hQ fun _ _ x=>x
section
variable {X:Cx}
theorem bin{a b:Expr}{ta tb:TE}(ha:PE X a ta)(hb:PE X b tb){pins:List (Addr×Obj)}{s:Shared}{σ:St}{H:Hp}{R:V→V→Hp→Prop}(I:Inv X pins σ H s)(h:ta σ H fun x H1=>tb σ H1 fun y H2=>R x y H2)
  {α:Type} {Q:α→Shared→Prop} {f:Value→Value→Sem α}
  (hf:∀v u s2 x y H2,Inv X pins σ H2 s2→RelV x v→RelV y u→R x y H2→wpAny (model X.prog X.w) X.A (f v u) Q X.xe s2) :
  wpAny (model X.prog X.w) X.A (eval a X.env) (fun v s₁=>wpAny (model X.prog X.w) X.A (eval b X.env) (fun u s₂=>wpAny (model X.prog X.w) X.A (f v u) Q X.xe s₂) X.xe s₁) X.xe s:=by
 refine aw (ha pins s σ H _ I h) fun v s1 ⟨x,H1,I1,r1,q1⟩=>?_
 refine aw (hb pins s1 σ H1 _ I1 q1) fun u s2 ⟨y,H2,I2,r2,q2⟩=>?_
 exact hf v u s2 x y H2 I2 r1 r2 q2
def vv(i:Nat):TE:=fun σ H Q=>∃v,σ[i]?=some (some v)∧Q v H
def tC(v:V):TE:=fun _ H Q=>Q v H
theorem AQ{i:Nat}{x:Str}{pos:Pos}(hN:X.N[i]?=some x)(hv:lN X.env.scope x)(hd:(x == ("__debug__":Str))=false:=by decide)(dN:(x == ("__classdict__":Str))=false:=by decide):PE X (.Name x pos) (vv i):=by
 intro pins s σ H Q I h
 obtain ⟨v,e,h⟩:=h
 obtain ⟨m,hn,hl⟩:=I.loc
 obtain ⟨u,r,l⟩:=hl i x v hN e hv
 have fin:EP X pins σ Q u s:=⟨v,H,I,r,h⟩
 rcases l with ⟨hk,hm⟩ | ⟨hk,c,hc,vw⟩
 ·exact wpAny_Name (wpAny_loadName_local I.ok.kind hk hn hm fin) hd
 ·rcases hk with hk | hk
  ·exact wpAny_Name (wpAny_loadName_cell I.ok.kind hk hc vw fin) hd
  ·exact wpAny_Name (wpAny_loadName_free I.ok.kind hk hc vw fin dN) hd
theorem ay{i j pos}:PE X (.Constant (.int i) j pos) (tC (.int i)):=fun _ _ _ H _ I h=>wpAny_Constant_int ⟨.int i,H,I.tok _,⟨_,rfl⟩,h⟩
theorem gb{b j pos}:PE X (.Constant (.bool b) j pos) (tC (.bl b)):=fun _ _ _ H _ I h=>Constant_bool ⟨.bl b,H,I,rfl,h⟩
theorem AR{x j pos}:PE X (.Constant (.str x) j pos) (tC (.str x)):=fun _ _ _ H _ I h=>Calls.Constant_str ⟨.str x,H,I.tok _,⟨_,rfl⟩,h⟩
def Gl(X:Cx)(x:Str):Prop:=X.env.kindOf x=some .globalImplicit
theorem vx{E:Value→Shared→Prop}{pins:List (Addr×Obj)}{s:Shared}{σ:St}{H:Hp}{x:Str}{u:Value}{pos:Pos}{Q:Value→Shared→Prop}(I:Inv X pins σ H s)(hg:Gl X x)(hm:X.mg x=some u)(h:Q u s)
  (hd:(x == ("__debug__":Str))=false:=by decide):wpAny (model X.prog X.w) X.A (eval (.Name x pos) X.env) Q E s:=
 Calls.Name_function_global I.ok.kind hg (Calls.loadGlobal_global (by rw [I.ok.glob];exact I.mod.glob.keeps I.bk) hm h) hd
theorem jJ{E:Value→Shared→Prop}{pins:List (Addr×Obj)}{s:Shared}{σ:St}{H:Hp}{x:Str}{u:Value}{pos:Pos}{Q:Value→Shared→Prop}(I:Inv X pins σ H s)(hg:Gl X x)(hm:X.mg x=none)(hv:bootBuiltins x=some u)(h:Q u s)
  (hn:x ≠ "__name__":=by decide) (hd:(x == ("__debug__":Str))=false:=by decide):wpAny (model X.prog X.w) X.A (eval (.Name x pos) X.env) Q E s:=by
 obtain ⟨mb,h1,h2⟩:=I.mod.blt
 exact Calls.Name_function_global I.ok.kind hg (Calls.loadGlobal_builtin (by rw [I.ok.glob];exact I.mod.glob.keeps I.bk) hm (by rw [I.ok.blt];exact h1.keeps I.bk) ((h2 x hn).trans hv) h) hd
theorem nY{x:Str}{v:V}{u:Value}{pos:Pos}(hg:Gl X x)(hm:X.mg x=none)(hv:bootBuiltins x=some u)(r:RelV v u)(hn:x ≠ "__name__":=by decide)(hd:(x == ("__debug__":Str))=false:=by decide):PE X (.Name x pos) (tC v):=
 fun _ _ _ H _ I h=>jJ I hg hm hv ⟨v,H,I,r,h⟩ hn hd
variable {a b:Expr} {ta tb:TE} {pos:Pos}
def PC(X:Cx)(op:CmpOp)(a b:Expr)(t:TE):Prop:=
 ∀(pins:List (Addr×Obj)) (s:Shared) (σ:St) (H:Hp) (Q:VK),Inv X pins σ H s→t σ H Q→
  wpAny (model X.prog X.w) X.A (eval a X.env) (fun v s₁=>wpAny (model X.prog X.w) X.A (eval b X.env) (fun u s₂=>wpAny (model X.prog X.w) X.A (compareOp op v u) (EP X pins σ Q) X.xe s₂) X.xe s₁) X.xe s
def tB(t:TE):TT:=fun σ H Q=>t σ H fun x H1=>∃c,x=.bl c∧Q c H1
theorem vy{op:CmpOp}{t:TE}(h:PC X op a b t)(h1:behindInMarks op b=false:=by first | exact KW _ (by decide) (by decide) | rfl):PT X (.Compare a [op] [b] pos) (tB t):=by
 intro pins s σ H Q I hw
 refine wpAny_isTrue_Compare1 (aw (h pins s σ H _ I hw) fun v s1 h1=>aw h1 fun u s2 h2=>aw h2 fun c s3 ⟨x,H1,I1,r1,q1⟩=>?_) h1
 obtain ⟨d,rfl,q⟩:=q1
 cases r1
 exact wpAny_truthy_bool ⟨H1,I1,q⟩
theorem lS{e:Expr}{t:TE}(h:PE X e t)(he:∀whole,isTrue e X.env whole=(do let v ←whole;standAt e.pos;holding [v] (truthy v)):=by intro _;rfl):PT X e (tB t):=by
 intro pins s σ H Q I hw
 refine isTrue_plain (aw (h pins s σ H _ I hw) fun v s1 ⟨x,H1,I1,r1,q1⟩=>?_) (he _)
 obtain ⟨d,rfl,q⟩:=q1
 cases r1
 exact wpAny_truthy_bool ⟨H1,I1,q⟩
variable {tA lT:TT} {rest:List Expr}
def AS(t u:TT):TT:=fun σ H Q=>t σ H fun c H1=>if c=true then u σ H1 Q else Q false H1
def AU(t u:TT):TT:=fun σ H Q=>t σ H fun c H1=>if c=true then Q true H1 else u σ H1 Q
def vz(t:TT):TT:=fun σ H Q=>t σ H fun c H1=>Q (!c) H1
theorem pw_and1(ha:PT X a tA):PW X (.BoolOp .And [a] pos) tA:=by
 intro wh pins s σ H Q I h
 refine isTrue_and (aw (ha pins s σ H Q I h) fun c s1 e=>?_)
 cases c with
 | true=>exact isTrue_and_nil e
 | false=>exact e
theorem pw_or1(ha:PT X a tA):PW X (.BoolOp .Or [a] pos) tA:=by
 intro wh pins s σ H Q I h
 refine isTrue_or (aw (ha pins s σ H Q I h) fun c s1 e=>?_)
 cases c with
 | false=>exact isTrue_or_nil e
 | true=>exact e
theorem pw_and(ha:PT X a tA)(hb:PW X (.BoolOp .And (b::rest) pos) lT):PW X (.BoolOp .And (a::b::rest) pos) (AS tA lT):=by
 intro wh pins s σ H Q I h
 refine isTrue_and (aw (ha pins s σ H _ I h) fun c s1 ⟨H1,I1,q1⟩=>?_)
 cases c with
 | true=>exact hb wh pins s1 σ H1 Q I1 q1
 | false=>exact ⟨H1,I1,q1⟩
theorem pw_or(ha:PT X a tA)(hb:PW X (.BoolOp .Or (b::rest) pos) lT):PW X (.BoolOp .Or (a::b::rest) pos) (AU tA lT):=by
 intro wh pins s σ H Q I h
 refine isTrue_or (aw (ha pins s σ H _ I h) fun c s1 ⟨H1,I1,q1⟩=>?_)
 cases c with
 | true=>exact ⟨H1,I1,q1⟩
 | false=>exact hb wh pins s1 σ H1 Q I1 q1
theorem nZ(ha:PT X a tA):PT X (.UnaryOp .Not a pos) (vz tA):=by
 intro pins s σ H Q I h
 exact isTrue_not (ha pins s σ H (fun c H1=>Q (!c) H1) I h)
def AV(ta tb:TE):TE:=fun σ H Q=>ta σ H fun x H1=>∃c,x=.bl c∧if c=true then tb σ H1 Q else Q (.bl false) H1
def AW(ta tb:TE):TE:=fun σ H Q=>ta σ H fun x H1=>∃c,x=.bl c∧if c=true then Q (.bl true) H1 else tb σ H1 Q
def AX(ta:TE):TE:=fun σ H Q=>ta σ H fun x H1=>∃c,x=.bl c∧Q (.bl (!c)) H1
theorem qW{op}{t:TE}(h:PE X a t):PE X (.BoolOp op [a] pos) t:=fun pins s σ H Q I hw=>BoolOp_one (h pins s σ H Q I hw)
theorem AY(ha:PE X a ta)(hb:PE X (.BoolOp .And (b::rest) pos) tb):PE X (.BoolOp .And (a::b::rest) pos) (AV ta tb):=by
 intro pins s σ H Q I h
 refine BoolOp_and (aw (ha pins s σ H _ I h) fun v s1 ⟨x,H1,I1,r1,q1⟩=>?_)
 obtain ⟨c,rfl,q1⟩:=q1
 cases r1
 refine wpAny_truthy_bool ?_
 cases c with
 | true=>exact hb pins s1 σ H1 Q I1 q1
 | false=>exact ⟨.bl false,H1,I1,rfl,q1⟩
theorem AZ(ha:PE X a ta)(hb:PE X (.BoolOp .Or (b::rest) pos) tb):PE X (.BoolOp .Or (a::b::rest) pos) (AW ta tb):=by
 intro pins s σ H Q I h
 refine BoolOp_or (aw (ha pins s σ H _ I h) fun v s1 ⟨x,H1,I1,r1,q1⟩=>?_)
 obtain ⟨c,rfl,q1⟩:=q1
 cases r1
 refine wpAny_truthy_bool ?_
 cases c with
 | false=>exact hb pins s1 σ H1 Q I1 q1
 | true=>exact ⟨.bl true,H1,I1,rfl,q1⟩
theorem A0(ha:PE X a ta):PE X (.UnaryOp .Not a pos) (AX ta):=by
 intro pins s σ H Q I h
 refine UnaryOp_ (aw (ha pins s σ H _ I h) fun v s1 ⟨x,H1,I1,r1,q1⟩=>?_)
 obtain ⟨c,rfl,q1⟩:=q1
 cases r1
 exact not_of (wpAny_truthy_bool ⟨.bl (!c),H1,I1,rfl,q1⟩)
end
def aS(K:PySem.W.Frag)(H:Hp)(a:Addr)(xs:List V):Prop:=
 Rd H a (.lst xs) ∨
  ∃(o:Obj) (aa:Array Value) (n:Nat),K.lookup a=some o∧o.cls=.type "list"∧o.dict=none∧o.data=.seq aa n∧aa.size≤sizeLine∧Vals xs aa.toList
def cK(K:PySem.W.Frag)(H:Hp)(a:Addr)(xs:List V):Prop:=
 Rd H a (.tup xs) ∨
  ∃(o:Obj) (aa:Array Value) (n:Nat),K.lookup a=some o∧o.cls=.type "tuple"∧o.data=.seq aa n∧aa.size≤sizeLine∧Vals xs aa.toList
def A1:Value→Option V
 | .none=>some .aF
 | .bool b=>some (.bl b)
 | .int i _=>some (.int i)
 | .str x _=>some (.str x)
 | .bytes b _=>some (.fb b)
 | .float b _=>some (.jH b)
 | .ref a=>some (.ref a)
 | .type n=>some (.ty n)
 | _=>none
theorem RelV.abs{x:V}{u:Value}(r:RelV x u):A1 u=some x:=by
 cases x with
 | aF=>cases r;rfl
 | bl _=>cases r;rfl
 | int _=>obtain ⟨t,rfl⟩:=r;rfl
 | str _=>obtain ⟨t,rfl⟩:=r;rfl
 | fb _=>obtain ⟨t,rfl⟩:=r;rfl
 | jH _=>obtain ⟨t,rfl⟩:=r;rfl
 | ref _=>cases r;rfl
 | ty _=>cases r;rfl
theorem RelV.inj{x y:V}{u:Value}(r:RelV x u)(q:RelV y u):x=y:=Option.some.inj (r.abs.symm.trans q.abs)
theorem Vals.inj:∀{xs ys:List V} {us:List Value},Vals xs us→Vals ys us→xs=ys
 | _,_,_,.nil,.nil=>rfl
 | _,_,_,.cons r t,.cons r' t'=>by rw [r.inj r',Vals.inj t t']
section
variable {X:Cx} {pins:List (Addr×Obj)} {σ:St} {H:Hp} {s:Shared} {a:Addr} {xs ys:List V}
theorem aS.of{K:PySem.W.Frag}(h:H a=some (.lst xs)):aS K H a xs:=.inl (.inl h)
theorem cK.of{K:PySem.W.Frag}(h:H a=some (.tup xs)):cK K H a xs:=.inl (.inl h)
theorem Inv.list(I:Inv X pins σ H s)(h:aS X.K H a xs):∃aa:List Value,Vals xs aa∧PlainL s.heap a aa.toArray∧xs.length≤sizeLine:=by
 rcases h with h | ⟨o,aa,n,hk,hc,hd,hs,hz,r⟩
 ·obtain ⟨z,aa,n,r,e⟩:=h.ok I.ar
  exact ⟨aa,r,⟨_,n,e,rfl,rfl,rfl⟩,z⟩
 ·refine ⟨aa.toList,r,⟨o,n,I.cC a o hk,hc,hd,by simpa using hs⟩,?_⟩
  have e:=r.length
  simp only [Array.length_toList] at e
  omega
theorem Inv.tuple(I:Inv X pins σ H s)(h:cK X.K H a xs):∃aa:List Value,Vals xs aa∧IsTup s.heap a aa.toArray∧xs.length≤sizeLine:=by
 rcases h with h | ⟨o,aa,n,hk,hc,hs,hz,r⟩
 ·obtain ⟨z,aa,r,p⟩:=h.ok I.ar
  exact ⟨aa,r,p,z⟩
 ·refine ⟨aa.toList,r,⟨o,I.cC a o hk,hc,n,by simpa using hs⟩,?_⟩
  have e:=r.length
  simp only [Array.length_toList] at e
  omega
theorem Inv.vB(I:Inv X pins σ H s)(h:aS X.K H a xs)(h':aS X.K H a ys):xs=ys:=by
 obtain ⟨aa,r,⟨o,n,e,_,_,d⟩,_⟩:=I.list h
 obtain ⟨its',r',⟨o',n',e',_,_,d'⟩,_⟩:=I.list h'
 rw [e] at e';cases e'
 rw [d] at d'
 injection d' with d1 _
 have:aa=its':=by simpa using congrArg Array.toList d1
 subst this
 exact r.inj r'
theorem Inv.A2(I:Inv X pins σ H s)(h:cK X.K H a xs)(h':cK X.K H a ys):xs=ys:=by
 obtain ⟨aa,r,⟨o,e,_,n,d⟩,_⟩:=I.tuple h
 obtain ⟨its',r',⟨o',e',_,n',d'⟩,_⟩:=I.tuple h'
 rw [e] at e';cases e'
 rw [d] at d'
 injection d' with d1 _
 have:aa=its':=by simpa using congrArg Array.toList d1
 subst this
 exact r.inj r'
end
abbrev Cx.fK (X:Cx) (E:Value→Shared→Prop):Cx:={X with xe:=E}
abbrev Cx.lW (X:Cx):Cx:=X.fK fun _ _=>False
theorem Cx.Ok.fK{X:Cx}(ok:X.Ok)(E:Value→Shared→Prop):(X.fK E).Ok:=
 ⟨ok.mod,ok.kind,ok.glob,ok.blt,ok.above,ok.inj,ok.has,ok.iF,ok.hd,ok.frames,ok.d5,ok.vd,ok.bs,ok.eL,ok.iG,ok.iH,ok.fh,ok.gH⟩
theorem Cx.Ok.gK{X:Cx}{E:Value→Shared→Prop}(ok:(X.fK E).Ok):X.Ok:=
 ⟨ok.mod,ok.kind,ok.glob,ok.blt,ok.above,ok.inj,ok.has,ok.iF,ok.hd,ok.frames,ok.d5,ok.vd,ok.bs,ok.eL,ok.iG,ok.iH,ok.fh,ok.gH⟩
section
variable {X:Cx} {pins:List (Addr×Obj)} {σ:St} {H:Hp} {s:Shared} {E:Value→Shared→Prop}
theorem Inv.fK(I:Inv X pins σ H s)(E:Value→Shared→Prop):Inv (X.fK E) pins σ H s:=⟨I.ok.fK E,I.os,I.bare,I.base,I.loc,I.cell,I.free,I.eN,I.pin,I.ar,I.len⟩
theorem Inv.gK(I:Inv (X.fK E) pins σ H s):Inv X pins σ H s:=⟨I.ok.gK,I.os,I.bare,I.base,I.loc,I.cell,I.free,I.eN,I.pin,I.ar,I.len⟩
theorem SP.gK{D:Ends}{f:Flow}{s':Shared}(h:SP (X.fK E) pins D f s'):SP X pins D f s':=by
 cases f with
 | next=>obtain ⟨σ',H',I,q⟩:=h;exact ⟨σ',H',I.gK,q⟩
 | brk=>obtain ⟨σ',H',I,q⟩:=h;exact ⟨σ',H',I.gK,q⟩
 | cont=>obtain ⟨σ',H',I,q⟩:=h;exact ⟨σ',H',I.gK,q⟩
 | ret u=>obtain ⟨v,σ',H',I,r,q⟩:=h;exact ⟨v,σ',H',I.gK,r,q⟩
theorem dm.lW{st:List Stmt}{t:TS}(h:dm X.lW st t):dm X st t:=fun pins s σ H D I hw=>
 wpAny_mono (h pins s σ H D (I.fK _) hw) (fun _ _ q=>q.gK) fun _ _ z=>False.elim z
end
section
variable {X:Cx} {st:Stmt} {rest:List Stmt} {t u:TS} {e:Expr} {te:TE} {pos:Pos}
def gM:TS:=fun D σ H=>D.nx σ H
def vC(t u:TS):TS:=fun D σ H=>t {D with nx:=u D} σ H
theorem cE:dm X [] gM:=fun _ _ σ H _ I h=>wpAny_execs_nil ⟨σ,H,I,h⟩
theorem ax(h1:PS X st t)(h2:dm X rest u):dm X (st::rest) (vC t u):=by
 intro pins s σ H D I h
 refine wpAny_execs_cons (aw (h1 pins s σ H {D with nx:=u D} I h) fun f s1 q=>?_)
 cases f with
 | next=>
  obtain ⟨σ',H',I',q⟩:=q
  exact h2 pins s1 σ' H' D I' q
 | ret v=>exact q
 | brk=>exact q
 | cont=>exact q
theorem aC(h1:PS X st t):dm X [st] t:=by
 intro pins s σ H D I h
 refine wpAny_execs_cons (aw (h1 pins s σ H D I h) fun f s1 q=>?_)
 cases f with
 | next=>exact wpAny_execs_nil q
 | ret v=>exact q
 | brk=>exact q
 | cont=>exact q
theorem Inv.quiet{pins:List (Addr×Obj)}{σ:St}{H:Hp}{s:Shared}(I:Inv X pins σ H s):interactive X.env=false:=by simp [interactive,I.ok.kind]
def A3(te:TE):TS:=fun D σ H=>te σ H fun _ H1=>D.nx σ H1
theorem dq(he:PE X e te)(hs:swapsWith e none pos.line X.env=pure false:=by rfl):PS X (.Expr e pos) (A3 te):=by
 intro pins s σ H D I h
 exact wpAny_Expr_any (aw (he pins s σ H _ I h) fun v s1 ⟨x,H1,I1,r1,q1⟩=>⟨σ,H1,I1,q1⟩) I.quiet hs
def A4(te:TE):TS:=fun D σ H=>te σ H D.rt
theorem bL(he:PE X e te):PS X (.Return (some e) pos) (A4 te):=by
 intro pins s σ H D I h
 exact wpAny_Return_some (aw (he pins s σ H _ I h) fun v s1 ⟨x,H1,I1,r1,q1⟩=>⟨x,σ,H1,I1,r1,q1⟩)
def qX(c:TT)(t u:TS):TS:=fun D σ H=>c σ H fun b H1=>if b=true then t D σ H1 else u D σ H1
theorem cm{c:Expr}{a b:List Stmt}{tc:TT}(hc:PT X c tc)(ha:dm X a t)(hb:dm X b u):PS X (.If c a b pos) (qX tc t u):=by
 intro pins s σ H D I h
 refine wpAny_If (aw (hc pins s σ H _ I h) fun d s1 ⟨H1,I1,q1⟩=>?_)
 cases d with
 | true=>exact ha pins s1 σ H1 D I1 q1
 | false=>exact hb pins s1 σ H1 D I1 q1
end
abbrev TG:=V→St→Hp→(St→Hp→Prop)→Prop
abbrev iK:=List V→St→Hp→(St→Hp→Prop)→Prop
def PG(X:Cx)(target:Expr)(t:TG):Prop:=
 ∀(pins:List (Addr×Obj)) (s:Shared) (σ:St) (H:Hp) (v:V) (u:Value) (Q:St→Hp→Prop),Inv X pins σ H s→RelV v u→t v σ H Q→
  wpAny (model X.prog X.w) X.A (assign target X.env u) (fun _ s'=>∃σ' H',Inv X pins σ' H' s'∧Q σ' H') X.xe s
def n4(X:Cx)(ts:List Expr)(t:iK):Prop:=
 ∀(pins:List (Addr×Obj)) (s:Shared) (σ:St) (H:Hp) (vs:List V) (us:List Value) (Q:St→Hp→Prop),Inv X pins σ H s→Vals vs us→t vs σ H Q→
  wpAny (model X.prog X.w) X.A (assignInOrder ((assignEach ts X.env).map (·.2)) us) (fun _ s'=>∃σ' H',Inv X pins σ' H' s'∧Q σ' H') X.xe s
abbrev qY:=V→V→V→Hp→(Hp→Prop)→Prop
def vD(X:Cx)(t:qY):Prop:=
 ∀(pins:List (Addr×Obj)) (s:Shared) (σ:St) (H:Hp) (o i v:V) (ov iv u:Value) (Q:Hp→Prop),Inv X pins σ H s→RelV o ov→RelV i iv→RelV v u→t o i v H Q→
  wpAny (model X.prog X.w) X.A (setItem ov iv u) (fun _ s'=>∃H',Inv X pins σ H' s'∧Q H') X.xe s
section
variable {X:Cx} {pos:Pos}
def aI(i:Nat):TG:=fun v σ H Q=>Q (σ.set i (some v)) H
theorem bR{i:Nat}{x:Str}(hN:X.N.Nodup)(hi:X.N[i]?=some x)(hx:Loc X.env.scope x)(hf:X.fn x=true∨X.env.scope.names.lookup x=some .local:=by first | exact .inl rfl | exact .inr rfl | assumption):PG X (.Name x pos) (aI i):=by
 intro pins s σ H v u Q I r h
 exact wpAny_assign_Name (vt I hN hi hx r (fun s' I'=>⟨_,H,I',h⟩) hf)
def A5:iK:=fun vs σ H Q=>vs=[]∧Q σ H
def A6(t:TG)(u:iK):iK:=fun vs σ H Q=>∃v r,vs=v::r∧t v σ H fun σ' H'=>u r σ' H' Q
theorem lY:n4 X [] A5:=by
 intro pins s σ H vs us Q I r h
 obtain ⟨e,h⟩:=h
 subst e
 cases r
 exact assignInOrder_nil ⟨σ,H,I,h⟩
theorem fL{e:Expr}{es:List Expr}{t:TG}{u:iK}(h1:PG X e t)(h2:n4 X es u)
  (hs:(assignEach (e::es) X.env).map (·.2)=assign e X.env::(assignEach es X.env).map (·.2):=by rfl):n4 X (e::es) (A6 t u):=by
 intro pins s σ H vs us Q I r h
 obtain ⟨v,vr,e1,h⟩:=h
 subst e1
 cases r with
 | cons r rr=>
  rw [hs]
  refine assignInOrder_cons (aw (h1 pins s σ H _ _ _ I r h) fun _ s1 ⟨σ1,H1,I1,q1⟩=>?_)
  exact h2 pins s1 σ1 H1 _ _ Q I1 rr q1
def A7(K:PySem.W.Frag)(n:Nat)(t:iK):TG:=fun v σ H Q=>∃a xs,v=.ref a∧cK K H a xs∧xs.length=n∧t xs σ H Q
theorem lZ{es:List Expr}{k:Nat}{t:iK}{n:Nat}(hc:X.calm=true)(h:n4 X es t)
  (hn:(assignEach es X.env).length=n:=by rfl) (qZ:(assignEach es X.env).findIdx? (·.1)=none:=by rfl):PG X (.Tuple es k pos) (A7 X.K n t):=by
 intro pins s σ H v u Q I r hw
 obtain ⟨a,xs,e1,hq,hl,hw⟩:=hw
 subst e1
 cases r
 obtain ⟨aa,rv,ht,hz⟩:=I.tuple hq
 refine assign_Tuple_tuple (I.ok.hd hc) ht (by simp [hn,←hl,rv.length]) qZ fun h' hx=>?_
 have I1:Inv X pins σ H {s with heap:=h'}:=I.kept (t':=s.toks) fun b o e=>hx b o (Nat.ne_of_lt (Heap.lt_size e)) e
 exact h pins _ σ H xs _ Q I1 (by simpa using rv) hw
def A8(to ti:TE)(t:qY):TG:=fun v σ H Q=>to σ H fun o H1=>ti σ H1 fun i H2=>t o i v H2 fun H3=>Q σ H3
theorem l5{o i:Expr}{to ti:TE}{t:qY}(ho:PE X o to)(hi:PE X i ti)(hs:vD X t)
  (ha:∀v,assign (.Subscript o i pos) X.env v=(do
   let ov ←holding [v] (eval o X.env)
   let iv ←holding [v,ov] (eval i X.env)
   standAt pos
   holding [v,ov,iv] (setItem ov iv v)
   release [v,ov,iv] []):=by intro _;rfl):PG X (.Subscript o i pos) (A8 to ti t):=by
 intro pins s σ H v u Q I r h
 rw [ha]
 refine wpAny_bind (wpAny_holding (aw (ho pins s σ H _ I h) fun ov s1 ⟨x,H1,I1,r1,q1⟩=>?_))
 refine wpAny_bind (wpAny_holding (aw (hi pins s1 σ H1 _ I1 q1) fun iv s2 ⟨y,H2,I2,r2,q2⟩=>?_))
 refine wpAny_bind (wpAny_standAt (wpAny_bind (wpAny_holding (aw (hs pins s2 σ H2 x y v ov iv u _ I2 r1 r2 r q2) fun _ s3 ⟨H3,I3,q3⟩=>?_))))
 exact wpAny_release ⟨σ,H3,I3,q3⟩
def jK(te:TE)(g:TG):TS:=fun D σ H=>te σ H fun x H1=>g x σ H1 D.nx
theorem l6{tg e:Expr}{te:TE}{g:TG}(he:PE X e te)(hg:PG X tg g)(hs:swapsWithSole [tg] e pos.line X.env=pure false:=by rfl)(hw:swappedStores [tg] e X.env=pure none:=by rfl)
  (h1:(assignEach [tg] X.env).map (·.2)=[assign tg X.env]:=by rfl):PS X (.Assign [tg] e pos) (jK te g):=by
 intro pins s σ H D I h
 refine wpAny_Assign_stores (aw (he pins s σ H _ I h) fun v s1 ⟨x,H1,I1,r1,q1⟩=>?_) hs hw
 rw [h1]
 exact aw (hg pins s1 σ H1 x v _ I1 r1 q1) fun _ s2 q=>q
theorem A9{i:Nat}{x:Str}{e:Expr}{te:TE}{pos':Pos}(hN:X.N.Nodup)(hi:X.N[i]?=some x)(hx:Loc X.env.scope x)(he:PE X e te)(hs:swapsWith e (some (.Name x pos')) pos.line X.env=pure false:=by rfl)(hf:X.fn x=true∨X.env.scope.names.lookup x=some .local:=by first | exact .inl rfl | exact .inr rfl | assumption) :
  PS X (.Assign [.Name x pos'] e pos) (jK te (aI i)):=by
 intro pins s σ H D I h
 refine wpAny_Assign_Name (aw (he pins s σ H _ I h) fun v s1 ⟨y,H1,I1,r1,q1⟩=>?_) hs
 exact vt I1 hN hi hx r1 (fun s2 I2=>⟨_,H1,I2,q1⟩) hf
end
section
variable {X:Cx} {pos:Pos}
def A_(c:TT)(tb:TS):TS:=fun D σ H=>∃W:Nat→St→Hp→Prop,(∃m,W m σ H)∧∀m σ H,W m σ H→
 c σ H fun b H1=>if b=true then ∃N:St→Hp→Prop,(∀σ' H',N σ' H'→∃m',m'<m∧W m' σ' H')∧tb {D with nx:=N,ct:=N,bk:=D.nx} σ H1 else D.nx σ H1
theorem q5{c:Expr}{body:List Stmt}{tc:TT}{tb:TS}(hp:PassesOwn (model X.prog X.w) X.A X.env X.xe)(hc:PT X c tc)(hb:dm X body tb):PS X (.While c body [] pos) (A_ tc tb):=by
 intro pins s σ H D I h
 obtain ⟨W,⟨m0,w0⟩,turn⟩:=h
 refine wpAny_While (codeAny_whileLoop (fun n s'=>∃σ' H',Inv X pins σ' H' s'∧W n σ' H') ?_ m0 ⟨σ,H,I,w0⟩)
 rintro n s1 ⟨σ1,H1,I1,w1⟩
 refine wpAny_passesOwn hp (aw (hc pins s1 σ1 H1 _ I1 (turn n σ1 H1 w1)) fun b s2 ⟨H2,I2,q2⟩=>?_)
 cases b with
 | true=>
  obtain ⟨N,hN,q2⟩:=q2
  rw [if_pos rfl]
  refine wpAny_passesOwn hp (aw (hb pins s2 σ1 H2 _ I2 q2) fun f s3 q3=>?_)
  cases f with
  | next=>
   obtain ⟨σ3,H3,I3,n3⟩:=q3
   obtain ⟨m',hm,w3⟩:=hN σ3 H3 n3
   exact ⟨m',hm,σ3,H3,I3,w3⟩
  | cont=>
   obtain ⟨σ3,H3,I3,n3⟩:=q3
   obtain ⟨m',hm,w3⟩:=hN σ3 H3 n3
   exact ⟨m',hm,σ3,H3,I3,w3⟩
  | brk=>exact q3
  | ret v=>exact q3
 | false=>
  rw [if_neg Bool.false_ne_true]
  exact wpAny_execs_nil ⟨σ1,H2,I2,q2⟩
end
structure It where
 go:Nat→Hp→Prop
 cQ:Nat→Hp→V→Hp→Prop
 stop:Nat→Hp→Prop
def gc(X:Cx)(pins:List (Addr×Obj))(H:Hp)(b:Addr):Prop:=
 H b=none∧b≠X.env.locals∧b∉X.fs∧(b∈X.ex∨X.s₀.heap.objs.size≤b)∧(∀x c,X.env.cells.lookup x=some c→c≠b)∧∀p∈X.pn++pins,p.1≠b
theorem Inv.l7{X:Cx}{pins:List (Addr×Obj)}{σ:St}{H H':Hp}{s:Shared}{b:Addr}(I:Inv X pins σ H s)(hb:s.heap.objs.size≤b)(hn:H' b=none):gc X pins H' b:=by
 refine ⟨hn,Nat.ne_of_gt (Nat.lt_of_lt_of_le I.lt hb),I.AI hb,.inr (Nat.le_trans I.sz hb),fun x c e z=>?_,fun p hp z=>?_⟩
 ·obtain ⟨v,q⟩:=I.cell x c e
  exact absurd (Nat.lt_of_lt_of_le q.lt (by rw [z];exact hb)) (Nat.lt_irrefl _)
 ·exact absurd (Nat.lt_of_lt_of_le (Heap.lt_size (I.pin p hp).1) (by rw [z];exact hb)) (Nat.lt_irrefl _)
structure Turn (P:Program) (w:World) (K:PySem.W.Frag) (tg:Expr) (J:It) (fp:List Addr) (it:Addr) (tn:Nat→Heap→Prop):Prop where
 mem:it∈fp
 obj:∀i h,tn i h→∀b∈fp,∃o,h.get? b=some o∧∀v,o.data≠.cell v
 keep:∀i h h',tn i h→(∀b∈fp,∀o,h.get? b=some o→h'.get? b=some o)→tn i h'
 item:∀(X:Cx),X.prog=P→X.w=w→X.K=K→X.calm=true→∀(i:Nat) (pins:List (Addr×Obj)) (s:Shared) (σ:St) (H:Hp) (E:Value→Shared→Prop),Inv X pins σ H s→(∀b∈fp,gc X pins H b)→tn i s.heap→J.go i H→
  wpAny (model P w) X.A (pyNext (.ref it)) (fun r s1=>∃u,r=some u ∧
   wpAny (model P w) X.A (letOwnedTupleGo tg (.ref it) u) (fun _ s2=>∃x H',Inv X pins σ H' s2∧RelV x u∧J.cQ i H x H'∧tn (i+1) s2.heap∧∀b∈fp,H' b=none) E s1) E s
 done:∀(X:Cx),X.prog=P→X.w=w→X.K=K→X.calm=true→∀(i:Nat) (pins:List (Addr×Obj)) (s:Shared) (σ:St) (H:Hp) (E:Value→Shared→Prop),Inv X pins σ H s→(∀b∈fp,gc X pins H b)→tn i s.heap→J.stop i H→
  wpAny (model P w) X.A (pyNext (.ref it)) (fun r s1=>r=none∧Inv X pins σ H s1) E s
 self:∀(A:Around) (i:Nat) (s:Shared) (Q:Value→Shared→Prop) (E:Value→Shared→Prop),tn i s.heap→Q (.ref it) s→wpAny (model P w) A (pyIter (.ref it)) Q E s
abbrev TI:=St→Hp→(It→Hp→Prop)→Prop
def q8(X:Cx)(pins:List (Addr×Obj))(σ:St)(tg:Expr)(R:It→Hp→Prop)(l8:Value)(s2:Shared):Prop:=
 ∃(it:Addr) (fp:List Addr) (tn:Nat→Heap→Prop) (J:It) (H':Hp),l8=.ref it∧Inv X pins σ H' s2∧Turn X.prog X.w X.K tg J fp it tn∧tn 0 s2.heap∧(∀b∈fp,gc X pins H' b)∧R J H'
def PI(X:Cx)(tg iter:Expr)(wi:TI):Prop:=
 ∀(pins:List (Addr×Obj)) (s:Shared) (σ:St) (H:Hp) (R:It→Hp→Prop),Inv X pins σ H s→wi σ H R→
  wpAny (model X.prog X.w) X.A (eval iter X.env) (fun v s1=>wpAny (model X.prog X.w) X.A (pyIter v) (q8 X pins σ tg R) X.xe s1) X.xe s
theorem n5{M:Model}{A:Around}{E:Value→Shared→Prop}{s:Shared}{tg:Expr}{it:Addr}{u:Value}{o:Obj}{n:String}{vs:Array Value}{Q:Unit→Shared→Prop}(ho:s.heap.get? it=some o)(hc:o.cls=.type n)(hd:o.data=.fields vs)
    (hn:["enumerate","zip","dict_itemiterator","dict_reverseitemiterator","odict_iterator","itertools.zip_longest","itertools.pairwise"].contains n=false) (hQ:Q () s):wpAny M A (letOwnedTupleGo tg (.ref it) u) Q E s:=by
  unfold letOwnedTupleGo
  cases tg <;> first
    | exact wpAny_pure hQ
    | (cases u <;> first
        | exact wpAny_pure hQ
        | (refine wpAny_bind (wpAny_load ho ?_)
           rw [hc,hd]
           show wpAny M A (if (["enumerate","zip","dict_itemiterator","dict_reverseitemiterator","odict_iterator","itertools.zip_longest","itertools.pairwise"].contains n && vs[0]? == some (rawInt _))=true then _ else _) Q E s
           rw [if_neg (by intro h;rw [hn,Bool.false_and] at h;cases h)]
           exact wpAny_pure hQ))
def iL(K:PySem.W.Frag)(a:Addr):It:=
 ⟨fun i H=>∃xs x,aS K H a xs∧xs[i]?=some x,fun i H x H'=>H'=H∧∀xs,aS K H a xs→xs[i]?=some x,fun i H=>∃xs,aS K H a xs∧xs.length≤i⟩
def l9(K:PySem.W.Frag)(a:Addr):It:=
 ⟨fun i H=>∃xs x,cK K H a xs∧xs[i]?=some x,fun i H x H'=>H'=H∧∀xs,cK K H a xs→xs[i]?=some x,fun i H=>∃xs,cK K H a xs∧xs.length≤i⟩
def gN(lo:Int)(n:Nat):It:=⟨fun i _=>i<n,fun i H x H'=>H'=H∧x=.int (lo+i),fun i _=>n≤i⟩
theorem Ba{P:Program}{w:World}{K:PySem.W.Frag}{tg:Expr}(a it:Addr):Turn P w K tg (iL K a) [it] it (fun i h=>h.IsListIter it a i) where
 mem:=by simp
 obj:=fun i h st b hb=>by
  have e:b=it:=by simpa using hb
  subst e
  obtain ⟨o,e,c,d⟩:=st
  exact ⟨o,e,fun v z=>by rw [d] at z;cases z⟩
 keep:=fun i h h' st k=>st.at fun o e=>k it (by simp) o e
 item:=by
  intro X hP hw hK hc i pins s σ H E I hf st hg
  subst hP hw hK
  obtain ⟨xs,x,hq,hx⟩:=hg
  obtain ⟨aa,rv,p,hz⟩:=I.list hq
  obtain ⟨u,hu,ru⟩:=rv.get hx
  obtain ⟨f0,f1,f2,f3,f4,f5⟩:=hf it (by simp)
  refine wpAny_pyNext_list_item st p.isList (x:=u) (by simpa using hu) fun h' ak sb=>?_
  have I1:Inv X pins σ H {s with heap:=h'}:=I.turned (t':=s.toks) (fun b o hb e=>(sb.2 b hb).trans e) f0 f1 f3 f4 f5
  obtain ⟨o,e,c,d⟩:=id ak
  exact ⟨u,rfl,n5 (s:={s with heap:=h'}) e c d (by decide) ⟨x,H,I1,ru,⟨rfl,fun ys hy=>by rw [I.vB hy hq];exact hx⟩,ak,fun b hb=>(hf b hb).1⟩⟩
 done:=by
  intro X hP hw hK hc i pins s σ H E I hf st hg
  subst hP hw hK
  obtain ⟨xs,hq,hx⟩:=hg
  obtain ⟨aa,rv,p,hz⟩:=I.list hq
  obtain ⟨f0,f1,f2,f3,f4,f5⟩:=hf it (by simp)
  have hl:=rv.length
  exact wpAny_pyNext_list_end (I.ok.hd hc) st p.isList (by simp;omega) fun h' eb=>⟨rfl,I.turned (t':=s.toks) (fun b o hb e=>eb b o hb e) f0 f1 f3 f4 f5⟩
 self:=fun _ _ _ _ _ st h=>wpAny_pyIter_listiter st h
theorem Bb{P:Program}{w:World}{K:PySem.W.Frag}{tg:Expr}(a it:Addr):Turn P w K tg (l9 K a) [it] it (fun i h=>h.IsTupleIter it a i) where
 mem:=by simp
 obj:=fun i h st b hb=>by
  have e:b=it:=by simpa using hb
  subst e
  obtain ⟨o,e,c,d⟩:=st
  exact ⟨o,e,fun v z=>by rw [d] at z;cases z⟩
 keep:=fun i h h' st k=>st.at fun o e=>k it (by simp) o e
 item:=by
  intro X hP hw hK hc i pins s σ H E I hf st hg
  subst hP hw hK
  obtain ⟨xs,x,hq,hx⟩:=hg
  obtain ⟨aa,rv,p,hz⟩:=I.tuple hq
  obtain ⟨u,hu,ru⟩:=rv.get hx
  obtain ⟨f0,f1,f2,f3,f4,f5⟩:=hf it (by simp)
  refine wpAny_pyNext_tuple_item st (show s.heap.IsTuple a aa.toArray from p) (x:=u) (by simpa using hu) fun h' ak sb=>?_
  have I1:Inv X pins σ H {s with heap:=h'}:=I.turned (t':=s.toks) (fun b o hb e=>(sb.2 b hb).trans e) f0 f1 f3 f4 f5
  obtain ⟨o,e,c,d⟩:=id ak
  exact ⟨u,rfl,n5 (s:={s with heap:=h'}) e c d (by decide) ⟨x,H,I1,ru,⟨rfl,fun ys hy=>by rw [I.A2 hy hq];exact hx⟩,ak,fun b hb=>(hf b hb).1⟩⟩
 done:=by
  intro X hP hw hK hc i pins s σ H E I hf st hg
  subst hP hw hK
  obtain ⟨xs,hq,hx⟩:=hg
  obtain ⟨aa,rv,p,hz⟩:=I.tuple hq
  obtain ⟨f0,f1,f2,f3,f4,f5⟩:=hf it (by simp)
  have hl:=rv.length
  exact wpAny_pyNext_tuple_end (I.ok.hd hc) st (show s.heap.IsTuple a aa.toArray from p) (by simp;omega) fun h' eb=>⟨rfl,I.turned (t':=s.toks) (fun b o hb e=>eb b o hb e) f0 f1 f3 f4 f5⟩
 self:=fun _ _ _ _ _ st h=>wpAny_pyIter_tupleiter st h
theorem Bc{P:Program}{w:World}{K:PySem.W.Frag}{tg:Expr}(it:Addr)(lo:Int)(n:Nat):Turn P w K tg (gN lo n) [it] it (fun i h=>IsRangeIter h it (lo+(i:Nat)*1) ((n:Int)-(i:Nat)) 1) where
 mem:=by simp
 obj:=fun i h st b hb=>by
  have e:b=it:=by simpa using hb
  subst e
  exact ⟨_,st,fun v z=>by
   have z':Data.fields _=Data.cell v:=z
   cases z'⟩
 keep:=fun i h h' st k=>k it (by simp) _ st
 item:=by
  intro X hP hw hK hc i pins s σ H E I hf st hg
  subst hP hw hK
  obtain ⟨f0,f1,f2,f3,f4,f5⟩:=hf it (by simp)
  have W:=Walks.range (prog:=X.prog) (w:=X.w) (I.ok.hd hc) it lo 1 n
  refine W.item i s _ _ hg st fun v h' tk hv ak kk=>?_
  obtain ⟨t,rfl⟩:=hv
  have I1:Inv X pins σ H {s with heap:=h',toks:=tk}:=I.turned (fun b o hb e=>kk b o (by simpa using hb) e) f0 f1 f3 f4 f5
  refine ⟨_,rfl,n5 (s:={s with heap:=h',toks:=tk}) (n:="range_iterator") ak rfl rfl (by decide) ⟨.int (lo+i),H,I1,⟨t,?_⟩,⟨rfl,rfl⟩,ak,fun b hb=>(hf b hb).1⟩⟩
  rw [Int.mul_one]
 done:=by
  intro X hP hw hK hc i pins s σ H E I hf st hg
  subst hP hw hK
  obtain ⟨f0,f1,f2,f3,f4,f5⟩:=hf it (by simp)
  exact wpAny_pyNext_range_end (I.ok.hd hc) st (by have:n≤i:=hg;omega) fun h' eb=>⟨rfl,I.turned (t':=s.toks) (fun b o hb e=>eb b o hb e) f0 f1 f3 f4 f5⟩
 self:=fun _ _ _ _ _ st h=>wpAny_pyIter_rangeiter st h
section
variable {X:Cx} {tg:Expr}
def vE(K:PySem.W.Frag)(tl:TE):TI:=fun σ H R=>tl σ H fun x H1=>∃a,x=.ref a∧(∃xs,aS K H1 a xs)∧R (iL K a) H1
def Bd(K:PySem.W.Frag)(tl:TE):TI:=fun σ H R=>tl σ H fun x H1=>∃a,x=.ref a∧(∃xs,cK K H1 a xs)∧R (l9 K a) H1
theorem cZ{l:Expr}{tl:TE}(hl:PE X l tl):PI X tg l (vE X.K tl):=by
 intro pins s σ H R I h
 refine aw (hl pins s σ H _ I h) fun v s1 ⟨x,H1,I1,r1,q1⟩=>?_
 obtain ⟨a,e,⟨xs,hq⟩,q⟩:=q1
 subst e
 cases r1
 obtain ⟨aa,rv,p,hz⟩:=I1.list hq
 refine wpAny_pyIter_list p.isList ?_
 refine ⟨s1.heap.objs.size,[s1.heap.objs.size],_,_,H1,rfl,I1.kept (t':=s1.toks) fun b o e=>Heap.get?_push_of_some _ e,Ba a _,⟨_,Heap.get?_push_size _ rfl,rfl,rfl⟩,fun b hb=>?_,q⟩
 have e:b=s1.heap.objs.size:=by simpa using hb
 subst e
 exact I1.l7 (Nat.le_refl _) (I1.ar.fresh (Nat.le_refl _))
theorem vF{l:Expr}{tl:TE}(hl:PE X l tl):PI X tg l (Bd X.K tl):=by
 intro pins s σ H R I h
 refine aw (hl pins s σ H _ I h) fun v s1 ⟨x,H1,I1,r1,q1⟩=>?_
 obtain ⟨a,e,⟨xs,hq⟩,q⟩:=q1
 subst e
 cases r1
 obtain ⟨aa,rv,p,hz⟩:=I1.tuple hq
 refine wpAny_pyIter_tuple (show s1.heap.IsTuple a aa.toArray from p) ?_
 refine ⟨s1.heap.objs.size,[s1.heap.objs.size],_,_,H1,rfl,I1.kept (t':=s1.toks) fun b o e=>Heap.get?_push_of_some _ e,Bb a _,⟨_,Heap.get?_push_size _ rfl,rfl,rfl⟩,fun b hb=>?_,q⟩
 have e:b=s1.heap.objs.size:=by simpa using hb
 subst e
 exact I1.l7 (Nat.le_refl _) (I1.ar.fresh (Nat.le_refl _))
theorem vG{pins:List (Addr×Obj)}{σ:St}{H:Hp}{s:Shared}{R:It→Hp→Prop}{E:Value→Shared→Prop}{lo hi:Int}{t u v:Tok}{tk:Nat}(I:Inv X pins σ H s)(h1:-(2 ^ 62)≤lo)(h2:lo<2 ^ 62)(h3:-(2 ^ 62)≤hi)(h4:hi<2 ^ 62)
  (q:R (gN lo (hi-lo).toNat) H):wpAny (model X.prog X.w) X.A (pyIter (.ref s.heap.objs.size)) (q8 X pins σ tg R) E {s with heap:=s.heap.push {cls:=.type "range",data:=.fields #[.int lo t,.int hi u,.int 1 v]},toks:=tk}:=by
 refine wpAny_pyIter_range (IsRange.new ..) (small_one h1 h2 h3 h4) ?_
 have I1:Inv X pins σ H {s with heap:=s.heap.push {cls:=.type "range",data:=.fields #[.int lo t,.int hi u,.int 1 v]},toks:=tk}:=I.kept fun b o e=>Heap.get?_push_of_some _ e
 refine ⟨(s.heap.push {cls:=.type "range",data:=.fields #[.int lo t,.int hi u,.int 1 v]}).objs.size,[(s.heap.push {cls:=.type "range",data:=.fields #[.int lo t,.int hi u,.int 1 v]}).objs.size],_,_,H,rfl,
  I1.kept (t':=tk) fun b o e=>Heap.get?_push_of_some _ e,Bc _ lo (hi-lo).toNat,?_,fun b hb=>?_,q⟩
 ·have e1:lo+((0:Nat):Int)*1=lo:=by simp
  have e2:(((hi-lo).toNat:Nat):Int)-((0:Nat):Int)=Builtin.Range.rangeSize lo hi 1:=by rw [rangeSize_one];split <;> omega
  show IsRangeIter _ _ (lo+((0:Nat):Int)*1) ((((hi-lo).toNat:Nat):Int)-((0:Nat):Int)) 1
  rw [e1,e2]
  exact Heap.get?_push_size _ rfl
 ·have e:b=(s.heap.push {cls:=.type "range",data:=.fields #[.int lo t,.int hi u,.int 1 v]}).objs.size:=by simpa using hb
  subst e
  exact I1.l7 (Nat.le_refl _) (I1.ar.fresh (Nat.le_refl _))
def Be(ta:TA):TI:=fun σ H R=>ta σ H fun vs H1=>∃j:Int,vs=[.int j]∧-(2 ^ 62)≤j∧j<2 ^ 62∧R (gN 0 j.toNat) H1
def Bf(ta:TA):TI:=fun σ H R=>ta σ H fun vs H1=>∃i j:Int,vs=[.int i,.int j]∧(-(2 ^ 62)≤i∧i<2 ^ 62∧-(2 ^ 62)≤j∧j<2 ^ 62)∧R (gN i (j-i).toNat) H1
theorem jL{a:Expr}{ta:TA}{p pos:Pos}(hg:Gl X "range")(hm:X.mg "range" = none)(ha:PA X [a] ta)(hs:starEach [a] X.env=[(false,eval a X.env)]:=by rfl):PI X tg (.Call (.Name "range" p) [a] [] pos) (Be ta):=by
 intro pins s σ H R I h
 refine Call_ (jJ I hg hm boot_range (PyProof.Rows.callWith_type1 (aw (ha pos pins s σ H _ I h) fun us s1 ⟨vs,H1,I1,r1,q1⟩=>?_) hs rfl))
 obtain ⟨j,e,q1,q2,q⟩:=q1
 subst e
 cases r1 with
 | cons r rr=>
  cases rr
  obtain ⟨t,rfl⟩:=r
  exact call_range_1 (vG I1 (by omega) (by omega) q1 q2 (by simpa using q))
theorem Bg{a b:Expr}{ta:TA}{p pos:Pos}(hg:Gl X "range")(hm:X.mg "range" = none)(ha:PA X [a,b] ta)(hs:starEach [a,b] X.env=[(false,eval a X.env),(false,eval b X.env)]:=by rfl)(n6:starEach [b] X.env=[(false,eval b X.env)]:=by rfl) :
  PI X tg (.Call (.Name "range" p) [a,b] [] pos) (Bf ta):=by
 intro pins s σ H R I h
 refine Call_ (jJ I hg hm boot_range (PyProof.Rows.callWith_type1 (aw (ha pos pins s σ H _ I h) fun us s1 ⟨vs,H1,I1,r1,q1⟩=>?_) (by rw [hs,n6]) (by rw [n6];rfl)))
 obtain ⟨i,j,e,⟨q1,q2,q3,q4⟩,q⟩:=q1
 subst e
 cases r1 with
 | cons r rr=>
  cases rr with
  | cons r' rr=>
   cases rr
   obtain ⟨t,rfl⟩:=r
   obtain ⟨t',rfl⟩:=r'
   exact call_range_2 (vG I1 q1 q2 q3 q4 q)
def Bh(wi:TI)(g:TG)(tb:TS):TS:=fun D σ H=>wi σ H fun J H1=>∃W:Nat→Nat→St→Hp→Prop,(∃m,W 0 m σ H1)∧∀i m σ H,W i m σ H→
 (J.stop i H∧D.nx σ H)∨(J.go i H∧∃N:St→Hp→Prop,(∀σ' H',N σ' H'→∃m',m'<m∧W (i+1) m' σ' H')∧∀x H',J.cQ i H x H'→g x σ H' fun σ2 H2=>tb {D with nx:=N,ct:=N,bk:=D.nx} σ2 H2)
def fM(fp:List Addr)(h:Heap):List (Addr×Obj):=fp.filterMap fun b=>(h.get? b).map fun o=>(b,o)
theorem gO{fp:List Addr}{h:Heap}{b:Addr}{o:Obj}(hb:b∈fp)(e:h.get? b=some o):(b,o)∈fM fp h:=List.mem_filterMap.mpr ⟨b,hb,by rw [e];rfl⟩
theorem Bi{fp:List Addr}{h:Heap}{p:Addr×Obj}(hp:p∈fM fp h):p.1∈fp∧h.get? p.1=some p.2:=by
 obtain ⟨b,hb,e⟩:=List.mem_filterMap.mp hp
 cases q:h.get? b with
 | none=>rw [q] at e;cases e
 | some o=>
  rw [q] at e
  have e':(b,o)=p:=Option.some.inj e
  subst e'
  exact ⟨hb,q⟩
theorem Inv.pinned{pins:List (Addr×Obj)}{σ:St}{H:Hp}{s:Shared}{fp:List Addr}(I:Inv X pins σ H s)(hf:∀b∈fp,gc X pins H b)(ho:∀b∈fp,∃o,s.heap.get? b=some o∧∀v,o.data≠.cell v):Inv X (pins++fM fp s.heap) σ H s:=
 I.vg fun p hp=>(List.mem_append.mp hp).elim (fun z=>I.pin p (List.mem_append_right _ z)) fun z=>by
  obtain ⟨hb,e⟩:=Bi z
  obtain ⟨f0,f1,f2,_⟩:=hf p.1 hb
  obtain ⟨o,e',d⟩:=ho p.1 hb
  rw [e] at e';cases e'
  exact ⟨e,f0,f1,f2,d⟩
theorem Inv.jM{pins pl:List (Addr×Obj)}{σ:St}{H:Hp}{s:Shared}(I:Inv X (pins++pl) σ H s):Inv X pins σ H s:=I.vg fun p hp=>I.pin p (List.mem_append_right _ (List.mem_append_left _ hp))
theorem cR{iter:Expr}{body:List Stmt}{wi:TI}{g:TG}{tb:TS}{pos:Pos}(hp:PassesOwn (model X.prog X.w) X.A X.env X.xe)(hc:X.calm=true)(hi:PI X tg iter wi)(hg:PG X tg g)(hb:dm X body tb)
  (hs:∀x,foldedSetIterable iter X.env x=pure x:=by intro _;rfl):PS X (.For tg iter body [] pos) (Bh wi g tb):=by
 intro pins s σ H D I h
 refine wpAny_For (aw (hi pins s σ H _ I h) fun v s1 h1=>aw h1 fun l8 s2 h2=>?_) hs
 obtain ⟨it,fp,tn,J,H2,e,I2,T,d6,f2,W,⟨m0,w0⟩,turn⟩:=h2
 subst e
 have dr:∀{H':Hp},(∀b∈fp,H' b=none)→∀b∈fp,gc X pins H' b:=fun hn b hb=>⟨hn b hb,(f2 b hb).2⟩
 refine codeAny_forLoop_any (fun n s'=>∃i σ' H',Inv X pins σ' H' s'∧tn i s'.heap∧(∀b∈fp,H' b=none)∧W i n σ' H') ?_ m0 ⟨0,σ,H2,I2,d6,fun b hb=>(f2 b hb).1,w0⟩
 rintro n s3 ⟨i,σ3,H3,I3,vH,vI,w3⟩
 rcases turn i n σ3 H3 w3 with ⟨stop,qn⟩ | ⟨go,N,hN,step⟩
 ·refine wpAny_passesOwn hp (aw (T.done X rfl rfl rfl hc i pins s3 σ3 H3 X.xe I3 (dr vI) vH stop) fun r s4 ⟨hr,I4⟩=>?_)
  subst hr
  exact wpAny_execs_nil ⟨σ3,H3,I4,qn⟩
 ·refine wpAny_passesOwn hp (aw (T.item X rfl rfl rfl hc i pins s3 σ3 H3 X.xe I3 (dr vI) vH go) fun r s4 ⟨u,hr,h4⟩=>?_)
  subst hr
  refine wpAny_passesOwn hp (aw h4 fun _ s5 ⟨x,H5,I5,r5,y5,dt,iM⟩=>?_)
  have iO:=I5.pinned (dr iM) (T.obj _ _ dt)
  refine wpAny_passesOwn hp (aw (hg _ s5 σ3 H5 x u _ iO r5 (step x H5 y5)) fun _ s6 ⟨σ6,H6,I6,q6⟩=>?_)
  refine wpAny_passesOwn hp (aw (hb _ s6 σ6 H6 _ I6 q6) fun f s7 q7=>?_)
  have again:∀{σ7:St} {H7:Hp},Inv X (pins++fM fp s5.heap) σ7 H7 s7→N σ7 H7→∃m,m<n∧∃i σ' H',Inv X pins σ' H' s7∧tn i s7.heap∧(∀b∈fp,H' b=none)∧W i m σ' H':=fun{σ7 H7} I7 n7=>by
   obtain ⟨m',hm,w7⟩:=hN σ7 H7 n7
   refine ⟨m',hm,i+1,σ7,H7,I7.jM,T.keep _ _ _ dt fun b hb o e=>(I7.pin (b,o) (List.mem_append_right _ (List.mem_append_right _ (gO hb e)))).1,fun b hb=>?_,w7⟩
   obtain ⟨o,e,d⟩:=T.obj _ _ dt b hb
   exact (I7.pin (b,o) (List.mem_append_right _ (List.mem_append_right _ (gO hb e)))).2.1
  cases f with
  | next=>obtain ⟨σ7,H7,I7,n7⟩:=q7;exact again I7 n7
  | cont=>obtain ⟨σ7,H7,I7,n7⟩:=q7;exact again I7 n7
  | brk=>obtain ⟨σ7,H7,I7,q7⟩:=q7;exact ⟨σ7,H7,I7.jM,q7⟩
  | ret v=>obtain ⟨x7,σ7,H7,I7,r7,q7⟩:=q7;exact ⟨x7,σ7,H7,I7.jM,r7,q7⟩
end
theorem gP{K:PySem.W.Frag}{a:Addr}{xs:List V}{g:TG}{tb:TS}{D:Ends}{σ:St}{H:Hp}(Pv:Nat→St→Hp→Prop)(h0:Pv 0 σ H)(hl:∀i σ H,i≤xs.length→Pv i σ H→aS K H a xs)
  (hs:∀i x σ H,xs[i]?=some x→Pv i σ H→g x σ H fun σ2 H2=>tb {D with nx:=Pv (i+1),ct:=Pv (i+1),bk:=D.nx} σ2 H2) (hd:∀σ H,Pv xs.length σ H→D.nx σ H) :
  ∃W:Nat→Nat→St→Hp→Prop,(∃m,W 0 m σ H)∧∀i m σ H,W i m σ H→
   ((iL K a).stop i H∧D.nx σ H)∨((iL K a).go i H∧∃N:St→Hp→Prop,(∀σ' H',N σ' H'→∃m',m'<m∧W (i+1) m' σ' H')∧∀x H',(iL K a).cQ i H x H'→g x σ H' fun σ2 H2=>tb {D with nx:=N,ct:=N,bk:=D.nx} σ2 H2):=by
 refine ⟨fun i m σ H=>m=xs.length-i∧i≤xs.length∧Pv i σ H,⟨xs.length,by simp,Nat.zero_le _,h0⟩,?_⟩
 rintro i m σ H ⟨rfl,hi,p⟩
 have q:=hl i σ H hi p
 by_cases a8:i<xs.length
 ·refine .inr ⟨⟨xs,xs[i],q,by simp [a8]⟩,Pv (i+1),fun σ' H' p'=>⟨xs.length-(i+1),by omega,rfl,a8,p'⟩,fun x H' y=>?_⟩
  obtain ⟨e,y⟩:=y
  subst e
  exact hs i x σ _ (y xs q) p
 ·have e:i=xs.length:=by omega
  subst e
  exact .inl ⟨⟨xs,q,Nat.le_refl _⟩,hd σ H p⟩
theorem vJ{K:PySem.W.Frag}{a:Addr}{xs:List V}{g:TG}{tb:TS}{D:Ends}{σ:St}{H:Hp}(Pv:Nat→St→Hp→Prop)(h0:Pv 0 σ H)(hl:∀i σ H,i≤xs.length→Pv i σ H→cK K H a xs)
  (hs:∀i x σ H,xs[i]?=some x→Pv i σ H→g x σ H fun σ2 H2=>tb {D with nx:=Pv (i+1),ct:=Pv (i+1),bk:=D.nx} σ2 H2) (hd:∀σ H,Pv xs.length σ H→D.nx σ H) :
  ∃W:Nat→Nat→St→Hp→Prop,(∃m,W 0 m σ H)∧∀i m σ H,W i m σ H→
   ((l9 K a).stop i H∧D.nx σ H)∨((l9 K a).go i H∧∃N:St→Hp→Prop,(∀σ' H',N σ' H'→∃m',m'<m∧W (i+1) m' σ' H')∧∀x H',(l9 K a).cQ i H x H'→g x σ H' fun σ2 H2=>tb {D with nx:=N,ct:=N,bk:=D.nx} σ2 H2):=by
 refine ⟨fun i m σ H=>m=xs.length-i∧i≤xs.length∧Pv i σ H,⟨xs.length,by simp,Nat.zero_le _,h0⟩,?_⟩
 rintro i m σ H ⟨rfl,hi,p⟩
 have q:=hl i σ H hi p
 by_cases a8:i<xs.length
 ·refine .inr ⟨⟨xs,xs[i],q,by simp [a8]⟩,Pv (i+1),fun σ' H' p'=>⟨xs.length-(i+1),by omega,rfl,a8,p'⟩,fun x H' y=>?_⟩
  obtain ⟨e,y⟩:=y
  subst e
  exact hs i x σ _ (y xs q) p
 ·have e:i=xs.length:=by omega
  subst e
  exact .inl ⟨⟨xs,q,Nat.le_refl _⟩,hd σ H p⟩
theorem l_{lo:Int}{n:Nat}{g:TG}{tb:TS}{D:Ends}{σ:St}{H:Hp}(Pv:Nat→St→Hp→Prop)(h0:Pv 0 σ H)
  (hs:∀i σ H,i<n→Pv i σ H→g (.int (lo+i)) σ H fun σ2 H2=>tb {D with nx:=Pv (i+1),ct:=Pv (i+1),bk:=D.nx} σ2 H2) (hd:∀σ H,Pv n σ H→D.nx σ H) :
  ∃W:Nat→Nat→St→Hp→Prop,(∃m,W 0 m σ H)∧∀i m σ H,W i m σ H→
   ((gN lo n).stop i H∧D.nx σ H)∨((gN lo n).go i H∧∃N:St→Hp→Prop,(∀σ' H',N σ' H'→∃m',m'<m∧W (i+1) m' σ' H')∧∀x H',(gN lo n).cQ i H x H'→g x σ H' fun σ2 H2=>tb {D with nx:=N,ct:=N,bk:=D.nx} σ2 H2):=by
 refine ⟨fun i m σ H=>m=n-i∧i≤n∧Pv i σ H,⟨n,by simp,Nat.zero_le _,h0⟩,?_⟩
 rintro i m σ H ⟨rfl,hi,p⟩
 by_cases a8:i<n
 ·refine .inr ⟨a8,Pv (i+1),fun σ' H' p'=>⟨n-(i+1),by omega,rfl,a8,p'⟩,fun x H' y=>?_⟩
  obtain ⟨e,y⟩:=y
  subst e y
  exact hs i σ _ a8 p
 ·have e:i=n:=by omega
  subst e
  exact .inl ⟨Nat.le_refl _,hd σ H p⟩
abbrev R2:=V→V→Hp→VK→Prop
def bE(X:Cx)(f:Value→Value→Sem Value)(r:R2):Prop:=
 ∀(pins:List (Addr×Obj)) (s:Shared) (σ:St) (H:Hp) (x y:V) (v u:Value) (Q:VK),Inv X pins σ H s→RelV x v→RelV y u→r x y H Q→
  wpAny (model X.prog X.w) X.A (f v u) (EP X pins σ Q) X.xe s
def q_(X:Cx)(f:Value→Sem Value)(r:V→Hp→VK→Prop):Prop:=
 ∀(pins:List (Addr×Obj)) (s:Shared) (σ:St) (H:Hp) (x:V) (v:Value) (Q:VK),Inv X pins σ H s→RelV x v→r x H Q→
  wpAny (model X.prog X.w) X.A (f v) (EP X pins σ Q) X.xe s
def d7(X:Cx)(f:Value)(r:List V→Hp→VK→Prop):Prop:=
 ∀(pins:List (Addr×Obj)) (s:Shared) (σ:St) (H:Hp) (xs:List V) (us:List Value) (Q:VK),Inv X pins σ H s→Vals xs us→r xs H Q→
  wpAny (model X.prog X.w) X.A (call f us) (EP X pins σ Q) X.xe s
def ma(r:R2)(ta tb:TE):TE:=fun σ H Q=>ta σ H fun x H1=>tb σ H1 fun y H2=>r x y H2 Q
def Bj(r:V→Hp→VK→Prop)(ta:TE):TE:=fun σ H Q=>ta σ H fun x H1=>r x H1 Q
def rI(C:Int→Int→Prop)(g:Int→Int→V):R2:=fun x y H Q=>∃i j,x=.int i∧y=.int j∧C i j∧Q (g i j) H
def gQ(g:Int→Int→V):R2:=fun x y H Q=>∃i j,x=.int i∧y=.int j∧Q (g i j) H
def rU(g:Int→V):V→Hp→VK→Prop:=fun x H Q=>∃i,x=.int i∧Q (g i) H
section
variable {X:Cx} {a b c:Expr} {ta tb tc:TE} {pos:Pos}
theorem rd(ha:PE X a ta)(hb:PE X b tb){pins:List (Addr×Obj)}{s:Shared}{σ:St}{H:Hp}{R:V→V→Hp→Prop}(I:Inv X pins σ H s)
  (h:ta σ H fun x H1=>tb σ H1 fun y H2=>R x y H2) {Q:Value→Shared→Prop} {f:Value→Value→Sem Value}
  (hf:∀v u s2 x y H2,Inv X pins σ H2 s2→RelV x v→RelV y u→R x y H2→wpAny (model X.prog X.w) X.A (f v u) Q X.xe s2) :
  wpAny (model X.prog X.w) X.A (eval a X.env) (fun v s₁=>wpAny (model X.prog X.w) X.A (eval b X.env) (fun u s₂=>wpAny (model X.prog X.w) X.A (f v u) Q X.xe s₂) X.xe s₁) X.xe s:=by
 refine aw (ha pins s σ H _ I h) fun v s1 ⟨x,H1,I1,r1,q1⟩=>?_
 refine aw (hb pins s1 σ H1 _ I1 q1) fun u s2 ⟨y,H2,I2,r2,q2⟩=>?_
 exact hf v u s2 x y H2 I2 r1 r2 q2
theorem a9{op:Operator}{r:R2}(ho:bE X (binaryOp op) r)(ha:PE X a ta)(hb:PE X b tb):PE X (.BinOp a op b pos) (ma r ta tb):=by
 intro pins s σ H Q I h
 exact wpAny_BinOp (rd ha hb I h fun v u s2 x y H2 I2 rx ry q=>ho pins s2 σ H2 x y v u Q I2 rx ry q)
theorem vK{op:UnaryOp}{r:V→Hp→VK→Prop}(ho:q_ X (unaryOp op) r)(ha:PE X a ta):PE X (.UnaryOp op a pos) (Bj r ta):=by
 intro pins s σ H Q I h
 exact UnaryOp_ (aw (ha pins s σ H _ I h) fun v s1 ⟨x,H1,I1,r1,q1⟩=>ho pins s1 σ H1 x v Q I1 r1 q1)
theorem n8{f:Value→Value→Sem Value}{C:Int→Int→Prop}{g:Int→Int→Int}
  (rule:∀(i j:Int) (t u:Tok) (s:Shared) (Q:Value→Shared→Prop) (E:Value→Shared→Prop),C i j→Q (.int (g i j) s.toks) {s with toks:=s.toks+1}→wpAny (model X.prog X.w) X.A (f (.int i t) (.int j u)) Q E s) :
  bE X f (rI C fun i j=>.int (g i j)):=by
 intro pins s σ H x y v u Q I rx ry h
 obtain ⟨i,j,rfl,rfl,hc,q⟩:=h
 obtain ⟨t,rfl⟩:=rx
 obtain ⟨t',rfl⟩:=ry
 exact rule i j t t' s _ _ hc ⟨.int (g i j),H,I.tok _,⟨_,rfl⟩,q⟩
theorem vL{f:Value→Value→Sem Value}{g:Int→Int→Int}
  (rule:∀(i j:Int) (t u:Tok) (s:Shared) (Q:Value→Shared→Prop) (E:Value→Shared→Prop),Q (.int (g i j) s.toks) {s with toks:=s.toks+1}→wpAny (model X.prog X.w) X.A (f (.int i t) (.int j u)) Q E s) :
  bE X f (gQ fun i j=>.int (g i j)):=by
 intro pins s σ H x y v u Q I rx ry h
 obtain ⟨i,j,rfl,rfl,q⟩:=h
 obtain ⟨t,rfl⟩:=rx
 obtain ⟨t',rfl⟩:=ry
 exact rule i j t t' s _ _ ⟨.int (g i j),H,I.tok _,⟨_,rfl⟩,q⟩
theorem n_{f:Value→Value→Sem Value}{g:Int→Int→Bool}
  (rule:∀(i j:Int) (t u:Tok) (s:Shared) (Q:Value→Shared→Prop) (E:Value→Shared→Prop),Q (.bool (g i j)) s→wpAny (model X.prog X.w) X.A (f (.int i t) (.int j u)) Q E s) :
  bE X f (gQ fun i j=>.bl (g i j)):=by
 intro pins s σ H x y v u Q I rx ry h
 obtain ⟨i,j,rfl,rfl,q⟩:=h
 obtain ⟨t,rfl⟩:=rx
 obtain ⟨t',rfl⟩:=ry
 exact rule i j t t' s _ _ ⟨.bl (g i j),H,I,rfl,q⟩
def Bk(i j:Int):Prop:=0≤j∧j≤1000000∧i.natAbs<2 ^ 64
def rg(i j:Int):Prop:=(-(2 ^ 64)<i∧i<2 ^ 64)∨(-(2 ^ 64)<j∧j<2 ^ 64)
theorem rg.ok{i j:Int}(h:rg i j):IntMulOk i j:=by
 rcases h with ⟨h1,h2⟩ | ⟨h1,h2⟩
 ·exact .of_left (intBits_le_64 h1 h2)
 ·exact .of_right (intBits_le_64 h1 h2)
theorem fi:bE X (binaryOp .Add) (gQ fun i j=>.int (i+j)):=vL fun _ _ _ _ _ _ _ q=>add_int q
theorem og:bE X (binaryOp .Sub) (gQ fun i j=>.int (i-j)):=vL fun _ _ _ _ _ _ _ q=>sub_int q
theorem gf:bE X (binaryOp .Mult) (rI rg fun i j=>.int (i*j)):=n8 fun _ _ _ _ _ _ _ hc q=>mul_int q hc.ok
theorem iP:bE X (binaryOp .Mod) (rI (fun _ j=>0<j) fun i j=>.int (i % j)):=n8 fun i j _ _ _ _ _ hc q=>by
 have h1:(0:Int)<j:=hc
 exact mod_int' (by omega) (by rw [Int.fmod_eq_emod_of_nonneg i (by omega)];exact q)
theorem Bl:bE X (binaryOp .Pow) (rI Bk fun i j=>.int (i ^ j.toNat)):=n8 fun _ _ _ _ _ _ _ hc q=>pow_int_small hc.1 hc.2.1 hc.2.2 q
theorem Bm{f:Value→Sem Value}{g:Int→Int}
  (rule:∀(i:Int) (t:Tok) (s:Shared) (Q:Value→Shared→Prop) (E:Value→Shared→Prop),Q (.int (g i) s.toks) {s with toks:=s.toks+1}→wpAny (model X.prog X.w) X.A (f (.int i t)) Q E s) :
  q_ X f (rU fun i=>.int (g i)):=by
 intro pins s σ H x v Q I rx h
 obtain ⟨i,rfl,q⟩:=h
 obtain ⟨t,rfl⟩:=rx
 exact rule i t s _ _ ⟨.int (g i),H,I.tok _,⟨_,rfl⟩,q⟩
theorem vM:q_ X (unaryOp .USub) (rU fun i=>.int (-i)):=Bm fun _ _ _ _ _ q=>neg_int q
end
def vO:V→V→Bool
 | .aF,.aF=>true | .aF,.int _=>true | .int _,.aF=>true | .aF,.bl _=>true | .bl _,.aF=>true | .aF,.str _=>true | .str _,.aF=>true
 | .int _,.int _=>true | .bl _,.bl _=>true | .str _,.str _=>true | .fb _,.fb _=>true
 | .int _,.str _=>true | .str _,.int _=>true | .bl _,.str _=>true | .str _,.bl _=>true
 | _,_=>false
def Bn:R2:=fun x y H Q=>vO x y=true∧Q (.bl (decide (x=y))) H
def Bo:R2:=fun x y H Q=>vO x y=true∧Q (.bl (!decide (x=y))) H
theorem vP{i j:Int}:decide (V.int i=V.int j)=(i == j):=by
 rw [Bool.eq_iff_iff]
 simp
theorem vQ{i j:Bool}:decide (V.bl i=V.bl j)=(i == j):=by
 rw [Bool.eq_iff_iff]
 simp
theorem vR{i j:Str}:decide (V.str i=V.str j)=(i == j):=by
 rw [Bool.eq_iff_iff]
 simp
theorem vS{i j:Array UInt8}:decide (V.fb i=V.fb j)=(i.toList == j.toList):=by
 rw [Bool.eq_iff_iff]
 cases i
 cases j
 simp
section
variable {X:Cx} {a b c:Expr} {ta tb tc:TE} {pos:Pos}
theorem bF{pins:List (Addr×Obj)}{σ:St}{H:Hp}{s:Shared}{Q:VK}{k k':Bool}(I:Inv X pins σ H s)(q:Q (.bl k) H)(e:k=k'):EP X pins σ Q (.bool k') s:=by
 subst e
 exact ⟨.bl k,H,I,rfl,q⟩
theorem fN:bE X (compareOp .Eq) Bn:=by
 intro pins s σ H x y v u Q I rx ry h
 obtain ⟨hs,q⟩:=h
 cases x with
 | aF=>
  cases rx
  cases y with
  | aF=>cases ry;exact PySem.EqNone.eq_none_none (bF I q (by simp))
  | bl j=>cases ry;exact PySem.EqNone.eq_none_bool (bF I q (by simp))
  | int j=>obtain ⟨t',rfl⟩:=ry;exact PySem.EqNone.eq_none_int (bF I q (by simp))
  | str j=>obtain ⟨t',rfl⟩:=ry;exact PySem.EqNone.eq_none_str (bF I q (by simp))
  | _=>exact absurd (show false=true from hs) Bool.false_ne_true
 | bl i=>
  cases rx
  cases y with
  | aF=>cases ry;exact PySem.EqNone.eq_bool_none (bF I q (by simp))
  | bl j=>cases ry;exact eq_bool (bF I q vQ)
  | str j=>obtain ⟨t',rfl⟩:=ry;exact PySem.EqMixed.eq_bool_str (bF I q (by simp))
  | _=>exact absurd (show false=true from hs) Bool.false_ne_true
 | int i=>
  obtain ⟨t,rfl⟩:=rx
  cases y with
  | aF=>cases ry;exact PySem.EqNone.eq_int_none (bF I q (by simp))
  | int j=>obtain ⟨t',rfl⟩:=ry;exact eq_int (bF I q vP)
  | str j=>obtain ⟨t',rfl⟩:=ry;exact PySem.EqMixed.eq_int_str (bF I q (by simp))
  | _=>exact absurd (show false=true from hs) Bool.false_ne_true
 | str i=>
  obtain ⟨t,rfl⟩:=rx
  cases y with
  | aF=>cases ry;exact PySem.EqNone.eq_str_none (bF I q (by simp))
  | bl j=>cases ry;exact PySem.EqMixed.eq_str_bool (bF I q (by simp))
  | int j=>obtain ⟨t',rfl⟩:=ry;exact PySem.EqMixed.eq_str_int (bF I q (by simp))
  | str j=>obtain ⟨t',rfl⟩:=ry;exact eq_str (bF I q vR)
  | _=>exact absurd (show false=true from hs) Bool.false_ne_true
 | fb i=>
  obtain ⟨t,rfl⟩:=rx
  cases y with
  | fb j=>obtain ⟨t',rfl⟩:=ry;exact PySem.W.eq_bytes (bF I q vS)
  | _=>exact absurd (show false=true from hs) Bool.false_ne_true
 | _=>cases y <;> exact absurd (show false=true from hs) Bool.false_ne_true
theorem rh:bE X (compareOp .NotEq) Bo:=by
 intro pins s σ H x y v u Q I rx ry h
 obtain ⟨hs,q⟩:=h
 cases x with
 | aF=>
  cases rx
  cases y with
  | aF=>cases ry;exact PySem.EqNone.ne_none_none (bF I q (by simp))
  | bl j=>cases ry;exact PySem.EqNone.ne_none_bool (bF I q (by simp))
  | int j=>obtain ⟨t',rfl⟩:=ry;exact PySem.EqNone.ne_none_int (bF I q (by simp))
  | str j=>obtain ⟨t',rfl⟩:=ry;exact PySem.EqNone.ne_none_str (bF I q (by simp))
  | _=>exact absurd (show false=true from hs) Bool.false_ne_true
 | bl i=>
  cases rx
  cases y with
  | aF=>cases ry;exact PySem.EqNone.ne_bool_none (bF I q (by simp))
  | bl j=>cases ry;exact ne_bool (bF I q (congrArg not vQ))
  | str j=>obtain ⟨t',rfl⟩:=ry;exact PySem.EqMixed.ne_bool_str (bF I q (by simp))
  | _=>exact absurd (show false=true from hs) Bool.false_ne_true
 | int i=>
  obtain ⟨t,rfl⟩:=rx
  cases y with
  | aF=>cases ry;exact PySem.EqNone.ne_int_none (bF I q (by simp))
  | int j=>obtain ⟨t',rfl⟩:=ry;exact ne_int (bF I q (congrArg not vP))
  | str j=>obtain ⟨t',rfl⟩:=ry;exact PySem.EqMixed.ne_int_str (bF I q (by simp))
  | _=>exact absurd (show false=true from hs) Bool.false_ne_true
 | str i=>
  obtain ⟨t,rfl⟩:=rx
  cases y with
  | aF=>cases ry;exact PySem.EqNone.ne_str_none (bF I q (by simp))
  | bl j=>cases ry;exact PySem.EqMixed.ne_str_bool (bF I q (by simp))
  | int j=>obtain ⟨t',rfl⟩:=ry;exact PySem.EqMixed.ne_str_int (bF I q (by simp))
  | str j=>obtain ⟨t',rfl⟩:=ry;exact ne_str (bF I q (congrArg not vR))
  | _=>exact absurd (show false=true from hs) Bool.false_ne_true
 | fb i=>
  obtain ⟨t,rfl⟩:=rx
  cases y with
  | fb j=>obtain ⟨t',rfl⟩:=ry;exact PySem.W.ne_bytes (bF I q (congrArg not vS))
  | _=>exact absurd (show false=true from hs) Bool.false_ne_true
 | _=>cases y <;> exact absurd (show false=true from hs) Bool.false_ne_true
theorem vT:bE X (compareOp .Lt) (gQ fun i j=>.bl (decide (i<j))):=n_ fun _ _ _ _ _ _ _ q=>lt_int q
theorem Bp:bE X (compareOp .LtE) (gQ fun i j=>.bl (decide (i≤j))):=n_ fun _ _ _ _ _ _ _ q=>le_int q
theorem oi:bE X (compareOp .Gt) (gQ fun i j=>.bl (decide (j<i))):=n_ fun _ _ _ _ _ _ _ q=>gt_int q
theorem Bq:bE X (compareOp .GtE) (gQ fun i j=>.bl (decide (j≤i))):=n_ fun _ _ _ _ _ _ _ q=>ge_int q
theorem bG(b:Expr){op:CmpOp}(h:op≠.In:=by decide)(h2:op≠.NotIn:=by decide):behindInMarks op b=false:=by
 have e1:(op == CmpOp.In)=false:=by cases op <;> first | rfl | exact absurd rfl h
 have e2:(op == CmpOp.NotIn)=false:=by cases op <;> first | rfl | exact absurd rfl h2
 cases b <;> simp [behindInMarks,e1,e2]
theorem gg{op:CmpOp}{r:R2}(ho:bE X (compareOp op) r)(ha:PE X a ta)(hb:PE X b tb)(hm:behindInMarks op b=false):PE X (.Compare a [op] [b] pos) (ma r ta tb):=by
 intro pins s σ H Q I h
 exact wpAny_Compare1 (rd ha hb I h fun v u s2 x y H2 I2 rx ry q=>ho pins s2 σ H2 x y v u Q I2 rx ry q) hm
def vU(t:TE):TT:=fun σ H Q=>t σ H fun x H'=>∃k,x=.bl k∧Q k H'
theorem bT{op:CmpOp}{r:R2}(ho:bE X (compareOp op) r)(ha:PE X a ta)(hb:PE X b tb)(hm:behindInMarks op b=false):PT X (.Compare a [op] [b] pos) (vU (ma r ta tb)):=by
 intro pins s σ H Q I h
 refine wpAny_isTrue_Compare1 (aw (ha pins s σ H _ I h) fun v s1 ⟨x,H1,I1,r1,q1⟩=>aw (hb pins s1 σ H1 _ I1 q1) fun u s2 ⟨y,H2,I2,r2,q2⟩=>
  aw (ho pins s2 σ H2 x y v u _ I2 r1 r2 q2) fun c s3 ⟨z,H3,I3,r3,k,e,q3⟩=>?_) hm
 subst e
 cases r3
 exact wpAny_truthy_bool ⟨H3,I3,q3⟩
theorem md:(sizeLine:Nat)<2 ^ 63:=by rw [sizeLine_eq];decide
theorem vals1{x:V}{us:List Value}(r:Vals [x] us):∃u,us=[u]∧RelV x u:=by
 cases r with
 | cons r1 r2=>cases r2;exact ⟨_,rfl,r1⟩
theorem vals2{x y:V}{us:List Value}(r:Vals [x,y] us):∃u w',us=[u,w']∧RelV x u∧RelV y w':=by
 cases r with
 | cons r1 r2=>
  cases r2 with
  | cons r3 r4=>cases r4;exact ⟨_,_,rfl,r1,r3⟩
theorem rj(hc:X.calm=true):d7 X (.builtin "max") (fun xs H Q=>∃i j,xs=[.int i,.int j]∧Q (.int (if j>i then j else i)) H):=by
 intro pins s σ H xs us Q I r h
 obtain ⟨i,j,rfl,q⟩:=h
 obtain ⟨u,w',rfl,⟨t,rfl⟩,⟨t',rfl⟩⟩:=vals2 r
 refine max_two_ints (I.ok.hd hc) fun h' tk k=>⟨_,H,I.kept k,?_,q⟩
 by_cases hj:j>i
 ·rw [if_pos hj,if_pos hj];exact ⟨_,rfl⟩
 ·rw [if_neg hj,if_neg hj];exact ⟨_,rfl⟩
theorem rm(hc:X.calm=true):d7 X (.builtin "min") (fun xs H Q=>∃i j,xs=[.int i,.int j]∧Q (.int (if j<i then j else i)) H):=by
 intro pins s σ H xs us Q I r h
 obtain ⟨i,j,rfl,q⟩:=h
 obtain ⟨u,w',rfl,⟨t,rfl⟩,⟨t',rfl⟩⟩:=vals2 r
 refine min_two_ints (I.ok.hd hc) fun h' tk k=>⟨_,H,I.kept k,?_,q⟩
 by_cases hj:j<i
 ·rw [if_pos hj,if_pos hj];exact ⟨_,rfl⟩
 ·rw [if_neg hj,if_neg hj];exact ⟨_,rfl⟩
end
structure rn (h:Heap) (x dx C:Addr) (mA:Str→Option Value):Prop where
 obj:h.get? x=some (PySem.W.instObj C dx)
 ns:h.Ns1 dx mA
 ne:dx≠x
theorem Br{h:Heap}{dx:Addr}{mA:Str→Option Value}(n:h.Ns1 dx mA):∃od,h.get? dx=some od∧∀name,PySem.W.lookIn name od=some (mA name):=by
 obtain ⟨o,es,ep,ho,hd,hk,_,hm⟩:=n
 refine ⟨o,ho,fun name=>?_⟩
 have e:=hm name
 unfold nsFind findBy at e
 rw [←Array.find?_toList] at e
 unfold PySem.W.lookIn
 rw [hd]
 dsimp only
 split
 ·rename_i y q
  rw [q] at e
  exact congrArg some e
 ·rename_i q
  rw [q] at e
  have a:es.toList.any (·.refKey)=false:=by
   rw [List.any_eq_false]
   intro y hy
   obtain ⟨z,t,Bs⟩:=hk y (Array.mem_toList_iff.mp hy)
   simp [DictEntry.refKey,Bs]
  have a':¬es.toList.any (·.refKey)=true:=by rw [a];exact Bool.false_ne_true
  rw [if_neg a']
  exact congrArg some e
theorem rn.look{h:Heap}{x dx C:Addr}{mA:Str→Option Value}(I:rn h x dx C mA):∃od,PySem.W.InstAt h x (PySem.W.instObj C dx) C (some od)∧∀name,PySem.W.lookIn name od=some (mA name):=
 let ⟨od,ho,hl⟩:=Br I.ns
 ⟨od,⟨I.obj,rfl,rfl,ho⟩,hl⟩
section
variable {prog:Program} {w:World} {A:Around} {E:Value→Shared→Prop} {s:Shared} {K:PySem.W.Frag} {x dx C f:Addr} {mA:Str→Option Value} {name:Str} {v:Value}
end
section
variable {P:Program} {w:World} {H H':Hp} {h h':Heap} {a C dx:Addr} {fs lK:List (Str×V)}
theorem Bt(ar:ba P w H h)(e:H a=some (.ins C dx fs)):∃mA,rn h a dx C mA∧(∀f,iD (fs.lookup f) (mA f))∧PySem.Within mA (fs.map (·.1))∧fs.length≤1000∧H dx=some (.own a):=by
 obtain ⟨d,z,ne,ob,mA,n,r,q⟩:=(show bj P w H h a (.ins C dx fs) from ar a _ e)
 exact ⟨mA,⟨ob,n,ne⟩,r,q,z,d⟩
end
structure rp (K:PySem.W.Frag) (C:Addr):Prop where
 pg:PySem.W.plainGet K C Str.empty=true
 hd:PySem.W.hasDictIn K C=true
 po:PySem.W.plainOver K C=true
 sa:PySem.W.findIn K (.ref C) "__setattr__" = some (some (.builtin "object.__setattr__"))
theorem rp.get{K:PySem.W.Frag}{C:Addr}(c:rp K C)(f:Str):PySem.W.plainGet K C f=true:=c.pg
section
variable {X:Cx} {pins:List (Addr×Obj)} {σ:St} {H:Hp} {s:Shared} {a C dx:Addr} {fs:List (Str×V)} {f:Str} {v:V} {A:Around} {E:Value→Shared→Prop}
end
section
variable {X:Cx} {o e value:Expr} {f:Str} {pos pos' oj:Pos} {ta tv:TE}
end
section
variable {X:Cx} {pins:List (Addr×Obj)} {σ:St} {H:Hp} {s:Shared} {A:Around} {E:Value→Shared→Prop} {Q:Value→Shared→Prop} {c:Value} {b:Bool}
inductive d8 (K:PySem.W.Frag) (H:Hp):V→Value→Prop where
 | aF:d8 K H .aF (.type "NoneType")
 | bl (x:Bool):d8 K H (.bl x) (.type "bool")
 | int (i:Int):d8 K H (.int i) (.type "int")
 | str (x:Str):d8 K H (.str x) (.type "str")
 | jH (x:UInt64):d8 K H (.jH x) (.type "float")
 | lst {a:Addr} {xs:List V} (e:H a=some (.lst xs)):d8 K H (.ref a) (.type "list")
 | bb {a:Addr} {o:Obj} {xs:List V} (e:H a=some (.bb o (.lst xs))):d8 K H (.ref a) (.type "list")
 | tup {a:Addr} {xs:List V} (e:H a=some (.tup xs)):d8 K H (.ref a) (.type "tuple")
 | dK {a:Addr} {ai:List (Key×V)} (e:H a=some (.dK ai)):d8 K H (.ref a) (.type "dict")
 | dT {a:Addr} {ai:List (List Key×V)} (e:H a=some (.dT ai)):d8 K H (.ref a) (.type "dict")
 | ins {a C dx:Addr} {fs:List (Str×V)} (e:H a=some (.ins C dx fs)) (cl:rp K C) (ha:PySem.W.findIn K (.ref C) "__class__" = some (some (.builtin "object.__class__")))
   (hn:PySem.W.specialIn K (.builtin "object.__class__") "__get__" = some (some (.builtin "getset_descriptor.__get__"))) (vV:PySem.W.takesIn K (.builtin "object.__class__")=some true)
   (hm:PySem.W.mroIn K C (.type "object")=some true):d8 K H (.ref a) (.ref C)
theorem Bu{x:V}{u t:Value}(I:Inv X pins σ H s)(rx:RelV x u)(ty:d8 X.K H x t)(e:PySem.W.kitOne X.K t c=some b)(h:∀tk,Q (.bool b) {s with toks:=tk}) :
  wpAny (model X.prog X.w) A (call (.builtin "isinstance") [u,c]) Q E s:=by
 cases ty with
 | aF=>cases (show u=Value.none from rx);exact PySem.W.kia_one PySem.W.kitx_none I.cC True.intro e (fun z=>nomatch z) h
 | bl y=>cases (show u=Value.bool y from rx);exact PySem.W.kia_one PySem.W.kitx_bool I.cC True.intro e (fun z=>nomatch z) h
 | int i=>obtain ⟨t,q⟩:=(show ∃t,u=Value.int i t from rx);cases q;exact PySem.W.kia_one PySem.W.kitx_int I.cC True.intro e (fun z=>nomatch z) h
 | str y=>obtain ⟨t,q⟩:=(show ∃t,u=Value.str y t from rx);cases q;exact PySem.W.kia_one PySem.W.kitx_str I.cC True.intro e (fun z=>nomatch z) h
 | jH y=>obtain ⟨t,q⟩:=(show ∃t,u=Value.float y t from rx);cases q;exact PySem.W.kia_one PySem.W.kitx_float I.cC True.intro e (fun z=>nomatch z) h
 | @lst a xs ea=>
  cases (show u=Value.ref a from rx)
  obtain ⟨_,_,n,_,h1⟩:=(show bj X.prog X.w H s.heap a (.lst xs) from I.ar a _ ea)
  exact PySem.W.kia_one PySem.W.kitx_list I.cC ⟨_,h1,rfl⟩ e (fun z=>nomatch z) h
 | @bb a ob xs ea=>
  cases (show u=Value.ref a from rx)
  obtain ⟨_,_,_,n,_,h1⟩:=(show bj X.prog X.w H s.heap a (.bb ob (.lst xs)) from I.ar a _ ea)
  exact PySem.W.kia_one PySem.W.kitx_list I.cC ⟨_,h1,rfl⟩ e (fun z=>nomatch z) h
 | @tup a xs ea=>
  cases (show u=Value.ref a from rx)
  obtain ⟨_,_,_,p⟩:=(show bj X.prog X.w H s.heap a (.tup xs) from I.ar a _ ea)
  obtain ⟨o,h1,h2,_⟩:=p
  exact PySem.W.kia_one PySem.W.kitx_tuple I.cC ⟨o,h1,h2⟩ e (fun z=>nomatch z) h
 | @dK a ai ea=>
  cases (show u=Value.ref a from rx)
  obtain ⟨_,_,vs,_,p⟩:=(show bj X.prog X.w H s.heap a (.dK ai) from I.ar a _ ea)
  obtain ⟨o,es,ep,h1,h2,_⟩:=p
  exact PySem.W.kia_one PySem.W.kitx_dict I.cC ⟨o,h1,h2.1⟩ e (fun z=>nomatch z) h
 | @dT a ai ea=>
  cases (show u=Value.ref a from rx)
  obtain ⟨_,_,xs,_,o,es,ep,h1,h2,_⟩:=(show bj X.prog X.w H s.heap a (.dT ai) from I.ar a _ ea)
  exact PySem.W.kia_one PySem.W.kitx_dict I.cC ⟨o,h1,h2.1⟩ e (fun z=>nomatch z) h
 | @ins a C dx fs ea cl ha hn vV hm=>
  cases (show u=Value.ref a from rx)
  obtain ⟨mA,O,_⟩:=Bt I.ar ea
  obtain ⟨od,J,_⟩:=O.look
  exact PySem.W.kia_one (PySem.W.kitx_own (cl.get _) cl.hd ha hn vV hm) I.cC J e (fun z=>nomatch z) h
end
structure cn (k:Nat) (A:Around):Prop where
 hd:A.handled=none
 dp:A.depth+3*k+5<recursionLimit
 un:A.units+16*k+200<cLine
theorem cn.mono{j k:Nat}{A:Around}(r:cn k A)(h:j≤k):cn j A:=⟨r.hd,by have:=r.dp;omega,by have:=r.un;omega⟩
theorem cn.deeper{k:Nat}{A:Around}(r:cn (k+1) A)(env:Env):cn k (A.deeper env):=
 ⟨r.hd,by have:=r.dp;show A.depth+1+3*k+5<_;omega,by have:=r.un;show A.units+3+16*k+200<_;omega⟩
theorem cn.depth{k:Nat}{A:Around}(r:cn k A):A.depth<recursionLimit:=by have:=r.dp;omega
theorem cn.units{k:Nat}{A:Around}(r:cn k A):A.units+64<cLine:=by have:=r.un;omega
theorem cn.Bv{k:Nat}{A:Around}(r:cn k A):A.units<cLine:=by have:=r.un;omega
def om:TA:=fun _ H Q=>Q [] H
def rq(ta:TE)(tr:TA):TA:=fun σ H Q=>ta σ H fun x H1=>tr σ H1 fun xs H2=>Q (x::xs) H2
section
variable {X:Cx} {e:Expr} {es:List Expr} {te:TE} {t:TA} {pos:Pos}
theorem ao:PA X [] om:=fun _ _ _ _ H Q I h=>Calls.spliced_nil ⟨[],H,I,.nil,h⟩
theorem Bw(ha:PE X e te)(hr:PA X es t)(hs:starEach (e::es) X.env=(false,eval e X.env)::starEach es X.env:=by rfl):PA X (e::es) (rq te t):=by
 intro pos pins s σ H Q I h
 rw [hs]
 show wpAny _ _ (spliced ((false,eval e X.env)::backTo pos (starEach es X.env))) _ _ s
 refine Calls.spliced_cons (aw (ha pins s σ H _ I h) fun u s1 ⟨x,H1,I1,r1,q1⟩=>?_)
 exact aw (hr pos pins s1 σ H1 _ I1 q1) fun us s2 ⟨xs,H2,I2,r2,q2⟩=>⟨x::xs,H2,I2,.cons r1 r2,q2⟩
def Bx(t:TA):TE:=fun σ H Q=>t σ H fun xs H1=>xs.length≤sizeLine∧∀p,H1 p=none→Q (.ref p) (upd H1 p (.tup xs))
def By(t:TA):TE:=fun σ H Q=>t σ H fun xs H1=>xs.length≤sizeLine∧∀p,H1 p=none→Q (.ref p) (upd H1 p (.lst xs))
theorem gR{x1}(h:PA X es t):PE X (.Tuple es x1 pos) (Bx t):=by
 intro pins s σ H Q I hq
 refine wpAny_Tuple_spliced (aw (h pos pins s σ H _ I hq) fun us s1 ⟨xs,H1,I1,r,z,q⟩=>⟨by rw [←r.length];exact z,?_⟩)
 have hf:H1 s1.heap.objs.size=none:=I1.ar.fresh (Nat.le_refl _)
 refine ⟨.ref s1.heap.objs.size,upd H1 s1.heap.objs.size (.tup xs),I1.laid (t':=s1.toks) (fun b u e=>Heap.get?_push_of_some _ e) (Nat.le_refl _) ?_,rfl,q _ hf⟩
 exact ⟨z,us,r,⟨_,Heap.get?_push_size _ rfl,rfl,_,rfl⟩⟩
theorem bZ(h:PA X es t):PE X (.List es pos) (By t):=by
 intro pins s σ H Q I hq
 refine wpAny_List_spliced (aw (h pos pins s σ H _ I hq) fun us s1 ⟨xs,H1,I1,r,z,q⟩=>⟨by rw [←r.length];exact z,?_⟩)
 have hf:H1 s1.heap.objs.size=none:=I1.ar.fresh (Nat.le_refl _)
 refine ⟨.ref s1.heap.objs.size,upd H1 s1.heap.objs.size (.lst xs),I1.laid (t':=s1.toks) (fun b u e=>Heap.get?_push_of_some _ e) (Nat.le_refl _) ?_,rfl,q _ hf⟩
 exact ⟨z,us,0,r,Heap.get?_push_size _ rfl⟩
end
abbrev Sp:=List V→Hp→VK→XK→Prop
abbrev du:=List Env→Hp→Shared→XK→Value→Shared→Prop
structure oq (P:Program) (w:World) (K:PySem.W.Frag) (mg:Str→Option Value) (base:Heap) (A:Around) (outer:List Env) (s:Shared) (H:Hp):Prop where
 frames:A.frames=some outer
 mod:Mod K mg base
 bs:∀b o,base.get? b=some o→s.heap.get? b=some o∧H b=none
 eL:base.objs.size≤s.heap.objs.size
 fh:s.heap.FunFrames base outer
 gH:∀b∈bt outer,H b=none
 ar:ba P w H s.heap
 bare:AllBare s.gens
def CE(outer:List Env)(P:Program)(w:World)(H:Hp)(s:Shared)(Q:VK)(u:Value)(s':Shared):Prop:=
 ∃v H',s'.os=s.os∧AllBare s'.gens∧Un (bt outer) [] H H' s.heap s'.heap∧ba P w H' s'.heap∧RelV v u∧Q v H'
def CR(CX:du)(outer:List Env)(P:Program)(w:World)(H:Hp)(s:Shared)(Q:VK)(E:XK)(r:Result)(s':Shared):Prop:=
 match r with
 | .ok (.ret u)=>CE outer P w H s Q u s'
 | .ok _=>False
 | .error e=>CX outer H s E e s'
structure bA (P:Program) (w:World) (K:PySem.W.Frag) (mg:Str→Option Value) (base:Heap) (CX:du) (k:Nat) (f:Addr) (fd:FuncData) (ps:List Str) (sp:Sp):Prop where
 len:∀vs H Q E,sp vs H Q E→vs.length=ps.length
 run:∀(A:Around) (outer:List Env) (s:Shared) (H:Hp) (args:Args) (us:List Value) (vs:List V) (Q:VK) (E:XK),cn k A→oq P w K mg base A outer s H→BindsTo s fd args (ps.zip us)→Vals vs us→sp vs H Q E→
  codeAny (model P w) A (.call (.ref f) args) (CR CX outer P w H s Q E) s
section
variable {X:Cx} {pins:List (Addr×Obj)} {σ:St} {H:Hp} {s s':Shared}
theorem Inv.Bz(I:Inv X pins σ H s):oq X.prog X.w X.K X.mg X.base X.A X.stack s H:=
 ⟨I.ok.frames,I.ok.mod,I.bs,Nat.le_trans I.ok.eL I.sz,I.stack,I.lQ,I.ar,I.bare⟩
theorem Inv.after{Q:VK}{u:Value}(I:Inv X pins σ H s)(h:CE X.stack X.prog X.w H s Q u s'):EP X pins σ Q u s':=by
 obtain ⟨v,H',os,bare,un,ar,r,q⟩:=h
 obtain ⟨hh,g,d,t,BA⟩:=s'
 obtain rfl:BA=s.os:=os
 exact ⟨v,H',I.call (h':=hh) (g':=g) (d':=d) (t':=t) (ch:=[]) un ar bare (fun b z=>absurd z (by simp)),r,q⟩
end
def BB(sp:Sp)(fO:List V)(E:XK)(t:TA):TE:=fun σ H Q=>t σ H fun vs H1=>sp (vs++fO) H1 Q E
def Binds(K:PySem.W.Frag)(fd:FuncData)(ps:List Str)(ds:List Value):Prop:=
 ∀(s:Shared) (us:List Value),K.In s.heap→(us++ds).length=ps.length→BindsTo s fd ⟨us,[]⟩ (ps.zip (us++ds))
theorem Binds.all{K:PySem.W.Frag}{fd:FuncData}{ps:List Str}(h:∀us:List Value,us.length=ps.length→bindArgs fd ⟨us,[]⟩=pure (ps.zip us)):Binds K fd ps []:=fun s us _ hl=>by
 rw [List.append_nil] at hl ⊢
 exact .of_eq (h us hl)
def Passes(CX:du)(X:Cx)(E:XK):Prop:=∀(pins:List (Addr×Obj)) (σ:St) (H:Hp) (s:Shared) (e:Value) (s':Shared),Inv X pins σ H s→CX X.stack H s E e s'→X.xe e s'
section
variable {X:Cx} {CX:du} {k:Nat} {f C:Addr} {fd:FuncData} {ps:List Str} {sp:Sp} {fO:List V} {ds:List Value} {E:XK} {x m:Str} {p pos apos:Pos} {e o:Expr} {es:List Expr} {ta:TE} {t:TA}
theorem BC{pins:List (Addr×Obj)}{σ:St}{H:Hp}{s:Shared}{Q:VK}{us:List Value}{vs:List V}(F:bA X.prog X.w X.K X.mg X.base CX k f fd ps sp)(hr:cn k X.A)(hb:Binds X.K fd ps ds)(hd:Vals fO ds)(hx:Passes CX X E)
  (I:Inv X pins σ H s) (r:Vals vs us) (h:sp (vs++fO) H Q E):wpAny (model X.prog X.w) X.A (call (.ref f) us) (EP X pins σ Q) X.xe s:=by
 have r2:Vals (vs++fO) (us++ds):=r.append hd
 have hl:(us++ds).length=ps.length:=by rw [←r2.length];exact F.len _ _ _ _ h
 refine wpAny_call (codeAny_mono (F.run X.A X.stack s H ⟨us,[]⟩ (us++ds) (vs++fO) Q E hr I.Bz (hb s us I.cC hl) r2 h) fun r s' hq=>?_)
 cases r with
 | error e=>exact hx pins σ H s e s' I hq
 | ok fl=>
  cases fl with
  | ret u=>exact I.after hq
  | next=>exact False.elim hq
  | brk=>exact False.elim hq
  | cont=>exact False.elim hq
theorem bo(F:bA X.prog X.w X.K X.mg X.base CX k f fd ps sp)(hr:cn k X.A)(hg:Gl X x)(hm:X.mg x=some (.ref f))(hk:PySem.W.keepIn X.K (.ref f)=true)(hb:Binds X.K fd ps ds)(hd:Vals fO ds)(hx:Passes CX X E)
  (ha:PA X (e::es) t) (me:(x == ("__debug__":Str))=false:=by decide) (he:starEach (e::es) X.env=(false,eval e X.env)::starEach es X.env:=by rfl) (jN:(backTo pos (starEach es X.env)).any (·.1)=false:=by rfl) :
  PE X (.Call (.Name x p) (e::es) [] pos) (BB sp fO E t):=by
 intro pins s σ H Q I h
 refine wpAny_Call_Name_kw (vx I hg hm ?_ me)
 refine PySem.W.callWith_K (h₀:=X.base) I.ok.mod.bJ hk (aw (ha pos pins s σ H _ I h) fun us s1 ⟨vs,H1,I1,r,q⟩=>⟨I1.cC,?_⟩) he jN
 exact BC F hr hb hd hx I1 r q
end
section
variable {X:Cx} {CX:du} {k:Nat} {f C:Addr} {fd:FuncData} {ps ks:List Str} {sp:Sp} {E:XK} {x m:Str} {p pos apos vW:Pos} {e o:Expr} {es:List Expr} {BD:List Keyword} {te ta:TE} {t tk:TA} {nm:Option Str}
variable {g:List Value→List Value→List Value} {gV:List V→List V→List V}
end
structure bP (N P:List Str) (sc:Scope):Prop where
 kind:sc.kind=.function
 co:sc.isCoroutine=false
 gen:sc.isGenerator=false
 nd:N.Nodup
 pre:N.take P.length=P
 par:∀x∈P,sc.names.lookup x=some .local∨sc.names.lookup x=some .cell
 BE:∀y∈sc.names,y.2≠.free
theorem vX{kindOf:Str→Option NameKind}{x:Str}:∀{binds:List (Str×Value)} {m:Str→Option Value},(∀v,(x,v)∉binds)→bindL kindOf binds m x=m x
 | [],_,_=>rfl
 | (n,v)::r,m,h=>by
  unfold bindL
  rw [vX fun w hw=>h w (List.mem_cons_of_mem _ hw)]
  split
  ·have:x≠n:=by rintro rfl;exact h v List.mem_cons_self
   simp [this]
  ·rfl
theorem vY{kindOf:Str→Option NameKind}{x:Str}:∀{binds:List (Str×Value)} {m:Str→Option Value},(∀v,(x,v)∉binds)→bindC kindOf binds m x=m x
 | [],_,_=>rfl
 | (n,v)::r,m,h=>by
  unfold bindC
  rw [vY fun w hw=>h w (List.mem_cons_of_mem _ hw)]
  split
  ·rfl
  ·have:x≠n:=by rintro rfl;exact h v List.mem_cons_self
   simp [this]
theorem vZ{kindOf:Str→Option NameKind}{x:Str}{v:Value}:∀{P:List Str} {vs:List Value} {i:Nat} {m:Str→Option Value},P.Nodup→P[i]?=some x→vs[i]?=some v→kindOf x=some .local→
  bindL kindOf (P.zip vs) m x=some v
 | [],_,_,_,_,h,_,_=>by simp at h
 | _::_,[],_,_,_,_,h,_=>by simp at h
 | p::P,w::vs,0,m,nd,h1,h2,hk=>by
  simp at h1 h2;subst h1;subst h2
  show bindL kindOf ((p,w)::P.zip vs) m p=_
  unfold bindL
  rw [vX fun v hv=>(List.nodup_cons.mp nd).1 (List.of_mem_zip hv).1,if_pos hk]
  simp
 | p::P,w::vs,i+1,m,nd,h1,h2,hk=>by
  show bindL kindOf ((p,w)::P.zip vs) m x=_
  unfold bindL
  exact vZ (i:=i) (List.nodup_cons.mp nd).2 (by simpa using h1) (by simpa using h2) hk
theorem v_{kindOf:Str→Option NameKind}{x:Str}{v:Value}:∀{P:List Str} {vs:List Value} {i:Nat} {m:Str→Option Value},P.Nodup→P[i]?=some x→vs[i]?=some v→kindOf x≠some .local→
  bindC kindOf (P.zip vs) m x=some v
 | [],_,_,_,_,h,_,_=>by simp at h
 | _::_,[],_,_,_,_,h,_=>by simp at h
 | p::P,w::vs,0,m,nd,h1,h2,hk=>by
  simp at h1 h2;subst h1;subst h2
  show bindC kindOf ((p,w)::P.zip vs) m p=_
  unfold bindC
  rw [vY fun v hv=>(List.nodup_cons.mp nd).1 (List.of_mem_zip hv).1,if_neg hk]
  simp
 | p::P,w::vs,i+1,m,nd,h1,h2,hk=>by
  show bindC kindOf ((p,w)::P.zip vs) m x=_
  unfold bindC
  exact v_ (i:=i) (List.nodup_cons.mp nd).2 (by simpa using h1) (by simpa using h2) hk
def start(N:List Str)(vs:List V):St:=vs.map some++List.replicate (N.length-vs.length) none
def gS(CX:du)(P:Program)(w:World)(K:PySem.W.Frag)(mg:Str→Option Value)(base:Heap)(N:List Str)(qual:Str)(scope:Scope)(f:Addr)(cd:Value)(A:Around)(outer:List Env)(s:Shared)(H:Hp)(E:XK):Cx where
 prog:=P
 w:=w
 K:=K
 mg:=mg
 base:=base
 A:=A.deeper (envOfC qual scope s.heap.objs.size f cd)
 N:=N
 s₀:=s
 H₀:=H
 env:=envOfC qual scope s.heap.objs.size f cd
 outer:=outer
 stack:=envOfC qual scope s.heap.objs.size f cd::outer
 ex:=[]
 calm:=true
 fn:=fun _=>true
 pn:=[]
 xe:=fun e s'=>wpAny (model P w) (A.deeper (envOfC qual scope s.heap.objs.size f cd)) (leaving (envOfC qual scope s.heap.objs.size f cd) e) (fun _ d9=>CX outer H s E e d9) (fun e' d9=>CX outer H s E e' d9) s'
theorem wa{sc:Scope}{n:Nat}{x:Str}(h:sc.names.lookup x=some .cell):∃c,(cellsFrom n sc.names []).lookup x=some c:=by
 have q:=PySem.W.cellsFrom_some sc.names n [] (.inl h)
 exact Option.isSome_iff_exists.mp q
theorem BF{CX:du}{P:Program}{w:World}{K:PySem.W.Frag}{mg:Str→Option Value}{base:Heap}{N ps:List Str}{qual:Str}{scope:Scope}{f:Addr}{cd:Value}{A:Around}{outer:List Env}{s s1:Shared}{H:Hp}{E:XK}{us:List Value}{vs:List V}
  (S:bP N ps scope) (hd:A.handled=none) (e0:oq P w K mg base A outer s H) (hl:vs.length=ps.length) (r:Vals vs us)
  (x:InCallC s s.heap.objs.size (bindL (envOfC qual scope s.heap.objs.size f cd).kindOf (ps.zip us) fun _=>none) (cellsFrom (s.heap.objs.size+1) scope.names []) (bindC (envOfC qual scope s.heap.objs.size f cd).kindOf (ps.zip us) fun _=>none) s1) :
  Inv (gS CX P w K mg base N qual scope f cd A outer s H E) [] (start N vs) H s1:=by
 have jN:ps.length≤N.length:=by have:=congrArg List.length S.pre;rw [List.length_take] at this;omega
 obtain ⟨h1,tk,rfl,hk⟩:=x.done
 have mf:∀b:Addr,b∉(gS CX P w K mg base N qual scope f cd A outer s H E).ex:=fun b z=>absurd (show b∈([]:List Addr) from z) (by simp)
 refine ⟨⟨e0.mod,S.kind,rfl,rfl,Nat.le_refl _,fun y z c h1 h2=>?_,fun y hy=>?_,fun y c _ h=>?_,fun _=>hd,Around.frames_deeper e0.frames,.inr ⟨rfl,rfl⟩,fun b z=>absurd z (mf b),e0.bs,e0.eL,fun b _ _=>mf b,fun b z=>absurd z (mf b),e0.fh,e0.gH⟩,
  rfl,e0.bare,Un.kept hk,⟨_,x.toInCall.ns,fun i y v h1 h2 h3=>?_⟩,fun y c h=>⟨_,x.cell y c h⟩,e0.ar.fresh (Nat.le_refl _),fun y c h=>?_,fun p hp=>absurd (show p∈([]:List (Addr×Obj)) from hp) (by simp),e0.ar.kept hk,?_⟩
 ·exact name_of_addr x.apart (PySem.mem_of_lookup h1) (PySem.mem_of_lookup h2)
 ·have hy:scope.names.lookup y=some .cell∨scope.names.lookup y=some .free:=hy
  rcases hy with hy | hy
  ·exact wa hy
  ·exact absurd rfl (S.BE _ (PySem.mem_of_lookup hy))
 ·exact Nat.le_of_lt (x.above y c (PySem.mem_of_lookup h))
 ·have hi:i<vs.length:=by
   unfold start at h2
   by_cases hi:i<vs.length
   ·exact hi
   ·rw [List.getElem?_append_right (by simpa using hi)] at h2
    rw [List.getElem?_replicate] at h2
    split at h2 <;> cases h2
  have ha:vs[i]?=some v:=by
   unfold start at h2
   rw [List.getElem?_append_left (by simpa using hi),List.getElem?_map] at h2
   cases e:vs[i]? with
   | none=>rw [e] at h2;cases h2
   | some a=>rw [e] at h2;cases h2;rfl
  obtain ⟨u,hu,rv⟩:=r.get ha
  have hp:ps[i]?=some y:=by
   rw [←S.pre,List.getElem?_take_of_lt (by omega)];exact h1
  have wb:ps.Nodup:=by rw [←S.pre];exact S.nd.sublist (List.take_sublist _ _)
  refine ⟨u,rv,?_⟩
  rcases S.par y (List.mem_of_getElem? hp) with k | k
  ·exact .inl ⟨k,vZ wb hp hu k⟩
  ·obtain ⟨c,e⟩:=wa (n:=s.heap.objs.size+1) k
   refine .inr ⟨.inl k,c,e,?_⟩
   have q:=x.cell y c e
   rw [v_ wb hp hu (by show scope.names.lookup y≠_;rw [k];decide)] at q
   exact q
 ·exact e0.ar.fresh (Nat.le_of_lt (x.above y c (PySem.mem_of_lookup h)))
 ·unfold start
  show _=N.length
  rw [List.length_append,List.length_map,List.length_replicate]
  omega
theorem wc{CX:du}{P:Program}{w:World}{K:PySem.W.Frag}{mg:Str→Option Value}{base:Heap}{k:Nat}{f:Addr}{name qual:Str}{params:Arguments}{body:List Stmt}{scope:Scope}{dV kV doc pm aK ct oc:Value}{an od:Option Addr}
  {fP:Array (Option Value)} {N ps:List Str} {sp:Sp} (lk:K.lookup f=some ⟨oc,od,.func (PySem.W.fnOf name qual params body scope dV kV doc pm an aK ct),fP⟩) (dN:PySem.W.codeIn K aK qual=true) (S:bP N ps scope)
  (len:∀vs H Q E,sp vs H Q E→vs.length=ps.length)
  (mh:∀(A:Around) (outer:List Env) (s:Shared) (H:Hp) (vs:List V) (Q:VK) (E:XK),cn k (A.deeper (envOfC qual scope s.heap.objs.size f aK))→sp vs H Q E→
   ∃t,dm (gS CX P w K mg base N qual scope f aK A outer s H E) body t∧t {nx:=fun _ H'=>Q .aF H',rt:=Q} (start N vs) H) :
  bA P w K mg base CX (k+1) f (PySem.W.fnOf name qual params body scope dV kV doc pm an aK ct) ps sp:=by
 refine ⟨len,fun A outer s H args us vs Q E hr e0 hb r fQ=>?_⟩
 have hl:=len _ _ _ _ fQ
 have KX:K.In s.heap:=e0.mod.bJ.keeps fun b o e=>(e0.bs b o e).1
 have lim:s.heap.NoLimit:=e0.mod.nolimit.keeps fun b o e=>(e0.bs b o e).1
 have BG:∀y∈ps.zip us,scope.names.lookup y.1=some .local∨(scope.names.lookup y.1=some .cell∧((cellsFrom (s.heap.objs.size+1) scope.names []).lookup y.1).isSome=true):=fun⟨n,v⟩ hy=>by
  rcases S.par n (List.of_mem_zip hy).1 with q | q
  ·exact .inl q
  ·exact .inr ⟨q,PySem.W.cellsFrom_some _ _ _ (.inl q)⟩
 refine codeAny_call_function hr.depth (KX _ _ lk) rfl S.co S.gen rfl (PySem.W.codeRec_of KX dN) (hb _ _ _ _ ?_)
 refine wpAny_newFunctionEnv_cells S.kind BG fun env he s1 x=>?_
 subst he
 refine ⟨lim.keeps x.toInCall.keep,codeAny_func ?_⟩
 obtain ⟨t,ht,hq⟩:=mh A outer s H vs Q E (hr.deeper _) fQ
 have I:Inv (gS CX P w K mg base N qual scope f aK A outer s H E) [] (start N vs) H s1:=BF S hr.hd e0 hl r x
 refine wpAny_mono (ht [] s1 (start N vs) H _ I hq) (fun fl s' hs=>?_) fun e s' hs=>hs
 have fin:∀{σ':St} {H':Hp} {v:V} {u:Value},Inv (gS CX P w K mg base N qual scope f aK A outer s H E) [] σ' H' s'→RelV v u→Q v H'→CE outer P w H s Q u s':=
  fun{σ' H' v u} J rv q=>⟨v,H',J.os,J.bare,J.base,J.ar,rv,q⟩
 cases fl with
 | ret u=>
  obtain ⟨v,σ',H',J,rv,q⟩:=hs
  exact fin J rv q
 | next=>
  obtain ⟨σ',H',J,q⟩:=hs
  exact fin (v:=V.aF) (u:=Value.none) J rfl q
 | brk=>
  obtain ⟨_,_,_,q⟩:=hs
  exact False.elim q
 | cont=>
  obtain ⟨_,_,_,q⟩:=hs
  exact False.elim q
section
variable {X:Cx} {x:Str} {p pos:Pos} {e:Expr} {es:List Expr} {t:TA} {id T:String} {r:List V→Hp→VK→Prop}
def rz(r:List V→Hp→VK→Prop)(t:TA):TE:=fun σ H Q=>t σ H fun vs H1=>r vs H1 Q
theorem b3(hc:d7 X (.builtin id) r)(hg:Gl X x)(hm:X.mg x=none)(hv:bootBuiltins x=some (.builtin id))(ha:PA X (e::es) t)(hn:x ≠ "__name__":=by decide)(me:(x == ("__debug__":Str))=false:=by decide)
  (he:starEach (e::es) X.env=(false,eval e X.env)::starEach es X.env:=by rfl) (jN:(backTo pos (starEach es X.env)).any (·.1)=false:=by rfl):PE X (.Call (.Name x p) (e::es) [] pos) (rz r t):=by
 intro pins s σ H Q I h
 refine wpAny_Call_Name_kw (jJ I hg hm hv ?_ hn me)
 exact PyProof.Rows.callWith_builtin1 (aw (ha pos pins s σ H _ I h) fun us s1 ⟨vs,H1,I1,r1,q1⟩=>hc pins s1 σ H1 vs us Q I1 r1 q1) he jN
theorem d_(hc:d7 X (.type T) r)(hg:Gl X x)(hm:X.mg x=none)(hv:bootBuiltins x=some (.type T))(ha:PA X (e::es) t)(hn:x ≠ "__name__":=by decide)(me:(x == ("__debug__":Str))=false:=by decide)
  (he:starEach (e::es) X.env=(false,eval e X.env)::starEach es X.env:=by rfl) (jN:(backTo pos (starEach es X.env)).any (·.1)=false:=by rfl):PE X (.Call (.Name x p) (e::es) [] pos) (rz r t):=by
 intro pins s σ H Q I h
 refine wpAny_Call_Name_kw (jJ I hg hm hv ?_ hn me)
 exact PyProof.Rows.callWith_type1 (aw (ha pos pins s σ H _ I h) fun us s1 ⟨vs,H1,I1,r1,q1⟩=>hc pins s1 σ H1 vs us Q I1 r1 q1) he jN
end
end L2
namespace HT
open PySem PyProof.Rows
section
open PySem.SeqAt
open PySem.AutoSeq1 (wpAny_loadPart')
open PySem.MeetsSeq PySem.MeetsSeq2 PySem.MeetsSeq3
end
section
variable {prog:Program} {w:World} {A:Around} {E:Value→Shared→Prop} {s:Shared}
def cF(n d:Nat):Option Int→Nat
 | none=>d
 | some v=>if v<0 then (v+(n:Int)).toNat else min v.toNat n
theorem wd(n d:Nat):cF n d none=d:=rfl
theorem we(n d k:Nat):cF n d (some (k:Int))=min k n:=by
 show (if (k:Int)<0 then ((k:Int)+(n:Int)).toNat else min (k:Int).toNat n)=min k n
 rw [if_neg (by omega),Int.toNat_natCast]
end
end HT
namespace L2
open PySem PySem.Spec PyProof.Rows
abbrev TO:=St→Hp→(Option Int→Hp→Prop)→Prop
def PO(X:Cx)(e:Option Expr)(t:TO):Prop:=
 ∀(pins:List (Addr×Obj)) (s:Shared) (σ:St) (H:Hp) (Q:Option Int→Hp→Prop),Inv X pins σ H s→t σ H Q→
  wpAny (model X.prog X.w) X.A (evalPart e X.env) (fun u s'=>∃o H',Inv X pins σ H' s'∧IsPart u o∧Q o H') X.xe s
def BH:TO:=fun _ H Q=>Q none H
def BI(t:TE):TO:=fun σ H Q=>t σ H fun x H1=>∃i,x=.int i∧Q (some i) H1
theorem intsAre_of{ns:List Int}:∀{us:List Value},Vals (ns.map V.int) us→IntsAre us ns:=by
 induction ns with
 | nil=>intro us r;rw [List.map_nil] at r;cases r;exact .nil
 | cons n ns ih=>
  intro us r
  rw [List.map_cons] at r
  cases r with
  | cons r1 r2=>
   obtain ⟨t,e⟩:=r1
   subst e
   exact .cons n t (ih r2)
section
variable {X:Cx} {e:Expr} {te:TE} {lo hi:Option Expr} {tl th:TO} {pos p2:Pos}
theorem jO:PO X none BH:=by
 intro pins s σ H Q I h
 rw [evalPart_none]
 exact wpAny_pure ⟨none,H,I,.none,h⟩
theorem jP(h:PE X e te):PO X (some e) (BI te):=by
 intro pins s σ H Q I hw
 rw [evalPart_some]
 refine aw (h pins s σ H _ I hw) fun u s1 ⟨x,H1,I1,r1,q1⟩=>?_
 obtain ⟨i,rfl,q⟩:=q1
 obtain ⟨t,rfl⟩:=r1
 exact ⟨some i,H1,I1,.int i t,q⟩
def wg(X:Cx)(r:V→Option Int→Option Int→Hp→VK→Prop):Prop:=
 ∀(pins:List (Addr×Obj)) (s:Shared) (σ:St) (H:Hp) (x:V) (v vl vu:Value) (lo hi:Option Int) (sl:Addr) (Q:VK),Inv X pins σ H s→RelV x v→s.heap.IsSliceOf sl vl vu .none→IsPart vl lo→IsPart vu hi→r x lo hi H Q→
  ∃T id,typeLookup (.type T) "__getitem__" = pure (some (.builtin id))∧s.TypeIs v T∧wpAny (model X.prog X.w) X.A (getItem v (.ref sl)) (EP X pins σ Q) X.xe s
def BJ(r:V→Option Int→Option Int→Hp→VK→Prop)(te:TE)(tl th:TO):TE:=fun σ H Q=>te σ H fun x H1=>tl σ H1 fun l H2=>th σ H2 fun u H3=>r x l u H3 Q
theorem jQ{r:V→Option Int→Option Int→Hp→VK→Prop}(hr:wg X r)(he:PE X e te)(hl:PO X lo tl)(hu:PO X hi th):PE X (.Subscript e (.Slice lo hi none p2) pos) (BJ r te tl th):=by
 intro pins s σ H Q I h
 refine Subscript_ (aw (he pins s σ H _ I h) fun v s1 ⟨x,H1,I1,r1,q1⟩=>?_)
 refine wpAny_Slice (aw (hl pins s1 σ H1 _ I1 q1) fun vl s2 ⟨l,H2,I2,pl,q2⟩=>aw (hu pins s2 σ H2 _ I2 q2) fun vu s3 ⟨u,H3,I3,pu,q3⟩=>?_)
 rw [evalPart_none]
 refine wpAny_pure ?_
 have I4:Inv X pins σ H3 {s3 with heap:=s3.heap.push {cls:=.type "slice",data:=.fields #[vl,vu,.none]}}:=I3.kept (t':=s3.toks) fun b ob q=>Heap.get?_push_of_some _ q
 obtain ⟨T,id,hT,ht,hg⟩:=hr pins {s3 with heap:=s3.heap.push {cls:=.type "slice",data:=.fields #[vl,vu,.none]}} σ H3 x v vl vu l u s3.heap.objs.size Q I4 r1 (Heap.IsSliceOf.new ..) pl pu q3
 show wpAny (model X.prog X.w) X.A (subscriptTail e (.Slice lo hi none p2) v (.ref s3.heap.objs.size)) (EP X pins σ Q) X.xe {s3 with heap:=s3.heap.push {cls:=.type "slice",data:=.fields #[vl,vu,.none]}}
 exact tail_any (ops:=[.ref s3.heap.objs.size,v]) ht hT hg (by with_unfolding_all rfl)
def c_(xs:List V)(lo hi:Option Int):List V:=(xs.drop (HT.cF xs.length 0 lo)).take (HT.cF xs.length xs.length hi-HT.cF xs.length 0 lo)
theorem BK(xs:List V)(lo hi:Option Int):(c_ xs lo hi).length≤xs.length:=by
 unfold c_
 rw [List.length_take,List.length_drop]
 omega
end
def fj(n:Nat)(i:Int):Option Nat:=if 0≤i then (if i<n then some i.toNat else none) else if -(n:Int)≤i then some (i+n).toNat else none
def dv{α:Type}(xs:List α)(i:Int):Option α:=(fj xs.length i).bind fun j=>xs[j]?
theorem wj{n:Nat}{i:Int}{j:Nat}(h:fj n i=some j):seqIndex? i n=some j∧j<n∧-(n:Int)≤i∧i<n:=by
 unfold fj at h
 by_cases h0:0≤i
 ·rw [if_pos h0] at h
  by_cases h1:i<n
  ·rw [if_pos h1] at h
   have e:i.toNat=j:=Option.some.inj h
   exact ⟨by rw [seqIndex_of h0 h1,e],by omega,by omega,h1⟩
  ·rw [if_neg h1] at h;cases h
 ·rw [if_neg h0] at h
  by_cases h1:-(n:Int)≤i
  ·rw [if_pos h1] at h
   have e:(i+n).toNat=j:=Option.some.inj h
   exact ⟨by rw [seqIndex_neg (by omega) h1,e],by omega,h1,by omega⟩
  ·rw [if_neg h1] at h;cases h
theorem wm{α:Type}{xs:List α}{i:Int}{v:α}(h:dv xs i=some v):∃j,seqIndex? i xs.length=some j∧xs[j]?=some v∧j<xs.length∧-(xs.length:Int)≤i∧i<xs.length:=by
 unfold dv at h
 cases e:fj xs.length i with
 | none=>rw [e] at h;cases h
 | some j=>
  rw [e] at h
  obtain ⟨h1,h2,h3,h4⟩:=wj e
  exact ⟨j,h1,h,h2,h3,h4⟩
theorem gT{α:Type}{xs:List α}{j:Nat}{v:α}(h:xs[j]?=some v):dv xs (j:Int)=some v:=by
 have hj:j<xs.length:=(List.getElem?_eq_some_iff.mp h).1
 have e:fj xs.length (j:Int)=some j:=by
  unfold fj
  rw [if_pos (by omega),if_pos (by omega)];simp
 unfold dv;rw [e];exact h
def BL(b:Expr):Prop:=∀o i,subscripted b false o i=operate [o,i] (getItem o i)
def ou(X:Cx)(r:R2):Prop:=
 ∀(value slice:Expr) (pins:List (Addr×Obj)) (s:Shared) (σ:St) (H:Hp) (x y:V) (v u:Value) (Q:VK),Inv X pins σ H s→RelV x v→RelV y u→r x y H Q→
  subscripted slice false v u=operate [v,u] (getItem v u)→wpAny (model X.prog X.w) X.A (subscriptTail value slice v u) (EP X pins σ Q) X.xe s
def wo(X:Cx)(id:String)(r:V→List V→Hp→VK→Prop):Prop:=
 ∀(pins:List (Addr×Obj)) (s:Shared) (σ:St) (H:Hp) (x:V) (xs:List V) (v:Value) (us:List Value) (Q:VK),Inv X pins σ H s→RelV x v→Vals xs us→r x xs H Q→
  wpAny (model X.prog X.w) X.A (call (.builtin id) (v::us)) (EP X pins σ Q) X.xe s
section
variable {X:Cx} {a b:Expr} {ta tb:TE} {pos:Pos}
theorem aX{r:R2}(hr:ou X r)(ha:PE X a ta)(hb:PE X b tb)(hs:BL b):PE X (.Subscript a b pos) (ma r ta tb):=by
 intro pins s σ H Q I h
 exact Subscript_ (rd ha hb I h fun v u s2 x y H2 I2 rx ry q=>hr a b pins s2 σ H2 x y v u Q I2 rx ry q (hs _ _))
def wu(K:PySem.W.Frag):R2:=fun x y H Q=>∃p xs i v,x=.ref p∧y=.int i∧aS K H p xs∧dv xs i=some v∧Q v H
def BM(K:PySem.W.Frag):R2:=fun x y H Q=>∃p xs i v,x=.ref p∧y=.int i∧cK K H p xs∧dv xs i=some v∧Q v H
theorem bC:ou X (wu X.K):=by
 intro value slice pins s σ H x y v u Q I rx ry h hs
 obtain ⟨p,xs,i,z,rfl,rfl,hq,he,q⟩:=h
 cases rx
 obtain ⟨t,rfl⟩:=ry
 obtain ⟨aa,r,pl,hz⟩:=I.list hq
 obtain ⟨j,h1,h2,h3,h4,h5⟩:=wm he
 obtain ⟨w,ew,iQ⟩:=r.get h2
 have hl:=r.length
 have hn:=md
 have fin:EP X pins σ Q w s:=⟨z,H,I,iQ,q⟩
 by_cases h0:0≤i
 ·have hj:i.toNat=j:=by
   rw [seqIndex_of h0 h5] at h1
   exact Option.some.inj h1
  exact item_listR pl.isList h0 (by omega) (by rw [hj];simpa using ew) fin hs
 ·have hj:(i+(aa.toArray.size:Int)).toNat=j:=by
   rw [seqIndex_neg (by omega) h4] at h1
   rw [List.size_toArray,←hl]
   exact Option.some.inj h1
  exact subscriptTail_builtinR (x:=w) pl.isList.typeIs slot_list_getitem.lookup
   (wpAny_getItem_list_neg (Q:=fun r s'=>r=w∧EP X pins σ Q r s') pl.isList (by omega) (by rw [List.size_toArray] <;> omega) (by omega) (by rw [hj];simpa using ew) ⟨rfl,fin⟩) hs
theorem fR:ou X (BM X.K):=by
 intro value slice pins s σ H x y v u Q I rx ry h hs
 obtain ⟨p,xs,i,z,rfl,rfl,hq,he,q⟩:=h
 cases rx
 obtain ⟨t,rfl⟩:=ry
 obtain ⟨aa,r,pl,hz⟩:=I.tuple hq
 obtain ⟨j,h1,h2,h3,h4,h5⟩:=wm he
 obtain ⟨w,ew,iQ⟩:=r.get h2
 have hl:=r.length
 have hn:=md
 have fin:EP X pins σ Q w s:=⟨z,H,I,iQ,q⟩
 exact subscriptTail_builtinR (x:=w) pl.typeIs slot_tuple_getitem.lookup
  (getItem_tuple (j:=j) (Q:=fun r s'=>r=w∧EP X pins σ Q r s') pl (by omega) (by omega) (by rw [List.size_toArray,←hl];exact h1) (by simpa using ew) ⟨rfl,fin⟩) hs
theorem BN(aa:List Value)(n j:Nat)(u:Value):Obj.mapSeq (·.setIfInBounds j u) {cls:=.type "list",data:=.seq aa.toArray n}={cls:=.type "list",data:=.seq (aa.set j u).toArray n}:=by
 simp [Obj.mapSeq]
theorem Inv.lst{pins:List (Addr×Obj)}{σ:St}{H:Hp}{s:Shared}{p:Addr}{xs:List V}(I:Inv X pins σ H s)(h:H p=some (.lst xs)) :
  ∃(aa:List Value) (n:Nat),Vals xs aa∧s.heap.get? p=some {cls:=.type "list",data:=.seq aa.toArray n}∧xs.length≤sizeLine:=by
 obtain ⟨z,aa,n,r,e⟩:=I.ar p _ h
 exact ⟨aa,n,r,e,z⟩
theorem Inv.BO{pins:List (Addr×Obj)}{σ:St}{H:Hp}{s:Shared}{p:Addr}{xs ys:List V}{aa its':List Value}{n n':Nat}{f:Obj→Obj}(I:Inv X pins σ H s)(h:H p=some (.lst xs))
  (ho:s.heap.get? p=some {cls:=.type "list",data:=.seq aa.toArray n}) (hf:f {cls:=.type "list",data:=.seq aa.toArray n}={cls:=.type "list",data:=.seq its'.toArray n'}) (r:Vals ys its') (hz:ys.length≤sizeLine) (t:Nat) :
  Inv X pins σ (upd H p (.lst ys)) {s with heap:=s.heap.update p f,toks:=t}:=by
 have e:(s.heap.update p f).get? p=some {cls:=.type "list",data:=.seq its'.toArray n'}:=by
  rw [Heap.get?_update_self f ho (by rw [hf] <;> rfl),hf]
 refine I.write (x:=p) (e:=p) (by rw [h];trivial) (.inl rfl) (fun b u hb q=>(Heap.get?_update_other _ _ (Ne.symm hb)).trans q) ⟨_,e⟩ ?_
 exact ⟨hz,its',n',r,e⟩
def BP:V→V→V→Hp→(Hp→Prop)→Prop:=fun o i v H Q=>∃p xs k j,o=.ref p∧i=.int k∧H p=some (.lst xs)∧fj xs.length k=some j∧Q (upd H p (.lst (xs.set j v)))
theorem set_list:vD X BP:=by
 intro pins s σ H o i v ov iv u Q I ro ri rv h
 obtain ⟨p,xs,k,j,rfl,rfl,hp,hj,q⟩:=h
 cases ro
 obtain ⟨t,rfl⟩:=ri
 obtain ⟨aa,n,r,ho,hz⟩:=I.lst hp
 obtain ⟨h1,h2,h3,h4⟩:=wj hj
 have hl:=r.length
 have hn:=md
 have I':Inv X pins σ (upd H p (.lst (xs.set j v))) {s with heap:=s.heap.update p (Obj.mapSeq (·.setIfInBounds j u))}:=
  I.BO hp ho (BN aa n j u) (r.set rv j) (by rw [List.length_set];exact hz) s.toks
 by_cases h0:0≤k
 ·have hk:k.toNat=j:=by
   rw [seqIndex_of h0 h4] at h1
   exact Option.some.inj h1
  exact PySem.W.ki_setAt ho h0 (by omega) (by rw [List.size_toArray,←hl];exact h4) (by rw [hk];exact ⟨_,I',q⟩)
 ·have hk:(k+(aa.toArray.size:Int)).toNat=j:=by
   rw [seqIndex_neg (by omega) h3] at h1
   rw [List.size_toArray,←hl]
   exact Option.some.inj h1
  exact PySem.W.ki_setBack ho (by omega) (by rw [List.size_toArray,←hl];exact h3) (by omega) (by rw [hk];exact ⟨_,I',q⟩)
theorem BQ(lo hi:Option Int)(n:Nat):(sliceBounds lo hi none n).1=((HT.cF n 0 lo:Nat):Int)∧(sliceBounds lo hi none n).2.1=((HT.cF n n hi:Nat):Int)∧(sliceBounds lo hi none n).2.2=1:=by
 refine ⟨?_,?_,rfl⟩
 ·cases lo with
  | none=>simp [sliceBounds,HT.cF]
  | some i=>
   simp only [sliceBounds,HT.cF,Option.getD_none,show (1:Int)>0 by decide,if_true]
   by_cases h:i<0
   ·simp only [h,if_true] <;> omega
   ·simp only [h,if_false] <;> omega
 ·cases hi with
  | none=>simp [sliceBounds,HT.cF]
  | some i=>
   simp only [sliceBounds,HT.cF,Option.getD_none,show (1:Int)>0 by decide,if_true]
   by_cases h:i<0
   ·simp only [h,if_true] <;> omega
   ·simp only [h,if_false] <;> omega
theorem BR(aa:List Value)(lo hi:Option Int):slicePick aa.toArray lo hi none=((aa.drop (HT.cF aa.length 0 lo)).take (HT.cF aa.length aa.length hi-HT.cF aa.length 0 lo)).toArray:=by
 obtain ⟨h1,h2,h3⟩:=BQ lo hi aa.toArray.size
 unfold slicePick
 rw [h1,h2,h3]
 simp only [sliceRange_one,pick_run,List.size_toArray] <;> rfl
def BS(K:PySem.W.Frag):V→Option Int→Option Int→Hp→VK→Prop:=fun x lo hi H Q=>∃a xs,x=.ref a∧aS K H a xs∧∀p,H p=none→Q (.ref p) (upd H p (.lst (c_ xs lo hi)))
theorem jR:wg X (BS X.K):=by
 intro pins s σ H x v vl vu lo hi sl Q I rx hs pl pu h
 obtain ⟨a,xs,rfl,hx,q⟩:=h
 cases rx
 obtain ⟨aa,r,ht,hz⟩:=I.list hx
 have hlen:=r.length
 refine ⟨"list",_,slot_list_getitem.lookup,ht.isList.typeIs,?_⟩
 refine wpAny_getItem_list_slice ht.isList hs pl pu .none (by simp) ?_ (by rw [List.size_toArray] <;> omega)
 rw [BR,←hlen]
 refine ⟨.ref s.heap.objs.size,_,I.laid (t':=s.toks) (o:=.lst (c_ xs lo hi)) (fun b ob q=>Heap.get?_push_of_some _ q) (Nat.le_refl _) ?_,rfl,q _ (I.ar.fresh (Nat.le_refl _))⟩
 exact ⟨Nat.le_trans (BK xs lo hi) hz,_,0,(r.drop (HT.cF xs.length 0 lo)).take (HT.cF xs.length xs.length hi-HT.cF xs.length 0 lo),Heap.get?_push_size _ rfl⟩
def eg:V→Bool
 | .aF=>true
 | .bl _=>true
 | .int _=>true
 | .str _=>true
 | _=>false
def cp:V→V→Bool
 | .aF,.aF=>true
 | .bl a,.bl b=>a == b
 | .bl a,.int b=>(if a then 1 else 0) == b
 | .int a,.bl b=>a == (if b then 1 else 0)
 | .int a,.int b=>a == b
 | .str a,.str b=>a == b
 | _,_=>false
theorem iR{A:Around}{s:Shared}{y x:V}{u v:Value}(ry:RelV y u)(rx:RelV x v)(fy:eg y=true)(fx:eg x=true):SeqAt.EqAt A s u v (cp y x):=by
 cases y with
 | aF=>
  cases ry
  cases x with
  | aF=>cases rx;exact SeqAt.EqAt.same _
  | bl b=>cases rx;exact SeqAt.EqAt.none_bool b
  | int b=>obtain ⟨t,rfl⟩:=rx;exact SeqAt.EqAt.none_int b t
  | str b=>obtain ⟨t,rfl⟩:=rx;exact SeqAt.EqAt.none_str b t
  | _=>exact absurd (show false=true from fx) Bool.false_ne_true
 | bl a=>
  cases ry
  cases x with
  | aF=>cases rx;exact SeqAt.EqAt.bool_none a
  | bl b=>cases rx;exact SeqAt.EqAt.bool_bool a b
  | int b=>obtain ⟨t,rfl⟩:=rx;exact SeqAt.EqAt.bool_int a b t
  | str b=>obtain ⟨t,rfl⟩:=rx;exact SeqAt.EqAt.bool_str a b t
  | _=>exact absurd (show false=true from fx) Bool.false_ne_true
 | int a=>
  obtain ⟨t',rfl⟩:=ry
  cases x with
  | aF=>cases rx;exact SeqAt.EqAt.int_none a t'
  | bl b=>cases rx;exact SeqAt.EqAt.int_bool a t' b
  | int b=>obtain ⟨t,rfl⟩:=rx;exact SeqAt.EqAt.int_int a t' b t
  | str b=>obtain ⟨t,rfl⟩:=rx;exact SeqAt.EqAt.int_str a t' b t
  | _=>exact absurd (show false=true from fx) Bool.false_ne_true
 | str a=>
  obtain ⟨t',rfl⟩:=ry
  cases x with
  | aF=>cases rx;exact SeqAt.EqAt.str_none a t'
  | bl b=>cases rx;exact SeqAt.EqAt.str_bool a t' b
  | int b=>obtain ⟨t,rfl⟩:=rx;exact SeqAt.EqAt.str_int a t' b t
  | str b=>obtain ⟨t,rfl⟩:=rx;exact SeqAt.EqAt.str_str a t' b t
  | _=>exact absurd (show false=true from fx) Bool.false_ne_true
 | _=>exact absurd (show false=true from fy) Bool.false_ne_true
def dw(x:V)(u:Value):Bool:=match u with
 | .none=>cp .aF x
 | .bool b=>cp (.bl b) x
 | .int i _=>cp (.int i) x
 | .str z _=>cp (.str z) x
 | _=>false
theorem wx{x y:V}{u:Value}(r:RelV y u)(f:eg y=true):dw x u=cp y x:=by
 cases y with
 | aF=>cases r;rfl
 | bl b=>cases r;rfl
 | int i=>obtain ⟨t,rfl⟩:=r;rfl
 | str z=>obtain ⟨t,rfl⟩:=r;rfl
 | _=>exact absurd (show false=true from f) Bool.false_ne_true
theorem mj{x:V}:∀{xs:List V} {us:List Value},Vals xs us→xs.all eg=true→us.any (dw x)=xs.any fun y=>cp y x
 | _,_,.nil,_=>rfl
 | y::xs,u::us,.cons r t,f=>by
  rw [List.all_cons,Bool.and_eq_true] at f
  rw [List.any_cons,List.any_cons,wx r f.1,mj t f.2]
theorem mq{A:Around}{s:Shared}{x:V}{v:Value}(rx:RelV x v)(fx:eg x=true):∀{xs:List V} {us:List Value},Vals xs us→xs.all eg=true→∀u∈us,SeqAt.EqAt A s u v (dw x u)
 | _,_,.nil,_=>fun u hu=>by cases hu
 | y::xs,u::us,.cons r t,f=>fun u' hu=>by
  rw [List.all_cons,Bool.and_eq_true] at f
  rcases List.mem_cons.mp hu with rfl | hu
  ·rw [wx r f.1];exact iR r rx f.1 fx
  ·exact mq rx fx t f.2 u' hu
def jS(x:V)(xs:List V):Bool:=xs.any fun y=>cp y x
def oz(K:PySem.W.Frag)(neg:Bool):R2:=fun x y H Q=>∃p xs,y=.ref p∧(aS K H p xs∨cK K H p xs)∧eg x=true∧xs.all eg=true∧Q (.bl (if neg then !jS x xs else jS x xs)) H
theorem wy:bE X (compareOp .In) (oz X.K false):=by
 intro pins s σ H x y v u Q I rx ry h
 obtain ⟨p,xs,rfl,hq,fx,fs,q⟩:=h
 cases ry
 rcases hq with hq | hq
 ·obtain ⟨aa,r,pl,hz⟩:=I.list hq
  refine SeqAt.in_listAt (dw x) pl.isList (fun w hw=>mq rx fx r fs w (by simpa using hw)) ⟨.bl _,H,I,rfl,?_⟩
  rw [show aa.toArray.any (dw x)=aa.any (dw x) by simp,mj r fs]
  exact q
 ·obtain ⟨aa,r,pl,hz⟩:=I.tuple hq
  refine SeqAt.in_tupleAt (dw x) pl (fun w hw=>mq rx fx r fs w (by simpa using hw)) ⟨.bl _,H,I,rfl,?_⟩
  rw [show aa.toArray.any (dw x)=aa.any (dw x) by simp,mj r fs]
  exact q
theorem BU:bE X (compareOp .NotIn) (oz X.K true):=by
 intro pins s σ H x y v u Q I rx ry h
 obtain ⟨p,xs,rfl,hq,fx,fs,q⟩:=h
 cases ry
 rcases hq with hq | hq
 ·obtain ⟨aa,r,pl,hz⟩:=I.list hq
  refine SeqAt.notIn_listAt (dw x) pl.isList (fun w hw=>mq rx fx r fs w (by simpa using hw)) ⟨.bl _,H,I,rfl,?_⟩
  rw [show aa.toArray.any (dw x)=aa.any (dw x) by simp,mj r fs]
  exact q
 ·obtain ⟨aa,r,pl,hz⟩:=I.tuple hq
  refine SeqAt.notIn_tupleAt (dw x) pl (fun w hw=>mq rx fx r fs w (by simpa using hw)) ⟨.bl _,H,I,rfl,?_⟩
  rw [show aa.toArray.any (dw x)=aa.any (dw x) by simp,mj r fs]
  exact q
theorem iS:d7 X (.builtin "len") (fun xs H Q=>∃p ys,xs=[.ref p]∧(aS X.K H p ys∨cK X.K H p ys)∧Q (.int ys.length) H):=by
 intro pins s σ H xs us Q I r h
 obtain ⟨p,ys,rfl,hq,q⟩:=h
 obtain ⟨u,rfl,rx⟩:=vals1 r
 cases rx
 have hn:=md
 rcases hq with hq | hq
 ·obtain ⟨aa,r',pl,hz⟩:=I.list hq
  have hlen:=r'.length
  exact Calls.call_len_list pl.isList (by simp only [List.size_toArray] <;> omega) ⟨.int ys.length,H,I.tok _,⟨s.toks+1,by rw [List.size_toArray,hlen]⟩,q⟩
 ·obtain ⟨aa,r',pl,hz⟩:=I.tuple hq
  have hlen:=r'.length
  exact len_tuple pl (by simp only [List.size_toArray] <;> omega) ⟨.int ys.length,H,I.tok _,⟨s.toks+1,by rw [List.size_toArray,hlen]⟩,q⟩
theorem wz:d7 X (.type "list") (fun xs H Q=>∃p ys,xs=[.ref p]∧(aS X.K H p ys∨cK X.K H p ys)∧∀l,H l=none→Q (.ref l) (upd H l (.lst ys))):=by
 intro pins s σ H xs us Q I r h
 obtain ⟨p,ys,rfl,hq,q⟩:=h
 obtain ⟨u,rfl,rx⟩:=vals1 r
 cases rx
 have fin:∀(aa:List Value),Vals ys aa→ys.length≤sizeLine→∀(h':Heap) (c':Nat),(∀b o',s.heap.get? b=some o'→h'.get? b=some o')→
   h'.get? s.heap.objs.size=some {cls:=.type "list",dict:=none,data:=.seq aa.toArray c',slots:=#[]}→EP X pins σ Q (.ref s.heap.objs.size) {s with heap:=h'}:=fun aa r' hz h' c' kp e=>
  ⟨.ref s.heap.objs.size,_,I.laid (t':=s.toks) kp (Nat.le_refl _) (show bj X.prog X.w _ h' _ (.lst ys) from ⟨hz,aa,c',r',e⟩),rfl,q _ (I.ar.fresh (Nat.le_refl _))⟩
 rcases hq with hq | hq
 ·obtain ⟨aa,r',pl,hz⟩:=I.list hq
  have hlen:=r'.length
  obtain ⟨o,ho,hc,n,hd⟩:=pl.isList
  exact call_list_seq p (.inl rfl) ho hc hd (fun h' c' kp e=>fin aa r' hz h' c' kp e) (by simp only [List.size_toArray] <;> omega)
 ·obtain ⟨aa,r',pl,hz⟩:=I.tuple hq
  have hlen:=r'.length
  obtain ⟨o,ho,hc,n,hd⟩:=pl
  exact call_list_seq p (.inr rfl) ho hc hd (fun h' c' kp e=>fin aa r' hz h' c' kp e) (by simp only [List.size_toArray] <;> omega)
theorem rA:d7 X (.type "tuple") (fun xs H Q=>∃p ys,xs=[.ref p]∧((aS X.K H p ys∧∀l,H l=none→Q (.ref l) (upd H l (.tup ys)))∨(cK X.K H p ys∧Q (.ref p) H))):=by
 intro pins s σ H xs us Q I r h
 obtain ⟨p,ys,rfl,h⟩:=h
 obtain ⟨u,rfl,rx⟩:=vals1 r
 cases rx
 rcases h with ⟨hq,q⟩ | ⟨hq,q⟩
 ·obtain ⟨aa,r',pl,hz⟩:=I.list hq
  have hlen:=r'.length
  refine call_tuple_list pl.isList (fun h' kp=>?_) (by simp only [List.size_toArray] <;> omega)
  have I1:Inv X pins σ H {s with heap:=h'}:=I.kept (t':=s.toks) kp
  have I2:Inv X pins σ (upd H h'.objs.size (.tup ys)) {s with heap:=h'.push {cls:=.type "tuple",data:=.seq aa.toArray}}:=
   I1.laid (t':=s.toks) (fun b o e=>Heap.get?_push_of_some _ e) (Nat.le_refl _) (show bj X.prog X.w _ _ _ (.tup ys) from ⟨hz,aa,r',IsTup.new _ _⟩)
  exact ⟨.ref h'.objs.size,_,I2,rfl,q _ (I1.ar.fresh (Nat.le_refl _))⟩
 ·obtain ⟨aa,r',pl,hz⟩:=I.tuple hq
  exact call_tuple_same pl ⟨.ref p,H,I,rfl,q⟩
def rB(K:PySem.W.Frag)(T:String)(x:V)(H:Hp):Prop:=match x with
 | .str _=>T = "str"
 | .int _=>T = "int"
 | .ref p=>(T = "list"∧∃xs,aS K H p xs)∨(T = "tuple"∧∃o,K.lookup p=some o∧o.cls=.type "tuple"∧o.dict=none) ∨
   (T = "dict"∧((∃ai,H p=some (.dK ai))∨∃ai,H p=some (.dT ai)))∨(T = "set"∧∃S n,H p=some (.set S n))
 | _=>False
theorem wA{pins:List (Addr×Obj)}{σ:St}{H:Hp}{s:Shared}{T:String}{x:V}{v:Value}(I:Inv X pins σ H s)(r:RelV x v)(ty:rB X.K T x H) :
  s.TypeIs v T∧∀a,v=.ref a→∃ob,s.heap.get? a=some ob∧ob.dict=none:=by
 cases x with
 | str z=>
  obtain ⟨t,rfl⟩:=r
  cases (show T = "str" from ty)
  exact ⟨typeIs_str s z t,fun _ e=>nomatch e⟩
 | int i=>
  obtain ⟨t,rfl⟩:=r
  cases (show T = "int" from ty)
  exact ⟨typeIs_int s i t,fun _ e=>nomatch e⟩
 | ref p=>
  cases r
  rcases ty with ⟨rfl,xs,hq⟩ | ⟨rfl,o,hk,hc,hd⟩ | ⟨rfl,hk⟩ | ⟨rfl,S,n,hk⟩
  ·obtain ⟨aa,_,pl,_⟩:=I.list hq
   refine ⟨pl.isList.typeIs,fun a e=>?_⟩
   cases e
   obtain ⟨o,n,e,c,hd,_⟩:=pl
   exact ⟨o,e,hd⟩
  ·refine ⟨⟨o,I.cC p o hk,hc⟩,fun a e=>?_⟩
   cases e
   exact ⟨o,I.cC _ o hk,hd⟩
  ·have z:∃o,s.heap.get? p=some o∧o.ExactDict:=by
    rcases hk with ⟨ai,hk⟩ | ⟨ai,hk⟩
    ·obtain ⟨_,_,_,_,o,_,_,e,ex,_⟩:=I.ar p _ hk
     exact ⟨o,e,ex⟩
    ·obtain ⟨_,_,_,_,o,_,_,e,ex,_⟩:=I.ar p _ hk
     exact ⟨o,e,ex⟩
   obtain ⟨o,e,ex⟩:=z
   refine ⟨⟨o,e,ex.1⟩,fun a e2=>?_⟩
   cases e2
   exact ⟨o,e,ex.2.1⟩
  ·obtain ⟨o,_,_,_,e,ex,_⟩:=I.ar p _ hk
   refine ⟨⟨o,e,ex.1⟩,fun a e2=>?_⟩
   cases e2
   exact ⟨o,e,ex.2.1⟩
 | _=>exact False.elim ty
def BV(K:PySem.W.Frag)(T:String)(r:V→List V→Hp→VK→Prop)(to:TE):TE:=fun σ H Q=>to σ H fun x H1=>rB K T x H1∧r x [] H1 Q
def BW(K:PySem.W.Frag)(T:String)(r:V→List V→Hp→VK→Prop)(to:TE)(t:TA):TE:=fun σ H Q=>to σ H fun x H1=>rB K T x H1∧t σ H1 fun xs H2=>r x xs H2 Q
variable {o e:Expr} {es:List Expr} {to:TE} {t:TA} {name:Str} {apos dy:Pos} {T id:String} {r:V→List V→Hp→VK→Prop}
theorem BX(pa:PlainAttrs T)(slot:Slot T name id)(rC:typeOf (.builtin id)=pure (.type "method_descriptor"))(hm:wo X id r)(ho:PE X o to)
  (rD:attributeBase o name X.env (eval o X.env)=eval o X.env:=by rfl) (rE:(apos.endLine == dy.line)=true:=by rfl):PE X (.Call (.Attribute o name apos) [] [] dy) (BV X.K T r to):=by
 intro pins s σ H Q I h
 refine wpAny_Call_method0_late rD rE (aw (ho pins s σ H _ I h) fun v s1 ⟨x,H1,I1,r1,ty,q1⟩=>?_)
 obtain ⟨h1,h2⟩:=wA I1 r1 ty
 exact ⟨T,id,pa,slot,rC,h1,h2,Calls.callWith_builtin rfl (PySem.evalArgs_none (hm pins s1 σ H1 x [] v [] Q I1 r1 .nil q1))⟩
theorem dO(pa:PlainAttrs T)(slot:Slot T name id)(rC:typeOf (.builtin id)=pure (.type "method_descriptor"))(hm:wo X id r)(ho:PE X o to)(ha:PA X (e::es) t)
  (rD:attributeBase o name X.env (eval o X.env)=eval o X.env:=by rfl)
  (BY:((backTo dy (starEach (e::es) X.env)).all (fun x=>!x.1) && (backToKw dy (keywordEach [] X.env)).all (fun x=>x.1.isSome)
   && decide ((e::es).length+([]:List Keyword).length+(if ([]:List Keyword).isEmpty then 0 else 1)<30))=true:=by rfl)
  (rE:(apos.endLine == dy.line)=true:=by rfl) (hs:starEach (e::es) X.env=(false,eval e X.env)::starEach es X.env:=by rfl) (BZ:(backTo dy (starEach es X.env)).any (·.1)=false:=by rfl) :
  PE X (.Call (.Attribute o name apos) (e::es) [] dy) (BW X.K T r to t):=by
 intro pins s σ H Q I h
 refine wpAny_Call_method_late rD BY rE rfl (aw (ho pins s σ H _ I h) fun v s1 ⟨x,H1,I1,r1,ty,q1⟩=>?_)
 obtain ⟨h1,h2⟩:=wA I1 r1 ty
 refine ⟨T,id,pa,slot,rC,h1,h2,?_⟩
 have hA:=ha dy pins s1 σ H1 _ I1 q1
 rw [hs] at hA ⊢
 refine Calls.callWith_builtin (by show (false || (backTo dy (starEach es X.env)).any (·.1))=false;rw [BZ] <;> rfl) (Calls.evalArgs_plain ?_)
 exact aw hA fun us s2 ⟨vs,H2,I2,r2,q2⟩=>hm pins s2 σ H2 x vs v us Q I2 r1 r2 q2
end
def mr(X:Cx)(id:String)(r:V→List V→Hp→VK→Prop):Prop:=
 ∀(pins:List (Addr×Obj)) (s:Shared) (σ:St) (H:Hp) (x:V) (xs:List V) (v:Value) (us:List Value) (Q:VK),Inv X pins σ H s→RelV x v→Vals xs us→r x xs H Q→
  wpAny (model X.prog X.w) X.A (call (.builtin id) (v::us)) (EP X pins σ Q) X.xe s
theorem Vals.one:∀{x:V} {us:List Value},Vals [x] us→∃u,us=[u]∧RelV x u
 | _,_,.cons r .nil=>⟨_,rfl,r⟩
theorem Vals.zero:∀{us:List Value},Vals [] us→us=[]
 | _,.nil=>rfl
theorem Vals.dropLast{xs:List V}{us:List Value}(h:Vals xs us):Vals xs.dropLast us.dropLast:=by
 induction h with
 | nil=>exact .nil
 | cons r t ih=>
  cases t with
  | nil=>exact .nil
  | cons q t'=>exact .cons r ih
theorem Vals.eraseIdx:∀{xs:List V} {us:List Value} (i:Nat),Vals xs us→Vals (xs.eraseIdx i) (us.eraseIdx i)
 | _,_,_,.nil=>.nil
 | _,_,0,.cons _ t=>t
 | _,_,i+1,.cons r t=>.cons r (Vals.eraseIdx i t)
theorem Vals.rep{xs:List V}{us:List Value}(h:Vals xs us):∀k:Nat,Vals (List.replicate k xs).flatten (List.replicate k us).flatten
 | 0=>.nil
 | k+1=>by
  rw [List.replicate_succ,List.replicate_succ,List.flatten_cons,List.flatten_cons]
  exact Vals.append h (Vals.rep h k)
theorem B0{α:Type}(l:List α):l.eraseIdx (l.length-1)=l.dropLast:=by
 induction l with
 | nil=>rfl
 | cons a r ih=>
  cases r with
  | nil=>rfl
  | cons b r=>
   have e:(a::b::r).length-1=((b::r).length-1)+1:=by
    have h1:(a::b::r).length=r.length+2:=rfl
    have h2:(b::r).length=r.length+1:=rfl
    omega
   rw [e,List.eraseIdx_cons_succ,ih]
   all_goals rfl
theorem rF{α:Type}:∀(l:List α) (i:Nat),(l.eraseIdx i).length≤l.length
 | [],_=>Nat.le_refl _
 | _::_,0=>Nat.le_succ _
 | _::r,i+1=>Nat.succ_le_succ (rF r i)
theorem foldl_rep(aa:List Value):∀(k:Nat) (acc:List Value),
  List.foldl (fun x1 x2=>x1++x2) acc.toArray (List.replicate k aa.toArray)=(acc++(List.replicate k aa).flatten).toArray
 | 0,acc=>by simp
 | k+1,acc=>by
  have e:acc.toArray++aa.toArray=(acc++aa).toArray:=by simp
  have e2:(acc++aa)++(List.replicate k aa).flatten=acc++(List.replicate (k+1) aa).flatten:=by
   rw [List.replicate_succ,List.flatten_cons,List.append_assoc]
  rw [←e2,←foldl_rep aa k (acc++aa),←e,List.replicate_succ,List.foldl_cons]
section
variable {X:Cx} {pins:List (Addr×Obj)} {σ:St} {H:Hp} {s:Shared} {l b:Addr} {xs ys zs:List V}
theorem Inv.my{aa its':List Value}{n:Nat}{f:Array Value→Array Value}{t':Nat}(I:Inv X pins σ H s)(hH:H l=some (.lst xs))
  (e:s.heap.get? l=some {cls:=.type "list",data:=.seq aa.toArray n}) (hf:f aa.toArray=its'.toArray) (hv:Vals ys its') (hz:ys.length≤sizeLine) :
  Inv X pins σ (upd H l (.lst ys)) {s with heap:=s.heap.update l (Obj.mapSeq f),toks:=t'}:=by
 have q:=PySem.IsL.update e f
 rw [hf] at q
 refine I.write (x:=l) (e:=l) (by rw [hH];exact trivial) (.inl rfl) (fun b' u hb hu=>(Heap.get?_update_other s.heap (Obj.mapSeq f) (Ne.symm hb)).trans hu) ⟨_,q⟩ ?_
 exact ⟨hz,its',_,hv,q⟩
theorem Inv.wB{aa:List Value}{t':Nat}(I:Inv X pins σ H s)(hv:Vals ys aa)(hz:ys.length≤sizeLine) :
  Inv X pins σ (upd H s.heap.objs.size (.lst ys)) {s with heap:=s.heap.push {cls:=.type "list",data:=.seq aa.toArray},toks:=t'}:=
 I.laid (fun _ _ q=>Heap.get?_push_of_some _ q) (Nat.le_refl _) ⟨hz,aa,0,hv,Heap.get?_push_size _ rfl⟩
theorem Inv.fresh(I:Inv X pins σ H s):H s.heap.objs.size=none:=I.ar.fresh (Nat.le_refl _)
theorem Inv.gh(I:Inv X pins σ H s)(hH:H l=some (.lst xs)):xs.length≤sizeLine∧∃(aa:List Value) (n:Nat),Vals xs aa∧xs.length=aa.length∧s.heap.get? l=some {cls:=.type "list",data:=.seq aa.toArray n}:=by
 obtain ⟨z,aa,n,r,e⟩:=I.ar l _ hH
 exact ⟨z,aa,n,r,r.length,e⟩
theorem wC{n:Nat}(h:n≤sizeLine):Builtin.List.listTooLong n=false:=by
 unfold Builtin.List.listTooLong
 exact decide_eq_false (by omega)
end
section
variable {X:Cx}
def B1:V→List V→Hp→VK→Prop:=fun x vs H Q=>∃l xs y,x=.ref l∧vs=[y]∧H l=some (.lst xs)∧xs.length<sizeLine∧Q .aF (upd H l (.lst (xs++[y])))
theorem ei:mr X "list.append" B1:=by
 intro pins s σ H x vs v us Q I rx rv h
 obtain ⟨l,xs,y,rfl,rfl,hH,hz,q⟩:=h
 cases rx
 obtain ⟨u,rfl,ru⟩:=rv.one
 obtain ⟨z,aa,n,r,hl,e⟩:=I.gh hH
 refine call_meets F.slot_list_append ⟨_,e,rfl⟩ F.entry_list_append (F.args_list_append_2 _ _) (PySem.list_append l aa.toArray n u (by rw [List.size_toArray];omega)) ⟨e,?_⟩
 refine ⟨.aF,_,I.my (its':=aa++[u]) hH e (by simp) (r.append (.cons ru .nil)) ?_,rfl,q⟩
 rw [List.length_append,List.length_singleton]
 omega
def B2:V→List V→Hp→VK→Prop:=fun x vs H Q=>∃l b xs zs,x=.ref l∧vs=[.ref b]∧H l=some (.lst xs)∧H b=some (.lst zs)∧xs.length+zs.length≤sizeLine∧Q .aF (upd H l (.lst (xs++zs)))
theorem wD:mr X "list.extend" B2:=by
 intro pins s σ H x vs v us Q I rx rv h
 obtain ⟨l,b,xs,zs,rfl,rfl,hH,hB,hz,q⟩:=h
 cases rx
 obtain ⟨u,rfl,ru⟩:=rv.one
 cases ru
 obtain ⟨z,aa,n,r,hl,e⟩:=I.gh hH
 obtain ⟨z2,gU,n2,r2,B3,e2⟩:=I.gh hB
 have hsz:aa.toArray.size+gU.toArray.size≤sizeLine:=by rw [List.size_toArray,List.size_toArray];omega
 have rG:¬(!aa.toArray.isEmpty && Builtin.List.listTooLong (aa.toArray.size+gU.toArray.size))=true:=by
  rw [wC hsz,Bool.and_false]
  exact Bool.false_ne_true
 refine call_meets F.slot_list_extend ⟨_,e,rfl⟩ F.entry_list_extend (F.args_list_extend_2 _ _)
  (AutoSeq1.list_extend_list_list_0 l aa.toArray n b gU.toArray n2 rG (by rw [List.size_toArray];omega) (by omega)) ⟨e,e2,?_⟩
 refine ⟨.aF,_,I.my (its':=aa++gU) hH e (by simp) (r.append r2) ?_,rfl,q⟩
 rw [List.length_append]
 omega
def B4:V→List V→Hp→VK→Prop:=fun x vs H Q=>∃l xs y,x=.ref l∧vs=[]∧H l=some (.lst xs)∧xs[xs.length-1]?=some y∧Q y (upd H l (.lst xs.dropLast))
theorem B5:mr X "list.pop" B4:=by
 intro pins s σ H x vs v us Q I rx rv h
 obtain ⟨l,xs,y,rfl,rfl,hH,hy,q⟩:=h
 cases rx
 have iT:=rv.zero
 subst iT
 obtain ⟨z,aa,n,r,hl,e⟩:=I.gh hH
 obtain ⟨u,hu,ru⟩:=r.get hy
 have rH:aa.toArray[aa.toArray.size-1]?=some u:=by
  show aa.toArray[aa.length-1]?=some u
  rw [←Array.getElem?_toList,←hl]
  exact hu
 refine call_meets F.slot_list_pop ⟨_,e,rfl⟩ F.entry_list_pop (F.args_list_pop_1 _) (MeetsSeq.list_pop_last l aa.toArray n u rH (by rw [List.size_toArray];omega)) ⟨e,?_⟩
 refine ⟨y,_,I.my (its':=aa.dropLast) hH e ?_ r.dropLast ?_,ru,q⟩
 ·show aa.toArray.eraseIdxIfInBounds (aa.toArray.size-1)=aa.dropLast.toArray
  rw [List.size_toArray,List.eraseIdxIfInBounds_toArray,B0]
 ·rw [List.length_dropLast]
  omega
def B6:V→List V→Hp→VK→Prop:=fun x vs H Q=>∃l xs i k y,x=.ref l∧vs=[.int i]∧H l=some (.lst xs)∧-(2 ^ 63)≤i∧i<2 ^ 63∧seqIndex? i xs.length=some k∧xs[k]?=some y∧Q y (upd H l (.lst (xs.eraseIdx k)))
theorem B7:mr X "list.pop" B6:=by
 intro pins s σ H x vs v us Q I rx rv h
 obtain ⟨l,xs,i,k,y,rfl,rfl,hH,h1,h2,hk,hy,q⟩:=h
 cases rx
 obtain ⟨u,rfl,ru⟩:=rv.one
 obtain ⟨t,rfl⟩:=ru
 obtain ⟨z,aa,n,r,hl,e⟩:=I.gh hH
 obtain ⟨w,hw,iQ⟩:=r.get hy
 refine call_meets F.slot_list_pop ⟨_,e,rfl⟩ F.entry_list_pop (F.args_list_pop_2 _ _)
  (MeetsSeq.list_pop_at l aa.toArray n i t k w (fitsIndex_both h1 h2) (by rw [List.size_toArray,←hl];exact hk) (by rw [←Array.getElem?_toList];exact hw) (by rw [List.size_toArray];omega)) ⟨e,?_⟩
 refine ⟨y,_,I.my (its':=aa.eraseIdx k) hH e ?_ (r.eraseIdx k) ?_,iQ,q⟩
 ·show aa.toArray.eraseIdxIfInBounds k=(aa.eraseIdx k).toArray
  rw [List.eraseIdxIfInBounds_toArray]
 ·have:=rF xs k
  omega
def B8:R2:=fun x y H Q=>∃l b xs zs,x=.ref l∧y=.ref b∧H l=some (.lst xs)∧H b=some (.lst zs)∧xs.length+zs.length≤sizeLine∧∀p,H p=none→Q (.ref p) (upd H p (.lst (xs++zs)))
theorem rJ:bE X (binaryOp .Add) B8:=by
 intro pins s σ H x y v u Q I rx ry h
 obtain ⟨l,b,xs,zs,rfl,rfl,hH,hB,hz,q⟩:=h
 cases rx
 cases ry
 obtain ⟨z,aa,n,r,hl,e⟩:=I.gh hH
 obtain ⟨z2,gU,n2,r2,B3,e2⟩:=I.gh hB
 refine PySem.P.add_list e e2 ?_ (by rw [List.size_toArray,List.size_toArray];omega)
 have ea:aa.toArray++gU.toArray=(aa++gU).toArray:=by simp
 rw [ea]
 exact ⟨.ref _,_,I.wB (t':=s.toks) (r.append r2) (by rw [List.length_append];omega),rfl,q _ I.fresh⟩
def B9:R2:=fun x y H Q=>∃l k xs,x=.ref l∧y=.int k∧H l=some (.lst xs)∧-(2 ^ 63)≤k∧k<2 ^ 63∧xs.length*k.toNat≤sizeLine ∧
 ∀p,H p=none→Q (.ref p) (upd H p (.lst (List.replicate k.toNat xs).flatten))
theorem len_rep{α:Type}(xs:List α)(k:Nat):(List.replicate k xs).flatten.length=k*xs.length:=by
 induction k with
 | zero=>simp
 | succ k ih=>rw [List.replicate_succ,List.flatten_cons,List.length_append,ih,Nat.succ_mul,Nat.add_comm]
theorem B_:bE X (binaryOp .Mult) B9:=by
 intro pins s σ H x y v u Q I rx ry h
 obtain ⟨l,k,xs,rfl,rfl,hH,h1,h2,hz,q⟩:=h
 cases rx
 obtain ⟨t,rfl⟩:=ry
 obtain ⟨z,aa,n,r,hl,e⟩:=I.gh hH
 have hlen:aa.toArray.size*k.toNat≤sizeLine:=by rw [List.size_toArray,←hl];exact hz
 have Ca:¬aa.toArray.size*k.toNat>(2 ^ 63-1) / 8:=by
  have:(sizeLine:Nat)≤(2 ^ 63-1) / 8:=by decide
  omega
 have Cb:¬(!Builtin.List.listFitsIndex k)=true:=by
  rw [fitsIndex_both h1 h2]
  exact Bool.false_ne_true
 have rG:¬Builtin.List.listTooLong (aa.toArray.size*k.toNat)=true:=by
  rw [wC hlen]
  exact Bool.false_ne_true
 have Cc:List.foldl (fun x1 x2=>x1++x2) #[] (List.replicate (if aa.toArray.isEmpty=true then 0 else k.toNat) aa.toArray)=(List.replicate k.toNat aa).flatten.toArray:=by
  have f0:∀m:Nat,List.foldl (fun x1 x2=>x1++x2) #[] (List.replicate m aa.toArray)=(List.replicate m aa).flatten.toArray:=fun m=>by
   have:=foldl_rep aa m []
   rw [List.nil_append] at this
   exact this
  rw [f0]
  cases aa with
  | nil=>simp
  | cons a r'=>rw [if_neg (by simp)]
 refine wpAny_binaryOp_repeat_ref (T:="list") (U:="int") (by decide) ⟨_,e,rfl⟩ (fun s'=>typeIs_int s' k t) noFill_list_mul F.fills_int_mul F.slot_int_rmul repeat_list F.slot_int_index.lookup
  (call_meets F.slot_int_rmul (typeIs_int s k t) F.entry_int_rmul (F.args_int_rmul_2 _ _) (int___rmul___int_list k t l aa.toArray n)
   ⟨e,rfl,⟨_,e,rfl⟩,call_meets F.slot_list_mul ⟨_,e,rfl⟩ F.entry_list_mul (F.args_list_mul_2 _ _) (AutoListH.list___mul___list_int_3 l aa.toArray n k t Cb Ca rG) ⟨e,?_⟩⟩)
 rw [Cc]
 exact ⟨.ref _,_,I.wB (t':=s.toks) (r.rep k.toNat) (by rw [len_rep,Nat.mul_comm];exact hz),rfl,q _ I.fresh⟩
end
section
variable {prog:Program} {w:World} {A:Around} {E:Value→Shared→Prop} {s:Shared}
end
section
variable {X:Cx}
end
end L2
namespace oA
open PySem PySem.W PySem.Calls PyProof.Rows
theorem Cd{P:Params}{h:Heap}:∀(ns:List Int) (vs:List Value),WellAll P h vs (ns.map WData.int)→IntsAre vs ns:=by
 intro ns
 induction ns with
 | nil=>
  intro vs w
  rw [List.map_nil] at w
  cases w
  exact .nil
 | cons n ns ih=>
  intro vs w
  rw [List.map_cons] at w
  cases w with
  | cons a b=>
   cases a
   exact .cons _ _ (ih _ b)
theorem Ce{l:OpenLaw}{n:Nat}(hn:l.most=some n){P:Params}{h:Heap}{args:List WData}{vals:List Value}
  (oB:l.row.toRowW.claim.pre args=true) (rK:WellAll P h vals args) :
  ∃a vs ns,vals=[Value.ref a]∧args=[WData.list (ns.map WData.int)]∧h.get? a=some {cls:=.type "list",data:=.seq vs.toArray}∧IntsAre vs ns∧ns.length≤n:=by
 have Cf:WShape.hasAll [] args [.list .int]=true:=(pre_splitW oB).1
 have hc:l.pre.holds [] {args:=args}=true:=(pre_splitW oB).2
 obtain ⟨d,r,rfl,h1,h2⟩:=hasAllW_cons Cf
 obtain rfl:=hasAllW_nil h2
 obtain ⟨xs,rfl,h3⟩:=hasW_list h1
 obtain ⟨ns,rfl⟩:=items_int h3
 have hlen:ns.length≤n:=by
  unfold OpenLaw.pre at hc
  have h4:(WTm.not (.lt (.lit (.int (n:Int))) (.len (.arg 0)))).holds [] {args:=[.list (ns.map .int)]}=true:=by
   have h4:=(holds_andW hc).1
   rw [hn] at h4
   exact h4
  have h5:=condW_of h4 (w_not (w_lt w_lit (w_len_list (w_arg rfl))))
  rw [List.length_map] at h5
  refine Nat.le_of_not_lt fun q=>?_
  have q':(n:Int)<((ns.length:Nat):Int):=by omega
  first
   | (rw [decide_eq_true q'] at h5;exact absurd h5 (by decide))
   | (simp at h5;omega)
 cases rK with
 | cons w1 w2=>
  cases w2
  cases w1 with
  | list ho rL=>exact ⟨_,_,ns,rfl,rfl,ho,Cd ns _ rL,hlen⟩
theorem Cg(l:OpenLaw)(args:List WData):l.row.toRowW.claim.post args (.bool true) args=true:=
 postW_of (r:=l.row.toRowW) (X:=(true == true))
  (show WShape.has [] (.bool true) .bool=true by first | rfl | decide | simp [WShape.has,WShape.arms,WShape.armsAll])
  (show (WTm.eq .res (.lit (.bool true))).value [] {args:=args,res:=some (.bool true),after:=args}=some (.bool (true == true)) from w_eq_bool (w_res rfl) w_lit) rfl
theorem Ci{l:OpenLaw}{n:Nat}{q:Program}{loose:List Str}{XP:(Str→Option Value)→Heap→Prop}{YP:World→Heap→Prop}{d:DefRec}
  (hn:l.most=some n) (mz:d.params.defaults=[])
  (call:∀(w:World) (s₀ s₁:Shared) (mg mb:Str→Option Value) (fa:Addr) (o:Obj) (pm cd doc:Value) (a:Addr) (vs:List Value) (ns:List Int),
   Ground q loose [] XP w s₀ mg mb s₁.heap→YP w s₁.heap→
   s₁.heap.get? fa=some o→o.data=.func (docDef d.name d.params d.body d.scope pm cd doc)→s₁.heap.CodeRec cd d.name→mg d.name=some (.ref fa)→
   s₁.heap.get? a=some {cls:=.type "list",data:=.seq vs.toArray}→IntsAre vs ns→ns.length≤n→s₁.gens = #[]→
   codeAny (model l.prog w) callerA (.call (.ref fa) ⟨[.ref a],[]⟩) (fun r s'=>r=.ok (.ret (.bool true))∧OldK s₁.heap s'.heap∧s'.os=s₁.os∧AllBare s'.gens) s₁) :
  WalkO q loose XP YP l.row.toRowW d [] (fun f vs=>PySem.call f vs):=by
 intro w s₀ s₁ mg mb G Y fa o pm cd doc dV kV ho hd dN hD mB hg args vals as oB KY KZ rK K6
 obtain rfl:dV=.none:=Dflts.none hD mz
 obtain rfl:kV=.none:=Dflts.noKw hD
 obtain ⟨a,vs,ns,rfl,rfl,rM,hints,hlen⟩:=Ce hn oB rK
 refine enter_call (codeAny_mono (call w s₀ s₁ mg mb fa o pm cd doc a vs ns G Y ho (fd_plain hd) dN mB rM hints hlen hg) fun r s' hq=>?_)
 obtain ⟨rfl,h2,h3,h4⟩:=hq
 exact ⟨.inl ⟨.bool true,.bool true,[],rfl,fun _=>rfl,.bool true,Cg l _,fun _=>⟨List.Pairwise.nil,fun _ hm=>(nomatch hm)⟩⟩,h2,h3,h4⟩
section
variable {prog:Program} {w:World} {A:Around} {E:Value→Shared→Prop} {s:Shared} {K:Frag}
end
end oA
namespace L2
open PySem PySem.Spec PyProof.Rows
theorem wF:∀{vs:List Value} {ns:List Int},IntsAre vs ns→Vals (ns.map V.int) vs
 | _,_,.nil=>.nil
 | _,_,.cons n t h=>.cons ⟨t,rfl⟩ (wF h)
def rN(H:Hp):Prop:=∀b,H b=none∨∃o xs,H b=some (.bb o (.lst xs))
theorem Cj{P:Program}{w:World}{K:PySem.W.Frag}{mg mb:Str→Option Value}{CX:du}{k:Nat}{fa a:Addr}{fd:FuncData}{x:Str}{sp:Sp}{s₁:Shared}{vs:List Value}{ns:List Int}
  (KX:K.In s₁.heap) (wG:s₁.heap.Ns mainGlobals mg) (hb:s₁.heap.Ns builtinsNs mb) (iU:∀x:Str,x ≠ "__name__"→mb x=bootBuiltins x) (Ck:s₁.heap.NoLimit) (hg:s₁.gens = #[])
  (ha:s₁.heap.get? a=some {cls:=.type "list",data:=.seq vs.toArray}) (hi:IntsAre vs ns) (hl:ns.length≤sizeLine) (hr:cn k callerA)
  (F:∀base:Heap,K.In base→base.Ns mainGlobals mg→bA P w K mg base CX k fa fd [x] sp) (Cm:∀(s:Shared) (u:Value),BindsTo s fd ⟨[u],[]⟩ [(x,u)])
  (fQ:∀H:Hp,rN H→aS K H a (ns.map V.int)→sp [.ref a] H (fun v _=>v=.bl true) fun _ _ _=>False)
  (rO:∀H e s',CX [] H s₁ (fun _ _ _=>False) e s'→False) :
  codeAny (model P w) callerA (.call (.ref fa) ⟨[.ref a],[]⟩) (fun r s'=>r=.ok (.ret (.bool true))∧OldK s₁.heap s'.heap∧s'.os=s₁.os∧AllBare s'.gens) s₁:=by
 have rv:=wF hi
 have Cn:=hi.length
 have core:∀H:Hp,rN H→aS K H a (ns.map V.int)→ba P w H s₁.heap→(∀b,H b≠none→b=a)→(H a≠none→K.lookup a=none)→
   codeAny (model P w) callerA (.call (.ref fa) ⟨[.ref a],[]⟩) (fun r s'=>r=.ok (.ret (.bool true))∧OldK s₁.heap s'.heap∧s'.os=s₁.os∧AllBare s'.gens) s₁:=by
  intro H hO hS ar hA hK
  have wH:∀{b:Addr} {o:Obj},s₁.heap.get? b=some o→H b=none→(f_ s₁.heap H).get? b=some o:=fun e n=>AF e n
  have mf:∀{b:Addr} {o:Obj} {es:Array DictEntry} {ep:Nat},s₁.heap.get? b=some o→o.data=.dict es ep→H b=none:=fun{b o es ep} e d=>by
   cases q:H b with
   | none=>rfl
   | some u=>
    have e':b=a:=hA b (by rw [q];simp)
    subst e'
    rw [ha] at e;cases e
    have d':Data.seq vs.toArray _=Data.dict es ep:=d
    cases d'
  have oC:∀{b:Addr} {m:Str→Option Value},s₁.heap.Ns b m→(f_ s₁.heap H).Ns b m:=fun{b m} ⟨o,es,ep,e,d,r⟩=>⟨o,es,ep,wH e (mf e d),d,r⟩
  have wI:K.In (f_ s₁.heap H):=fun b o e=>wH (KX b o e) (by
   cases q:H b with
   | none=>rfl
   | some u=>
    have e':b=a:=hA b (by rw [q];simp)
    subst e'
    rw [hK (by rw [q];simp)] at e;cases e)
  have hM:Mod K mg (f_ s₁.heap H):=⟨wI,oC wG,⟨mb,oC hb,iU⟩,let ⟨mc,h1,h2⟩:=Ck;⟨mc,oC h1,h2⟩⟩
  have e0:oq P w K mg (f_ s₁.heap H) callerA [] s₁ H:=⟨rfl,hM,fun b o e=>AG e,Nat.le_of_eq (AE _ _),trivial,fun b hb=>absurd (show b∈([]:List Addr) from hb) (by simp),ar,.of_eq hg⟩
  refine codeAny_mono ((F _ wI (oC wG)).run callerA [] s₁ H ⟨[.ref a],[]⟩ [.ref a] [.ref a] _ _ hr e0 (Cm s₁ (.ref a)) (.cons rfl .nil) (fQ H hO hS)) fun r s' h=>?_
  cases r with
  | error e=>exact (rO H e s' h).elim
  | ok fl=>
   cases fl with
   | next=>exact False.elim h
   | brk=>exact False.elim h
   | cont=>exact False.elim h
   | ret u=>
    obtain ⟨v,H',os,bare,un,Co,r',q⟩:=h
    have q':v=.bl true:=q
    subst q'
    obtain rfl:u=Value.bool true:=r'
    refine ⟨rfl,OldK.of_keep fun b o e=>?_,os,bare⟩
    cases q:H b with
    | none=>exact un.keep b o e q (by intro z;exact absurd (show b∈([]:List Addr) from z) (by simp)) (by simp)
    | some u=>
     rcases hO b with z | ⟨ob,xs,z⟩
     ·rw [q] at z;cases z
     ·have z2:=un.cY b ob _ z
      obtain ⟨e1,_⟩:=ar b _ z
      obtain ⟨e2,_⟩:=Co b _ z2
      rw [e] at e1;cases e1
      exact e2
 cases hk:K.lookup a with
 | some o=>
  have e:=KX a o hk
  rw [ha] at e
  cases e
  refine core (fun _=>none) (fun _=>.inl rfl) (.inr ⟨_,vs.toArray,_,hk,rfl,rfl,rfl,by rw [List.size_toArray,Cn];exact hl,by simpa using rv⟩) (fun b u z=>by have z':(none:Option HO)=some u:=z;cases z') (fun b z=>absurd rfl z) fun z=>absurd rfl z
 | none=>
  refine core (fun b=>if b=a then some (.bb {cls:=.type "list",data:=.seq vs.toArray} (.lst (ns.map V.int))) else none) (fun b=>?_) (.inl (.inr ⟨{cls:=.type "list",data:=.seq vs.toArray},if_pos rfl⟩)) (fun b u z=>?_) (fun b z=>?_) fun _=>hk
  ·by_cases hb:b=a
   ·exact .inr ⟨_,_,if_pos hb⟩
   ·exact .inl (if_neg hb)
  ·by_cases hb:b=a
   ·have z':=(if_pos hb).symm.trans z
    cases z'
    subst hb
    exact ⟨ha,by rw [List.length_map];exact hl,vs,_,rv,ha⟩
   ·have z':=(if_neg hb).symm.trans z
    cases z'
  ·by_cases hb:b=a
   ·exact hb
   ·exact absurd (if_neg hb) z
abbrev wJ {K:PySem.W.Frag} {h:Heap} (_:K.In h):PySem.W.Frag:=K
theorem Cp{l:PySem.W.OpenLaw}{n k:Nat}{q:Program}{loose:List Str}{XP:(Str→Option Value)→Heap→Prop}{YP:World→Heap→Prop}{d:DefRec}{K:Params→PySem.W.Frag}{CX:World→du}{sp:World→Sp}{x:Str}
  (hn:l.most=some n) (Cq:n≤sizeLine) (mz:d.params.defaults=[]) (hr:cn k callerA)
  (hY:∀(w:World) (h:Heap),YP w h→(K w.params).In h)
  (F:∀(w:World) (mg:Str→Option Value) (fa:Addr) (h:Heap),(K w.params).In h→h.Ns mainGlobals mg→mg d.name=some (.ref fa)→
   ∃fd:FuncData,(∀(s:Shared) (u:Value),BindsTo s fd ⟨[u],[]⟩ [(x,u)]) ∧
    ∀base:Heap,(K w.params).In base→base.Ns mainGlobals mg→bA l.prog w (K w.params) mg base (CX w) k fa fd [x] (sp w))
  (fQ:∀(w:World) (H:Hp) (a:Addr) (ns:List Int),ns.length≤n→rN H→aS (K w.params) H a (ns.map V.int)→sp w [.ref a] H (fun v _=>v=.bl true) fun _ _ _=>False)
  (rO:∀(w:World) (H:Hp) (s:Shared) (e:Value) (s':Shared),CX w [] H s (fun _ _ _=>False) e s'→False) :
  PySem.W.WalkO q loose XP YP l.row.toRowW d [] (fun f vs=>PySem.call f vs):=by
 refine oA.Ci hn mz fun w s₀ s₁ mg mb fa o pm cd doc a vs ns G Y ho hd dN mB rM hints hlen hg=>?_
 have KX:=hY w _ Y
 obtain ⟨fd,hb,hF⟩:=F w mg fa _ KX G.T.g mB
 exact Cj KX G.T.g G.T.b G.T.builtins G.T.nolimit hg rM hints (Nat.le_trans hlen Cq) hr hF hb (fun H hO hS=>fQ w H a ns hlen hO hS) fun H e s'=>rO w H s₁ e s'
def oD(s:Stmt):Arguments:=match s with
 | .FunctionDef _ a _ _ _ _ _ _ _ _=>a
 | _=>{posonlyargs:=[],args:=[],vararg:=none,kwonlyargs:=[],kw_defaults:=[],kwarg:=none,defaults:=[]}
def jT(s:Stmt):List Stmt:=match s with
 | .FunctionDef _ _ b _ _ _ _ _ _ _=>b
 | _=>[]
def bu(s:Stmt):Scope:=match s with
 | .FunctionDef _ _ _ _ _ _ sc _ _ _=>sc
 | _=>{kind:=.function,names:=[],isGenerator:=false,isCoroutine:=false}
abbrev bU:du:=fun _ _ _ _ _ _=>False
abbrev E0:XK:=fun _ _ _=>False
theorem bH{X:Cx}:Passes bU X E0:=fun _ _ _ _ _ _ _ h=>h.elim
structure aP (K:PySem.W.Frag) (x qual:Str) (st:Stmt) (f:Addr) (fd:FuncData):Prop where
 ex:∃(oc:Value) (od:Option Addr) (kV doc pm:Value) (an:Option Addr) (aK ct:Value) (fP:Array (Option Value)),
  fd=PySem.W.fnOf x qual (oD st) (jT st) (bu st) .none kV doc pm an aK ct∧K.lookup f=some ⟨oc,od,.func fd,fP⟩∧PySem.W.codeIn K aK qual=true
 kp:PySem.W.keepIn K (.ref f)=true
section
variable {P:Program} {w:World} {K:PySem.W.Frag} {mg:Str→Option Value} {base:Heap}
theorem aP.ok{x qual:Str}{st:Stmt}{f:Addr}{fd:FuncData}{N ps:List Str}{k:Nat}{sp:Sp}(F:aP K x qual st f fd)(S:bP N ps (bu st))(len:∀vs H Q E,sp vs H Q E→vs.length=ps.length)
  (mh:∀(aK:Value) (A:Around) (outer:List Env) (s:Shared) (H:Hp) (vs:List V) (Q:VK) (E:XK),cn k (A.deeper (envOfC qual (bu st) s.heap.objs.size f aK))→sp vs H Q E→
   ∃t,dm (gS bU P w K mg base N qual (bu st) f aK A outer s H E).lW (jT st) t∧t {nx:=fun _ H'=>Q .aF H',rt:=Q} (start N vs) H):bA P w K mg base bU (k+1) f fd ps sp:=by
 obtain ⟨oc,od,kV,doc,pm,an,aK,ct,fP,rfl,lk,dN⟩:=F.ex
 refine wc lk dN S len fun A outer s H vs Q E hr fQ=>?_
 obtain ⟨t,h,q⟩:=mh aK A outer s H vs Q E hr fQ
 exact ⟨t,h.lW,q⟩
theorem aP.binds{x qual:Str}{st:Stmt}{f:Addr}{fd:FuncData}{ps:List Str}(F:aP K x qual st f fd)
  (h:∀(kV doc pm:Value) (an:Option Addr) (aK ct:Value) (us:List Value),us.length=ps.length→bindArgs (PySem.W.fnOf x qual (oD st) (jT st) (bu st) .none kV doc pm an aK ct) ⟨us,[]⟩=pure (ps.zip us)):Binds K fd ps []:=by
 obtain ⟨oc,od,kV,doc,pm,an,aK,ct,fP,rfl,lk,dN⟩:=F.ex
 exact .all (h kV doc pm an aK ct)
theorem b7{x qual:Str}{st:Stmt}{f:Addr}{oc:Value}{od an:Option Addr}{fP:Array (Option Value)}{kV doc pm aK ct:Value}(l:K.lookup f=some ⟨oc,od,.func (PySem.W.fnOf x qual (oD st) (jT st) (bu st) .none kV doc pm an aK ct),fP⟩)
  (c:PySem.W.codeIn K aK qual=true) (k:PySem.W.keepIn K (.ref f)=true):aP K x qual st f (PySem.W.fnOf x qual (oD st) (jT st) (bu st) .none kV doc pm an aK ct):=⟨⟨oc,od,kV,doc,pm,an,aK,ct,fP,rfl,l,c⟩,k⟩
end
theorem bV{n:Nat}(h:n≤1000):n<sizeLine:=Nat.lt_of_le_of_lt h (by decide)
section
variable {X:Cx}
theorem pv(i:Nat){x:Str}{pos:Pos}(hN:X.N[i]?=some x:=by rfl)(hv:lN X.env.scope x:=by first | exact Or.inl rfl | exact Or.inr (Or.inl rfl) | exact Or.inr (Or.inr rfl))(hd:(x == ("__debug__":Str))=false:=by decide)
  (dN:(x == ("__classdict__":Str))=false:=by decide):PE X (.Name x pos) (vv i):=AQ hN hv hd dN
end
theorem iV{A B:Prop}(h:B):if false=true then A else B:=by
 rw [if_neg Bool.false_ne_true]
 exact h
theorem rQ{A B:Prop}(h:A):if true=true then A else B:=by
 rw [if_pos rfl]
 exact h
theorem b8{c A B:Prop}[Decidable c](h1:c→A)(h2:¬c→B):if c then A else B:=by
 by_cases h:c
 ·rw [if_pos h]
  exact h1 h
 ·rw [if_neg h]
  exact h2 h
def ae(H H':Hp):Prop:=∀b o,H b=some o→H' b=some o
theorem ae.refl(H:Hp):ae H H:=fun _ _ h=>h
theorem ae.trans{H H1 H2:Hp}(a:ae H H1)(b:ae H1 H2):ae H H2:=fun c o h=>b c o (a c o h)
theorem ae.seq{K:PySem.W.Frag}{H H':Hp}{a:Addr}{xs:List V}(e:ae H H')(h:aS K H a xs):aS K H' a xs:=by
 rcases h with (h | ⟨o,h⟩) | h
 ·exact .inl (.inl (e _ _ h))
 ·exact .inl (.inr ⟨o,e _ _ h⟩)
 ·exact .inr h
end L2
set_option maxHeartbeats 4000000
namespace L2
open PySem PySem.Spec PyProof.Rows
structure oE (P:Program) (w:World) (outer:List Env) (H:Hp) (s:Shared) (H':Hp) (ea C:Addr) (B:Heap) (t:Addr) (s':Shared):Prop where
 os:s'.os=s.os
 bare:AllBare s'.gens
 fl:Heap.FlyingW B outer ea (.ref C) (.ref t) s'.heap
 ar:ba P w H' B
 kb:∀b o,s.heap.get? b=some o→H b=none→b∉bt outer→B.get? b=some o
 tb:∀b o,s.heap.get? b=some o→b∉bt outer→∃o',B.get? b=some o'
 sl:∀b o,s.heap.get? b=some o→H b=none→b∈bt outer→∃l,s'.heap.get? b=some {o with slots:=l}
 K7:∀b∈bt outer,H b=none
 Cr:∀b o,s.heap.get? b=some o→H b=none→H' b=none
 di:∀b xs,H b=some (.tup xs)→H' b=some (.tup xs)
 cY:∀b o u,H b=some (.bb o u)→H' b=some (.bb o u)
 dj:∀b ps,H b=some (.f9 ps)→∃more,H' b=some (.f9 (ps++more))
def fk(P:Program)(w:World):du:=fun outer H s E e s'=>∃ea C H' B t,e=.ref ea∧oE P w outer H s H' ea C B t s'∧E (.ref C) none H'
section
variable {P:Program} {w:World} {outer:List Env} {H H':Hp} {s s':Shared} {ea C t:Addr} {B:Heap}
def ExcAt(ea C:Addr)(h:Heap):Prop:=∃oe,h.get? ea=some oe∧oe.cls=.ref C∧PySem.W.notCls oe=true
def Cs(ea C:Addr):HO:=.ext (ExcAt ea C)
end
section
variable {X:Cx} {pins:List (Addr×Obj)} {σ:St} {H H':Hp} {s s':Shared} {ea C t:Addr} {B:Heap}
structure mC (X:Cx) (E:XK):Prop where
 d5:X.stack=X.env::X.outer
 fr:X.env.frame=some X.env.locals
 ex:X.ex=[]
 xe:X.xe=fun e s'=>wpAny (model X.prog X.w) X.A (leaving X.env e) (fun _ d9=>fk X.prog X.w X.outer X.H₀ X.s₀ E e d9) (fun e' d9=>fk X.prog X.w X.outer X.H₀ X.s₀ E e' d9) s'
theorem oF{env:Env}{outer:List Env}{L:Addr}(h:env.frame=some L):bt (env::outer)=L::bt outer:=by
 unfold bt
 rw [List.filterMap_cons,h]
theorem oE.leave{E:XK}(L:mC X E)(I:Inv X pins σ H s)(f:oE X.prog X.w X.stack H s H' ea C B t s'){h:Heap}(x:Heap.FlyingW B X.outer ea (.ref C) (.ref t) h)(up:s'.heap.UpToSlots h):oE X.prog X.w X.outer X.H₀ X.s₀ H' ea C B t {s' with heap:=h}:=by
 have nL:∀b o,X.s₀.heap.get? b=some o→b≠X.env.locals:=fun b o e=>Nat.ne_of_lt (Nat.lt_of_lt_of_le (Heap.lt_size e) I.ok.above)
 have ns:∀b o,X.s₀.heap.get? b=some o→b∉bt X.outer→b∉bt X.stack:=fun b o e nb z=>by
  rw [L.d5,oF L.fr] at z
  rcases List.mem_cons.mp z with z | z
  ·exact nL b o e z
  ·exact nb z
 have nx:∀b:Addr,b∉X.ex:=fun b z=>by rw [L.ex] at z;cases z
 refine ⟨f.os.trans I.os,f.bare,x,f.ar,fun b o e n nb=>?_,fun b o e nb=>?_,fun b o e n hb=>?_,I.ok.gH,fun b o e n=>?_,fun b xs e=>f.di b xs (I.base.di b xs e),fun b o u e=>f.cY b o u (I.base.cY b o u e),fun b ps e=>?_⟩
 ·exact f.kb b o (I.base.keep b o e n nb (nx b)) (I.base.free b o e n (nx b)) (ns b o e nb)
 ·obtain ⟨o',e'⟩:=I.base.there b o e (nx b)
  exact f.tb b o' e' (ns b o e nb)
 ·obtain ⟨l,q⟩:=I.base.slot b o e n hb (nx b)
  have hs:b∈bt X.stack:=by rw [L.d5,oF L.fr];exact List.mem_cons_of_mem _ hb
  obtain ⟨l2,q2⟩:=f.sl b _ q (I.base.free b o e n (nx b)) hs
  obtain ⟨_,o2,q3,nf⟩:=f.fl.2.2.1.mem hs
  rw [q2] at q3
  cases q3
  obtain ⟨l3,q4⟩:=up b _ q2 nf
  exact ⟨l3,q4⟩
 ·obtain ⟨o',e'⟩:=I.base.there b o e (nx b)
  exact f.Cr b o' e' (I.base.free b o e n (nx b))
 ·obtain ⟨m1,e1⟩:=I.base.dj b ps e
  obtain ⟨m2,e2⟩:=f.dj b _ e1
  exact ⟨m1++m2,by rw [e2,Array.append_assoc]⟩
theorem Ct:Passes (fk X.prog X.w) X (fun _ _ _=>False):=fun pins σ H s e s' I h=>by
 obtain ⟨_,_,_,_,_,_,_,q⟩:=h
 exact q.elim
theorem rR{E:XK}(L:mC X E):Passes (fk X.prog X.w) X E:=fun pins σ H s e s' I h=>by
 obtain ⟨ea,C,H',B,t,rfl,f,q⟩:=h
 rw [L.xe]
 refine wpAny_leaves_onW (by rw [I.ok.frames,L.d5]) L.fr (by have z:=f.fl;rw [L.d5] at z;exact z) fun h' x up=>?_
 exact ⟨ea,C,H',B,t,rfl,f.leave L I x up,q⟩
end
theorem Cu{K:PySem.W.Frag}{h:Heap}{C:Addr}{jU:List Value}{newId:String}(bJ:K.In h)(hq:PySem.W.excIn K C jU newId=true) :
  ∃bm N nm qn bs hdct sn sub ab col dd k0 k1 k2 k3 k5 mN,h.get? C=some (excClassObj nm qn C N bs bm hdct sn sub ab col dd k0 k1 k2 k3 k5 newId)∧h.Ns N mN∧mN "__init__" = none∧OwnTail h jU bm∧PySem.W.mroIn K C=fun b=>some ((Value.ref C::bm).contains b):=by
 unfold PySem.W.excIn at hq
 split at hq
 ·rename_i jV cls slt look
  split at hq
  ·rename_i CC rest a0 a1 a2 a3 nn a5 em es
   simp only [Bool.and_eq_true,beq_iff_eq,Bool.not_eq_true'] at hq
   obtain ⟨⟨⟨⟨⟨e1,e2⟩,e3⟩,e4⟩,e5⟩,e6⟩:=hq
   subst e1 e2
   have Cv:PySem.W.mroIn K CC=fun b=>some ((Value.ref CC::rest).contains b):=by
    funext b
    unfold PySem.W.mroIn PySem.W.clsIn
    rw [look]
    simp [em]
   obtain ⟨c1,c2,c3,c4,c5,c6,c7,c8,c9,Cw,K8⟩:=cls
   dsimp only at em e3 e5 e6
   subst em e3
   have Cy:slt = #[a0,a1,a2,a3,some (.builtin nn),a5]:=by
    obtain ⟨ll⟩:=slt
    simp only at es
    rw [es]
   subst Cy
   exact ⟨rest,c4,c1,c5,c2,c6,c7,c8,c9,Cw,jV,a0,a1,a2,a3,a5,_,bJ _ _ look,.of_isNs (PySem.W.isNs_of_in bJ e5),PySem.W.nsMap_none_of_in bJ e5 e6,PySem.W.tail_of_in bJ e4,Cv⟩
  ·cases hq
 ·cases hq
section
variable {X:Cx} {E:XK} {x:Str} {C:Addr} {np dy pos:Pos} {e:Expr} {es:List Expr} {ta:TA} {B newId Cz:String} {jU:List Value}
def CA(C:Addr)(E:XK)(ta:TA):TS:=fun _ σ H=>ta σ H fun vs H1=>vs.length≤sizeLine∧E (.ref C) none H1
theorem CB(L:mC X E)(hc:X.calm=true)(FB:ExcBaseFacts B newId Cz jU)(hq:PySem.W.excIn X.K C jU newId=true)(hg:Gl X x)(hm:X.mg x=some (.ref C))(ha:PA X (e::es) ta)
  (hs:starEach (e::es) X.env=(false,eval e X.env)::starEach es X.env:=by rfl) (hp:(backTo dy (starEach es X.env)).any (·.1)=false:=by rfl) (hd:(x == ("__debug__":Str))=false:=by decide) :
  PS X (.Raise (some (.Call (.Name x np) (e::es) [] dy)) none pos) (CA C E ta):=by
 intro pins s σ H D I h
 obtain ⟨bm,N,nm,qn,bs,hdct,sn,sub,ab,col,dd,k0,k1,k2,k3,k5,mN,hC,hN,CD,T,_⟩:=Cu I.ok.mod.bJ hq
 refine wpAny_Raise_call_subT (C:=C) (nm:=nm) (q:=qn) (N:=N) (bs:=bs) (bm:=bm) (hdct:=hdct) (sn:=sn) (sub:=sub) (ab:=ab) (col:=col) (dd:=dd) (k0:=k0) (k1:=k1) (k2:=k2) (k3:=k3) (k5:=k5) FB (mN:=mN) (T.hasType FB.hasBase) (I.ok.hd hc)
  (by rw [hs];show (false || (backTo dy (starEach es X.env)).any (·.1))=false;rw [hp];rfl) CD (vx I hg hm ⟨rfl,?_⟩ hd)
 have h1:=ha dy pins s σ H _ I h
 rw [hs] at h1 ⊢
 refine Calls.evalArgs_plain (aw h1 fun us s2 ⟨vs,H1,I1,r,hl,q⟩=>⟨rfl,by rw [←r.length];exact hl,I1.bk _ _ hC,hN.keeps I1.bk,T.keeps I1.bk,fun h' ea mk=>?_⟩)
 rw [L.xe]
 have nL:∀b o,X.s₀.heap.get? b=some o→b≠X.env.locals:=fun b o q=>Nat.ne_of_lt (Nat.lt_of_lt_of_le (Heap.lt_size q) I1.ok.above)
 have ns:∀b o,X.s₀.heap.get? b=some o→b∉bt X.outer→b∉bt X.stack:=fun b o q nb z=>by
  rw [L.d5,oF L.fr] at z
  rcases List.mem_cons.mp z with z | z
  ·exact nL b o q z
  ·exact nb z
 have nx:∀b:Addr,b∉X.ex:=fun b z=>by rw [L.ex] at z;cases z
 have ff:s2.heap.FunFrames (PySem.W.hideAll s2.heap (bt X.stack)) (X.env::X.outer):=by
  have z:=I1.stack
  rw [←L.d5]
  exact PySem.W.funFrames_hide z fun env he a hf=>List.mem_filterMap.mpr ⟨env,he,hf⟩
 refine wpAny_leaves_madeW (base:=PySem.W.hideAll s2.heap (bt X.stack)) (h:=s2.heap) (by rw [I1.ok.frames,L.d5]) L.fr (fun b o q=>PySem.W.of_hideAll _ q) ff mk fun h2 t fl _ _ up=>?_
 refine ⟨ea,C,H1,_,t,rfl,⟨I1.os,I1.bare,fl,fun a o e1=>?_,fun b o e1 n nb=>?_,fun b o e1 nb=>?_,fun b o e1 n hb=>?_,I1.ok.gH,fun b o e1 n=>?_,I1.base.di,I1.base.cY,I1.base.dj⟩,q⟩
 ·refine (I1.ar a o e1).fg (fun b u hb e2=>PySem.W.hideAll_get _ e2 fun z=>?_) (fun _ z=>z) fun _ _ z=>z
  have n0:=I1.lQ b z
  rcases hb with hb | hb
  ·subst hb
   rw [e1] at n0
   cases n0
  ·rw [hb] at n0
   cases n0
 ·exact PySem.W.hideAll_get _ (I1.base.keep b o e1 n nb (nx b)) (ns b o e1 nb)
 ·obtain ⟨o',e2⟩:=I1.base.there b o e1 (nx b)
  exact ⟨o',PySem.W.hideAll_get _ e2 (ns b o e1 nb)⟩
 ·obtain ⟨l,e2⟩:=I1.base.slot b o e1 n hb (nx b)
  have n6:b∈bt X.stack:=by rw [L.d5,oF L.fr];exact List.mem_cons_of_mem _ hb
  obtain ⟨_,o2,e3,nf⟩:=I1.stack.mem n6
  rw [e2] at e3
  cases e3
  obtain ⟨l2,e4⟩:=up b _ (mk.keeps _ _ e2) nf
  exact ⟨l2,e4⟩
 ·obtain ⟨o',e2⟩:=I1.base.there b o e1 (nx b)
  exact I1.base.free b o e1 n (nx b)
end
section
variable {X:Cx} {k:Nat} {f C:Addr} {fd:FuncData} {ps:List Str} {sp:Sp} {fO:List V} {ds:List Value} {x m:Str} {p pos apos:Pos} {e o:Expr} {es:List Expr} {ta:TE} {t:TA}
variable {te:TX} {i:Nat} {pos':Pos}
end
section
variable {X:Cx} {pins:List (Addr×Obj)} {σ:St} {H:Hp} {s:Shared} {ea:Addr}
end
section
variable {M:Model} {A:Around} {E:Value→Shared→Prop} {h:Heap} {g:Array GenState} {d:Drawn} {t:Nat} {os:OsState} {e:Addr} {oe:Obj} {Q:Bool→Shared→Prop}
variable {nm q K9 q':Str} {C N D N':Addr} {bs bm K_ La:List Value} {hdct Lb:Bool} {sn Lc:List Str} {sub wK:List Value} {ab Ld:Bool} {col Le:Option Bool} {dd gW:Option Addr} {k0 k1 k2 k3 k5 j0 j1 j2 j3 j5:Option Value} {newId Lf:String}
end
section
variable {X:Cx} {body:List Stmt} {b₀:Stmt} {Lg:List Stmt} {np Lh pos:Pos} {x n:Str} {D:Addr} {tb:Li} {ts:TS} {jU:List Value} {newId:String} {i:Nat}
end
section
variable {P:Program} {w:World} {K:PySem.W.Frag} {mg:Str→Option Value} {base:Heap}
theorem aP.oG{x qual:Str}{st:Stmt}{f:Addr}{fd:FuncData}{N ps:List Str}{k:Nat}{sp:Sp}(F:aP K x qual st f fd)(S:bP N ps (bu st))(len:∀vs H Q E,sp vs H Q E→vs.length=ps.length)
  (mh:∀(aK:Value) (A:Around) (outer:List Env) (s:Shared) (H:Hp) (vs:List V) (Q:VK) (E:XK),cn k (A.deeper (envOfC qual (bu st) s.heap.objs.size f aK))→sp vs H Q E→
   mC (gS (fk P w) P w K mg base N qual (bu st) f aK A outer s H E) E→
   ∃t,dm (gS (fk P w) P w K mg base N qual (bu st) f aK A outer s H E) (jT st) t∧t {nx:=fun _ H'=>Q .aF H',rt:=Q} (start N vs) H):bA P w K mg base (fk P w) (k+1) f fd ps sp:=by
 obtain ⟨oc,od,kV,doc,pm,an,aK,ct,fP,rfl,lk,dN⟩:=F.ex
 exact wc lk dN S len fun A outer s H vs Q E hr fQ=>mh aK A outer s H vs Q E hr fQ ⟨rfl,rfl,rfl,rfl⟩
end
structure iW (K:PySem.W.Frag) (C:Addr):Prop where
 ci:PySem.W.hasDictIn K C=true
 ga:PySem.W.findIn K (.ref C) "__getattribute__" = some (some (.builtin "BaseException.__getattribute__"))
 gn:PySem.W.findIn K (.ref C) "__getattr__" = some none
 ca:PySem.W.findIn K (.ref C) "__class__" = some (some (.builtin "object.__class__"))
 mo:PySem.W.mroIn K C (.type "object")=some true
 mb:PySem.W.mroIn K C (.type "BaseException")=some true
section
variable {prog:Program} {w:World} {A:Around} {E:Value→Shared→Prop} {h:Heap} {g:Array GenState} {d:Drawn} {t:Nat} {os:OsState} {K:PySem.W.Frag} {a C:Addr} {o:Obj}
theorem CF{R:Result→Shared→Prop}(bJ:K.In h)(c:iW K C)(hx:h.get? a=some o)(hc:o.cls=.ref C)(hq:R (.ok (.ret (.ref C))) ⟨h,g,d,t,os⟩) :
  codeAny (model prog w) A (.call (.builtin "getset_descriptor.__get__") ⟨[.builtin "object.__class__",.ref a,.ref C],[]⟩) R ⟨h,g,d,t,os⟩:=by
 have wL:(⟨h,g,d,t,os⟩:Shared).TypeIs (.builtin "object.__class__") "getset_descriptor":=F.typeOf_object_class
 have L1:=PySem.W.looks_mroIn (M:=model prog w) bJ c.mo
 have ow:=F.owner_object_class
 refine codeAny_call_builtin F.slot_gs_get.plain F.entry_gs_get (F.slot_gs_get.check _ _ _ _ _ _ _ _ wL (F.args_gs_get _ _ _) ?_)
 repeat (any_goals (first | assumption | (with_reducible refine wpAny_loadPart_at hx ?_;rw [hc]) | (rw [ow];with_reducible refine L1.at ?_) | wp_step))
 refine ⟨Code.quiet_builtin _ (by decide +kernel),codeAny_builtin F.entry_object_class ?_⟩
 repeat (any_goals (first | assumption | (with_reducible refine wpAny_loadPart_at hx ?_;rw [hc]) | wp_step))
theorem CG{tk:Tok}{Q:Fin→Shared→Prop}(bJ:K.In h)(c:iW K C)(hx:h.get? a=some o)(hc:o.cls=.ref C)(hq:Q (.done (.ret (.ref C))) ⟨h,g,d,t,os⟩) :
  wpAny (model prog w) A (Builtin.«object.__getattribute__» ⟨[.ref a,.str "__class__" tk],[]⟩) Q E ⟨h,g,d,t,os⟩:=by
 have wL:(⟨h,g,d,t,os⟩:Shared).TypeIs (.builtin "object.__class__") "getset_descriptor":=F.typeOf_object_class
 have L1:=PySem.W.looks_findIn (M:=model prog w) bJ c.ca
 have f5:=F.typeOf_object_class
 have f6:=F.slot_gs_get.lookup
 have f7:=F.slot_gs_set.lookup
 repeat (any_goals (first | assumption | (with_reducible refine wpAny_loadPart_at hx ?_;rw [hc]) | with_reducible refine L1.at ?_ | wp_step))
 refine CF bJ c hx hc ?_
 repeat (any_goals (first | assumption | wp_step))
theorem CH{M:Model}{nv:Value}{Q:Unit→Shared→Prop}(bJ:K.In h)(c:iW K C)(hx:h.get? a=some o)(hc:o.cls=.ref C)(hq:Q () ⟨h,g,d,t,os⟩) :
  wpAny M A (checkBuiltinCall "BaseException.__getattribute__" ⟨[.ref a,nv],[]⟩) Q E ⟨h,g,d,t,os⟩:=by
 have hk:builtinKind "BaseException.__getattribute__" = some .slot:=by decide +kernel
 have hs:splitId "BaseException.__getattribute__" = some ("BaseException","__getattribute__"):=by decide +kernel
 have L1:=PySem.W.looks_mroIn (M:=M) bJ c.mb
 have ha:=F.args_bexc_ga (.ref a) nv
 simp only [checkBuiltinCall,hk,hs]
 refine wpAny_bind ?_
 unfold isInstance
 repeat (first | (with_reducible refine wpAny_loadPart_at hx ?_;rw [hc]) | with_reducible refine L1.at ?_ | wp_step)
 exact hq
theorem CI{tk:Tok}{fill expr:Bool}{Q:Value→Shared→Prop}(bJ:K.In h)(c:iW K C)(hx:h.get? a=some o)(hc:o.cls=.ref C)(hq:Q (.ref C) ⟨h,g,d,t,os⟩) :
  wpAny (model prog w) A (getAttrBy (.ref a) (.str "__class__" tk) fill expr) Q E ⟨h,g,d,t,os⟩:=by
 have f3:=F.attrBase_ValueError.ga.bind (.ref a)
 have z0:(expr && onTheHeap (Value.builtin "BaseException.__getattribute__"))=false:=by cases expr <;> rfl
 have z2:(Value.builtin "BaseException.__getattribute__" == Value.builtin "object.__getattribute__")=false:=by decide +kernel
 have z1:(onTheHeap (Value.ref C) && Value.builtin "BaseException.__getattribute__" == Value.builtin "object.__getattribute__")=false:=by rw [z2];rfl
 have L1:=PySem.W.looks_findIn (M:=model prog w) bJ c.ga
 have L2:=PySem.W.looks_findIn (M:=model prog w) bJ c.gn
 repeat (any_goals (first | assumption | (with_reducible refine wpAny_loadPart_at hx ?_;rw [hc]) | with_reducible refine L1.at ?_ | with_reducible refine L2.at ?_ | wp_step))
 refine codeAny_call_builtin F.attrBase_ValueError.ga.plain F.entry_bexc_ga (CH bJ c hx hc (CG bJ c hx hc ?_))
 repeat (any_goals (first | assumption | wp_step))
theorem CJ{Q:Option Value→Shared→Prop}(bJ:K.In h)(c:iW K C)(hx:h.get? a=some o)(hc:o.cls=.ref C)(hq:Q (some (.ref C)) ⟨h,g,d,t+1,os⟩) :
  wpAny (model prog w) A (getAttr? (.ref a) "__class__") Q E ⟨h,g,d,t,os⟩:=by
 unfold getAttr? getAttrBy?
 repeat (any_goals (first | assumption | with_reducible apply CI bJ c hx hc | wp_step))
theorem CK(c:iW K C):PySem.W.KitX K (.ref a) (.ref C) (ExcAt a C) where
 ty:=fun M h _ k=>by
  obtain ⟨oe,e1,e2,_⟩:=k
  exact e2▸(PySem.W.Looks.ld e1).andThen .now
 it:=fun M h bJ _=>by
  obtain ⟨cd,hc,_⟩:=PySem.W.any_some c.ci
  unfold PySem.W.clsIn at hc
  split at hc
  ·rename_i look
   intro A' Q' E' s' k q
   unfold isType loadHead
   exact wpAny_bind (wpAny_loadPart (k _ _ (bJ _ _ look)) (wpAny_pure q))
  ·cases hc
 ne:=fun h tp dd aa n sl bJ CL=>by
  obtain ⟨cd,hc,_⟩:=PySem.W.any_some c.ci
  refine Bool.eq_false_iff.mpr fun q=>?_
  have e:C=tp:=Value.ref.inj (beq_iff_eq.mp q)
  subst e
  unfold PySem.W.clsIn at hc
  split at hc
  ·rename_i look
   have z:=(bJ _ _ look).symm.trans CL
   cases z
  ·cases hc
 ca:=fun{prog w A E Q s} bJ k z=>by
  obtain ⟨oe,e1,e2,_⟩:=k
  obtain ⟨h,g,d,t,os⟩:=s
  exact CJ bJ c e1 e2 z
end
def oH(a:Addr)(h:Heap):Prop:=∃o ep,h.get? a=some o∧o.ExactDict∧o.data=.dict #[] ep∧(a == sysModules)=false
theorem oH.oI{a:Addr}{h:Heap}(e:oH a h):PySem.W.KitAt a "dict" h:=by
 obtain ⟨o,_,e,c,_⟩:=e
 exact ⟨o,e,c.1⟩
def wM(a:Addr):HO:=.ext (oH a)
inductive mD (K:PySem.W.Frag) (H:Hp):V→Value→Prop where
 | of {x:V} {t:Value} (h:d8 K H x t):mD K H x t
 | exc {a C:Addr} (e:H a=some (Cs a C)) (c:iW K C):mD K H (.ref a) (.ref C)
 | jV {a:Addr} (e:H a=some (wM a)):mD K H (.ref a) (.type "dict")
def wN:V→Value
 | .ty n=>.type n
 | .ref a=>.ref a
 | _=>.none
def CM:V→Bool
 | .ty _=>true
 | .ref _=>true
 | _=>false
def CN(K:PySem.W.Frag):List V→Hp→VK→Prop:=fun xs H Q=>∃x c t b,xs=[x,c]∧CM c=true∧mD K H x t∧PySem.W.kitOne K t (wN c)=some b∧Q (.bl b) H
theorem oJ{X:Cx}{K:PySem.W.Frag}(hK:X.K=K:=by rfl):d7 X (.builtin "isinstance") (CN K):=by
 intro pins s σ H xs us Q I r h
 subst hK
 obtain ⟨x,c,t,b,rfl,hc,ty,e,q⟩:=h
 obtain ⟨u,cv,rfl,rx,rc⟩:=vals2 r
 have ec:cv=wN c:=by
  cases c with
  | ty n=>exact rc
  | ref a=>exact rc
  | _=>cases hc
 subst ec
 cases ty with
 | of ty=>exact Bu I rx ty e fun tk=>⟨.bl b,H,I.tok tk,rfl,q⟩
 | @jV a ea=>
  cases rx
  obtain ⟨k,_,_⟩:=(show bj X.prog X.w H s.heap a (.ext (oH a)) from I.ar a _ ea)
  exact PySem.W.kia_one PySem.W.kitx_dict I.cC k.oI e (fun z=>nomatch z) fun tk=>⟨.bl b,H,I.tok tk,rfl,q⟩
 | @exc a C ea cc=>
  cases rx
  obtain ⟨k,_,_⟩:=(show bj X.prog X.w H s.heap a (.ext (ExcAt a C)) from I.ar a _ ea)
  exact PySem.W.kia_one (CK cc) I.cC k e (fun z=>nomatch z) fun tk=>⟨.bl b,H,I.tok tk,rfl,q⟩
theorem boot_isinstance:bootBuiltins "isinstance" = some (.builtin "isinstance"):=by decide +kernel
theorem boot_min:bootBuiltins "min" = some (.builtin "min"):=by decide +kernel
theorem boot_max:bootBuiltins "max" = some (.builtin "max"):=by decide +kernel
theorem boot_int:bootBuiltins "int" = some (.type "int"):=by decide +kernel
theorem boot_bool:bootBuiltins "bool" = some (.type "bool"):=by decide +kernel
theorem boot_tuple:bootBuiltins "tuple" = some (.type "tuple"):=by decide +kernel
theorem boot_list:bootBuiltins "list" = some (.type "list"):=by decide +kernel
end L2
namespace My
open PySem L2
end My
namespace L2
open PySem PySem.Spec PyProof.Rows
abbrev Cx.bI (X:Cx) (N:List Str) (scope:Scope) (cl:List (Str×Addr)) (s₃:Shared) (H₃:Hp) (fp:List Addr):Cx:=
 {X with N:=N,s₀:=s₃,H₀:=H₃,env:=compEnvC scope cl s₃.heap.objs.size X.env,outer:=X.stack,stack:=X.stack,ex:=fp,fn:=fun _=>false,pn:=[],xe:=fun _ _=>False}
inductive gX (X:Cx):List Expr→TT→Prop where
 | nil:gX X [] (fun _ H Q=>Q true H)
 | one {c:Expr} {t:TT} (h:PT X c t):gX X [c] t
def dP(wi:TI)(ρ:St→St)(tt:TT)(te:TE):TE:=fun σ H Q=>wi σ H fun J H1=>∀D,H1 D=none→∃W:Nat→Nat→List V→Hp→Prop,(∃m,W 0 m [] (upd H1 D (.lst []))) ∧
 ∀i m ys Hc,W i m ys Hc→Hc D=some (.lst ys)∧((J.stop i Hc∧Q (.ref D) Hc)∨(J.go i Hc∧∀x H',J.cQ i Hc x H'→tt (some x::ρ σ) H' fun b H2=>
  if b=true then te (some x::ρ σ) H2 fun y H3=>H3 D=some (.lst ys)∧ys.length<sizeLine∧∃m',m'<m∧W (i+1) m' (ys++[y]) (upd H3 D (.lst (ys++[y]))) else ∃m',m'<m∧W (i+1) m' ys H2))
section
variable {X:Cx} {N:List Str} {scope:Scope} {cl:List (Str×Addr)} {x:Str} {px pos:Pos} {iter elt:Expr} {ifs:List Expr} {wi:TI} {ρ:St→St} {tt:TT} {te:TE}
structure wO (X:Cx) (N:List Str) (scope:Scope) (cl:List (Str×Addr)) (x:Str) (ρ:St→St):Prop where
 oK:closureFor scope X.env=pure cl
 kind:scope.kind=.function
 wQ:∀y∈scope.names,y.2≠.cell
 names:∀y∈scope.names,y.2=.local→scope.names.lookup y.1=some .local
 sub:∀p∈cl,X.env.cells.lookup p.1=some p.2
 has:∀y,((relabel scope X.env).names.lookup y=some .cell∨(relabel scope X.env).names.lookup y=some .free)→∃c,cl.lookup y=some c
 n0:N[0]?=some x
 nd:N.Nodup
 hx:scope.names.lookup x=some .local
 oM:∀(σ:St) (j:Nat) (v:V),(ρ σ)[j]?=some (some v)→∃(i:Nat) (y:Str),N[j+1]?=some y∧X.N[i]?=some y∧σ[i]?=some (some v)∧lN X.env.scope y∧(X.env.kindOf y=some .cell∨X.env.kindOf y=some .free)∧((relabel scope X.env).names.lookup y=some .cell∨(relabel scope X.env).names.lookup y=some .free)
 len:∀σ:St,σ.length=X.N.length→(ρ σ).length+1=N.length
theorem fS{names:List (Str×NameKind)}{cl:List (Str×Addr)}(h:(names.all fun q=>(q.2 != .cell && q.2 != .free) || (cl.lookup q.1).isSome)=true) :
  ∀y,(names.lookup y=some .cell∨names.lookup y=some .free)→∃c,cl.lookup y=some c:=fun y hy=>by
 have key:∀k:NameKind,(k != .cell && k != .free)=false→names.lookup y=some k→∃c,cl.lookup y=some c:=fun k hk e=>by
  have z:=List.all_eq_true.mp h (y,k) (PySem.mem_of_lookup e)
  rw [hk,Bool.false_or] at z
  exact Option.isSome_iff_exists.mp z
 rcases hy with e | e
 ·exact key .cell rfl e
 ·exact key .free rfl e
theorem join_some{o:Option (Option V)}{v:V}(h:some o.join=some (some v)):o=some (some v):=by
 cases o with
 | none=>cases h
 | some o=>cases h;rfl
theorem iX(B:wO X N scope cl x ρ)(hc:X.calm=true)(hi:PI X (.Name x px) iter wi)(ht:∀s₃ H₃ fp,gX (X.bI N scope cl s₃ H₃ fp) ifs tt)(he:∀s₃ H₃ fp,PE (X.bI N scope cl s₃ H₃ fp) elt te)
  (hs:∀x,foldedSetIterable iter X.env x=pure x:=by intro _;rfl):PE X (.ListComp elt [⟨.Name x px,iter,ifs,0⟩] scope pos) (dP wi ρ tt te):=by
 intro pins s σ H Q I h
 rw [eval_ListComp]
 refine wpAny_comprehension_free (use:=none) rfl hs B.oK B.kind B.names (aw (hi pins s σ H _ I h) fun v s1 h1=>aw h1 fun l8 s2 h2=>?_)
 obtain ⟨it,fp,tn,J,H2,rfl,I2,T,d6,f2,q2⟩:=h2
 have nD:H2 s2.heap.objs.size=none:=I2.ar.fresh (Nat.le_refl _)
 obtain ⟨W,⟨m0,w0⟩,turn⟩:=q2 _ nD
 refine wpAny_newObj_type (wpAny_newFunctionEnv B.wQ (by intro y hy;simp at hy) (fun h₁ fm gm=>?_) B.kind)
 dsimp only at fm gm ⊢
 generalize hD:s2.heap.objs.size=D at nD w0 turn fm gm ⊢
 generalize fq:({s2 with heap:=s2.heap.push {cls:=.type "list",dict:=none,data:=.seq ([]:List Value).toArray}}:Shared)=s3
 have I3:Inv X pins σ (upd H2 D (.lst [])) s3:=by
  subst hD fq
  exact I2.laid (t':=s2.toks) (fun b u e=>Heap.get?_push_of_some _ e) (Nat.le_refl _) ⟨Nat.zero_le _,[],_,.nil,Heap.get?_push_size _ rfl⟩
 have e3:s3.heap=s2.heap.push {cls:=.type "list",dict:=none,data:=.seq ([]:List Value).toArray}:=by rw [←fq]
 have dz:∀b o,s2.heap.get? b=some o→s3.heap.get? b=some o:=fun b o e=>by rw [e3];exact Heap.get?_push_of_some _ e
 rw [←e3] at fm gm ⊢
 have below:∀b o,s3.heap.get? b=some o→b≠s3.heap.objs.size:=fun b o e=>Nat.ne_of_lt (Heap.lt_size e)
 have cq:∀b o,s3.heap.get? b=some o→h₁.get? b=some o:=fun b o e=>gm.extBut b o (below b o e) (Heap.get?_push_of_some _ e)
 have eQ:∀b∈fp,∃o,s2.heap.get? b=some o∧∀v,o.data≠.cell v:=T.obj _ _ d6
 have mE:∀b∈fp,b≠D:=fun b hb z=>by
  obtain ⟨o,e,_⟩:=eQ b hb
  rw [z,←hD] at e
  exact absurd (Heap.lt_size e) (Nat.lt_irrefl _)
 have bW:∀y c,cl.lookup y=some c→X.env.cells.lookup y=some c:=fun y c e=>B.sub (y,c) (PySem.mem_of_lookup e)
 have mF:=I3.lQ
 have gY:(X.bI N scope cl s3 (upd H2 D (.lst [])) fp).Ok:=by
  refine ⟨I.ok.mod,B.kind,I.ok.glob,I.ok.blt,Nat.le_refl _,fun a b c e1 e2=>I.ok.inj a b c (bW a c e1) (bW b c e2),fun y hy=>B.has y hy,(fun _ _ z _=>absurd z Bool.false_ne_true),(fun _=>I.ok.hd hc),I.ok.frames,.inl rfl,fun b hb=>⟨?_,fun y c e z=>?_⟩,fun b o e=>?_,Nat.le_trans I.ok.eL I3.sz,fun b o e hb=>?_,fun b hb z=>?_,I3.stack,mF⟩
  ·obtain ⟨o,e,_⟩:=eQ b hb
   exact below b o (dz b o e)
  ·exact (f2 b hb).2.2.2.2.1 y c (bW y c e) z
  ·exact I3.bs b o e
  ·rcases (f2 b hb).2.2.2.1 with z | z
   ·exact I.ok.iG b o e z
   ·exact absurd (Nat.lt_of_lt_of_le (Heap.lt_size e) (Nat.le_trans I.ok.eL z)) (Nat.lt_irrefl _)
  ·rcases List.mem_cons.mp (I3.lO b z) with z | z
   ·exact (f2 b hb).2.1 z
   ·exact (f2 b hb).2.2.1 z
 have IB:∀tk:Nat,Inv (X.bI N scope cl s3 (upd H2 D (.lst [])) fp) [] (none::ρ σ) (upd H2 D (.lst [])) {s3 with heap:=h₁,toks:=tk}:=fun tk=>by
  refine ⟨gY,rfl,I3.bare,Un.kept cq,⟨_,fm,fun j y v e1 e2 e3=>?_⟩,fun y c e=>?_,?_,fun y c e=>I3.eN y c (bW y c e),(fun p hp=>nomatch hp),I3.ar.kept cq,?_⟩
  ·cases j with
   | zero=>cases e2
   | succ j=>
    obtain ⟨i,y',a1,a2,a3,a4,a5,a6⟩:=B.oM σ j v e2
    have gZ:N[j+1]?=some y:=e1
    rw [gZ] at a1
    cases a1
    obtain ⟨m,hn,hl⟩:=I3.loc
    obtain ⟨u,r,l⟩:=hl i y v a2 a3 a4
    refine ⟨u,r,.inr ⟨a6,?_⟩⟩
    obtain ⟨c,ec⟩:=B.has y a6
    rcases l with ⟨k,_⟩ | ⟨_,c',g7,z⟩
    ·rcases a5 with q | q <;> (rw [k] at q;cases q)
    ·have:=bW y c ec
     rw [this] at g7
     cases g7
     obtain ⟨o,ho,hd⟩:=z
     exact ⟨c,ec,o,cq _ _ ho,hd⟩
  ·obtain ⟨v,o,ho,hd⟩:=I3.cell y c (bW y c e)
   exact ⟨v,o,cq _ _ ho,hd⟩
  ·exact I3.ar.fresh (Nat.le_refl _)
  ·show (none::ρ σ).length=N.length
   rw [List.length_cons]
   exact B.len σ I.len
 have fin:∀{σ':St} {H':Hp} {s':Shared},Inv (X.bI N scope cl s3 (upd H2 D (.lst [])) fp) [] σ' H' s'→Q (.ref D) H'→compPost (model X.prog X.w) X.A X.xe none (EP X pins σ Q) (.ref D) s3.heap.objs.size (.ok .next) s':=fun{σ' H' s'} J q=>by
  obtain ⟨m,hn,_⟩:=J.loc
  refine ⟨m,hn,fun h' dQ=>⟨.ref D,H',?_,rfl,q⟩⟩
  have old:∀b o,s3.heap.get? b=some o→b≠s3.heap.objs.size:=below
  have u1:Un (bt X.stack) fp (upd H2 D (.lst [])) H' s3.heap h':=by
   refine ⟨fun b o e n hb hx=>?_,fun b o e n hb hx=>?_,J.base.free,fun b o e hx=>?_,J.base.di,J.base.cY,J.base.dj⟩
   ·exact (dQ.2 b (old b o e)).trans (J.base.keep b o e n hb hx)
   ·obtain ⟨sl,z⟩:=J.base.slot b o e n hb hx
    exact ⟨sl,(dQ.2 b (old b o e)).trans z⟩
   ·obtain ⟨o',z⟩:=J.base.there b o e hx
    exact ⟨o',(dQ.2 b (old b o e)).trans z⟩
  have mG:ba X.prog X.w H' h':=fun b u e=>by
   refine (J.ar b u e).fg (fun c v hc z=>(dQ.2 c fun y=>?_).trans z) (fun _ z=>z) fun _ _ z=>z
   have fr:=J.free
   have y':c=s3.heap.objs.size:=y
   rcases hc with hc | hc
   ·rw [←hc,y'] at e
    exact absurd (fr.symm.trans e) (by simp)
   ·rw [y'] at hc
    exact absurd (fr.symm.trans hc) (by simp)
  refine I3.iJ (s':={s' with heap:=h'}) (ch:=fp) (J.os) u1 mG J.bare fun b hb=>?_
  obtain ⟨g0,g1,g2,g3,g4,g5⟩:=f2 b hb
  exact ⟨g3,g1,g4,g5⟩
 have dr:∀{H':Hp},(∀b∈fp,H' b=none)→∀b∈fp,gc (X.bI N scope cl s3 (upd H2 D (.lst [])) fp) [] H' b:=fun hn b hb=>by
  refine ⟨hn b hb,?_,?_,.inl hb,fun y c e z=>(f2 b hb).2.2.2.2.1 y c (bW y c e) z,fun p hp=>nomatch hp⟩
  ·obtain ⟨o,e,_⟩:=eQ b hb
   exact below b o (dz b o e)
  ·exact gY.iH b hb
 have loop:∀tk:Nat,codeAny (model X.prog X.w) X.A (.compLoop (.ListComp elt [⟨.Name x px,iter,ifs,0⟩] scope pos) 0 (.ref it) (.ref D) (compEnvC scope cl s3.heap.objs.size X.env))
   (compPost (model X.prog X.w) X.A X.xe none (EP X pins σ Q) (.ref D) s3.heap.objs.size) {s3 with heap:=h₁,toks:=tk}:=fun tk=>by
  refine codeAny_compLoop_tests (fun n s'=>∃i ys o H',Inv (X.bI N scope cl s3 (upd H2 D (.lst [])) fp) [] (o::ρ σ) H' s'∧tn i s'.heap∧(∀b∈fp,H' b=none)∧W i n ys H') ?_ m0
   ⟨0,[],none,_,IB tk,T.keep _ _ _ d6 fun b hb o e=>cq _ _ (dz _ _ e),fun b hb=>by rw [aA (mE b hb)];exact (f2 b hb).1,w0⟩
  rintro n s4 ⟨i,ys,o,H4,I4,g8,g9,w4⟩
  obtain ⟨wR,mH⟩:=turn i n ys H4 w4
  rcases mH with ⟨stop,qn⟩ | ⟨go,step⟩
  ·refine wpAny_mono (T.done (X.bI N scope cl s3 (upd H2 D (.lst [])) fp) rfl rfl rfl hc i [] s4 _ H4 (fun _ _=>False) I4 (dr g9) g8 stop) (fun r s5 ⟨hr,I5⟩=>?_) fun _ _ z=>z.elim
   subst hr
   exact fin I5 qn
  ·refine wpAny_mono (T.item (X.bI N scope cl s3 (upd H2 D (.lst [])) fp) rfl rfl rfl hc i [] s4 _ H4 (fun _ _=>False) I4 (dr g9) g8 go) (fun r s5 ⟨u,hr,h5⟩=>?_) fun _ _ z=>z.elim
   subst hr
   have z:letOwnedTupleGo (.Name x px) (.ref it) u=pure ():=rfl
   rw [z] at h5
   show wpAny _ _ ((pure ():Sem Unit) >>= fun _=>assign (.Name x px) (compEnvC scope cl s3.heap.objs.size X.env) u) _ _ s5
   refine wpAny_bind (wpAny_mono h5 (fun _ s5 ⟨y,H5,I5,r5,y5,dt,iM⟩=>?_) fun _ _ z=>z.elim)
   have iO:=I5.pinned (dr iM) (T.obj _ _ dt)
   have pg:PG (X.bI N scope cl s3 (upd H2 D (.lst [])) fp) (.Name x px) (aI 0):=bR (i:=0) B.nd B.n0 (.inl (lookup_relabel_local B.hx)) (.inr (lookup_relabel_local B.hx))
   have again:∀{σ7:St} {H7:Hp} {s7:Shared},Inv (X.bI N scope cl s3 (upd H2 D (.lst [])) fp) ([]++fM fp s5.heap) σ7 H7 s7→Inv (X.bI N scope cl s3 (upd H2 D (.lst [])) fp) [] σ7 H7 s7∧tn (i+1) s7.heap∧∀b∈fp,H7 b=none:=fun{σ7 H7 s7} I7=>by
    refine ⟨I7.jM,T.keep _ _ _ dt fun b hb o e=>(I7.pin (b,o) (List.mem_append_right _ (List.mem_append_right _ (gO hb e)))).1,fun b hb=>?_⟩
    obtain ⟨o,e,d⟩:=T.obj _ _ dt b hb
    exact (I7.pin (b,o) (List.mem_append_right _ (List.mem_append_right _ (gO hb e)))).2.1
   refine wpAny_mono (pg _ s5 _ H5 y u (fun σ2 H6=>σ2=some y::ρ σ∧H6=H5) iO r5 ⟨rfl,rfl⟩) (fun _ s6 ⟨σ6,H6,I6,q6⟩=>?_) fun _ _ z=>z.elim
   obtain ⟨rfl,rfl⟩:=q6
   have mI:=step y _ y5
   have tests:∀{ft:TT},gX (X.bI N scope cl s3 (upd H2 D (.lst [])) fp) ifs ft→∀{R:Bool→Hp→Prop},ft (some y::ρ σ) H6 R→wpAny (model X.prog X.w) X.A
     (forIn ifs true fun c r=>if r=true then do let ok ←isTrue c (compEnvC scope cl s3.heap.objs.size X.env) (eval c (compEnvC scope cl s3.heap.objs.size X.env));pure (ForInStep.yield ok) else pure (ForInStep.yield r))
     (fun ok s7=>∃H7,Inv (X.bI N scope cl s3 (upd H2 D (.lst [])) fp) ([]++fM fp s5.heap) (some y::ρ σ) H7 s7∧R ok H7) (fun _ _=>False) s6:=fun{ft} p {R} hR=>by
    cases p with
    | nil=>exact wpAny_tests_nil ⟨_,I6,hR⟩
    | one p=>exact wpAny_tests_one (p _ s6 _ _ _ I6 hR)
   refine wpAny_mono (tests (ht s3 _ fp) mI) (fun ok s7 ⟨H7,I7,q7⟩=>?_) fun _ _ z=>z.elim
   cases ok with
   | false=>
    obtain ⟨m',cL,w7⟩:=q7
    obtain ⟨a1,a2,a3⟩:=again I7
    exact ⟨m',cL,i+1,ys,_,H7,a1,a2,a3,w7⟩
   | true=>
    refine wpAny_mono (he s3 _ fp _ s7 _ H7 _ I7 q7) (fun ev s8 ⟨z,H8,I8,r8,mJ,hz,m',cL,w8⟩=>?_) fun _ _ z=>z.elim
    refine wpAny_mono (ei (X:=X.bI N scope cl s3 (upd H2 D (.lst [])) fp) _ s8 _ H8 (.ref D) [z] (.ref D) [ev] (fun _ H9=>H9=upd H8 D (.lst (ys++[z]))) I8 rfl (.cons r8 .nil) ⟨D,ys,z,rfl,rfl,mJ,hz,rfl⟩) (fun _ s9 ⟨_,H9,I9,_,q9⟩=>?_) fun _ _ z=>z.elim
    subst q9
    obtain ⟨a1,a2,a3⟩:=again I9
    exact ⟨m',cL,i+1,ys++[z],_,_,a1,a2,a3,w8⟩
 have start:=loop (s3.toks+([]:List (Str×Value)).length)
 have es:({s3 with heap:=h₁,toks:=s3.toks+([]:List (Str×Value)).length}:Shared)={s2 with heap:=h₁,toks:=s2.toks+([]:List (Str×Value)).length}:=by rw [←fq]
 rw [es] at start
 exact codeAny_compStart_list start (T.self _ 0 _ _ _ (T.keep _ _ _ d6 fun b hb o e=>cq _ _ (dz _ _ e)) start)
end
def cM(i:Int):Prop:=i.natAbs<2 ^ 2048
theorem cM.log{i:Int}(h:cM i):i.natAbs.log2<2048:=by
 by_cases z:i.natAbs=0
 ·rw [z];decide
 ·exact (Nat.log2_lt z).mpr h
theorem rS:∀{xs:List V} {us:List Value},xs.length=us.length→(∀(i:Nat) (x:V) (u:Value),xs[i]?=some x→us[i]?=some u→RelV x u)→Vals xs us
 | [],[],_,_=>.nil
 | [],_::_,h,_=>by simp at h
 | _::_,[],h,_=>by simp at h
 | x::xs,u::us,h,k=>.cons (k 0 x u rfl rfl) (rS (by simpa using h) fun i a b h1 h2=>k (i+1) a b (by simpa using h1) (by simpa using h2))
section
variable {X:Cx}
def CO(i j:Int):Prop:=0<j∧cM j
theorem CP:bE X (binaryOp .FloorDiv) (rI CO fun i j=>.int (i / j)):=n8 fun i j _ _ _ _ _ hc q=>
 floordiv_int (Int.ne_of_gt hc.1) (by rw [Int.fdiv_eq_ediv_of_nonneg i (Int.le_of_lt hc.1)];exact q) (.inl (PyProof.noPylong_of_log2 (Nat.lt_of_lt_of_le hc.2.log (by decide))))
def allR(K:PySem.W.Frag):List V→Hp→VK→Prop:=fun xs H Q=>∃(p:Addr) (bs:List Bool),xs=[.ref p]∧aS K H p (bs.map V.bl)∧Q (.bl (bs.all id)) H
theorem CQ{K:PySem.W.Frag}(hc:X.calm=true)(hK:X.K=K:=by rfl):d7 X (.builtin "all") (allR K):=by
 intro pins s σ H xs us Q I r h
 subst hK
 obtain ⟨p,bs,rfl,hq,q⟩:=h
 obtain ⟨u,rfl,ru⟩:=vals1 r
 cases ru
 obtain ⟨aa,rv,pl,hz⟩:=I.list hq
 have CS:p≠s.heap.objs.size:=by
  obtain ⟨o,e,_⟩:=pl.isList
  exact Nat.ne_of_lt (Heap.lt_size e)
 have hl:aa.length=bs.length:=by rw [←rv.length,List.length_map]
 refine call_all_walk (wpAny_pyIter_list pl.isList ?_)
 refine ⟨s.heap.objs.size,_,_,_,_,_,fun i=>bs.getD i true,rfl,Walks.list (A:=X.A.in1) (show X.A.in1.handled=none from I.ok.hd hc) s.heap.objs.size p CS aa.toArray,⟨⟨_,Heap.get?_push_size _ rfl,rfl,rfl⟩,pl.isList.push _⟩,fun i v s' Q' E' hv iY=>?_,fun h' tk hk=>?_⟩
 ·have oO:aa[i]?=some v:=by simpa using hv
  cases eb:bs[i]? with
  | none=>
   have:=rv.none_of (i:=i) (by rw [List.getElem?_map,eb];rfl)
   rw [this] at oO
   cases oO
  | some b=>
   obtain ⟨u,hu,ru⟩:=rv.get (i:=i) (x:=V.bl b) (by rw [List.getElem?_map,eb];rfl)
   rw [hu] at oO
   cases oO
   cases ru
   have e:bs.getD i true=b:=by rw [List.getD_eq_getElem?_getD,eb];rfl
   have wU:Q' (bs.getD i true) s':=iY
   rw [e] at wU
   exact wpAny_truthy_bool wU
 ·refine ⟨.bl (bs.all id),H,I.kept fun b o e=>hk b o (fun z=>?_) (Heap.get?_push_of_some _ e),?_,q⟩
  ·exact absurd (Heap.lt_size e) (by rw [List.mem_singleton.mp z];exact Nat.lt_irrefl _)
  ·show Value.bool _=Value.bool _
   congr 1
   rw [List.size_toArray,hl]
   clear hk q rv pl hz hl hq
   induction bs with
   | nil=>rfl
   | cons b bs ih=>
    rw [List.length_cons,List.range_succ_eq_map,List.all_cons,List.all_map,List.all_cons]
    show (b && (List.range bs.length).all fun i=>bs.getD i true)=(b && bs.all id)
    rw [ih]
def CT:List V→Hp→VK→Prop:=fun xs H Q=>∃j:Int,xs=[.int j]∧∀p,H p=none→Q (.ref p) (upd H p (.cX 0 j))
theorem oP:d7 X (.type "range") CT:=by
 intro pins s σ H xs us Q I r h
 obtain ⟨j,rfl,q⟩:=h
 obtain ⟨u,rfl,ru⟩:=vals1 r
 obtain ⟨t,rfl⟩:=ru
 refine call_range_1 ⟨.ref s.heap.objs.size,_,I.laid (o:=.cX 0 j) (fun b o e=>Heap.get?_push_of_some _ e) (Nat.le_refl _) ⟨_,_,_,Heap.get?_push_size _ rfl⟩,rfl,q _ (I.ar.fresh (Nat.le_refl _))⟩
def bK(n:Nat):List V:=(List.range n).map fun i:Nat=>V.int (i:Int)
def CU:List V→Hp→VK→Prop:=fun xs H Q=>∃p n,xs=[.ref p]∧H p=some (.cX 0 (n:Nat))∧n≤10000∧∀l,H l=none→Q (.ref l) (upd H l (.lst (bK n)))
theorem oQ(hc:X.calm=true):d7 X (.type "list") CU:=by
 intro pins s σ H xs us Q I r h
 obtain ⟨p,n,rfl,hp,hn,q⟩:=h
 obtain ⟨u,rfl,ru⟩:=vals1 r
 cases ru
 obtain ⟨t,u,v,e⟩:=(show bj X.prog X.w H s.heap p (.cX 0 n) from I.ar p _ hp)
 refine call_list_range (n:=n) (I.ok.hd hc) e (small_one (by omega) (by omega) (by omega) (by omega)) (by rw [rangeSize_one];split <;> omega) (by omega) fun h' tk acc c hk hD hit=>?_
 refine ⟨.ref s.heap.objs.size,_,I.laid (o:=.lst (bK n)) (fun b o e=>hk b o e) (Nat.le_refl _) ⟨?_,acc.toList,c,?_,?_⟩,rfl,q _ (I.ar.fresh (Nat.le_refl _))⟩
 ·unfold bK
  rw [List.length_map,List.length_range]
  exact Nat.le_trans hn (by decide)
 ·refine rS ?_ fun i x u h1 h2=>?_
  ·unfold bK
   rw [List.length_map,List.length_range,Array.length_toList,hit.1]
  ·have wV:acc[i]?=some u:=by simpa using h2
   obtain ⟨CV,e'⟩:=hit.2 i u wV
   unfold bK at h1
   rw [List.getElem?_map] at h1
   have hi:i<n:=by
    have z:=(Array.getElem?_eq_some_iff.mp wV).1
    rw [hit.1] at z
    exact z
   rw [List.getElem?_range hi] at h1
   cases h1
   exact ⟨CV,by rw [e'];simp⟩
 ·rw [hD]
end
theorem boot_all:bootBuiltins "all" = some (.builtin "all"):=by decide +kernel
theorem oR:bootBuiltins "range" = some (.type "range"):=by decide +kernel
def wW:Expr→Bool
 | .Starred _ _=>false
 | _=>true
theorem CW{e:Expr}{es:List Expr}{env:Env}(h:wW e=true):starEach (e::es) env=(false,eval e env)::starEach es env:=by
 cases e <;> first | rfl | cases h
theorem aj{X:Cx}{e:Expr}{es:List Expr}{te:TE}{t:TA}(hs:wW e=true)(ha:PE X e te)(hr:PA X es t):PA X (e::es) (rq te t):=
 Bw ha hr (CW hs)
theorem aW{X:Cx}{pos:Pos}{i:Nat}{x:Str}{e:Expr}{te:TE}{pos':Pos}(hs:swapsWith e (some (.Name x pos')) pos.line X.env=pure false)(hf:X.fn x=true∨X.env.scope.names.lookup x=some .local)(hN:X.N.Nodup)(hi:X.N[i]?=some x)(hx:Loc X.env.scope x)(he:PE X e te) :
  PS X (.Assign [.Name x pos'] e pos) (jK te (aI i)):=A9 hN hi hx he hs hf
end L2
namespace My
open PySem L2
theorem wX(a b:Int):decide (V.int a=V.int b)=decide (a=b):=by
 by_cases h:a=b
 ·subst h;simp
 ·rw [decide_eq_false h];exact decide_eq_false fun e=>h (V.int.inj e)
theorem CY{K:PySem.W.Frag}{T:String}:PySem.W.kitOne K (.type T) (.type T)=some true:=by
 unfold PySem.W.kitOne
 rw [if_pos (beq_self_eq_true _)]
theorem aG{H:Hp}{p:Addr}{o:HO}(h:H p=none):ae H (upd H p o):=fun b u e=>by
 rw [aA (fI e h)]
 exact e
theorem wY{α:Type}{xs:List α}{i:Int}(h0:0≤i)(h1:i<xs.length):∃v,dv xs i=some v∧v∈xs:=by
 obtain ⟨k,rfl⟩:∃k:Nat,i=(k:Int):=⟨i.toNat,by omega⟩
 have hk:k<xs.length:=by omega
 exact ⟨xs[k],gT (by simp [hk]),List.getElem_mem _⟩
inductive Any (H:Hp):V→Prop where
 | aF:Any H .aF
 | bl (b:Bool):Any H (.bl b)
 | int (i:Int):Any H (.int i)
 | str (x:Str):Any H (.str x)
 | lst {a:Addr} {xs:List V} (e:H a=some (.lst xs)):Any H (.ref a)
 | tup {a:Addr} {xs:List V} (e:H a=some (.tup xs)):Any H (.ref a)
 | jV {a:Addr} (e:H a=some (wM a)):Any H (.ref a)
def jW:V→Bool
 | .int _=>true
 | _=>false
def jX:V→Bool
 | .bl _=>true
 | _=>false
def oS(H:Hp):V→Bool
 | .ref a=>(match H a with | some (.tup _)=>true | _=>false)
 | _=>false
theorem Any.oI{K:PySem.W.Frag}{H:Hp}{v:V}(h:Any H v):∃T:String,mD K H v (.type T)∧PySem.W.kitOne K (.type T) (.type "int")=some (jW v || jX v)∧PySem.W.kitOne K (.type T) (.type "bool")=some (jX v) ∧
  PySem.W.kitOne K (.type T) (.type "tuple")=some (oS H v):=by
 cases h with
 | aF=>exact ⟨"NoneType",.of .aF,rfl,rfl,rfl⟩
 | bl b=>exact ⟨"bool",.of (.bl b),rfl,rfl,rfl⟩
 | int i=>exact ⟨"int",.of (.int i),rfl,rfl,rfl⟩
 | str x=>exact ⟨"str",.of (.str x),rfl,rfl,rfl⟩
 | lst e=>exact ⟨"list",.of (.lst e),rfl,rfl,by unfold oS;dsimp only;rw [e];rfl⟩
 | tup e=>exact ⟨"tuple",.of (.tup e),rfl,rfl,by unfold oS;dsimp only;rw [e];rfl⟩
 | jV e=>exact ⟨"dict",.jV e,rfl,rfl,by unfold oS;dsimp only;rw [e];rfl⟩
theorem CZ{v:V}(h:jX v=true):jW v=false:=by cases v <;> first | rfl | cases h
theorem cM.of_lt{i:Int}(h1:-(10 ^ 70)<i)(h2:i<10 ^ 70):cM i:=by
 have h3:i.natAbs<2 ^ 240:=by omega
 exact Nat.lt_of_lt_of_le h3 (Nat.pow_le_pow_right (by decide) (by decide))
def C0:Sp:=fun vs H Q _=>∃v:V,vs=[v]∧Any H v∧Q (.bl (jW v)) H
def oT(K:PySem.W.Frag):Sp:=fun vs H Q _=>∃(a:Addr) (ns:List Int),vs=[.ref a]∧aS K H a (ns.map V.int)∧ns.length≤63∧∀H',Q (.bl true) H'
theorem rT(xs:List V)(k:Nat):c_ xs none (some (k:Int))=xs.take k:=by
 unfold c_
 rw [HT.wd,HT.we,List.drop_zero,Nat.sub_zero]
 rw [List.take_eq_take_iff]
 omega
end My
namespace L2
open PySem PySem.Spec PyProof.Rows
end L2
namespace My
open PySem L2
end My
namespace L2
open PySem PySem.Spec PyProof.Rows
section
variable {P:Program} {w:World} {K:PySem.W.Frag} {mg:Str→Option Value} {base:Heap}
end
section
variable {X:Cx} {CX:du} {k:Nat} {f C:Addr} {fd:FuncData} {ps:List Str} {y:Str} {sp:Sp} {E:XK} {m:Str} {pos apos vW:Pos} {e e' o:Expr} {ta:TE} {t tk:TA}
end
end L2
namespace My
open PySem L2
end My
namespace L2
open PySem PySem.Spec PyProof.Rows
section
variable {X:Cx}
end
end L2
namespace My
open PySem L2
section
variable {C N z:Addr} {q:Int} {v u:V} {t b t' b':Int} {H:Hp} {Q:VK} {E:XK}
end
end My
namespace L2
open PySem PySem.Spec PyProof.Rows
structure gp (J:It) (xs:List V) (H1:Hp):Prop where
 go:∀i Hc,ae H1 Hc→i<xs.length→J.go i Hc
 cQ:∀i Hc x H',ae H1 Hc→J.cQ i Hc x H'→H'=Hc∧(i<xs.length→xs[i]?=some x)
 stop:∀i Hc,ae H1 Hc→xs.length≤i→J.stop i Hc
theorem iZ{K:PySem.W.Frag}{a:Addr}{xs:List V}{H1:Hp}(h:aS K H1 a xs):gp (iL K a) xs H1 where
 go:=fun i Hc s hi=>⟨xs,xs[i],s.seq h,by simp [hi]⟩
 cQ:=fun i Hc x H' s y=>⟨y.1,fun _=>y.2 xs (s.seq h)⟩
 stop:=fun i Hc s hi=>⟨xs,s.seq h,hi⟩
theorem wZ{lo:Int}{n:Nat}{H1:Hp}:gp (gN lo n) ((List.range n).map fun i:Nat=>V.int (lo+(i:Int))) H1 where
 go:=fun i Hc s hi=>by
  have hi:i<n:=by simpa using hi
  exact hi
 cQ:=fun i Hc x H' s y=>⟨y.1,fun hi=>by
  have hi:i<n:=by simpa using hi
  rw [y.2]
  simp [hi]⟩
 stop:=fun i Hc s hi=>by
  have hi:n≤i:=by simpa using hi
  exact hi
theorem dA{H H':Hp}{D:Addr}{o:HO}(s:ae H H')(n:H D=none):ae H (upd H' D o):=fun b u e=>by
 rw [aA (fI e n)]
 exact s b u e
theorem w5{J:It}{xs:List V}{H1:Hp}{ρσ:St}{te:TE}{D:Addr}{Q:VK}(js:gp J xs H1)(nD:H1 D=none)(hn:xs.length<sizeLine)
  (P:Nat→V→Hp→Prop) (mono:∀i y H H' ys,P i y H→H D=some (.lst ys)→(∀b o,b≠D→H b=some o→H' b=some o)→P i y H')
  (step:∀i x,xs[i]?=some x→∀(Hc:Hp) (R:VK),ae H1 Hc→(∃ys,Hc D=some (.lst ys))→(∀y H3,ae Hc H3→P i y H3→R y H3)→te (some x::ρσ) Hc R)
  (fin:∀ys Hc,ae H1 Hc→ys.length=xs.length→(∀i y,ys[i]?=some y→P i y Hc)→Hc D=some (.lst ys)→Q (.ref D) Hc) :
  ∃W:Nat→Nat→List V→Hp→Prop,(∃m,W 0 m [] (upd H1 D (.lst []))) ∧
   ∀i m ys Hc,W i m ys Hc→Hc D=some (.lst ys)∧((J.stop i Hc∧Q (.ref D) Hc)∨(J.go i Hc∧∀x H',J.cQ i Hc x H'→
    if true=true then te (some x::ρσ) H' fun y H3=>H3 D=some (.lst ys)∧ys.length<sizeLine∧∃m',m'<m∧W (i+1) m' (ys++[y]) (upd H3 D (.lst (ys++[y]))) else ∃m',m'<m∧W (i+1) m' ys H')):=by
 refine ⟨fun i m ys Hc=>m=xs.length-i∧i≤xs.length∧Hc D=some (.lst ys)∧ae H1 Hc∧ys.length=i∧∀j y,ys[j]?=some y→P j y Hc,⟨_,rfl,Nat.zero_le _,aq,dA (ae.refl H1) nD,rfl,fun j y e=>by simp at e⟩,?_⟩
 rintro i m ys Hc ⟨rfl,hi,eD,sH,el,hP⟩
 refine ⟨eD,?_⟩
 by_cases a8:i<xs.length
 ·refine .inr ⟨js.go i Hc sH a8,fun x H' hy=>?_⟩
  obtain ⟨rfl,hx⟩:=js.cQ i Hc x H' sH hy
  rw [if_pos rfl]
  refine step i x (hx a8) _ _ sH ⟨ys,eD⟩ fun y H3 s3 hp=>?_
  have e3:=s3 _ _ eD
  refine ⟨e3,by omega,xs.length-(i+1),by omega,rfl,a8,aq,dA (sH.trans s3) nD,by simp [el],fun j y' e=>?_⟩
  have aZ:∀b o,b≠D→H3 b=some o→upd H3 D (.lst (ys++[y])) b=some o:=fun b o nb e=>by rw [aA nb];exact e
  by_cases hj:j<i
  ·have e':ys[j]?=some y':=by rw [List.getElem?_append_left (by omega)] at e;exact e
   refine mono j y' H' _ ys (hP j y' e') eD fun b o nb e=>?_
   exact aZ b o nb (s3 _ _ e)
  ·have hj:j=i:=by
    have:=(List.getElem?_eq_some_iff.mp e).1
    simp at this
    omega
   subst hj
   have e':y'=y:=by rw [List.getElem?_append_right (by omega),el,Nat.sub_self] at e;simpa using e.symm
   subst e'
   exact mono _ _ H3 _ ys hp e3 aZ
 ·have e:i=xs.length:=by omega
  subst e
  exact .inl ⟨js.stop _ Hc sH (Nat.le_refl _),fin ys Hc sH el hP eD⟩
theorem C1{wi:TI}{ρ:St→St}{te:TE}{σ:St}{H:Hp}{Q:VK}{xs:List V}(fu:∀R:It→Hp→Prop,(∀J H1,ae H H1→gp J xs H1→R J H1)→wi σ H R)(hn:xs.length<sizeLine)
  (P:Addr→Nat→V→Hp→Prop) (mono:∀D i y H H' ys,P D i y H→H D=some (.lst ys)→(∀b o,b≠D→H b=some o→H' b=some o)→P D i y H')
  (step:∀D i x,xs[i]?=some x→∀(Hc:Hp) (R:VK),ae H Hc→(∃ys,Hc D=some (.lst ys))→(∀y H3,ae Hc H3→P D i y H3→R y H3)→te (some x::ρ σ) Hc R)
  (fin:∀D ys Hc,ae H Hc→ys.length=xs.length→(∀i y,ys[i]?=some y→P D i y Hc)→Hc D=some (.lst ys)→Q (.ref D) Hc):dP wi ρ (fun _ H Q=>Q true H) te σ H Q:=by
 refine fu _ fun J H1 s1 js=>?_
 intro D nD
 exact w5 (ρσ:=ρ σ) (te:=te) (Q:=Q) js nD hn (P D) (mono D) (fun i x hx Hc R sc=>step D i x hx Hc R (s1.trans sc)) (fun ys Hc sc=>fin D ys Hc (s1.trans sc))
theorem g_{te:TE}{g:TG}{D:Ends}{σ:St}{H:Hp}(h:te σ H fun x H1=>g x σ H1 D.nx):jK te g D σ H:=h
theorem bD{a b:TS}{D:Ends}{σ:St}{H:Hp}(h:a {D with nx:=fun σ H=>b D σ H} σ H):vC a b D σ H:=h
section
variable {X:Cx} {N:List Str} {scope:Scope} {cl:List (Str×Addr)} {x:Str} {px pos:Pos} {iter elt:Expr} {ifs:List Expr} {wi:TI} {ρ:St→St} {tt:TT} {te:TE}
theorem rV{y:Str}{py mK:Pos}{i0:Nat}(B:wO X N scope cl x ρ)(hc:X.calm=true)(hN:X.N.Nodup)(rW:X.N[i0]?=some y)(hy:Loc X.env.scope y)(hi:PI X (.Name x px) iter wi)(ht:∀s₃ H₃ fp,gX (X.bI N scope cl s₃ H₃ fp) ifs tt)(he:∀s₃ H₃ fp,PE (X.bI N scope cl s₃ H₃ fp) elt te)
  (rX:swapsWith (.ListComp elt [⟨.Name x px,iter,ifs,0⟩] scope pos) (some (.Name y py)) mK.line X.env=pure true:=by rfl) (hf:X.fn y=true∨X.env.scope.names.lookup y=some .local:=by first | exact .inl rfl | exact .inr rfl | assumption)
  (hs:∀x,foldedSetIterable iter X.env x=pure x:=by intro _;rfl):PS X (.Assign [.Name y py] (.ListComp elt [⟨.Name x px,iter,ifs,0⟩] scope pos) mK) (jK (dP wi ρ tt te) (aI i0)):=by
 intro pins s σ H D0 I h
 have h:dP wi ρ tt te σ H (fun v H1=>D0.nx (σ.set i0 (some v)) H1):=h
 rw [exec_Assign_Name_used _ _ _ _ rX]
 refine wpAny_bind (wpAny_standAt (wpAny_bind ?_))
 show wpAny _ X.A (do let _ ←comprehension (.ListComp elt [⟨.Name x px,iter,ifs,0⟩] scope pos) scope X.env _ (newList []) false (eval iter X.env) (some (assign (.Name y py) X.env))) _ _ s
 refine wpAny_bind (wpAny_mono (Q:=fun _ s'=>SP X pins D0 .next s') ?_ (fun _ s' hq=>wpAny_pure (wpAny_pure hq)) fun _ _ e=>e)
 refine wpAny_comprehension_free (use:=some (assign (.Name y py) X.env)) rfl hs B.oK B.kind B.names (aw (hi pins s σ H _ I h) fun v s1 h1=>aw h1 fun l8 s2 h2=>?_)
 obtain ⟨it,fp,tn,J,H2,rfl,I2,T,d6,f2,q2⟩:=h2
 have nD:H2 s2.heap.objs.size=none:=I2.ar.fresh (Nat.le_refl _)
 obtain ⟨W,⟨m0,w0⟩,turn⟩:=q2 _ nD
 refine wpAny_newObj_type (wpAny_newFunctionEnv B.wQ (by intro y hy;simp at hy) (fun h₁ fm gm=>?_) B.kind)
 dsimp only at fm gm ⊢
 generalize hD:s2.heap.objs.size=D at nD w0 turn fm gm ⊢
 generalize fq:({s2 with heap:=s2.heap.push {cls:=.type "list",dict:=none,data:=.seq ([]:List Value).toArray}}:Shared)=s3
 have I3:Inv X pins σ (upd H2 D (.lst [])) s3:=by
  subst hD fq
  exact I2.laid (t':=s2.toks) (fun b u e=>Heap.get?_push_of_some _ e) (Nat.le_refl _) ⟨Nat.zero_le _,[],_,.nil,Heap.get?_push_size _ rfl⟩
 have e3:s3.heap=s2.heap.push {cls:=.type "list",dict:=none,data:=.seq ([]:List Value).toArray}:=by rw [←fq]
 have dz:∀b o,s2.heap.get? b=some o→s3.heap.get? b=some o:=fun b o e=>by rw [e3];exact Heap.get?_push_of_some _ e
 rw [←e3] at fm gm ⊢
 have below:∀b o,s3.heap.get? b=some o→b≠s3.heap.objs.size:=fun b o e=>Nat.ne_of_lt (Heap.lt_size e)
 have cq:∀b o,s3.heap.get? b=some o→h₁.get? b=some o:=fun b o e=>gm.extBut b o (below b o e) (Heap.get?_push_of_some _ e)
 have eQ:∀b∈fp,∃o,s2.heap.get? b=some o∧∀v,o.data≠.cell v:=T.obj _ _ d6
 have mE:∀b∈fp,b≠D:=fun b hb z=>by
  obtain ⟨o,e,_⟩:=eQ b hb
  rw [z,←hD] at e
  exact absurd (Heap.lt_size e) (Nat.lt_irrefl _)
 have bW:∀y c,cl.lookup y=some c→X.env.cells.lookup y=some c:=fun y c e=>B.sub (y,c) (PySem.mem_of_lookup e)
 have mF:=I3.lQ
 have gY:(X.bI N scope cl s3 (upd H2 D (.lst [])) fp).Ok:=by
  refine ⟨I.ok.mod,B.kind,I.ok.glob,I.ok.blt,Nat.le_refl _,fun a b c e1 e2=>I.ok.inj a b c (bW a c e1) (bW b c e2),fun y hy=>B.has y hy,(fun _ _ z _=>absurd z Bool.false_ne_true),(fun _=>I.ok.hd hc),I.ok.frames,.inl rfl,fun b hb=>⟨?_,fun y c e z=>?_⟩,fun b o e=>?_,Nat.le_trans I.ok.eL I3.sz,fun b o e hb=>?_,fun b hb z=>?_,I3.stack,mF⟩
  ·obtain ⟨o,e,_⟩:=eQ b hb
   exact below b o (dz b o e)
  ·exact (f2 b hb).2.2.2.2.1 y c (bW y c e) z
  ·exact I3.bs b o e
  ·rcases (f2 b hb).2.2.2.1 with z | z
   ·exact I.ok.iG b o e z
   ·exact absurd (Nat.lt_of_lt_of_le (Heap.lt_size e) (Nat.le_trans I.ok.eL z)) (Nat.lt_irrefl _)
  ·rcases List.mem_cons.mp (I3.lO b z) with z | z
   ·exact (f2 b hb).2.1 z
   ·exact (f2 b hb).2.2.1 z
 have IB:∀tk:Nat,Inv (X.bI N scope cl s3 (upd H2 D (.lst [])) fp) [] (none::ρ σ) (upd H2 D (.lst [])) {s3 with heap:=h₁,toks:=tk}:=fun tk=>by
  refine ⟨gY,rfl,I3.bare,Un.kept cq,⟨_,fm,fun j y v e1 e2 e3=>?_⟩,fun y c e=>?_,?_,fun y c e=>I3.eN y c (bW y c e),(fun p hp=>nomatch hp),I3.ar.kept cq,?_⟩
  ·cases j with
   | zero=>cases e2
   | succ j=>
    obtain ⟨i,y',a1,a2,a3,a4,a5,a6⟩:=B.oM σ j v e2
    have gZ:N[j+1]?=some y:=e1
    rw [gZ] at a1
    cases a1
    obtain ⟨m,hn,hl⟩:=I3.loc
    obtain ⟨u,r,l⟩:=hl i y v a2 a3 a4
    refine ⟨u,r,.inr ⟨a6,?_⟩⟩
    obtain ⟨c,ec⟩:=B.has y a6
    rcases l with ⟨k,_⟩ | ⟨_,c',g7,z⟩
    ·rcases a5 with q | q <;> (rw [k] at q;cases q)
    ·have:=bW y c ec
     rw [this] at g7
     cases g7
     obtain ⟨o,ho,hd⟩:=z
     exact ⟨c,ec,o,cq _ _ ho,hd⟩
  ·obtain ⟨v,o,ho,hd⟩:=I3.cell y c (bW y c e)
   exact ⟨v,o,cq _ _ ho,hd⟩
  ·exact I3.ar.fresh (Nat.le_refl _)
  ·show (none::ρ σ).length=N.length
   rw [List.length_cons]
   exact B.len σ I.len
 have i3:∀b o,s3.heap.get? b=some o→b≠s3.heap.objs.size:=below
 have fin:∀{σ':St} {H':Hp} {s':Shared},Inv (X.bI N scope cl s3 (upd H2 D (.lst [])) fp) [] σ' H' s'→D0.nx (σ.set i0 (some (.ref D))) H'→compPost (model X.prog X.w) X.A X.xe (some (assign (.Name y py) X.env)) (fun _ s'=>SP X pins D0 .next s') (.ref D) s3.heap.objs.size (.ok .next) s':=fun{σ' H' s'} J q=>by
  obtain ⟨m,hn,_⟩:=J.loc
  have hn:s'.heap.Ns s3.heap.objs.size m:=hn
  have JC:H' s3.heap.objs.size=none:=J.free
  have u1:Un (bt X.stack) fp (upd H2 D (.lst [])) H' s3.heap s'.heap:=by
   refine ⟨fun b o e n hb hx=>J.base.keep b o e n hb hx,fun b o e n hb hx=>J.base.slot b o e n hb hx,J.base.free,fun b o e hx=>J.base.there b o e hx,J.base.di,J.base.cY,J.base.dj⟩
  have IX:Inv X pins σ H' s':=I3.iJ (ch:=fp) (J.os) u1 J.ar J.bare fun b hb=>by
   obtain ⟨g0,g1,g2,g3,g4,g5⟩:=f2 b hb
   exact ⟨g3,g1,g4,g5⟩
  have nl:X.env.locals≠s3.heap.objs.size:=by
   obtain ⟨m3,⟨o3,_,_,e3,_⟩,_⟩:=I3.loc
   exact i3 _ _ e3
  have nc:∀z c,X.env.cells.lookup z=some c→c≠s3.heap.objs.size:=fun z c e=>by
   obtain ⟨v3,o3,e3,_⟩:=I3.cell z c e
   exact i3 _ _ e3
  refine wpAny_assign_Name (qU (v:=.ref D) IX hN rW hy rfl (fun d9 i4 i5=>?_) hf)
  obtain ⟨a,i5,ha⟩:=i5
  have na:s3.heap.objs.size≠a:=by
   rcases ha with rfl | e
   ·exact fun z=>nl z.symm
   ·exact fun z=>nc _ _ e z.symm
  refine ⟨m,hn.sameBut i5 na,fun h' dQ=>⟨σ.set i0 (some (.ref D)),H',?_,q⟩⟩
  have u2:Un (bt X.stack) [s3.heap.objs.size] H' H' d9.heap h':=by
   refine ⟨fun b o e n hb hx=>(dQ.2 b (by simpa using hx)).trans e,fun b o e n hb hx=>⟨o.slots,(dQ.2 b (by simpa using hx)).trans e⟩,fun b o e n hx=>n,fun b o e hx=>⟨o,(dQ.2 b (by simpa using hx)).trans e⟩,fun b xs z=>z,fun b o u z=>z,fun b ps z=>⟨#[],by simpa using z⟩⟩
  have mG:ba X.prog X.w H' h':=fun b u e=>by
   refine (i4.ar b u e).fg (fun c v hc z=>(dQ.2 c fun y=>?_).trans z) (fun _ z=>z) fun _ _ z=>z
   have y':c=s3.heap.objs.size:=y
   rcases hc with hc | hc
   ·rw [←hc,y',JC] at e
    cases e
   ·rw [y',JC] at hc
    cases hc
  refine i4.iJ (s':={d9 with heap:=h'}) (ch:=[s3.heap.objs.size]) rfl u2 mG i4.bare fun b hb=>?_
  have eb:b=s3.heap.objs.size:=by simpa using hb
  subst eb
  refine ⟨.inr I3.sz,fun z=>nl z.symm,fun z c e=>nc z c e,fun p hp=>?_⟩
  exact i3 _ _ (I3.pin p hp).1
 have dr:∀{H':Hp},(∀b∈fp,H' b=none)→∀b∈fp,gc (X.bI N scope cl s3 (upd H2 D (.lst [])) fp) [] H' b:=fun hn b hb=>by
  refine ⟨hn b hb,?_,?_,.inl hb,fun y c e z=>(f2 b hb).2.2.2.2.1 y c (bW y c e) z,fun p hp=>nomatch hp⟩
  ·obtain ⟨o,e,_⟩:=eQ b hb
   exact below b o (dz b o e)
  ·exact gY.iH b hb
 have loop:∀tk:Nat,codeAny (model X.prog X.w) X.A (.compLoop (.ListComp elt [⟨.Name x px,iter,ifs,0⟩] scope pos) 0 (.ref it) (.ref D) (compEnvC scope cl s3.heap.objs.size X.env))
   (compPost (model X.prog X.w) X.A X.xe (some (assign (.Name y py) X.env)) (fun _ s'=>SP X pins D0 .next s') (.ref D) s3.heap.objs.size) {s3 with heap:=h₁,toks:=tk}:=fun tk=>by
  refine codeAny_compLoop_tests (fun n s'=>∃i ys o H',Inv (X.bI N scope cl s3 (upd H2 D (.lst [])) fp) [] (o::ρ σ) H' s'∧tn i s'.heap∧(∀b∈fp,H' b=none)∧W i n ys H') ?_ m0
   ⟨0,[],none,_,IB tk,T.keep _ _ _ d6 fun b hb o e=>cq _ _ (dz _ _ e),fun b hb=>by rw [aA (mE b hb)];exact (f2 b hb).1,w0⟩
  rintro n s4 ⟨i,ys,o,H4,I4,g8,g9,w4⟩
  obtain ⟨wR,mH⟩:=turn i n ys H4 w4
  rcases mH with ⟨stop,qn⟩ | ⟨go,step⟩
  ·refine wpAny_mono (T.done (X.bI N scope cl s3 (upd H2 D (.lst [])) fp) rfl rfl rfl hc i [] s4 _ H4 (fun _ _=>False) I4 (dr g9) g8 stop) (fun r s5 ⟨hr,I5⟩=>?_) fun _ _ z=>z.elim
   subst hr
   exact fin I5 qn
  ·refine wpAny_mono (T.item (X.bI N scope cl s3 (upd H2 D (.lst [])) fp) rfl rfl rfl hc i [] s4 _ H4 (fun _ _=>False) I4 (dr g9) g8 go) (fun r s5 ⟨u,hr,h5⟩=>?_) fun _ _ z=>z.elim
   subst hr
   have z:letOwnedTupleGo (.Name x px) (.ref it) u=pure ():=rfl
   rw [z] at h5
   show wpAny _ _ ((pure ():Sem Unit) >>= fun _=>assign (.Name x px) (compEnvC scope cl s3.heap.objs.size X.env) u) _ _ s5
   refine wpAny_bind (wpAny_mono h5 (fun _ s5 ⟨y,H5,I5,r5,y5,dt,iM⟩=>?_) fun _ _ z=>z.elim)
   have iO:=I5.pinned (dr iM) (T.obj _ _ dt)
   have pg:PG (X.bI N scope cl s3 (upd H2 D (.lst [])) fp) (.Name x px) (aI 0):=bR (i:=0) B.nd B.n0 (.inl (lookup_relabel_local B.hx)) (.inr (lookup_relabel_local B.hx))
   have again:∀{σ7:St} {H7:Hp} {s7:Shared},Inv (X.bI N scope cl s3 (upd H2 D (.lst [])) fp) ([]++fM fp s5.heap) σ7 H7 s7→Inv (X.bI N scope cl s3 (upd H2 D (.lst [])) fp) [] σ7 H7 s7∧tn (i+1) s7.heap∧∀b∈fp,H7 b=none:=fun{σ7 H7 s7} I7=>by
    refine ⟨I7.jM,T.keep _ _ _ dt fun b hb o e=>(I7.pin (b,o) (List.mem_append_right _ (List.mem_append_right _ (gO hb e)))).1,fun b hb=>?_⟩
    obtain ⟨o,e,d⟩:=T.obj _ _ dt b hb
    exact (I7.pin (b,o) (List.mem_append_right _ (List.mem_append_right _ (gO hb e)))).2.1
   refine wpAny_mono (pg _ s5 _ H5 y u (fun σ2 H6=>σ2=some y::ρ σ∧H6=H5) iO r5 ⟨rfl,rfl⟩) (fun _ s6 ⟨σ6,H6,I6,q6⟩=>?_) fun _ _ z=>z.elim
   obtain ⟨rfl,rfl⟩:=q6
   have mI:=step y _ y5
   have tests:∀{ft:TT},gX (X.bI N scope cl s3 (upd H2 D (.lst [])) fp) ifs ft→∀{R:Bool→Hp→Prop},ft (some y::ρ σ) H6 R→wpAny (model X.prog X.w) X.A
     (forIn ifs true fun c r=>if r=true then do let ok ←isTrue c (compEnvC scope cl s3.heap.objs.size X.env) (eval c (compEnvC scope cl s3.heap.objs.size X.env));pure (ForInStep.yield ok) else pure (ForInStep.yield r))
     (fun ok s7=>∃H7,Inv (X.bI N scope cl s3 (upd H2 D (.lst [])) fp) ([]++fM fp s5.heap) (some y::ρ σ) H7 s7∧R ok H7) (fun _ _=>False) s6:=fun{ft} p {R} hR=>by
    cases p with
    | nil=>exact wpAny_tests_nil ⟨_,I6,hR⟩
    | one p=>exact wpAny_tests_one (p _ s6 _ _ _ I6 hR)
   refine wpAny_mono (tests (ht s3 _ fp) mI) (fun ok s7 ⟨H7,I7,q7⟩=>?_) fun _ _ z=>z.elim
   cases ok with
   | false=>
    obtain ⟨m',cL,w7⟩:=q7
    obtain ⟨a1,a2,a3⟩:=again I7
    exact ⟨m',cL,i+1,ys,_,H7,a1,a2,a3,w7⟩
   | true=>
    refine wpAny_mono (he s3 _ fp _ s7 _ H7 _ I7 q7) (fun ev s8 ⟨z,H8,I8,r8,mJ,hz,m',cL,w8⟩=>?_) fun _ _ z=>z.elim
    refine wpAny_mono (ei (X:=X.bI N scope cl s3 (upd H2 D (.lst [])) fp) _ s8 _ H8 (.ref D) [z] (.ref D) [ev] (fun _ H9=>H9=upd H8 D (.lst (ys++[z]))) I8 rfl (.cons r8 .nil) ⟨D,ys,z,rfl,rfl,mJ,hz,rfl⟩) (fun _ s9 ⟨_,H9,I9,_,q9⟩=>?_) fun _ _ z=>z.elim
    subst q9
    obtain ⟨a1,a2,a3⟩:=again I9
    exact ⟨m',cL,i+1,ys++[z],_,_,a1,a2,a3,w8⟩
 have start:=loop (s3.toks+([]:List (Str×Value)).length)
 have es:({s3 with heap:=h₁,toks:=s3.toks+([]:List (Str×Value)).length}:Shared)={s2 with heap:=h₁,toks:=s2.toks+([]:List (Str×Value)).length}:=by rw [←fq]
 rw [es] at start
 exact codeAny_compStart_list start (T.self _ 0 _ _ _ (T.keep _ _ _ d6 fun b hb o e=>cq _ _ (dz _ _ e)) start)
end
section
variable {X:Cx}
end
section
variable {prog:Program} {w:World} {A:Around} {R:Result→Shared→Prop} {s:Shared}
end
section
variable {X:Cx} {N:List Str} {scope:Scope} {cl:List (Str×Addr)} {x y:Str} {px py pos tp:Pos} {C2:Nat} {iter elt:Expr} {ifs:List Expr} {wi:TI} {ρ:St→St} {tt:TT} {te:TE}
end
section
variable {X:Cx}
end
abbrev Cx.dB (X:Cx) (N:List Str) (scope:Scope) (cl:List (Str×Addr)) (x:Str) (s₃:Shared) (H₃:Hp) (fp:List Addr):Cx:=
 {X with N:=N,s₀:=s₃,H₀:=H₃,env:=compEnvC scope ((x,s₃.heap.objs.size+1)::cl) s₃.heap.objs.size X.env,outer:=X.stack,stack:=X.stack,ex:=fp,fn:=fun y=>y == x,pn:=[],xe:=fun _ _=>False}
section
variable {M:Model} {A:Around} {E:Value→Shared→Prop} {s:Shared}
theorem C3{scope:Scope}{globals:Addr}{cl:List (Str×Addr)}{qual x:Str}{env:Env}{Q:Env→Shared→Prop}
  (c1:∀n,cellsFrom n scope.names cl=(x,n)::cl) (p1:∀h:Heap,pushCells h scope.names=h.push {cls:=.type "cell",data:=.cell none})
  (hQ:Q (newEnv scope s.heap.objs.size globals ((x,s.heap.objs.size+1)::cl) qual none .none (some env) builtinsNs) {s with heap:=(s.heap.push {cls:=.type "dict",data:=.dict #[]}).push {cls:=.type "cell",data:=.cell none}}) :
  wpAny M A (newFunctionEnv scope globals cl [] qual none .none (some env)) Q E s:=by
 simp only [newFunctionEnv,Option.isSome_some,if_true]
 refine wpAny_bind (wpAny_alloc ?_)
 refine wpAny_bind (wpAny_layCells _ (fun name kind cells=>by cases C4:kind == NameKind.cell <;> simp [C4]) _ _ _ _ ?_)
 rw [show ({s with heap:=s.heap.push {cls:=.type "dict",data:=.dict #[]}}:Shared).heap.objs.size=s.heap.objs.size+1 from Heap.size_push ..,c1,p1]
 exact wpAny_bind (wpAny_pure (wpAny_pure hQ))
end
section
variable {X:Cx} {N:List Str} {scope:Scope} {cl:List (Str×Addr)} {x:Str} {px pos:Pos} {iter elt:Expr} {ifs:List Expr} {wi:TI} {ρ:St→St} {tt:TT} {te:TE}
theorem C5{names:List (Str×NameKind)}{cl:List (Str×Addr)}{x:Str}(h:(names.all fun q=>(q.2 != .cell && q.2 != .free) || ((cl.lookup q.1).isSome || q.1 == x))=true) :
  ∀y,y≠x→(names.lookup y=some .cell∨names.lookup y=some .free)→∃c,cl.lookup y=some c:=fun y hx hy=>by
 have key:∀k:NameKind,(k != .cell && k != .free)=false→names.lookup y=some k→∃c,cl.lookup y=some c:=fun k hk e=>by
  have z:=List.all_eq_true.mp h (y,k) (PySem.mem_of_lookup e)
  rw [hk,Bool.false_or,show ((y,k).1 == x)=false from beq_eq_false_iff_ne.mpr hx,Bool.or_false] at z
  exact Option.isSome_iff_exists.mp z
 rcases hy with e | e
 ·exact key .cell rfl e
 ·exact key .free rfl e
structure C6 (X:Cx) (N:List Str) (scope:Scope) (cl:List (Str×Addr)) (x:Str) (ρ:St→St):Prop where
 oK:closureFor scope X.env=pure cl
 kind:scope.kind=.function
 C7:∀n,cellsFrom n scope.names cl=(x,n)::cl
 C8:∀h:Heap,pushCells h scope.names=h.push {cls:=.type "cell",data:=.cell none}
 names:∀y∈scope.names,y.2=.local→scope.names.lookup y.1=some .local
 sub:∀p∈cl,X.env.cells.lookup p.1=some p.2
 has:∀y,y≠x→((relabel scope X.env).names.lookup y=some .cell∨(relabel scope X.env).names.lookup y=some .free)→∃c,cl.lookup y=some c
 n0:N[0]?=some x
 nd:N.Nodup
 C9:(relabel scope X.env).names.lookup x=some .cell
 oM:∀(σ:St) (j:Nat) (v:V),(ρ σ)[j]?=some (some v)→∃(i:Nat) (y:Str),N[j+1]?=some y∧X.N[i]?=some y∧σ[i]?=some (some v)∧lN X.env.scope y∧(X.env.kindOf y=some .cell∨X.env.kindOf y=some .free)∧((relabel scope X.env).names.lookup y=some .cell∨(relabel scope X.env).names.lookup y=some .free)
 len:∀σ:St,σ.length=X.N.length→(ρ σ).length+1=N.length
end
def rY(K:PySem.W.Frag)(H:Hp):Nat→V→V→Prop
 | 0,v,u=>v=u∧eg v=true
 | n+1,v,u=>(v=u∧eg v=true)∨∃a b xs ys,v=.ref a∧u=.ref b∧((aS K H a xs∧aS K H b ys)∨(cK K H a xs∧cK K H b ys))∧xs.length=ys.length∧∀(j:Nat) (x y:V),xs[j]?=some x→ys[j]?=some y→rY K H n x y
theorem oU{v:V}(h:eg v=true):cp v v=true:=by
 cases v with
 | aF=>rfl
 | bl b=>show (b == b)=true;simp
 | int i=>show (i == i)=true;simp
 | str x=>show (x == x)=true;simp
 | _=>cases h
theorem all_range(n:Nat):(List.range n).all (fun _=>true)=true:=by simp
section
variable {X:Cx} {pins:List (Addr×Obj)} {σ:St} {H:Hp} {s:Shared}
theorem oV(I:Inv X pins σ H s):∀(n:Nat) (A:Around) (v u:V) (a b:Value),rY X.K H n v u→RelV v a→RelV u b→A.units+n<cLine→SeqAt.EqAt A s a b true
 | 0,A,v,u,a,b,h,ra,rb,hu=>by
  obtain ⟨rfl,hf⟩:=h
  have z:=iR (A:=A) (s:=s) ra rb hf hf
  rw [oU hf] at z
  exact z
 | n+1,A,v,u,a,b,h,ra,rb,hu=>by
  rcases h with ⟨rfl,hf⟩ | ⟨p,q,xs,ys,rfl,rfl,hs,hl,hi⟩
  ·have z:=iR (A:=A) (s:=s) ra rb hf hf
   rw [oU hf] at z
   exact z
  ·cases ra
   cases rb
   by_cases pq:p=q
   ·subst pq
    exact SeqAt.EqAt.same _
   rcases hs with ⟨h1,h2⟩ | ⟨h1,h2⟩
   ·obtain ⟨us,r1,t1,_⟩:=I.list h1
    obtain ⟨vs,r2,t2,_⟩:=I.list h2
    have l1:=r1.length
    have l2:=r2.length
    have z:=SeqAt.RcAt.lists (A:=A) (e:=fun _=>true) t1.isList t2.isList (by simp;omega) (by omega) (fun j z1 z2=>by
     have gq:j<us.length:=by simpa using z1
     have mL:j<vs.length:=by simpa using z2
     obtain ⟨x,ex⟩:∃x,xs[j]?=some x:=⟨xs[j],by simp [show j<xs.length by omega]⟩
     obtain ⟨y,ey⟩:∃y,ys[j]?=some y:=⟨ys[j],by simp [show j<ys.length by omega]⟩
     obtain ⟨x',dZ,rx⟩:=r1.get ex
     obtain ⟨y',fv,ry⟩:=r2.get ey
     have e1:us.toArray[j]=x':=by simpa using (List.getElem?_eq_some_iff.mp dZ).2
     have e2:vs.toArray[j]=y':=by simpa using (List.getElem?_eq_some_iff.mp fv).2
     rw [e1,e2]
     exact oV I n A.in1 x y x' y' (hi j x y ex ey) rx ry (by rw [Around.in1_units];omega))
    rw [all_range] at z
    exact SeqAt.EqAt.of_refs pq z
   ·obtain ⟨us,r1,t1,_⟩:=I.tuple h1
    obtain ⟨vs,r2,t2,_⟩:=I.tuple h2
    have l1:=r1.length
    have l2:=r2.length
    have z:=SeqAt.RcAt.tuples (A:=A) (e:=fun _=>true) t1 t2 (by omega) (fun j z1 z2=>by
     have gq:j<us.length:=by simpa using z1
     have mL:j<vs.length:=by simpa using z2
     obtain ⟨x,ex⟩:∃x,xs[j]?=some x:=⟨xs[j],by simp [show j<xs.length by omega]⟩
     obtain ⟨y,ey⟩:∃y,ys[j]?=some y:=⟨ys[j],by simp [show j<ys.length by omega]⟩
     obtain ⟨x',dZ,rx⟩:=r1.get ex
     obtain ⟨y',fv,ry⟩:=r2.get ey
     have e1:us.toArray[j]=x':=by simpa using (List.getElem?_eq_some_iff.mp dZ).2
     have e2:vs.toArray[j]=y':=by simpa using (List.getElem?_eq_some_iff.mp fv).2
     rw [e1,e2]
     exact oV I n A.in1 x y x' y' (hi j x y ex ey) rx ry (by rw [Around.in1_units];omega))
    have e3:(us.toArray.size == vs.toArray.size)=true:=by simp;omega
    rw [all_range,e3] at z
    exact SeqAt.EqAt.of_refs pq z
end
section
variable {X:Cx}
def w6(K:PySem.W.Frag)(n:Nat)(r:Bool):R2:=fun x y H Q=>∃a b xs ys,x=.ref a∧y=.ref b∧aS K H a xs∧aS K H b ys∧xs.length=ys.length∧(∀(j:Nat) (x y:V),xs[j]?=some x→ys[j]?=some y→rY K H n x y)∧Q (.bl r) H
theorem Lj{n:Nat}(hu:X.A.units+64<cLine)(hn:n<60:=by decide):bE X (compareOp .Eq) (w6 X.K n true):=by
 intro pins s σ H x y v u Q I rx ry h
 obtain ⟨a,b,xs,ys,rfl,rfl,h1,h2,hl,hi,q⟩:=h
 cases rx
 cases ry
 obtain ⟨us,r1,t1,_⟩:=I.list h1
 obtain ⟨vs,r2,t2,_⟩:=I.list h2
 have l1:=r1.length
 have l2:=r2.length
 refine SeqAt.eq_listAt (e:=fun _=>true) t1.isList t2.isList (by simp;omega) (by omega) (fun j z1 z2=>?_) ?_
 ·have gq:j<us.length:=by simpa using z1
  have mL:j<vs.length:=by simpa using z2
  obtain ⟨x,ex⟩:∃x,xs[j]?=some x:=⟨xs[j],by simp [show j<xs.length by omega]⟩
  obtain ⟨y,ey⟩:∃y,ys[j]?=some y:=⟨ys[j],by simp [show j<ys.length by omega]⟩
  obtain ⟨x',dZ,rx⟩:=r1.get ex
  obtain ⟨y',fv,ry⟩:=r2.get ey
  have e1:us.toArray[j]=x':=by simpa using (List.getElem?_eq_some_iff.mp dZ).2
  have e2:vs.toArray[j]=y':=by simpa using (List.getElem?_eq_some_iff.mp fv).2
  rw [e1,e2]
  exact oV I n X.A.in1 x y x' y' (hi j x y ex ey) rx ry (by rw [Around.in1_units];omega)
 ·rw [all_range]
  exact ⟨.bl true,H,I,rfl,q⟩
theorem C_{n:Nat}(hu:X.A.units+64<cLine)(hn:n<60:=by decide):bE X (compareOp .NotEq) (w6 X.K n false):=by
 intro pins s σ H x y v u Q I rx ry h
 obtain ⟨a,b,xs,ys,rfl,rfl,h1,h2,hl,hi,q⟩:=h
 cases rx
 cases ry
 obtain ⟨us,r1,t1,_⟩:=I.list h1
 obtain ⟨vs,r2,t2,_⟩:=I.list h2
 have l1:=r1.length
 have l2:=r2.length
 refine SeqAt.RcNeAt.lists (e:=fun _=>true) t1.isList t2.isList (by simp;omega) (by omega) (fun j z1 z2=>?_) _ _ _ _ ?_
 ·have gq:j<us.length:=by simpa using z1
  have mL:j<vs.length:=by simpa using z2
  obtain ⟨x,ex⟩:∃x,xs[j]?=some x:=⟨xs[j],by simp [show j<xs.length by omega]⟩
  obtain ⟨y,ey⟩:∃y,ys[j]?=some y:=⟨ys[j],by simp [show j<ys.length by omega]⟩
  obtain ⟨x',dZ,rx⟩:=r1.get ex
  obtain ⟨y',fv,ry⟩:=r2.get ey
  have e1:us.toArray[j]=x':=by simpa using (List.getElem?_eq_some_iff.mp dZ).2
  have e2:vs.toArray[j]=y':=by simpa using (List.getElem?_eq_some_iff.mp fv).2
  rw [e1,e2]
  exact oV I n X.A.in1 x y x' y' (hi j x y ex ey) rx ry (by rw [Around.in1_units];omega)
 ·rw [all_range]
  exact ⟨.bl false,H,I,rfl,q⟩
end
section
variable {X:Cx} {N:List Str} {scope:Scope} {cl:List (Str×Addr)} {x:Str} {px pos:Pos} {iter elt:Expr} {ifs:List Expr} {wi:TI} {ρ:St→St} {tt:TT} {te:TE}
theorem Dc{y:Str}{py mK:Pos}{i0:Nat}(B:C6 X N scope cl x ρ)(hc:X.calm=true)(hN:X.N.Nodup)(rW:X.N[i0]?=some y)(hy:Loc X.env.scope y)(hi:PI X (.Name x px) iter wi)(ht:∀s₃ H₃ fp,gX (X.dB N scope cl x s₃ H₃ fp) ifs tt)(he:∀s₃ H₃ fp,PE (X.dB N scope cl x s₃ H₃ fp) elt te)
  (rX:swapsWith (.ListComp elt [⟨.Name x px,iter,ifs,0⟩] scope pos) (some (.Name y py)) mK.line X.env=pure true:=by rfl) (hf:X.fn y=true∨X.env.scope.names.lookup y=some .local:=by first | exact .inl rfl | exact .inr rfl | assumption)
  (hs:∀x,foldedSetIterable iter X.env x=pure x:=by intro _;rfl):PS X (.Assign [.Name y py] (.ListComp elt [⟨.Name x px,iter,ifs,0⟩] scope pos) mK) (jK (dP wi ρ tt te) (aI i0)):=by
 intro pins s σ H D0 I h
 have h:dP wi ρ tt te σ H (fun v H1=>D0.nx (σ.set i0 (some v)) H1):=h
 rw [exec_Assign_Name_used _ _ _ _ rX]
 refine wpAny_bind (wpAny_standAt (wpAny_bind ?_))
 show wpAny _ X.A (do let _ ←comprehension (.ListComp elt [⟨.Name x px,iter,ifs,0⟩] scope pos) scope X.env _ (newList []) false (eval iter X.env) (some (assign (.Name y py) X.env))) _ _ s
 refine wpAny_bind (wpAny_mono (Q:=fun _ s'=>SP X pins D0 .next s') ?_ (fun _ s' hq=>wpAny_pure (wpAny_pure hq)) fun _ _ e=>e)
 refine wpAny_comprehension_free (use:=some (assign (.Name y py) X.env)) rfl hs B.oK B.kind B.names (aw (hi pins s σ H _ I h) fun v s1 h1=>aw h1 fun l8 s2 h2=>?_)
 obtain ⟨it,fp,tn,J,H2,rfl,I2,T,d6,f2,q2⟩:=h2
 have nD:H2 s2.heap.objs.size=none:=I2.ar.fresh (Nat.le_refl _)
 obtain ⟨W,⟨m0,w0⟩,turn⟩:=q2 _ nD
 refine wpAny_newObj_type (C3 B.C7 B.C8 ?_)
 dsimp only
 generalize hD:s2.heap.objs.size=D at nD w0 turn ⊢
 generalize fq:({s2 with heap:=s2.heap.push {cls:=.type "list",dict:=none,data:=.seq ([]:List Value).toArray}}:Shared)=s3
 have I3:Inv X pins σ (upd H2 D (.lst [])) s3:=by
  subst hD fq
  exact I2.laid (t':=s2.toks) (fun b u e=>Heap.get?_push_of_some _ e) (Nat.le_refl _) ⟨Nat.zero_le _,[],_,.nil,Heap.get?_push_size _ rfl⟩
 have e3:s3.heap=s2.heap.push {cls:=.type "list",dict:=none,data:=.seq ([]:List Value).toArray}:=by rw [←fq]
 have dz:∀b o,s2.heap.get? b=some o→s3.heap.get? b=some o:=fun b o e=>by rw [e3];exact Heap.get?_push_of_some _ e
 rw [←e3]
 obtain ⟨h₁,eh⟩:∃h₁,h₁=(s3.heap.push {cls:=.type "dict",data:=.dict #[]}).push {cls:=.type "cell",data:=.cell none}:=⟨_,rfl⟩
 rw [←eh]
 have fm:h₁.Ns s3.heap.objs.size (fun _=>none):=by
  rw [eh]
  exact (Heap.Ns.new s3.heap (.type "dict")).keeps fun b o e=>Heap.get?_push_of_some _ e
 have De:(s3.heap.push {cls:=.type "dict",data:=.dict #[]}).objs.size=s3.heap.objs.size+1:=Heap.size_push ..
 have Dg:h₁.IsCell (s3.heap.objs.size+1) none:=by
  rw [eh,←De]
  exact ⟨_,Heap.get?_push_size _ rfl,rfl⟩
 have below:∀b o,s3.heap.get? b=some o→b≠s3.heap.objs.size:=fun b o e=>Nat.ne_of_lt (Heap.lt_size e)
 have cq:∀b o,s3.heap.get? b=some o→h₁.get? b=some o:=fun b o e=>by rw [eh];exact Heap.get?_push_of_some _ (Heap.get?_push_of_some _ e)
 have eQ:∀b∈fp,∃o,s2.heap.get? b=some o∧∀v,o.data≠.cell v:=T.obj _ _ d6
 have mE:∀b∈fp,b≠D:=fun b hb z=>by
  obtain ⟨o,e,_⟩:=eQ b hb
  rw [z,←hD] at e
  exact absurd (Heap.lt_size e) (Nat.lt_irrefl _)
 have bW:∀y c,cl.lookup y=some c→X.env.cells.lookup y=some c:=fun y c e=>B.sub (y,c) (PySem.mem_of_lookup e)
 have w9:∀y c,cl.lookup y=some c→c<s3.heap.objs.size:=fun y c e=>by
  obtain ⟨v,o,eo,_⟩:=I3.cell y c (bW y c e)
  exact Heap.lt_size eo
 have lk:∀y c,((x,s3.heap.objs.size+1)::cl).lookup y=some c→(y=x∧c=s3.heap.objs.size+1)∨(y≠x∧cl.lookup y=some c):=fun y c e=>by
  by_cases z:y=x
  ·subst z
   rw [List.lookup_cons,beq_self_eq_true] at e
   exact .inl ⟨rfl,(Option.some.inj e).symm⟩
  ·rw [List.lookup_cons,beq_eq_false_iff_ne.mpr z] at e
   exact .inr ⟨z,e⟩
 have w_:∀y c,y≠x→cl.lookup y=some c→((x,s3.heap.objs.size+1)::cl).lookup y=some c:=fun y c z e=>by
  rw [List.lookup_cons,beq_eq_false_iff_ne.mpr z]
  exact e
 have xa:∀b∈fp,b<s3.heap.objs.size:=fun b hb=>by
  obtain ⟨o,e,_⟩:=eQ b hb
  exact Heap.lt_size (dz b o e)
 have mF:=I3.lQ
 have gY:(X.dB N scope cl x s3 (upd H2 D (.lst [])) fp).Ok:=by
  refine ⟨I.ok.mod,B.kind,I.ok.glob,I.ok.blt,Nat.le_refl _,fun a b c e1 e2=>?inj,fun y hy=>?has,(fun y c z e=>?iF),(fun _=>I.ok.hd hc),I.ok.frames,.inl rfl,fun b hb=>⟨?_,fun y c e z=>?_⟩,fun b o e=>?_,Nat.le_trans I.ok.eL I3.sz,fun b o e hb=>?_,fun b hb z=>?_,I3.stack,mF⟩
  case inj=>
   rcases lk a c e1 with ⟨z1,Dh⟩ | ⟨_,f1⟩ <;> rcases lk b _ e2 with ⟨z2,ec⟩ | ⟨_,xb⟩
   ·rw [z1,z2]
   ·have:=w9 _ _ xb
    rw [Dh] at this
    exact absurd this (Nat.not_lt.mpr (Nat.le_succ _))
   ·have:=w9 _ _ f1
    rw [ec] at this
    exact absurd this (Nat.not_lt.mpr (Nat.le_succ _))
   ·exact I.ok.inj a b c (bW a c f1) (bW b c xb)
  case has=>
   by_cases z:y=x
   ·subst z
    exact ⟨_,by rw [show (compEnvC scope ((y,s3.heap.objs.size+1)::cl) s3.heap.objs.size X.env).cells=(y,s3.heap.objs.size+1)::cl from rfl,List.lookup_cons,beq_self_eq_true]⟩
   ·obtain ⟨c,ec⟩:=B.has y z hy
    exact ⟨c,w_ y c z ec⟩
  case iF=>
   have z:y=x:=by simpa using z
   rcases lk y c e with ⟨_,rfl⟩ | ⟨z',_⟩
   ·exact Nat.le_succ _
   ·exact absurd z z'
  ·obtain ⟨o,e,_⟩:=eQ b hb
   exact below b o (dz b o e)
  ·rcases lk y c e with ⟨rfl,rfl⟩ | ⟨_,e⟩
   ·rw [←z] at hb
    exact absurd (xa _ hb) (Nat.not_lt.mpr (Nat.le_succ _))
   ·exact (f2 b hb).2.2.2.2.1 y c (bW y c e) z
  ·exact I3.bs b o e
  ·rcases (f2 b hb).2.2.2.1 with z | z
   ·exact I.ok.iG b o e z
   ·exact absurd (Nat.lt_of_lt_of_le (Heap.lt_size e) (Nat.le_trans I.ok.eL z)) (Nat.lt_irrefl _)
  ·rcases List.mem_cons.mp (I3.lO b z) with z | z
   ·exact (f2 b hb).2.1 z
   ·exact (f2 b hb).2.2.1 z
 have IB:∀tk:Nat,Inv (X.dB N scope cl x s3 (upd H2 D (.lst [])) fp) [] (none::ρ σ) (upd H2 D (.lst [])) {s3 with heap:=h₁,toks:=tk}:=fun tk=>by
  refine ⟨gY,rfl,I3.bare,Un.kept cq,⟨_,fm,fun j y v e1 e2 e3=>?_⟩,fun y c e=>?_,?_,fun y c e=>?fC,(fun p hp=>nomatch hp),I3.ar.kept cq,?_⟩
  ·cases j with
   | zero=>cases e2
   | succ j=>
    obtain ⟨i,y',a1,a2,a3,a4,a5,a6⟩:=B.oM σ j v e2
    have gZ:N[j+1]?=some y:=e1
    rw [gZ] at a1
    cases a1
    obtain ⟨m,hn,hl⟩:=I3.loc
    obtain ⟨u,r,l⟩:=hl i y v a2 a3 a4
    refine ⟨u,r,.inr ⟨a6,?_⟩⟩
    have yx:y≠x:=fun z=>by
     have n0:=B.n0
     rw [←z] at n0
     have:=(List.getElem?_inj (List.getElem?_eq_some_iff.mp n0).1 B.nd).mp (n0.trans gZ.symm)
     omega
    obtain ⟨c,ec⟩:=B.has y yx a6
    rcases l with ⟨k,_⟩ | ⟨_,c',g7,z⟩
    ·rcases a5 with q | q <;> (rw [k] at q;cases q)
    ·have:=bW y c ec
     rw [this] at g7
     cases g7
     obtain ⟨o,ho,hd⟩:=z
     exact ⟨c,w_ y c yx ec,o,cq _ _ ho,hd⟩
  case fC=>
   rcases lk y c e with ⟨rfl,rfl⟩ | ⟨_,e⟩
   ·exact I3.ar.fresh (Nat.le_succ _)
   ·exact I3.eN y c (bW y c e)
  ·rcases lk y c e with ⟨rfl,rfl⟩ | ⟨_,e⟩
   ·exact ⟨none,Dg⟩
   ·obtain ⟨v,o,ho,hd⟩:=I3.cell y c (bW y c e)
    exact ⟨v,o,cq _ _ ho,hd⟩
  ·exact I3.ar.fresh (Nat.le_refl _)
  ·show (none::ρ σ).length=N.length
   rw [List.length_cons]
   exact B.len σ I.len
 have i3:∀b o,s3.heap.get? b=some o→b≠s3.heap.objs.size:=below
 have fin:∀{σ':St} {H':Hp} {s':Shared},Inv (X.dB N scope cl x s3 (upd H2 D (.lst [])) fp) [] σ' H' s'→D0.nx (σ.set i0 (some (.ref D))) H'→compPost (model X.prog X.w) X.A X.xe (some (assign (.Name y py) X.env)) (fun _ s'=>SP X pins D0 .next s') (.ref D) s3.heap.objs.size (.ok .next) s':=fun{σ' H' s'} J q=>by
  obtain ⟨m,hn,_⟩:=J.loc
  have hn:s'.heap.Ns s3.heap.objs.size m:=hn
  have JC:H' s3.heap.objs.size=none:=J.free
  have u1:Un (bt X.stack) fp (upd H2 D (.lst [])) H' s3.heap s'.heap:=by
   refine ⟨fun b o e n hb hx=>J.base.keep b o e n hb hx,fun b o e n hb hx=>J.base.slot b o e n hb hx,J.base.free,fun b o e hx=>J.base.there b o e hx,J.base.di,J.base.cY,J.base.dj⟩
  have IX:Inv X pins σ H' s':=I3.iJ (ch:=fp) (J.os) u1 J.ar J.bare fun b hb=>by
   obtain ⟨g0,g1,g2,g3,g4,g5⟩:=f2 b hb
   exact ⟨g3,g1,g4,g5⟩
  have nl:X.env.locals≠s3.heap.objs.size:=by
   obtain ⟨m3,⟨o3,_,_,e3,_⟩,_⟩:=I3.loc
   exact i3 _ _ e3
  have nc:∀z c,X.env.cells.lookup z=some c→c≠s3.heap.objs.size:=fun z c e=>by
   obtain ⟨v3,o3,e3,_⟩:=I3.cell z c e
   exact i3 _ _ e3
  refine wpAny_assign_Name (qU (v:=.ref D) IX hN rW hy rfl (fun d9 i4 i5=>?_) hf)
  obtain ⟨a,i5,ha⟩:=i5
  have na:s3.heap.objs.size≠a:=by
   rcases ha with rfl | e
   ·exact fun z=>nl z.symm
   ·exact fun z=>nc _ _ e z.symm
  refine ⟨m,hn.sameBut i5 na,fun h' dQ=>⟨σ.set i0 (some (.ref D)),H',?_,q⟩⟩
  have u2:Un (bt X.stack) [s3.heap.objs.size] H' H' d9.heap h':=by
   refine ⟨fun b o e n hb hx=>(dQ.2 b (by simpa using hx)).trans e,fun b o e n hb hx=>⟨o.slots,(dQ.2 b (by simpa using hx)).trans e⟩,fun b o e n hx=>n,fun b o e hx=>⟨o,(dQ.2 b (by simpa using hx)).trans e⟩,fun b xs z=>z,fun b o u z=>z,fun b ps z=>⟨#[],by simpa using z⟩⟩
  have mG:ba X.prog X.w H' h':=fun b u e=>by
   refine (i4.ar b u e).fg (fun c v hc z=>(dQ.2 c fun y=>?_).trans z) (fun _ z=>z) fun _ _ z=>z
   have y':c=s3.heap.objs.size:=y
   rcases hc with hc | hc
   ·rw [←hc,y',JC] at e
    cases e
   ·rw [y',JC] at hc
    cases hc
  refine i4.iJ (s':={d9 with heap:=h'}) (ch:=[s3.heap.objs.size]) rfl u2 mG i4.bare fun b hb=>?_
  have eb:b=s3.heap.objs.size:=by simpa using hb
  subst eb
  refine ⟨.inr I3.sz,fun z=>nl z.symm,fun z c e=>nc z c e,fun p hp=>?_⟩
  exact i3 _ _ (I3.pin p hp).1
 have dr:∀{H':Hp},(∀b∈fp,H' b=none)→∀b∈fp,gc (X.dB N scope cl x s3 (upd H2 D (.lst [])) fp) [] H' b:=fun hn b hb=>by
  refine ⟨hn b hb,?_,?_,.inl hb,fun y c e z=>?sc,fun p hp=>nomatch hp⟩
  case sc=>
   rcases lk y c e with ⟨rfl,rfl⟩ | ⟨_,e⟩
   ·rw [←z] at hb
    exact absurd (xa _ hb) (Nat.not_lt.mpr (Nat.le_succ _))
   ·exact (f2 b hb).2.2.2.2.1 y c (bW y c e) z
  ·obtain ⟨o,e,_⟩:=eQ b hb
   exact below b o (dz b o e)
  ·exact gY.iH b hb
 have loop:∀tk:Nat,codeAny (model X.prog X.w) X.A (.compLoop (.ListComp elt [⟨.Name x px,iter,ifs,0⟩] scope pos) 0 (.ref it) (.ref D) (compEnvC scope ((x,s3.heap.objs.size+1)::cl) s3.heap.objs.size X.env))
   (compPost (model X.prog X.w) X.A X.xe (some (assign (.Name y py) X.env)) (fun _ s'=>SP X pins D0 .next s') (.ref D) s3.heap.objs.size) {s3 with heap:=h₁,toks:=tk}:=fun tk=>by
  refine codeAny_compLoop_tests (fun n s'=>∃i ys o H',Inv (X.dB N scope cl x s3 (upd H2 D (.lst [])) fp) [] (o::ρ σ) H' s'∧tn i s'.heap∧(∀b∈fp,H' b=none)∧W i n ys H') ?_ m0
   ⟨0,[],none,_,IB tk,T.keep _ _ _ d6 fun b hb o e=>cq _ _ (dz _ _ e),fun b hb=>by rw [aA (mE b hb)];exact (f2 b hb).1,w0⟩
  rintro n s4 ⟨i,ys,o,H4,I4,g8,g9,w4⟩
  obtain ⟨wR,mH⟩:=turn i n ys H4 w4
  rcases mH with ⟨stop,qn⟩ | ⟨go,step⟩
  ·refine wpAny_mono (T.done (X.dB N scope cl x s3 (upd H2 D (.lst [])) fp) rfl rfl rfl hc i [] s4 _ H4 (fun _ _=>False) I4 (dr g9) g8 stop) (fun r s5 ⟨hr,I5⟩=>?_) fun _ _ z=>z.elim
   subst hr
   exact fin I5 qn
  ·refine wpAny_mono (T.item (X.dB N scope cl x s3 (upd H2 D (.lst [])) fp) rfl rfl rfl hc i [] s4 _ H4 (fun _ _=>False) I4 (dr g9) g8 go) (fun r s5 ⟨u,hr,h5⟩=>?_) fun _ _ z=>z.elim
   subst hr
   have z:letOwnedTupleGo (.Name x px) (.ref it) u=pure ():=rfl
   rw [z] at h5
   show wpAny _ _ ((pure ():Sem Unit) >>= fun _=>assign (.Name x px) (compEnvC scope ((x,s3.heap.objs.size+1)::cl) s3.heap.objs.size X.env) u) _ _ s5
   refine wpAny_bind (wpAny_mono h5 (fun _ s5 ⟨y,H5,I5,r5,y5,dt,iM⟩=>?_) fun _ _ z=>z.elim)
   have iO:=I5.pinned (dr iM) (T.obj _ _ dt)
   have pg:PG (X.dB N scope cl x s3 (upd H2 D (.lst [])) fp) (.Name x px) (aI 0):=bR (i:=0) B.nd B.n0 (.inr B.C9) (.inl (by show (x == x)=true;simp))
   have again:∀{σ7:St} {H7:Hp} {s7:Shared},Inv (X.dB N scope cl x s3 (upd H2 D (.lst [])) fp) ([]++fM fp s5.heap) σ7 H7 s7→Inv (X.dB N scope cl x s3 (upd H2 D (.lst [])) fp) [] σ7 H7 s7∧tn (i+1) s7.heap∧∀b∈fp,H7 b=none:=fun{σ7 H7 s7} I7=>by
    refine ⟨I7.jM,T.keep _ _ _ dt fun b hb o e=>(I7.pin (b,o) (List.mem_append_right _ (List.mem_append_right _ (gO hb e)))).1,fun b hb=>?_⟩
    obtain ⟨o,e,d⟩:=T.obj _ _ dt b hb
    exact (I7.pin (b,o) (List.mem_append_right _ (List.mem_append_right _ (gO hb e)))).2.1
   refine wpAny_mono (pg _ s5 _ H5 y u (fun σ2 H6=>σ2=some y::ρ σ∧H6=H5) iO r5 ⟨rfl,rfl⟩) (fun _ s6 ⟨σ6,H6,I6,q6⟩=>?_) fun _ _ z=>z.elim
   obtain ⟨rfl,rfl⟩:=q6
   have mI:=step y _ y5
   have tests:∀{ft:TT},gX (X.dB N scope cl x s3 (upd H2 D (.lst [])) fp) ifs ft→∀{R:Bool→Hp→Prop},ft (some y::ρ σ) H6 R→wpAny (model X.prog X.w) X.A
     (forIn ifs true fun c r=>if r=true then do let ok ←isTrue c (compEnvC scope ((x,s3.heap.objs.size+1)::cl) s3.heap.objs.size X.env) (eval c (compEnvC scope ((x,s3.heap.objs.size+1)::cl) s3.heap.objs.size X.env));pure (ForInStep.yield ok) else pure (ForInStep.yield r))
     (fun ok s7=>∃H7,Inv (X.dB N scope cl x s3 (upd H2 D (.lst [])) fp) ([]++fM fp s5.heap) (some y::ρ σ) H7 s7∧R ok H7) (fun _ _=>False) s6:=fun{ft} p {R} hR=>by
    cases p with
    | nil=>exact wpAny_tests_nil ⟨_,I6,hR⟩
    | one p=>exact wpAny_tests_one (p _ s6 _ _ _ I6 hR)
   refine wpAny_mono (tests (ht s3 _ fp) mI) (fun ok s7 ⟨H7,I7,q7⟩=>?_) fun _ _ z=>z.elim
   cases ok with
   | false=>
    obtain ⟨m',cL,w7⟩:=q7
    obtain ⟨a1,a2,a3⟩:=again I7
    exact ⟨m',cL,i+1,ys,_,H7,a1,a2,a3,w7⟩
   | true=>
    refine wpAny_mono (he s3 _ fp _ s7 _ H7 _ I7 q7) (fun ev s8 ⟨z,H8,I8,r8,mJ,hz,m',cL,w8⟩=>?_) fun _ _ z=>z.elim
    refine wpAny_mono (ei (X:=X.dB N scope cl x s3 (upd H2 D (.lst [])) fp) _ s8 _ H8 (.ref D) [z] (.ref D) [ev] (fun _ H9=>H9=upd H8 D (.lst (ys++[z]))) I8 rfl (.cons r8 .nil) ⟨D,ys,z,rfl,rfl,mJ,hz,rfl⟩) (fun _ s9 ⟨_,H9,I9,_,q9⟩=>?_) fun _ _ z=>z.elim
    subst q9
    obtain ⟨a1,a2,a3⟩:=again I9
    exact ⟨m',cL,i+1,ys++[z],_,_,a1,a2,a3,w8⟩
 have start:=loop s3.toks
 have es:({s3 with heap:=h₁,toks:=s3.toks}:Shared)={s2 with heap:=h₁}:=by rw [←fq]
 rw [es] at start
 exact codeAny_compStart_list start (T.self _ 0 _ _ _ (T.keep _ _ _ d6 fun b hb o e=>cq _ _ (dz _ _ e)) start)
end
theorem xc{wi:TI}{ρ:St→St}{te:TE}{σ:St}{H:Hp}{Q:VK}{xs:List V}(fu:∀R:It→Hp→Prop,(∀J H1,ae H H1→gp J xs H1→R J H1)→wi σ H R)(hn:xs.length<sizeLine)
  (P:Addr→Nat→V→Hp→Prop) (mono:∀D i y H H' ys,P D i y H→H D=some (.lst ys)→(∀b o,b≠D→H b=some o→H' b=some o)→P D i y H')
  (step:∀D i x,xs[i]?=some x→∀(Hc:Hp) (R:VK),ae H Hc→(∃ys,Hc D=some (.lst ys))→(∀y H3,ae Hc H3→P D i y H3→R y H3)→te (some x::ρ σ) Hc R)
  (fin:∀D ys Hc,H D=none→ae H Hc→ys.length=xs.length→(∀(i:Nat) (y:V),ys[i]?=some y→P D i y Hc)→Hc D=some (.lst ys)→Q (.ref D) Hc):dP wi ρ (fun _ H Q=>Q true H) te σ H Q:=by
 refine fu _ fun J H1 s1 js=>?_
 intro D nD
 have hD:H D=none:=by
  cases e:H D with
  | none=>rfl
  | some o=>rw [s1 _ _ e] at nD;cases nD
 exact w5 (ρσ:=ρ σ) (te:=te) (Q:=Q) js nD hn (P D) (mono D) (fun i x hx Hc R sc=>step D i x hx Hc R (s1.trans sc)) (fun ys Hc sc=>fin D ys Hc hD (s1.trans sc))
section
variable {X:Cx} {K:PySem.W.Frag}
theorem rZ(hK:X.K=K:=by rfl):ou X (wu K):=by
 subst hK
 exact bC
theorem Di{tg l:Expr}{tl:TE}(hl:PE X l tl)(hK:X.K=K:=by rfl):PI X tg l (vE K tl):=by
 subst hK
 exact cZ hl
end
end L2
namespace My
open PySem L2
theorem xf{r:List V→Hp→VK→Prop}{te:TE}{σ:St}{H:Hp}{Q:VK}(h:te σ H fun x H1=>r [x] H1 Q):rz r (rq te om) σ H Q:=h
theorem Dj{vs:List V}{b:Bool}(h:∀(i:Nat) (v:V),vs[i]?=some v→v=.bl b):vs=(List.replicate vs.length b).map V.bl:=by
 refine List.ext_getElem? fun i=>?_
 rw [List.getElem?_map]
 by_cases hi:i<vs.length
 ·rw [show vs[i]?=some vs[i] by simp [hi],h i vs[i] (by simp [hi])]
  simp [hi]
 ·rw [List.getElem?_eq_none (by omega),List.getElem?_eq_none (by simp;omega)]
  rfl
theorem Dk(n:Nat):(List.replicate n true).all id=true:=by simp
theorem none_of{H H':Hp}{b:Addr}(s:ae H H')(h:H' b=none):H b=none:=by
 cases e:H b with
 | none=>rfl
 | some o=>rw [s _ _ e] at h;cases h
theorem getD_at{α:Type}{xs:List α}{d:α}{i:Nat}(hi:i<xs.length):xs.getD i d=xs[i]:=by
 rw [List.getD_eq_getElem?_getD,show xs[i]?=some xs[i] by simp [hi]]
 rfl
def er(P:Addr)(H:Hp):Hp:=fun b=>if b=P then none else H b
theorem oW{P:Addr}{H:Hp}:ae (er P H) H:=fun b o e=>by
 unfold er at e
 split at e
 ·cases e
 ·exact e
theorem cG{P b:Addr}{H:Hp}(h:b≠P):er P H b=H b:=if_neg h
theorem r6{P b:Addr}{H:Hp}{o:HO}(h:b≠P)(e:H b=some o):er P H b=some o:=by rw [cG h];exact e
theorem oX{P:Addr}{H H':Hp}(s:ae H H'):ae (er P H) (er P H'):=fun b o e=>by
 unfold er at e ⊢
 split at e
 ·cases e
 ·rename_i h
  rw [if_neg h]
  exact s _ _ e
theorem xg{P:Addr}{H:Hp}{o:HO}:er P (upd H P o)=er P H:=funext fun b=>by
 unfold er
 split
 ·rfl
 ·rename_i h
  exact aA h
def a7(H:Hp)(P a:Addr):Prop:=∃x y:Int,H P=some (.lst [.ref a,.int x,.int y])∧0≤x∧0≤y
theorem a7.mono{H H':Hp}{P a:Addr}(h:a7 H P a)(s:ae H H'):a7 H' P a:=by
 obtain ⟨x,y,e,h1,h2⟩:=h
 exact ⟨x,y,s _ _ e,h1,h2⟩
theorem a7.upd{H:Hp}{P a D:Addr}{o:HO}(h:a7 H P a)(n:D≠P):a7 (L2.upd H D o) P a:=by
 obtain ⟨x,y,e,h1,h2⟩:=h
 exact ⟨x,y,by rw [aA n.symm];exact e,h1,h2⟩
theorem a7.ne{H:Hp}{P a D:Addr}(h:a7 H P a)(n:H D=none):D≠P:=fun z=>by
 obtain ⟨x,y,e,_⟩:=h
 rw [z,e] at n
 cases n
def av(P:Addr)(H H':Hp):Prop:=ae (er P H) (er P H')
theorem av.refl{P:Addr}(H:Hp):av P H H:=ae.refl _
theorem av.trans{P:Addr}{H H' H2:Hp}(s:av P H H')(t:av P H' H2):av P H H2:=ae.trans s t
theorem av.of{P:Addr}{H H':Hp}(s:ae H H'):av P H H':=oX s
theorem av.fT{P:Addr}{H:Hp}{o:HO}:av P H (upd H P o):=by
 unfold av
 rw [xg]
 exact ae.refl _
theorem av.but{P D:Addr}{H H':Hp}{o:HO}(s:av P H H')(n:H D=none):av P H (upd H' D o):=fun b u e=>by
 have e0:=s b u e
 have nb:b≠P:=fun z=>by unfold er at e;rw [if_pos z] at e;cases e
 rw [cG nb] at e e0 ⊢
 rw [aA (fI e n)]
 exact e0
theorem av.at{P b:Addr}{H H':Hp}{o:HO}(s:av P H H')(nb:b≠P)(e:H b=some o):H' b=some o:=by
 have z:=s b o (r6 nb e)
 rw [cG nb] at z
 exact z
end My
namespace L2
open PySem PySem.Spec PyProof.Rows
end L2
namespace My
open PySem L2
def Dl:Sp:=fun vs H Q _=>∃c a:Int,vs=[.int c,.int a]∧0≤a∧∀r:Int,0≤r→Q (.int r) H
def Dm(K:PySem.W.Frag):Sp:=fun vs H Q _=>∃(P a:Addr) (ns:List Int) (many:Int),vs=[.ref P,.int many]∧a7 H P a∧aS K (er P H) a (ns.map V.int)∧1≤many∧cM many∧∀(r:Int) (H':Hp),0≤r→r<many→av P H H'→a7 H' P a→Q (.int r) H'
end My
namespace L2
open PySem PySem.Spec PyProof.Rows
end L2
namespace My
open PySem L2
end My
namespace L2
open PySem PySem.Spec PyProof.Rows
def mM(K:PySem.W.Frag)(l:Addr):It:=
  ⟨fun i H=>∃xs x,aS K H l xs∧xs[i]?=some x,
   fun i H v H'=>∃T x,H T=none∧v=.ref T∧H'=upd H T (.tup [.int (i:Int),x])∧∀xs,aS K H l xs→xs[i]?=some x,
   fun i H=>∃xs,aS K H l xs∧xs.length≤i⟩
theorem Dn{P:Program}{w:World}{K:PySem.W.Frag}{elts:List Expr}{k:Nat}{pos:Pos}{e it l:Addr}(xh:e≠it):Turn P w K (.Tuple elts k pos) (mM K l) [e,it] e
  (fun i h=>(∃old,IsEnum h e it (i:Int) old)∧h.IsListIter it l i) where
 mem:=by simp
 obj:=fun i h st b hb=>by
  obtain ⟨⟨old,he⟩,h1⟩:=st
  simp only [List.mem_cons,List.not_mem_nil,or_false] at hb
  rcases hb with rfl | rfl
  ·exact ⟨_,he,fun v z=>by cases z⟩
  ·obtain ⟨o,e,c,d⟩:=h1
   exact ⟨o,e,fun v z=>by rw [d] at z;cases z⟩
 keep:=fun i h h' st k=>by
  obtain ⟨⟨old,he⟩,h1⟩:=st
  exact ⟨⟨old,k _ (by simp) _ he⟩,h1.at fun o e=>k _ (by simp) o e⟩
 item:=by
  intro X hP hw hK hc i pins s σ H E I hf st hg
  subst hP hw hK
  obtain ⟨⟨old,he⟩,h1⟩:=st
  obtain ⟨xs,x,jY,hx⟩:=hg
  obtain ⟨aa,rv,p,_⟩:=I.list jY
  obtain ⟨u,hu,ru⟩:=rv.get hx
  refine wpAny_pyNext_enum_item he h1 p.isList (x:=u) (by simpa using hu) xh fun h' g1 g2 g3 g4 g5=>⟨_,rfl,?_⟩
  refine wpAny_letOwnedTupleGo_enum g1 fun oY q1 sb=>?_
  have xi:H s.heap.objs.size=none:=I.ar.fresh (Nat.le_refl _)
  have lt:∀b o,s.heap.get? b=some o→b≠s.heap.objs.size:=fun b o e=>Nat.ne_of_lt (Heap.lt_size e)
  have keep:∀b o,b∉[e,it]→s.heap.get? b=some o→oY.get? b=some o:=fun b o nb e=>by
   simp only [List.mem_cons,List.not_mem_nil,or_false,not_or] at nb
   exact sb.extBut _ _ nb.1 (g5 b o nb.1 nb.2 e)
  have elt:e≠s.heap.objs.size:=lt _ _ he
  have pT:=sb.extBut _ _ elt.symm g3
  have mO:∀{b:Addr} {o:HO} (e:H b=some o),upd H s.heap.objs.size (.tup [.int (i:Int),x]) b=some o:=fun e=>by rw [aA (fI e xi)];exact e
  have ar:ba X.prog X.w (upd H s.heap.objs.size (.tup [.int (i:Int),x])) oY:=fun b o e=>by
   by_cases hb:b=s.heap.objs.size
   ·subst hb
    rw [aq] at e
    cases e
    exact ⟨by show 2≤sizeLine;decide,[.int i s.toks,u],.cons ⟨_,rfl⟩ (.cons ru .nil),⟨_,pT,rfl,_,rfl⟩⟩
   ·rw [aA hb] at e
    refine (I.ar b o e).fg (fun c v eO q=>keep c v (fun m=>?_) q) (fun c q=>mO q) fun c xs q=>mO q
    have nn:=(hf c m).1
    rcases eO with rfl | eO
    ·rw [nn] at e;cases e
    ·rw [nn] at eO;cases eO
  have u1:Un (bt X.stack) [e,it] H (upd H s.heap.objs.size (.tup [.int (i:Int),x])) s.heap oY:=
   ⟨fun b o e n _ hx=>keep b o hx e,fun b o e n _ hx=>⟨o.slots,keep b o hx e⟩,fun b o e n hx=>by rw [aA (lt b o e)];exact n,fun b o e hx=>⟨o,keep b o hx e⟩,fun b xs e=>mO e,fun b o u e=>mO e,fun b ps e=>⟨#[],by rw [mO e];simp⟩⟩
  refine ⟨.ref s.heap.objs.size,upd H s.heap.objs.size (.tup [.int (i:Int),x]),I.iJ (s':={s with heap:=oY,toks:=s.toks+1}) (ch:=[e,it]) rfl u1 ar I.bare (fun b hb=>?_),rfl,⟨_,x,xi,rfl,rfl,fun as ha=>by rw [I.vB ha jY];exact hx⟩,?_,fun b hb=>?_⟩
  ·obtain ⟨f0,f1,f2,f3,f4,f5⟩:=hf b hb
   exact ⟨f3,f1,f4,f5⟩
  ·refine ⟨⟨u,?_⟩,g2.extBut sb.extBut xh.symm⟩
   have z:((i+1:Nat):Int)=(i:Int)+1:=by omega
   rw [z]
   exact q1
  ·have nb:b≠s.heap.objs.size:=by
    simp only [List.mem_cons,List.not_mem_nil,or_false] at hb
    rcases hb with rfl | rfl
    ·exact lt _ _ he
    ·obtain ⟨o,e,_⟩:=h1;exact lt _ _ e
   rw [aA nb]
   exact (hf b hb).1
 done:=by
  intro X hP hw hK hc i pins s σ H E I hf st hg
  subst hP hw hK
  obtain ⟨⟨old,he⟩,h1⟩:=st
  obtain ⟨xs,jY,hx⟩:=hg
  obtain ⟨aa,rv,p,_⟩:=I.list jY
  have hl:=rv.length
  refine wpAny_pyNext_enum_end (I.ok.hd hc) he h1 p.isList (by simp;omega) fun h' g=>⟨rfl,?_⟩
  have keep:∀b o,b∉[e,it]→s.heap.get? b=some o→h'.get? b=some o:=fun b o nb e=>by
   simp only [List.mem_cons,List.not_mem_nil,or_false,not_or] at nb
   exact g b o nb.2 e
  have ar:ba X.prog X.w H h':=fun b o e=>by
   refine (I.ar b o e).fg (fun c v eO q=>keep c v (fun m=>?_) q) (fun c q=>q) fun c xs q=>q
   have nn:=(hf c m).1
   rcases eO with rfl | eO
   ·rw [nn] at e;cases e
   ·rw [nn] at eO;cases eO
  have u1:Un (bt X.stack) [e,it] H H s.heap h':=
   ⟨fun b o e n _ hx=>keep b o hx e,fun b o e n _ hx=>⟨o.slots,keep b o hx e⟩,fun b o e n hx=>n,fun b o e hx=>⟨o,keep b o hx e⟩,fun b xs e=>e,fun b o u e=>e,fun b ps e=>⟨#[],by rw [e];simp⟩⟩
  refine I.iJ (s':={s with heap:=h'}) (ch:=[e,it]) rfl u1 ar I.bare fun b hb=>?_
  obtain ⟨f0,f1,f2,f3,f4,f5⟩:=hf b hb
  exact ⟨f3,f1,f4,f5⟩
 self:=fun _ _ _ _ _ st h=>by
  obtain ⟨⟨old,he⟩,_⟩:=st
  exact wpAny_pyIter_enum he h
theorem boot_enumerate:bootBuiltins "enumerate" = some (.type "enumerate"):=by decide +kernel
def Dp(K:PySem.W.Frag)(ta:TA):TI:=fun σ H R=>ta σ H fun vs H1=>∃l,vs=[.ref l]∧(∃xs,aS K H1 l xs)∧R (mM K l) H1
section
variable {X:Cx}
theorem xj{elts:List Expr}{k:Nat}{oj:Pos}{a:Expr}{ta:TA}{p pos:Pos}(hg:Gl X "enumerate")(hm:X.mg "enumerate" = none)(ha:PA X [a] ta)(hs:starEach [a] X.env=[(false,eval a X.env)]:=by rfl) :
  PI X (.Tuple elts k oj) (.Call (.Name "enumerate" p) [a] [] pos) (Dp X.K ta):=by
 intro pins s σ H R I h
 refine Call_ (jJ I hg hm boot_enumerate (PyProof.Rows.callWith_type1 (aw (ha pos pins s σ H _ I h) fun us s1 ⟨vs,H1,I1,r1,q1⟩=>?_) hs rfl))
 obtain ⟨l,e,⟨xs,jY⟩,q⟩:=q1
 subst e
 obtain ⟨u,rfl,ru⟩:=vals1 r1
 cases ru
 obtain ⟨aa,rv,p1,_⟩:=I1.list jY
 refine call_enumerate_list p1.isList fun h' z1 z2 z3 z4=>?_
 refine wpAny_pyIter_enum (s:={s1 with heap:=h'}) z1 ?_
 refine ⟨_,_,_,_,H1,rfl,I1.kept (t':=s1.toks) z4,Dn (Nat.succ_ne_self _),⟨⟨_,z1⟩,z2⟩,fun b hb=>?_,q⟩
 have le:s1.heap.objs.size≤b:=by
  simp only [List.mem_cons,List.not_mem_nil,or_false] at hb
  rcases hb with rfl | rfl
  ·exact Nat.le_add_right ..
  ·exact Nat.le_refl _
 exact I1.l7 le (I1.ar.fresh le)
end
theorem xk{K:PySem.W.Frag}{l:Addr}{xs:List V}{g:TG}{tb:TS}{D:Ends}{σ:St}{H:Hp}(Pv:Nat→St→Hp→Prop)(h0:Pv 0 σ H)(hl:∀i σ H,Pv i σ H→aS K H l xs)
  (hs:∀(i:Nat) (x:V) σ H T,xs[i]?=some x→Pv i σ H→H T=none→g (.ref T) σ (upd H T (.tup [.int (i:Int),x])) fun σ2 H2=>tb {D with nx:=Pv (i+1),ct:=Pv (i+1),bk:=D.nx} σ2 H2) (hd:∀σ H,Pv xs.length σ H→D.nx σ H) :
  ∃W:Nat→Nat→St→Hp→Prop,(∃m,W 0 m σ H)∧∀i m σ H,W i m σ H→
   ((mM K l).stop i H∧D.nx σ H)∨((mM K l).go i H∧∃N:St→Hp→Prop,(∀σ' H',N σ' H'→∃m',m'<m∧W (i+1) m' σ' H')∧∀x H',(mM K l).cQ i H x H'→g x σ H' fun σ2 H2=>tb {D with nx:=N,ct:=N,bk:=D.nx} σ2 H2):=by
 refine ⟨fun i m σ H=>m=xs.length-i∧i≤xs.length∧Pv i σ H,⟨xs.length,by simp,Nat.zero_le _,h0⟩,?_⟩
 rintro i m σ H ⟨rfl,hi,p⟩
 have q1:=hl i σ H p
 by_cases a8:i<xs.length
 ·refine .inr ⟨⟨xs,xs[i],q1,by simp [a8]⟩,Pv (i+1),fun σ' H' p'=>⟨xs.length-(i+1),by omega,rfl,a8,p'⟩,fun v H' hy=>?_⟩
  obtain ⟨T,x,nT,rfl,rfl,hx⟩:=hy
  exact hs i x σ H T (hx xs q1) p nT
 ·have e:i=xs.length:=by omega
  subst e
  exact .inl ⟨⟨xs,q1,Nat.le_refl _⟩,hd σ H p⟩
end L2
namespace My
open PySem L2
end My
namespace L2
open PySem PySem.Spec PyProof.Rows
section
variable {X:Cx} {tg:Expr}
end
theorem xl(aa:List Value):∀(L:List Nat),(∀x∈L,x<aa.length)→L.filterMap (fun x=>aa.toArray[x]?)=L.map fun x=>aa.getD x .none
 | [],_=>rfl
 | x::L,h=>by
  have hx:=h x List.mem_cons_self
  rw [List.filterMap_cons_some (b:=aa.getD x .none),List.map_cons,xl aa L fun y hy=>h y (List.mem_cons_of_mem _ hy)]
  rw [List.getD_eq_getElem?_getD,show aa[x]?=some aa[x] by simp [hx]]
  simp [hx]
theorem Dq(aa:List Value):slicePick aa.toArray none none (some (-1))=aa.reverse.toArray:=by
 unfold slicePick
 have e:sliceRange (sliceBounds none none (some (-1)) aa.toArray.size).fst (sliceBounds none none (some (-1)) aa.toArray.size).snd.fst (sliceBounds none none (some (-1)) aa.toArray.size).snd.snd=(List.range aa.length).map fun k=>aa.length-1-k:=by
  simp only [sliceBounds,Option.getD_some,show ¬((-1:Int)>0) by decide,if_false,List.size_toArray]
  unfold sliceRange
  simp only [show ¬((-1:Int)>0) by decide,if_false]
  have c:(if (aa.length:Int)-1 > -1 then ((aa.length:Int)-1 - -1 - -1-1) / - -1 else 0).toNat=aa.length:=by
   split
   ·rw [show (- -1:Int)=1 from rfl,Int.ediv_one]
    omega
   ·omega
  rw [c]
  refine List.map_congr_left fun k hk=>?_
  omega
 rw [e,xl aa _ fun x hx=>?_]
 ·congr 1
  rw [List.map_map]
  refine List.ext_getElem (by simp) fun k h1 h2=>?_
  rw [List.getElem_map,List.getElem_range,List.getElem_reverse]
  have hk:aa.length-1-k<aa.length:=by simp at h2;omega
  show aa.getD (aa.length-1-k) .none=_
  rw [List.getD_eq_getElem?_getD,show aa[aa.length-1-k]?=some aa[aa.length-1-k] by simp [hk]]
  rfl
 ·obtain ⟨k,hk,rfl⟩:=List.mem_map.mp hx
  have:=List.mem_range.mp hk
  omega
theorem Vals.rev{xs:List V}{us:List Value}(h:Vals xs us):Vals xs.reverse us.reverse:=by
 have hl:=h.length
 refine rS (by simp [hl]) fun i x u h1 h2=>?_
 have hi:i<xs.length:=by simpa using (List.getElem?_eq_some_iff.mp h1).1
 rw [List.getElem?_reverse hi] at h1
 rw [List.getElem?_reverse (by omega),←hl] at h2
 obtain ⟨u',e,r⟩:=h.get h1
 rw [h2] at e
 cases e
 exact r
section
variable {X:Cx} {e:Expr} {te:TE} {pos p2:Pos}
def Dr(K:PySem.W.Frag)(te ts:TE):TE:=fun σ H Q=>te σ H fun x H1=>ts σ H1 fun y H2=>y=.int (-1)∧∃a xs,x=.ref a∧aS K H2 a xs∧∀p,H2 p=none→Q (.ref p) (upd H2 p (.lst xs.reverse))
theorem Ds{st:Expr}{ts:TE}(he:PE X e te)(qZ:PE X st ts):PE X (.Subscript e (.Slice none none (some st) p2) pos) (Dr X.K te ts):=by
 intro pins s σ H Q I h
 refine Subscript_ (aw (he pins s σ H _ I h) fun v s1 ⟨x,H1,I1,r1,q1⟩=>?_)
 refine wpAny_Slice ?_
 rw [evalPart_none]
 refine wpAny_pure ?_
 refine wpAny_pure ?_
 rw [evalPart_some]
 refine aw (qZ pins s1 σ H1 _ I1 q1) fun u s3 ⟨y,H3,I3,r3,q3⟩=>?_
 obtain ⟨rfl,a,xs,rfl,hx,q⟩:=q3
 obtain ⟨t,rfl⟩:=r3
 cases r1
 have I4:Inv X pins σ H3 {s3 with heap:=s3.heap.push {cls:=.type "slice",data:=.fields #[.none,.none,.int (-1) t]}}:=I3.kept (t':=s3.toks) fun b ob q=>Heap.get?_push_of_some _ q
 obtain ⟨aa,r,ht,hz⟩:=I4.list hx
 have hlen:=r.length
 show wpAny (model X.prog X.w) X.A (subscriptTail e (.Slice none none (some st) p2) (.ref a) (.ref s3.heap.objs.size)) (EP X pins σ Q) X.xe {s3 with heap:=s3.heap.push {cls:=.type "slice",data:=.fields #[.none,.none,.int (-1) t]}}
 refine tail_any (ops:=[.ref a,.ref s3.heap.objs.size]) ht.isList.typeIs slot_list_getitem.lookup ?_ (by with_unfolding_all rfl)
 refine wpAny_getItem_list_slice ht.isList (Heap.IsSliceOf.new ..) .none .none (.int (-1) t) (by simp) ?_ (by rw [List.size_toArray] <;> omega)
 rw [Dq]
 refine ⟨.ref (s3.heap.push {cls:=.type "slice",data:=.fields #[.none,.none,.int (-1) t]}).objs.size,_,I4.laid (t':=s3.toks) (o:=.lst xs.reverse) (fun b ob q=>Heap.get?_push_of_some _ q) (Nat.le_refl _) ?_,rfl,q _ (I4.ar.fresh (Nat.le_refl _))⟩
 exact ⟨by rw [List.length_reverse];exact hz,_,0,r.rev,Heap.get?_push_size _ rfl⟩
end
end L2
namespace My
open PySem L2
theorem r_{wi:TI}{ρ:St→St}{te:TE}{σ:St}{H:Hp}{Q:VK}{xs:List V}{n:Nat}(hl:xs.length=n)(fu:∀R:It→Hp→Prop,(∀J H1,ae H H1→gp J xs H1→R J H1)→wi σ H R)(hn:n<sizeLine)
  (P:Addr→Nat→Addr→Hp→Prop) (mono:∀D i y H H' ys,P D i y H→y≠D→H D=some (.lst ys)→(∀b o,b≠D→H b=some o→H' b=some o)→P D i y H')
  (step:∀D (i:Nat) (x:V),xs[i]?=some x→∀(Hc:Hp) (R:VK),ae H Hc→(∃ys,Hc D=some (.lst ys))→(∀y H3,ae Hc H3→Hc y=none→(∃o,H3 y=some o)→P D i y H3→R (.ref y) H3)→te (some x::ρ σ) Hc R)
  (fin:∀D (A:Nat→Addr) Hc,H D=none→ae H Hc→(∀i j,i<n→j<n→A i=A j→i=j)→(∀i,i<n→P D i (A i) Hc∧A i≠D)→Hc D=some (.lst ((List.range n).map fun i=>V.ref (A i)))→Q (.ref D) Hc):dP wi ρ (fun _ H Q=>Q true H) te σ H Q:=by
 refine fu _ fun J H1 s1 js=>?_
 intro D nD
 have hD:H D=none:=by
  cases e:H D with
  | none=>rfl
  | some o=>rw [s1 _ _ e] at nD;cases nD
 refine ⟨fun i m ys Hc=>m=n-i∧i≤n∧Hc D=some (.lst ys)∧ae H1 Hc∧∃A:Nat→Addr,ys=(List.range i).map (fun j=>V.ref (A j))∧(∀a b,a<i→b<i→A a=A b→a=b)∧∀j,j<i→P D j (A j) Hc∧A j≠D∧∃o,Hc (A j)=some o,⟨_,rfl,Nat.zero_le _,aq,dA (ae.refl H1) nD,fun _=>D,rfl,(fun a b h=>by omega),fun j h=>by omega⟩,?_⟩
 rintro i m ys Hc ⟨rfl,hi,eD,sH,A,rfl,inj,hA⟩
 refine ⟨eD,?_⟩
 by_cases a8:i<n
 ·refine .inr ⟨js.go i Hc sH (by omega),fun x H' hy=>?_⟩
  obtain ⟨rfl,hx⟩:=js.cQ i Hc x H' sH hy
  rw [if_pos rfl]
  refine step D i x (hx (by omega)) _ _ (s1.trans sH) ⟨_,eD⟩ fun y H3 s3 ny ⟨o,ho⟩ hp=>?_
  have e3:=s3 _ _ eD
  have yD:y≠D:=fun e=>by rw [e,eD] at ny;cases ny
  have aZ:∀b o,b≠D→H3 b=some o→upd H3 D (.lst ((List.range i).map (fun j=>V.ref (A j))++[.ref y])) b=some o:=fun b o nb e=>by rw [aA nb];exact e
  have nA:∀j,j<i→A j≠y:=fun j hj e=>by
   obtain ⟨_,_,o',h'⟩:=hA j hj
   rw [e,ny] at h'
   cases h'
  refine ⟨e3,by simp;omega,n-(i+1),by omega,rfl,a8,aq,dA (sH.trans s3) nD,fun j=>if j=i then y else A j,?_,fun a b ha hb e=>?_,fun j hj=>?_⟩
  ·rw [List.range_succ,List.map_append]
   congr 1
   ·refine List.map_congr_left fun j hj=>?_
    dsimp only
    rw [if_neg (by have:=List.mem_range.mp hj;omega)]
   ·simp
  ·dsimp only at e
   by_cases z1:a=i
   ·by_cases z2:b=i
    ·omega
    ·rw [if_pos z1,if_neg z2] at e
     exact absurd e.symm (nA b (by omega))
   ·by_cases z2:b=i
    ·rw [if_neg z1,if_pos z2] at e
     exact absurd e (nA a (by omega))
    ·rw [if_neg z1,if_neg z2] at e
     exact inj a b (by omega) (by omega) e
  ·dsimp only
   by_cases z:j=i
   ·rw [if_pos z,z]
    exact ⟨mono D i y H3 _ _ hp yD e3 aZ,yD,o,aZ _ _ yD ho⟩
   ·rw [if_neg z]
    obtain ⟨h1,h2,o',h3⟩:=hA j (by omega)
    exact ⟨mono D j (A j) H' _ _ h1 h2 eD (fun b o nb e=>aZ b o nb (s3 _ _ e)),h2,o',aZ _ _ h2 (s3 _ _ h3)⟩
 ·have e:i=n:=by omega
  subst e
  exact .inl ⟨js.stop _ Hc sH (by omega),fin D A Hc hD (s1.trans sH) inj (fun j hj=>⟨(hA j hj).1,(hA j hj).2.1⟩) eD⟩
end My
namespace L2
open PySem PySem.Spec PyProof.Rows
theorem Dt{xs ys:List Int}(h:xs.length=ys.length):((List.range xs.length).all fun j=>cp (.int (xs.getD j 0)) (.int (ys.getD j 0)))=decide (xs=ys):=by
 by_cases e:xs=ys
 ·subst e
  rw [decide_eq_true rfl,List.all_eq_true]
  intro j _
  exact oU rfl
 ·rw [decide_eq_false e]
  cases z:((List.range xs.length).all fun j=>cp (.int (xs.getD j 0)) (.int (ys.getD j 0))) with
  | false=>rfl
  | true=>
   refine absurd (List.ext_getElem h fun j h1 h2=>?_) e
   have:=List.all_eq_true.mp z j (List.mem_range.mpr h1)
   have this:(xs.getD j 0 == ys.getD j 0)=true:=this
   rw [beq_iff_eq,List.getD_eq_getElem?_getD,List.getD_eq_getElem?_getD] at this
   simpa [h1,h2] using this
end L2
namespace My
open PySem L2
end My
namespace L2
open PySem PySem.Spec PyProof.Rows
end L2
namespace My
open PySem L2
end My
namespace L2
open PySem PySem.Spec PyProof.Rows
section
variable {X:Cx}
end
end L2
namespace My
open PySem L2
end My
namespace L2
open PySem PySem.Spec PyProof.Rows
end L2
namespace My
open PySem L2
end My
namespace L2
open PySem PySem.Spec PyProof.Rows
section
variable {X:Cx} {N:List Str} {scope:Scope} {cl:List (Str×Addr)} {x y:Str} {px py pos tp:Pos} {C2:Nat} {iter elt:Expr} {ifs:List Expr} {wi:TI} {ρ:St→St} {tt:TT} {te:TE}
end
section
variable {X:Cx} {pins:List (Addr×Obj)} {σ:St} {H:Hp} {s:Shared}
end
end L2
namespace My
open PySem PySem.W PyProof.Rows
section
variable {n:Nat} {c:Nat→Int}
def fU(n:Nat)(p:Array Nat):Prop:=p.Perm (List.toArray (List.range n))
theorem fU.size{p:Array Nat}(h:fU n p):p.size=n:=by
 rw [Array.Perm.size_eq h]
 simp
def vN(c:Nat→Int)(p:Array Nat)(i:Nat):Int:=c (p.getD i 0)
def hE(c:Nat→Int)(p:Array Nat)(k:Nat):Prop:=∀a b,a≤b→b<k→vN c p a≤vN c p b
end
end My
namespace Tm
open PySem PySem.W PyProof.Rows
def hG:Bool→Keyed→Array Keyed→Nat→Nat→Nat→StateT SortSt Sem (Option Nat):=sortPriv% PySem.Builtin.gallop
def mP:Nat→StateT SortSt Sem Unit:=sortPriv% PySem.Builtin.setMinGallop
def si:Array Keyed→Array Keyed→StateT SortSt Sem (Array Keyed):=sortPriv% PySem.Builtin.mergeLo
def sj:Array Keyed→Array Keyed→StateT SortSt Sem (Array Keyed):=sortPriv% PySem.Builtin.mergeHi
def i6(left:Bool)(key:Keyed)(arr:Array Keyed)(base i:Nat):StateT SortSt Sem (Option Bool):=do
 let x ←elem' arr (base+i)
 if left then lt' x key else return (←lt' key x).map (!·)
theorem Du(left:Bool)(key:Keyed)(arr:Array Keyed)(base n hint:Nat):hG left key arr base n hint=(do
 let mut oZ:=0
 let mut aO:=1
 let mut lo:=0
 let mut hi:=0
 let some right ←i6 left key arr base hint | return none
 if right then
  let mQ:=n-hint
  for _ in [0:n] do
   if aO≥mQ then break
   let some more ←i6 left key arr base (hint+aO) | return none
   if !more then break
   oZ:=aO
   aO:=2*aO+1
  lo:=hint+oZ+1
  hi:=hint+min aO mQ
 else
  let mQ:=hint+1
  for _ in [0:n] do
   if aO≥mQ then break
   let some found ←i6 left key arr base (hint-aO) | return none
   if found then break
   oZ:=aO
   aO:=2*aO+1
  lo:=hint+1-min aO mQ
  hi:=hint-oZ
 for _ in [0:n] do
  if lo≥hi then break
  let m:=lo+(hi-lo) / 2
  let some more ←i6 left key arr base m | return none
  if more then lo:=m+1 else hi:=m
 return some hi):=rfl
section
variable {prog:Program} {w:World} {A:Around} {E:Value→Shared→Prop} {s:Shared} {κ:SortKind} {key:Keyed→Int} {Ok:Keyed→Prop}
def eR(prog:Program)(w:World)(A:Around)(s:Shared)(κ:SortKind)(key:Keyed→Int)(Ok:Keyed→Prop):Prop:=
 ∀x y,Ok x→Ok y→∀C:Bool→Shared→Prop,C (decide (key x<key y)) s→wpAny (model prog w) A (keyLt' κ x.1 y.1) C (fun _ _=>False) s
theorem mR(h:eR prog w A s κ key Ok){x y:Keyed}(ox:Ok x)(oy:Ok y){st:SortSt}(hk:kindOf st=κ){Q:Option Bool→SortSt→Prop}(q:Q (some (decide (key x<key y))) st):wpS (model prog w) A E s (lt' x y) Q st:=by
 rw [lt'_eq]
 refine wpS_bind (wpS_get ?_)
 rw [hk]
 refine wpS_bind (wpS_lift (wpAny_attempt (wpAny_mono (h x y ox oy (fun c s'=>s'=s∧wpS (model prog w) A E s (pure (some c)) Q st) ⟨rfl,wpS_pure q⟩) (fun c s' hc=>?_) fun _ _ hF=>hF.elim)))
 exact hc
def nn:Keyed:=(Value.none,Value.none)
theorem aQ{arr:Array Keyed}{i:Nat}(hi:i<arr.size){st:SortSt}{Q:Keyed→SortSt→Prop}(q:Q (arr.getD i nn) st):wpS (model prog w) A E s (elem' arr i) Q st:=by
 rw [elem'_eq]
 have e:arr[i]?=some (arr.getD i nn):=by simp [Array.getD,hi]
 rw [e]
 exact wpS_pure q
def cH(Ok:Keyed→Prop)(arr:Array Keyed):Prop:=∀i,i<arr.size→Ok (arr.getD i nn)
def bB(left:Bool)(k a:Int):Bool:=if left=true then decide (a<k) else !decide (k<a)
theorem dR(h:eR prog w A s κ key Ok){left:Bool}{kx:Keyed}{arr:Array Keyed}{base i:Nat}(hi:base+i<arr.size)(ha:cH Ok arr)(ox:Ok kx){st:SortSt}(hk:kindOf st=κ){Q:Option Bool→SortSt→Prop}(q:Q (some (bB left (key kx) (key (arr.getD (base+i) nn)))) st):wpS (model prog w) A E s (i6 left kx arr base i) Q st:=by
 unfold i6
 refine wpS_bind (aQ hi ?_)
 unfold bB at q
 cases left with
 | true=>
  rw [if_pos rfl] at q ⊢
  exact mR h (ha _ hi) ox hk q
 | false=>
  rw [if_neg (by simp)] at q ⊢
  exact wpS_bind (mR h ox (ha _ hi) hk (wpS_pure q))
theorem dS{left:Bool}{kx:Keyed}{arr:Array Keyed}{base n hint:Nat}{f:Nat→Bool}{st:SortSt}
  (hb:∀i,i<n→∀Q:Option Bool→SortSt→Prop,Q (some (f i)) st→wpS (model prog w) A E s (i6 left kx arr base i) Q st)
  (hh:hint<n) (mono:∀i j,i≤j→j<n→f j=true→f i=true) {Q:Option Nat→SortSt→Prop}
  (k:∀m,m≤n→(∀i,i<m→f i=true)→(∀i,m≤i→i<n→f i=false)→Q (some m) st):wpS (model prog w) A E s (hG left kx arr base n hint) Q st:=by
 rw [Du]
 refine wpS_bind (hb hint hh _ ?_)
 dsimp only
 have sk:∀i j,i≤j→j<n→f i=false→f j=false:=fun i j h1 h2 h3=>by
  cases e:f j with
  | false=>rfl
  | true=>rw [mono i j h1 h2 e] at h3;cases h3
 have bs:∀(lo hi:Nat) (body:Nat→Option (Option Nat)×Nat×Nat→StateT SortSt Sem (ForInStep (Option (Option Nat)×Nat×Nat))) (R:Option (Option Nat)×Nat×Nat→SortSt→Prop),lo≤hi→hi≤n→(∀i,i<lo→f i=true)→(∀i,hi≤i→i<n→f i=false)→
   (∀x lo hi (R:ForInStep (Option (Option Nat)×Nat×Nat)→SortSt→Prop),lo≥hi→R (.done (none,lo,hi)) st→wpS (model prog w) A E s (body x (none,lo,hi)) R st)→
   (∀x lo hi (R:ForInStep (Option (Option Nat)×Nat×Nat)→SortSt→Prop),lo<hi→hi≤n→R (.yield (if f (lo+(hi-lo) / 2)=true then (none,lo+(hi-lo) / 2+1,hi) else (none,lo,lo+(hi-lo) / 2))) st→wpS (model prog w) A E s (body x (none,lo,hi)) R st)→
   (∀m,m≤n→(∀i,i<m→f i=true)→(∀i,m≤i→i<n→f i=false)→R (none,m,m) st)→
   wpS (model prog w) A E s (forIn [0:n] (none,lo,hi) body) R st:=fun lo hi body R h1 h2 h3 h4 b1 b2 kk=>by
  refine wpS_forRange (I:=fun x c ak=>ak=st∧∃lo hi,c=(none,lo,hi)∧lo≤hi∧hi≤n∧hi-lo+x≤n∧(∀i,i<lo→f i=true)∧(∀i,hi≤i→i<n→f i=false)) ?_ ?_ ⟨rfl,lo,hi,rfl,h1,h2,by omega,h3,h4⟩
  ·rintro x c ak _ hx ⟨rfl,lo,hi,rfl,g1,g2,g3,g4,g5⟩
   by_cases z:lo≥hi
   ·refine b1 x lo hi _ z ?_
    obtain rfl:lo=hi:=by omega
    exact kk lo g2 g4 g5
   ·refine b2 x lo hi _ (by omega) g2 ?_
    cases e:f (lo+(hi-lo) / 2) with
    | true=>
     rw [if_pos rfl]
     exact ⟨rfl,_,_,rfl,by omega,g2,by omega,fun i aR=>mono i (lo+(hi-lo) / 2) (by omega) (by omega) e,g5⟩
    | false=>
     rw [if_neg (by simp)]
     exact ⟨rfl,_,_,rfl,by omega,by omega,by omega,g4,fun i h1 h2=>sk (lo+(hi-lo) / 2) i h1 h2 e⟩
  ·rintro c ak ⟨rfl,lo,hi,rfl,g1,g2,g3,g4,g5⟩
   have:lo=hi:=by
    have:max 0 n=n:=by omega
    omega
   subst this
   exact kk lo g2 g4 g5
 cases e:f hint with
 | true=>
  rw [if_pos rfl]
  refine wpS_bind (wpS_mono (wpS_forRange (I:=fun x c ak=>ak=st∧∃la aO,c=(none,la,aO)∧x+1≤aO∧la<aO∧la<n-hint∧f (hint+la)=true)
   (Q:=fun c ak=>ak=st∧∃la aO,c=(none,la,aO)∧la<aO∧la<n-hint∧f (hint+la)=true∧(aO≥n-hint∨f (hint+aO)=false)) ?_ ?_ ⟨rfl,0,1,rfl,Nat.le_refl _,by omega,by omega,by simpa using e⟩) ?_)
  ·rintro x c ak _ hx ⟨rfl,la,aO,rfl,g1,g2,g3,g4⟩
   dsimp only
   by_cases z:aO≥n-hint
   ·rw [if_pos z]
    exact wpS_pure ⟨rfl,la,aO,rfl,g2,g3,g4,.inl z⟩
   ·rw [if_neg z]
    refine wpS_bind (hb _ (by omega) _ ?_)
    dsimp only
    cases e':f (hint+aO) with
    | true=>
     rw [if_neg (by simp)]
     exact wpS_pure ⟨rfl,_,_,rfl,by omega,by omega,by omega,e'⟩
    | false=>
     rw [if_pos (by simp)]
     exact wpS_pure ⟨rfl,la,aO,rfl,g2,g3,g4,.inr e'⟩
  ·rintro c ak ⟨rfl,la,aO,rfl,g1,g2,g3,g4⟩
   have:max 0 n=n:=by omega
   exact ⟨rfl,la,aO,rfl,g2,g3,g4,.inl (by omega)⟩
  ·rintro c ak ⟨rfl,la,aO,rfl,g2,g3,g4,g5⟩
   refine wpS_bind (bs (hint+la+1) (hint+min aO (n-hint)) _ _ (by omega) (by omega) (fun i hi=>mono i (hint+la) (by omega) (by omega) g4) (fun i h1 h2=>?_) ?_ ?_ ?_)
   ·rcases g5 with g5 | g5
    ·omega
    ·by_cases z:aO≥n-hint
     ·omega
     ·exact sk (hint+aO) i (by omega) h2 g5
   ·intro x lo hi R z hR
    dsimp only
    rw [if_pos z]
    exact wpS_pure hR
   ·intro x lo hi R z z2 hR
    dsimp only
    rw [if_neg (by omega)]
    refine wpS_bind (hb _ (by omega) _ ?_)
    dsimp only
    cases e:f (lo+(hi-lo) / 2) with
    | true=>
     rw [e,if_pos rfl] at hR
     rw [if_pos rfl]
     exact wpS_pure hR
    | false=>
     rw [e,if_neg (by simp)] at hR
     rw [if_neg (by simp)]
     exact wpS_pure hR
   ·exact fun m m1 m2 m3=>wpS_pure (k m m1 m2 m3)
 | false=>
  rw [if_neg (by simp)]
  refine wpS_bind (wpS_mono (wpS_forRange (I:=fun x c ak=>ak=st∧∃la aO,c=(none,la,aO)∧x+1≤aO∧la<aO∧la≤hint∧f (hint-la)=false)
   (Q:=fun c ak=>ak=st∧∃la aO,c=(none,la,aO)∧la<aO∧la≤hint∧f (hint-la)=false∧(aO≥hint+1∨f (hint-aO)=true)) ?_ ?_ ⟨rfl,0,1,rfl,Nat.le_refl _,by omega,by omega,by simpa using e⟩) ?_)
  ·rintro x c ak _ hx ⟨rfl,la,aO,rfl,g1,g2,g3,g4⟩
   dsimp only
   by_cases z:aO≥hint+1
   ·rw [if_pos z]
    exact wpS_pure ⟨rfl,la,aO,rfl,g2,g3,g4,.inl z⟩
   ·rw [if_neg z]
    refine wpS_bind (hb _ (by omega) _ ?_)
    dsimp only
    cases e':f (hint-aO) with
    | true=>
     rw [if_pos rfl]
     exact wpS_pure ⟨rfl,la,aO,rfl,g2,g3,g4,.inr e'⟩
    | false=>
     rw [if_neg (by simp)]
     exact wpS_pure ⟨rfl,_,_,rfl,by omega,by omega,by omega,e'⟩
  ·rintro c ak ⟨rfl,la,aO,rfl,g1,g2,g3,g4⟩
   have:max 0 n=n:=by omega
   exact ⟨rfl,la,aO,rfl,g2,g3,g4,.inl (by omega)⟩
  ·rintro c ak ⟨rfl,la,aO,rfl,g2,g3,g4,g5⟩
   refine wpS_bind (bs (hint+1-min aO (hint+1)) (hint-la) _ _ (by omega) (by omega) (fun i hi=>?_) (fun i h1 h2=>sk (hint-la) i (by omega) h2 g4) ?_ ?_ ?_)
   ·rcases g5 with g5 | g5
    ·omega
    ·by_cases z:aO≥hint+1
     ·omega
     ·exact mono i (hint-aO) (by omega) (by omega) g5
   ·intro x lo hi R z hR
    dsimp only
    rw [if_pos z]
    exact wpS_pure hR
   ·intro x lo hi R z z2 hR
    dsimp only
    rw [if_neg (by omega)]
    refine wpS_bind (hb _ (by omega) _ ?_)
    dsimp only
    cases e:f (lo+(hi-lo) / 2) with
    | true=>
     rw [e,if_pos rfl] at hR
     rw [if_pos rfl]
     exact wpS_pure hR
    | false=>
     rw [e,if_neg (by simp)] at hR
     rw [if_neg (by simp)]
     exact wpS_pure hR
   ·exact fun m m1 m2 m3=>wpS_pure (k m m1 m2 m3)
end
def aJ(K:Keyed→Int)(l:List Keyed):Prop:=l.Pairwise fun x y=>K x≤K y
theorem aJ.take{K:Keyed→Int}{l:List Keyed}(h:aJ K l)(k:Nat):aJ K (l.take k):=List.Pairwise.sublist (List.take_sublist k l) h
theorem aJ.drop{K:Keyed→Int}{l:List Keyed}(h:aJ K l)(k:Nat):aJ K (l.drop k):=List.Pairwise.sublist (List.drop_sublist k l) h
theorem aJ.app{K:Keyed→Int}{l m:List Keyed}(h:aJ K l)(h':aJ K m)(k:∀x∈l,∀y∈m,K x≤K y):aJ K (l++m):=List.pairwise_append.mpr ⟨h,h',k⟩
structure MI (K:Keyed→Int) (A B O:List Keyed) (i j:Nat):Prop where
 pm:O.Perm (A.take i++B.take j)
 so:aJ K O
 ca:∀x∈O,∀y∈A.drop i,K x≤K y
 cb:∀x∈O,∀y∈B.drop j,K x≤K y
theorem MI.flip{K:Keyed→Int}{A B O:List Keyed}{i j:Nat}(h:MI K A B O i j):MI K B A O j i:=⟨h.pm.trans List.perm_append_comm,h.so,h.cb,h.ca⟩
theorem MI.o6{K:Keyed→Int}{A B O:List Keyed}{i j:Nat}(h:MI K A B O i j)(sA:aJ K A)(k:Nat)(hk:∀x∈(A.drop i).take k,∀y∈B.drop j,K x≤K y):MI K A B (O++(A.drop i).take k) (i+k) j:=by
 have e:A.take (i+k)=A.take i++(A.drop i).take k:=List.take_add
 have d:A.drop (i+k)=(A.drop i).drop k:=by rw [List.drop_drop]
 have sd:=sA.drop i
 have sp:(A.drop i).take k++(A.drop i).drop k=A.drop i:=List.take_append_drop ..
 have cr:∀x∈(A.drop i).take k,∀y∈(A.drop i).drop k,K x≤K y:=by
  have:=sd
  rw [←sp] at this
  exact (List.pairwise_append.mp this).2.2
 refine ⟨?_,h.so.app (sd.take k) fun x hx y hy=>h.ca x hx y (List.mem_of_mem_take hy),fun x hx y hy=>?_,fun x hx y hy=>?_⟩
 ·rw [e]
  refine (h.pm.append_right _).trans ?_
  rw [List.append_assoc,List.append_assoc]
  exact List.Perm.append_left _ List.perm_append_comm
 ·rw [d] at hy
  rcases List.mem_append.mp hx with hx | hx
  ·exact h.ca x hx y (List.mem_of_mem_drop hy)
  ·exact cr x hx y hy
 ·rcases List.mem_append.mp hx with hx | hx
  ·exact h.cb x hx y hy
  ·exact hk x hx y hy
theorem MI.sq{K:Keyed→Int}{A B O:List Keyed}{i j:Nat}(h:MI K A B O i j)(sB:aJ K B)(k:Nat)(hk:∀x∈(B.drop j).take k,∀y∈A.drop i,K x≤K y):MI K A B (O++(B.drop j).take k) i (j+k):=(h.flip.o6 sB k hk).flip
theorem MI.done{K:Keyed→Int}{A B O:List Keyed}{i j:Nat}(h:MI K A B O i j)(sA:aJ K A)(sB:aJ K B)(k:∀x∈A.drop i,∀y∈B.drop j,K x≤K y):(O++A.drop i++B.drop j).Perm (A++B)∧aJ K (O++A.drop i++B.drop j):=by
 refine ⟨?_,(h.so.app (sA.drop i) h.ca).app (sB.drop j) fun x hx y hy=>?_⟩
 ·have e1:A.take i++A.drop i=A:=List.take_append_drop ..
  have e2:B.take j++B.drop j=B:=List.take_append_drop ..
  have:(A.take i++B.take j++A.drop i++B.drop j).Perm ((A.take i++A.drop i)++(B.take j++B.drop j)):=by
   rw [List.append_assoc,List.append_assoc,List.append_assoc]
   refine List.Perm.append_left _ ?_
   rw [←List.append_assoc,←List.append_assoc]
   exact List.Perm.append_right _ List.perm_append_comm
  rw [e1,e2] at this
  exact ((h.pm.append_right _).append_right _).trans this
 ·rcases List.mem_append.mp hx with hx | hx
  ·exact h.cb x hx y hy
  ·exact k x hx y hy
theorem MI.xm{K:Keyed→Int}{A B O:List Keyed}{i j:Nat}(h:MI K A B O i j)(sA:aJ K A)(sB:aJ K B)(k:∀x∈A.drop i,∀y∈B.drop j,K y≤K x):(O++B.drop j++A.drop i).Perm (A++B)∧aJ K (O++B.drop j++A.drop i):=by
 have:=h.flip.done sB sA fun x hx y hy=>k y hy x hx
 exact ⟨this.1.trans List.perm_append_comm,this.2⟩
theorem Dv(a b:Array Keyed):si a b=(do
 rule "list.sort.merge-lo"
 let total:=a.size+b.size
 let done (out:Array Keyed) (ia ib:Nat):=out++a.extract ia a.size++b.extract ib b.size
 let o7 (out:Array Keyed) (ia ib:Nat):=out++b.extract ib b.size++a.extract ia a.size
 let mut out:Array Keyed:=#[←elem' b 0]
 let mut ia:=0
 let mut ib:=1
 if ib == b.size then return done out ia ib
 if ia+1 == a.size then return o7 out ia ib
 let mut minGallop:=gallopOf (←get)
 for _ in [0:total] do
  let mut en:=0
  let mut eA:=0
  for _ in [0:total] do
   let some Dw ←lt' (←elem' b ib) (←elem' a ia) | return done out ia ib
   if Dw then
    out:=out.push (←elem' b ib);ib:=ib+1;eA:=eA+1;en:=0
    if ib == b.size then return done out ia ib
    if eA≥minGallop then break
   else
    out:=out.push (←elem' a ia);ia:=ia+1;en:=en+1;eA:=0
    if ia+1 == a.size then return o7 out ia ib
    if en≥minGallop then break
  rule "list.sort.gallop"
  minGallop:=minGallop+1
  for _ in [0:total] do
   if minGallop>1 then minGallop:=minGallop-1
   mP minGallop
   let some k ←hG false (←elem' b ib) a ia (a.size-ia) 0 | return done out ia ib
   en:=k
   if k>0 then
    out:=out++a.extract ia (ia+k);ia:=ia+k
    if ia+1 == a.size then return o7 out ia ib
    if ia == a.size then return done out ia ib
   out:=out.push (←elem' b ib);ib:=ib+1
   if ib == b.size then return done out ia ib
   let some k ←hG true (←elem' a ia) b ib (b.size-ib) 0 | return done out ia ib
   eA:=k
   if k>0 then
    out:=out++b.extract ib (ib+k);ib:=ib+k
    if ib == b.size then return done out ia ib
   out:=out.push (←elem' a ia);ia:=ia+1
   if ia+1 == a.size then return o7 out ia ib
   if en<7 && eA<7 then break
  minGallop:=minGallop+1
  mP minGallop
 unsupported "internal:list.sort.merge-bound"):=rfl
section
variable {prog:Program} {w:World} {A:Around} {E:Value→Shared→Prop} {s:Shared} {κ:SortKind} {key:Keyed→Int} {Ok:Keyed→Prop}
def setG(st:SortSt)(g:Nat):SortSt:=SortSt.mk' (kindOf st) (arrOf st) (pendingOf st) g (failedOf st)
theorem mS{a:Array Keyed}{i:Nat}(hi:i<a.size):(a.toList.drop i).take 1=[a.getD i nn]:=by
 have hl:i<a.toList.length:=by simpa using hi
 rw [List.drop_eq_getElem_cons hl]
 simp [Array.getD,hi]
theorem eS(a:Array Keyed)(i j:Nat):(a.extract i j).toList=(a.toList.drop i).take (j-i):=by
 rw [Array.toList_extract,List.extract_eq_take_drop]
theorem o8(a:Array Keyed)(i:Nat):(a.extract i a.size).toList=a.toList.drop i:=by
 rw [eS]
 refine List.take_of_length_le ?_
 simp
theorem i7{a:Array Keyed}{i:Nat}{x:Keyed}(h:x∈a.toList.drop i):∃j,i≤j∧j<a.size∧x=a.getD j nn:=by
 obtain ⟨j,hj,rfl⟩:=List.getElem_of_mem h
 have cu:i+j<a.size:=by simp at hj;omega
 refine ⟨i+j,by omega,cu,?_⟩
 rw [List.getElem_drop]
 simp [Array.getD,cu]
theorem sr{a:Array Keyed}{i k:Nat}{x:Keyed}(h:x∈(a.toList.drop i).take k):∃j,j<k∧i+j<a.size∧x=a.getD (i+j) nn:=by
 obtain ⟨j,hj,rfl⟩:=List.getElem_of_mem h
 have cu:i+j<a.size∧j<k:=by simp at hj;omega
 refine ⟨j,cu.2,cu.1,?_⟩
 rw [List.getElem_take,List.getElem_drop]
 simp [Array.getD,cu.1]
theorem cN{a:Array Keyed}(h:aJ key a.toList){i j:Nat}(su:i≤j)(hj:j<a.size):key (a.getD i nn)≤key (a.getD j nn):=by
 have hi:i<a.size:=by omega
 by_cases e:i=j
 ·subst e;exact Int.le_refl _
 ·have:=List.pairwise_iff_getElem.mp h i j (by simpa using hi) (by simpa using hj) (by omega)
  simpa [Array.getD,hi,hj] using this
theorem cj{c:Prop}[Decidable c]{α:Type}{m1 m2:StateT SortSt Sem α}{Q:α→SortSt→Prop}{st:SortSt}(h1:c→wpS (model prog w) A E s m1 Q st)(h2:¬c→wpS (model prog w) A E s m2 Q st):wpS (model prog w) A E s (if c then m1 else m2) Q st:=by
 by_cases h:c
 ·rw [if_pos h];exact h1 h
 ·rw [if_neg h];exact h2 h
theorem jZ{st:SortSt}{g:Nat}{Q:Unit→SortSt→Prop}(q:Q () (setG st g)):wpS (model prog w) A E s (mP g) Q st:=wpS_modify q
theorem dC{k a:Int}(h:bB true k a=true):a<k:=of_decide_eq_true h
theorem dU{k a:Int}(h:bB true k a=false):k≤a:=Int.not_lt.mp (of_decide_eq_false h)
theorem fV{k a:Int}(h:bB false k a=true):a≤k:=by
 have:(!decide (k<a))=true:=h
 simpa using this
theorem hI{k a:Int}(h:bB false k a=false):k<a:=by
 have:(!decide (k<a))=false:=h
 simpa using this
theorem hJ{b:Array Keyed}(sb:aJ key b.toList){k:Int}{o:Nat}:∀i j,i≤j→j<b.size-o→bB true k (key (b.getD (o+j) nn))=true→bB true k (key (b.getD (o+i) nn))=true:=fun i j h1 h2 h3=>decide_eq_true (Int.lt_of_le_of_lt (cN sb (by omega) (by omega)) (dC h3))
theorem o9{b:Array Keyed}(sb:aJ key b.toList){k:Int}{o:Nat}:∀i j,i≤j→j<b.size-o→bB false k (key (b.getD (o+j) nn))=true→bB false k (key (b.getD (o+i) nn))=true:=fun i j h1 h2 h3=>by
 have:key (b.getD (o+i) nn)≤k:=Int.le_trans (cN sb (by omega) (by omega)) (fV h3)
 show (!decide (k<key (b.getD (o+i) nn)))=true
 simpa using this
section
variable {a b:Array Keyed} (sa:aJ key a.toList) (sb:aJ key b.toList) {out:Array Keyed} {ia ib:Nat}
include sa sb
theorem j4(m:MI key a.toList b.toList out.toList ia ib)(hb:ib<b.size)(k:∀j,ia≤j→j<a.size→key (b.getD ib nn)≤key (a.getD j nn)):MI key a.toList b.toList (out.push (b.getD ib nn)).toList ia (ib+1):=by
 have:=m.sq sb 1 fun x hx y hy=>by
  rw [mS hb,List.mem_singleton] at hx
  subst hx
  obtain ⟨j,h1,h2,rfl⟩:=i7 hy
  exact k j h1 h2
 rw [mS hb] at this
 rw [Array.toList_push]
 exact this
theorem gr(m:MI key a.toList b.toList out.toList ia ib)(ha:ia<a.size)(k:∀j,ib≤j→j<b.size→key (a.getD ia nn)≤key (b.getD j nn)):MI key a.toList b.toList (out.push (a.getD ia nn)).toList (ia+1) ib:=by
 have:=m.o6 sa 1 fun x hx y hy=>by
  rw [mS ha,List.mem_singleton] at hx
  subst hx
  obtain ⟨j,h1,h2,rfl⟩:=i7 hy
  exact k j h1 h2
 rw [mS ha] at this
 rw [Array.toList_push]
 exact this
theorem xn(m:MI key a.toList b.toList out.toList ia ib){n:Nat}(k:∀i j,i<n→ia+i<a.size→ib≤j→j<b.size→key (a.getD (ia+i) nn)≤key (b.getD j nn)):MI key a.toList b.toList (out++a.extract ia (ia+n)).toList (ia+n) ib:=by
 have:=m.o6 sa n fun x hx y hy=>by
  obtain ⟨i,h3,h4,rfl⟩:=sr hx
  obtain ⟨j,h1,h2,rfl⟩:=i7 hy
  exact k i j h3 h4 h1 h2
 rw [Array.toList_append,eS,show ia+n-ia=n by omega]
 exact this
theorem o_(m:MI key a.toList b.toList out.toList ia ib){n:Nat}(k:∀i j,i<n→ib+i<b.size→ia≤j→j<a.size→key (b.getD (ib+i) nn)≤key (a.getD j nn)):MI key a.toList b.toList (out++b.extract ib (ib+n)).toList ia (ib+n):=by
 have:=m.sq sb n fun x hx y hy=>by
  obtain ⟨i,h3,h4,rfl⟩:=sr hx
  obtain ⟨j,h1,h2,rfl⟩:=i7 hy
  exact k i j h3 h4 h1 h2
 rw [Array.toList_append,eS,show ib+n-ib=n by omega]
 exact this
theorem eU(m:MI key a.toList b.toList out.toList ia ib)(e:ib=b.size∨ia=a.size):(out++a.extract ia a.size++b.extract ib b.size).toList.Perm (a.toList++b.toList)∧aJ key (out++a.extract ia a.size++b.extract ib b.size).toList:=by
 rw [Array.toList_append,Array.toList_append,o8,o8]
 refine m.done sa sb fun x hx y hy=>?_
 obtain ⟨i,h1,h2,_⟩:=i7 hx
 obtain ⟨j,h3,h4,_⟩:=i7 hy
 omega
theorem eV(m:MI key a.toList b.toList out.toList ia ib)(hl:∀y∈b.toList,key y≤key (a.getD (a.size-1) nn))(e:ia+1=a.size):(out++b.extract ib b.size++a.extract ia a.size).toList.Perm (a.toList++b.toList)∧aJ key (out++b.extract ib b.size++a.extract ia a.size).toList:=by
 rw [Array.toList_append,Array.toList_append,o8,o8]
 refine m.xm sa sb fun x hx y hy=>?_
 obtain ⟨i,h1,h2,rfl⟩:=i7 hx
 have:=hl y (List.mem_of_mem_drop hy)
 rw [show i=a.size-1 by omega]
 exact this
end
theorem Dx(h:eR prog w A s κ key Ok){a b:Array Keyed}(oa:cH Ok a)(ob:cH Ok b)(sa:aJ key a.toList)(sb:aJ key b.toList)(a1:1≤a.size)(b1:1≤b.size)
  (h0:∀x∈a.toList,key (b.getD 0 nn)≤key x) (hl:∀y∈b.toList,key y≤key (a.getD (a.size-1) nn)) {st:SortSt} (hk:kindOf st=κ) {Q:Array Keyed→SortSt→Prop}
  (q:∀m g,m.toList.Perm (a.toList++b.toList)→aJ key m.toList→Q m (setG st g)):wpS (model prog w) A E s (si a b) Q st:=by
 rw [Dv]
 refine wpS_bind (wpS_lift (wpAny_rule ⟨rfl,?_⟩))
 refine wpS_bind (aQ (by omega) ?_)
 dsimp only
 have m0:MI key a.toList b.toList (#[b.getD 0 nn]:Array Keyed).toList 0 1:=by
  have:MI key a.toList b.toList (#[]:Array Keyed).toList 0 0:=⟨by simp,List.Pairwise.nil,fun x hx=>by simp at hx,fun x hx=>by simp at hx⟩
  exact j4 sa sb this (by omega) fun j _ hj=>h0 _ (by simp [Array.getD,hj])
 have cw:∀g,kindOf (setG st g)=κ:=fun _=>hk
 by_cases e1:(1 == b.size)=true
 ·rw [if_pos e1]
  have:=eU sa sb m0 (.inl (eq_of_beq e1))
  exact wpS_pure (q _ (gallopOf st) this.1 this.2)
 rw [if_neg e1]
 by_cases e2:(0+1 == a.size)=true
 ·rw [if_pos e2]
  have:=eV sa sb m0 hl (eq_of_beq e2)
  exact wpS_pure (q _ (gallopOf st) this.1 this.2)
 rw [if_neg e2]
 have b2:1<b.size:=by
  have:1≠b.size:=fun e=>e1 (by simp [←e])
  omega
 have a2:0+1<a.size:=by
  have:0+1≠a.size:=fun e=>e2 (by simp [←e])
  omega
 refine wpS_bind (wpS_get ?_)
 refine wpS_bind (wpS_mono (wpS_forRange (I:=fun x c ak=>∃out ia ib mg g,c=(none,out,ia,ib,mg)∧ak=setG st g∧MI key a.toList b.toList out.toList ia ib∧ia+1<a.size∧ib<b.size∧x≤ia+ib)
  (Q:=fun c ak=>∃m g,c.1=some m∧ak=setG st g∧m.toList.Perm (a.toList++b.toList)∧aJ key m.toList) ?_ ?_ ⟨_,_,_,_,gallopOf st,rfl,rfl,m0,a2,b2,Nat.zero_le _⟩) ?_)
 ·rintro x c ak _ hx ⟨out,ia,ib,mg,g,rfl,rfl,mi,ha,hb,sC⟩
  dsimp only
  refine wpS_bind (wpS_mono (wpS_forRange (I:=fun y c ak=>∃out da dD ac bc,c=(none,out,da,dD,ac,bc)∧ak=setG st g∧MI key a.toList b.toList out.toList da dD∧da+1<a.size∧dD<b.size∧ia+ib+y≤da+dD)
   (Q:=fun c ak=>ak=setG st g∧((∃m,c.1=some m∧m.toList.Perm (a.toList++b.toList)∧aJ key m.toList)∨∃out da dD ac bc,c=(none,out,da,dD,ac,bc)∧MI key a.toList b.toList out.toList da dD∧da+1<a.size∧dD<b.size∧ia+ib+1≤da+dD)) ?_ ?_ ⟨_,_,_,_,_,rfl,rfl,mi,ha,hb,Nat.le_refl _⟩) ?_)
  ·rintro y c ak _ hy ⟨out,da,dD,ac,bc,rfl,rfl,mi,ha,hb,dE⟩
   dsimp only
   refine wpS_bind (aQ hb (wpS_bind (aQ (by omega) (wpS_bind (mR h (ob _ hb) (oa da (by omega)) (cw _) ?_)))))
   dsimp only
   by_cases z:key (b.getD dD nn)<key (a.getD da nn)
   ·rw [decide_eq_true z,if_pos rfl]
    refine wpS_bind (aQ hb ?_)
    have dF:=j4 sa sb mi hb fun j h1 h2=>Int.le_trans (Int.le_of_lt z) (cN sa h1 h2)
    by_cases z1:(dD+1 == b.size)=true
    ·rw [if_pos z1]
     exact wpS_pure ⟨rfl,.inl ⟨_,rfl,eU sa sb dF (.inl (eq_of_beq z1))⟩⟩
    ·rw [if_neg z1]
     have gq:dD+1≠b.size:=fun e=>z1 (by simp [←e])
     by_cases z2:bc+1≥mg
     ·rw [if_pos z2]
      exact wpS_pure ⟨rfl,.inr ⟨_,_,_,_,_,rfl,dF,ha,by omega,by omega⟩⟩
     ·rw [if_neg z2]
      exact wpS_pure ⟨_,_,_,_,_,rfl,rfl,dF,ha,by omega,by omega⟩
   ·rw [decide_eq_false z,if_neg (by simp)]
    refine wpS_bind (aQ (by omega) ?_)
    have dF:=gr sa sb mi (by omega) fun j h1 h2=>Int.le_trans (Int.not_lt.mp z) (cN sb h1 h2)
    by_cases z1:(da+1+1 == a.size)=true
    ·rw [if_pos z1]
     exact wpS_pure ⟨rfl,.inl ⟨_,rfl,eV sa sb dF hl (eq_of_beq z1)⟩⟩
    ·rw [if_neg z1]
     have gq:da+1+1≠a.size:=fun e=>z1 (by simp [←e])
     by_cases z2:ac+1≥mg
     ·rw [if_pos z2]
      exact wpS_pure ⟨rfl,.inr ⟨_,_,_,_,_,rfl,dF,by omega,hb,by omega⟩⟩
     ·rw [if_neg z2]
      exact wpS_pure ⟨_,_,_,_,_,rfl,rfl,dF,by omega,hb,by omega⟩
  ·rintro c ak ⟨out,da,dD,ac,bc,rfl,rfl,mi,ha,hb,dE⟩
   exact ⟨rfl,.inr ⟨_,_,_,_,_,rfl,mi,ha,hb,by omega⟩⟩
  ·rintro c ak ⟨rfl,⟨m,e,pm⟩ | ⟨out,da,dD,ac,bc,rfl,mi,ha,hb,dE⟩⟩
   ·obtain ⟨c1,c2⟩:=c
    dsimp only at e
    subst e
    exact wpS_pure ⟨m,g,rfl,rfl,pm⟩
   ·dsimp only
    refine wpS_bind (wpS_lift (wpAny_rule ⟨rfl,?_⟩))
    refine wpS_bind (wpS_mono (wpS_forRange (I:=fun y c ak=>∃out i j mg ac bc g,c=(none,out,i,j,mg,ac,bc)∧ak=setG st g∧MI key a.toList b.toList out.toList i j∧i+1<a.size∧j<b.size∧x+1≤i+j)
     (Q:=fun c ak=>(∃m g,c.1=some m∧ak=setG st g∧m.toList.Perm (a.toList++b.toList)∧aJ key m.toList)∨∃out i j mg ac bc g,c=(none,out,i,j,mg,ac,bc)∧ak=setG st g∧MI key a.toList b.toList out.toList i j∧i+1<a.size∧j<b.size∧x+1≤i+j) ?_ ?_ ⟨_,_,_,_,_,_,g,rfl,rfl,mi,ha,hb,by omega⟩) ?_)
    ·clear mi ha hb dE
     rintro y c ak _ hy ⟨out,ia,ib,mg,ac,bc,g,rfl,rfl,mi,ha,hb,dE⟩
     dsimp only
     rcases Nat.lt_or_ge 1 mg with zm | zm
     ·rw [if_pos zm]
      refine wpS_bind (jZ ?_)
      refine wpS_bind (aQ hb (wpS_bind (dS (f:=fun i=>bB false (key (b.getD ib nn)) (key (a.getD (ia+i) nn))) (fun i hi Q q=>dR h (by omega) oa (ob _ hb) (cw _) q) (by omega) (o9 sa) fun k k1 k2 k3=>?_)))
      dsimp only
      by_cases zk:k>0
      ·rw [if_pos zk]
       have dG:=xn sa sb mi (n:=k) fun i j hi aR hj cu=>Int.le_trans (fV (k2 i hi)) (cN sb hj cu)
       by_cases w1:(ia+k+1 == a.size)=true
       ·rw [if_pos w1]
        exact wpS_pure (.inl ⟨_,_,rfl,rfl,eV sa sb dG hl (eq_of_beq w1)⟩)
       ·rw [if_neg w1]
        have sD:ia+k+1≠a.size:=fun e=>w1 (by simp [←e])
        by_cases w2:(ia+k == a.size)=true
        ·rw [if_pos w2]
         exact wpS_pure (.inl ⟨_,_,rfl,rfl,eU sa sb dG (.inr (eq_of_beq w2))⟩)
        ·rw [if_neg w2]
         have Dy:ia+k≠a.size:=fun e=>w2 (by simp [←e])
         refine wpS_bind (aQ hb ?_)
         have bf:=j4 sa sb dG hb fun j h1 h2=>by have:=hI (k3 (j-ia) (by omega) (by omega));rw [show ia+(j-ia)=j by omega] at this;exact Int.le_of_lt this
         by_cases x1:(ib+1 == b.size)=true
         ·rw [if_pos x1]
          exact wpS_pure (.inl ⟨_,_,rfl,rfl,eU sa sb bf (.inl (eq_of_beq x1))⟩)
         ·rw [if_neg x1]
          have i8:ib+1≠b.size:=fun e=>x1 (by simp [←e])
          refine wpS_bind (aQ (by omega) (wpS_bind (dS (f:=fun i=>bB true (key (a.getD (ia+k) nn)) (key (b.getD (ib+1+i) nn))) (fun i hi Q q=>dR h (by omega) ob (oa _ (by omega)) (cw _) q) (by omega) (hJ sb) fun k' q1 q2 q3=>?_)))
          dsimp only
          by_cases b4:k'>0
          ·rw [if_pos b4]
           have bO:=o_ sa sb bf (n:=k') fun i j hi aR hj cu=>Int.le_trans (Int.le_of_lt (dC (q2 i hi))) (cN sa hj cu)
           by_cases x2:(ib+1+k' == b.size)=true
           ·rw [if_pos x2]
            exact wpS_pure (.inl ⟨_,_,rfl,rfl,eU sa sb bO (.inl (eq_of_beq x2))⟩)
           ·rw [if_neg x2]
            have i9:ib+1+k'≠b.size:=fun e=>x2 (by simp [←e])
            refine wpS_bind (aQ (by omega) ?_)
            have aD:=gr sa sb bO (by omega) fun j h1 h2=>by have:=dU (q3 (j-(ib+1)) (by omega) (by omega));rwa [show ib+1+(j-(ib+1))=j by omega] at this
            by_cases y1:(ia+k+1+1 == a.size)=true
            ·rw [if_pos y1]
             exact wpS_pure (.inl ⟨_,_,rfl,rfl,eV sa sb aD hl (eq_of_beq y1)⟩)
            ·rw [if_neg y1]
             have dH:ia+k+1+1≠a.size:=fun e=>y1 (by simp [←e])
             exact cj (fun _=>wpS_pure (.inr ⟨_,_,_,_,_,_,_,rfl,rfl,aD,by omega,by omega,by omega⟩)) (fun _=>wpS_pure ⟨_,_,_,_,_,_,_,rfl,rfl,aD,by omega,by omega,by omega⟩)
          ·rw [if_neg b4]
           obtain rfl:k'=0:=by omega
           refine wpS_bind (aQ (by omega) ?_)
           have aD:=gr sa sb bf (by omega) fun j h1 h2=>by have:=dU (q3 (j-(ib+1)) (by omega) (by omega));rwa [show ib+1+(j-(ib+1))=j by omega] at this
           by_cases y1:(ia+k+1+1 == a.size)=true
           ·rw [if_pos y1]
            exact wpS_pure (.inl ⟨_,_,rfl,rfl,eV sa sb aD hl (eq_of_beq y1)⟩)
           ·rw [if_neg y1]
            have dH:ia+k+1+1≠a.size:=fun e=>y1 (by simp [←e])
            exact cj (fun _=>wpS_pure (.inr ⟨_,_,_,_,_,_,_,rfl,rfl,aD,by omega,by omega,by omega⟩)) (fun _=>wpS_pure ⟨_,_,_,_,_,_,_,rfl,rfl,aD,by omega,by omega,by omega⟩)
      ·rw [if_neg zk]
       obtain rfl:k=0:=by omega
       refine wpS_bind (aQ hb ?_)
       have bf:=j4 sa sb mi hb fun j h1 h2=>by have:=hI (k3 (j-ia) (by omega) (by omega));rw [show ia+(j-ia)=j by omega] at this;exact Int.le_of_lt this
       by_cases x1:(ib+1 == b.size)=true
       ·rw [if_pos x1]
        exact wpS_pure (.inl ⟨_,_,rfl,rfl,eU sa sb bf (.inl (eq_of_beq x1))⟩)
       ·rw [if_neg x1]
        have i8:ib+1≠b.size:=fun e=>x1 (by simp [←e])
        refine wpS_bind (aQ (by omega) (wpS_bind (dS (f:=fun i=>bB true (key (a.getD (ia) nn)) (key (b.getD (ib+1+i) nn))) (fun i hi Q q=>dR h (by omega) ob (oa _ (by omega)) (cw _) q) (by omega) (hJ sb) fun k' q1 q2 q3=>?_)))
        dsimp only
        by_cases b4:k'>0
        ·rw [if_pos b4]
         have bO:=o_ sa sb bf (n:=k') fun i j hi aR hj cu=>Int.le_trans (Int.le_of_lt (dC (q2 i hi))) (cN sa hj cu)
         by_cases x2:(ib+1+k' == b.size)=true
         ·rw [if_pos x2]
          exact wpS_pure (.inl ⟨_,_,rfl,rfl,eU sa sb bO (.inl (eq_of_beq x2))⟩)
         ·rw [if_neg x2]
          have i9:ib+1+k'≠b.size:=fun e=>x2 (by simp [←e])
          refine wpS_bind (aQ (by omega) ?_)
          have aD:=gr sa sb bO (by omega) fun j h1 h2=>by have:=dU (q3 (j-(ib+1)) (by omega) (by omega));rwa [show ib+1+(j-(ib+1))=j by omega] at this
          by_cases y1:(ia+1+1 == a.size)=true
          ·rw [if_pos y1]
           exact wpS_pure (.inl ⟨_,_,rfl,rfl,eV sa sb aD hl (eq_of_beq y1)⟩)
          ·rw [if_neg y1]
           have dH:ia+1+1≠a.size:=fun e=>y1 (by simp [←e])
           exact cj (fun _=>wpS_pure (.inr ⟨_,_,_,_,_,_,_,rfl,rfl,aD,by omega,by omega,by omega⟩)) (fun _=>wpS_pure ⟨_,_,_,_,_,_,_,rfl,rfl,aD,by omega,by omega,by omega⟩)
        ·rw [if_neg b4]
         obtain rfl:k'=0:=by omega
         refine wpS_bind (aQ (by omega) ?_)
         have aD:=gr sa sb bf (by omega) fun j h1 h2=>by have:=dU (q3 (j-(ib+1)) (by omega) (by omega));rwa [show ib+1+(j-(ib+1))=j by omega] at this
         by_cases y1:(ia+1+1 == a.size)=true
         ·rw [if_pos y1]
          exact wpS_pure (.inl ⟨_,_,rfl,rfl,eV sa sb aD hl (eq_of_beq y1)⟩)
         ·rw [if_neg y1]
          have dH:ia+1+1≠a.size:=fun e=>y1 (by simp [←e])
          exact cj (fun _=>wpS_pure (.inr ⟨_,_,_,_,_,_,_,rfl,rfl,aD,by omega,by omega,by omega⟩)) (fun _=>wpS_pure ⟨_,_,_,_,_,_,_,rfl,rfl,aD,by omega,by omega,by omega⟩)
     ·rw [if_neg (by omega)]
      refine wpS_bind (jZ ?_)
      refine wpS_bind (aQ hb (wpS_bind (dS (f:=fun i=>bB false (key (b.getD ib nn)) (key (a.getD (ia+i) nn))) (fun i hi Q q=>dR h (by omega) oa (ob _ hb) (cw _) q) (by omega) (o9 sa) fun k k1 k2 k3=>?_)))
      dsimp only
      by_cases zk:k>0
      ·rw [if_pos zk]
       have dG:=xn sa sb mi (n:=k) fun i j hi aR hj cu=>Int.le_trans (fV (k2 i hi)) (cN sb hj cu)
       by_cases w1:(ia+k+1 == a.size)=true
       ·rw [if_pos w1]
        exact wpS_pure (.inl ⟨_,_,rfl,rfl,eV sa sb dG hl (eq_of_beq w1)⟩)
       ·rw [if_neg w1]
        have sD:ia+k+1≠a.size:=fun e=>w1 (by simp [←e])
        by_cases w2:(ia+k == a.size)=true
        ·rw [if_pos w2]
         exact wpS_pure (.inl ⟨_,_,rfl,rfl,eU sa sb dG (.inr (eq_of_beq w2))⟩)
        ·rw [if_neg w2]
         have Dy:ia+k≠a.size:=fun e=>w2 (by simp [←e])
         refine wpS_bind (aQ hb ?_)
         have bf:=j4 sa sb dG hb fun j h1 h2=>by have:=hI (k3 (j-ia) (by omega) (by omega));rw [show ia+(j-ia)=j by omega] at this;exact Int.le_of_lt this
         by_cases x1:(ib+1 == b.size)=true
         ·rw [if_pos x1]
          exact wpS_pure (.inl ⟨_,_,rfl,rfl,eU sa sb bf (.inl (eq_of_beq x1))⟩)
         ·rw [if_neg x1]
          have i8:ib+1≠b.size:=fun e=>x1 (by simp [←e])
          refine wpS_bind (aQ (by omega) (wpS_bind (dS (f:=fun i=>bB true (key (a.getD (ia+k) nn)) (key (b.getD (ib+1+i) nn))) (fun i hi Q q=>dR h (by omega) ob (oa _ (by omega)) (cw _) q) (by omega) (hJ sb) fun k' q1 q2 q3=>?_)))
          dsimp only
          by_cases b4:k'>0
          ·rw [if_pos b4]
           have bO:=o_ sa sb bf (n:=k') fun i j hi aR hj cu=>Int.le_trans (Int.le_of_lt (dC (q2 i hi))) (cN sa hj cu)
           by_cases x2:(ib+1+k' == b.size)=true
           ·rw [if_pos x2]
            exact wpS_pure (.inl ⟨_,_,rfl,rfl,eU sa sb bO (.inl (eq_of_beq x2))⟩)
           ·rw [if_neg x2]
            have i9:ib+1+k'≠b.size:=fun e=>x2 (by simp [←e])
            refine wpS_bind (aQ (by omega) ?_)
            have aD:=gr sa sb bO (by omega) fun j h1 h2=>by have:=dU (q3 (j-(ib+1)) (by omega) (by omega));rwa [show ib+1+(j-(ib+1))=j by omega] at this
            by_cases y1:(ia+k+1+1 == a.size)=true
            ·rw [if_pos y1]
             exact wpS_pure (.inl ⟨_,_,rfl,rfl,eV sa sb aD hl (eq_of_beq y1)⟩)
            ·rw [if_neg y1]
             have dH:ia+k+1+1≠a.size:=fun e=>y1 (by simp [←e])
             exact cj (fun _=>wpS_pure (.inr ⟨_,_,_,_,_,_,_,rfl,rfl,aD,by omega,by omega,by omega⟩)) (fun _=>wpS_pure ⟨_,_,_,_,_,_,_,rfl,rfl,aD,by omega,by omega,by omega⟩)
          ·rw [if_neg b4]
           obtain rfl:k'=0:=by omega
           refine wpS_bind (aQ (by omega) ?_)
           have aD:=gr sa sb bf (by omega) fun j h1 h2=>by have:=dU (q3 (j-(ib+1)) (by omega) (by omega));rwa [show ib+1+(j-(ib+1))=j by omega] at this
           by_cases y1:(ia+k+1+1 == a.size)=true
           ·rw [if_pos y1]
            exact wpS_pure (.inl ⟨_,_,rfl,rfl,eV sa sb aD hl (eq_of_beq y1)⟩)
           ·rw [if_neg y1]
            have dH:ia+k+1+1≠a.size:=fun e=>y1 (by simp [←e])
            exact cj (fun _=>wpS_pure (.inr ⟨_,_,_,_,_,_,_,rfl,rfl,aD,by omega,by omega,by omega⟩)) (fun _=>wpS_pure ⟨_,_,_,_,_,_,_,rfl,rfl,aD,by omega,by omega,by omega⟩)
      ·rw [if_neg zk]
       obtain rfl:k=0:=by omega
       refine wpS_bind (aQ hb ?_)
       have bf:=j4 sa sb mi hb fun j h1 h2=>by have:=hI (k3 (j-ia) (by omega) (by omega));rw [show ia+(j-ia)=j by omega] at this;exact Int.le_of_lt this
       by_cases x1:(ib+1 == b.size)=true
       ·rw [if_pos x1]
        exact wpS_pure (.inl ⟨_,_,rfl,rfl,eU sa sb bf (.inl (eq_of_beq x1))⟩)
       ·rw [if_neg x1]
        have i8:ib+1≠b.size:=fun e=>x1 (by simp [←e])
        refine wpS_bind (aQ (by omega) (wpS_bind (dS (f:=fun i=>bB true (key (a.getD (ia) nn)) (key (b.getD (ib+1+i) nn))) (fun i hi Q q=>dR h (by omega) ob (oa _ (by omega)) (cw _) q) (by omega) (hJ sb) fun k' q1 q2 q3=>?_)))
        dsimp only
        by_cases b4:k'>0
        ·rw [if_pos b4]
         have bO:=o_ sa sb bf (n:=k') fun i j hi aR hj cu=>Int.le_trans (Int.le_of_lt (dC (q2 i hi))) (cN sa hj cu)
         by_cases x2:(ib+1+k' == b.size)=true
         ·rw [if_pos x2]
          exact wpS_pure (.inl ⟨_,_,rfl,rfl,eU sa sb bO (.inl (eq_of_beq x2))⟩)
         ·rw [if_neg x2]
          have i9:ib+1+k'≠b.size:=fun e=>x2 (by simp [←e])
          refine wpS_bind (aQ (by omega) ?_)
          have aD:=gr sa sb bO (by omega) fun j h1 h2=>by have:=dU (q3 (j-(ib+1)) (by omega) (by omega));rwa [show ib+1+(j-(ib+1))=j by omega] at this
          by_cases y1:(ia+1+1 == a.size)=true
          ·rw [if_pos y1]
           exact wpS_pure (.inl ⟨_,_,rfl,rfl,eV sa sb aD hl (eq_of_beq y1)⟩)
          ·rw [if_neg y1]
           have dH:ia+1+1≠a.size:=fun e=>y1 (by simp [←e])
           exact cj (fun _=>wpS_pure (.inr ⟨_,_,_,_,_,_,_,rfl,rfl,aD,by omega,by omega,by omega⟩)) (fun _=>wpS_pure ⟨_,_,_,_,_,_,_,rfl,rfl,aD,by omega,by omega,by omega⟩)
        ·rw [if_neg b4]
         obtain rfl:k'=0:=by omega
         refine wpS_bind (aQ (by omega) ?_)
         have aD:=gr sa sb bf (by omega) fun j h1 h2=>by have:=dU (q3 (j-(ib+1)) (by omega) (by omega));rwa [show ib+1+(j-(ib+1))=j by omega] at this
         by_cases y1:(ia+1+1 == a.size)=true
         ·rw [if_pos y1]
          exact wpS_pure (.inl ⟨_,_,rfl,rfl,eV sa sb aD hl (eq_of_beq y1)⟩)
         ·rw [if_neg y1]
          have dH:ia+1+1≠a.size:=fun e=>y1 (by simp [←e])
          exact cj (fun _=>wpS_pure (.inr ⟨_,_,_,_,_,_,_,rfl,rfl,aD,by omega,by omega,by omega⟩)) (fun _=>wpS_pure ⟨_,_,_,_,_,_,_,rfl,rfl,aD,by omega,by omega,by omega⟩)
    ·rintro c ak ⟨out,i,j,mg,ac,bc,g,rfl,rfl,mi,ha,hb,dE⟩
     exact .inr ⟨_,_,_,_,_,_,_,rfl,rfl,mi,ha,hb,dE⟩
    ·rintro c ak (⟨m,g,e,rfl,pm⟩ | ⟨out,i,j,mg,ac,bc,g,rfl,rfl,mi,ha,hb,dE⟩)
     ·obtain ⟨c1,c2⟩:=c
      dsimp only at e
      subst e
      exact wpS_pure ⟨m,g,rfl,rfl,pm⟩
     ·dsimp only
      exact wpS_bind (jZ (wpS_pure ⟨_,_,_,_,_,rfl,rfl,mi,ha,hb,by omega⟩))
 ·rintro c ak ⟨out,ia,ib,mg,g,rfl,rfl,mi,ha,hb,sC⟩
  exfalso
  omega
 ·rintro c ak ⟨m,g,e,rfl,pm,sm⟩
  obtain ⟨c1,c2⟩:=c
  dsimp only at e
  subst e
  exact wpS_pure (q m g pm sm)
end
theorem Dz(a b:Array Keyed):sj a b=(do
 rule "list.sort.merge-hi"
 let total:=a.size+b.size
 let done (out:Array Keyed) (na nb:Nat):=a.extract 0 na++b.extract 0 nb++out.reverse
 let pb (out:Array Keyed) (na nb:Nat):=b.extract 0 nb++a.extract 0 na++out.reverse
 let mut na:=a.size-1
 let mut nb:=b.size
 let mut out:Array Keyed:=#[←elem' a na]
 if na == 0 then return done out na nb
 if nb == 1 then return pb out na nb
 let mut minGallop:=gallopOf (←get)
 for _ in [0:total] do
  let mut en:=0
  let mut eA:=0
  for _ in [0:total] do
   let some DA ←lt' (←elem' b (nb-1)) (←elem' a (na-1)) | return done out na nb
   if DA then
    na:=na-1;out:=out.push (←elem' a na);en:=en+1;eA:=0
    if na == 0 then return done out na nb
    if en≥minGallop then break
   else
    nb:=nb-1;out:=out.push (←elem' b nb);eA:=eA+1;en:=0
    if nb == 1 then return pb out na nb
    if eA≥minGallop then break
  rule "list.sort.gallop"
  minGallop:=minGallop+1
  for _ in [0:total] do
   if minGallop>1 then minGallop:=minGallop-1
   mP minGallop
   let some at_ ←hG false (←elem' b (nb-1)) a 0 na (na-1) | return done out na nb
   let k:=na-at_
   en:=k
   if k>0 then
    out:=out++(a.extract at_ na).reverse;na:=at_
    if na == 0 then return done out na nb
   nb:=nb-1;out:=out.push (←elem' b nb)
   if nb == 1 then return pb out na nb
   let some at_ ←hG true (←elem' a (na-1)) b 0 nb (nb-1) | return done out na nb
   let k:=nb-at_
   eA:=k
   if k>0 then
    out:=out++(b.extract at_ nb).reverse;nb:=at_
    if nb == 1 then return pb out na nb
    if nb == 0 then return done out na nb
   na:=na-1;out:=out.push (←elem' a na)
   if na == 0 then return done out na nb
   if en<7 && eA<7 then break
  minGallop:=minGallop+1
  mP minGallop
 unsupported "internal:list.sort.merge-bound"):=rfl
section
variable {key:Keyed→Int}
theorem j6{l:List Keyed}(h:aJ key l):aJ (fun x=>-key x) l.reverse:=by
 unfold aJ
 rw [List.pairwise_reverse]
 exact List.Pairwise.imp (fun h=>Int.neg_le_neg h) h
theorem xo{l:List Keyed}(h:aJ (fun x=>-key x) l):aJ key l.reverse:=by
 unfold aJ
 rw [List.pairwise_reverse]
 exact List.Pairwise.imp (fun h=>Int.le_of_neg_le_neg h) h
theorem fw{a:Array Keyed}{n:Nat}(h:n≤a.size):a.toList.reverse.drop (a.size-n)=(a.extract 0 n).toList.reverse:=by
 rw [List.drop_reverse,eS,List.drop_zero,Nat.sub_zero,Array.length_toList,show a.size-(a.size-n)=n by omega]
theorem pd{a:Array Keyed}{n m:Nat}(h:n≤a.size)(hm:m≤n):(a.toList.reverse.drop (a.size-n)).take (n-m)=(a.extract m n).reverse.toList:=by
 rw [fw h,Array.toList_reverse,eS,eS,List.drop_zero,Nat.sub_zero,List.take_reverse,List.length_take,Array.length_toList,show min n a.size-(n-m)=m by omega,List.drop_take]
theorem gs{a:Array Keyed}{n m:Nat}(h:n≤a.size){x:Keyed}(hx:x∈(a.extract m n).toList):∃j,m≤j∧j<n∧x=a.getD j nn:=by
 rw [eS] at hx
 obtain ⟨j,h1,h2,rfl⟩:=sr hx
 exact ⟨m+j,by omega,by omega,rfl⟩
theorem xp{a:Array Keyed}{n:Nat}(h:n≤a.size)(h1:1≤n):(a.extract (n-1) n).reverse.toList=[a.getD (n-1) nn]:=by
 rw [Array.toList_reverse,eS,show n-(n-1)=1 by omega,mS (by omega)]
 rfl
def MH(key:Keyed→Int)(a b out:Array Keyed)(na nb:Nat):Prop:=MI (fun x=>-key x) a.toList.reverse b.toList.reverse out.toList (a.size-na) (b.size-nb)∧na≤a.size∧nb≤b.size
variable {a b:Array Keyed} (sa:aJ key a.toList) (sb:aJ key b.toList) {out:Array Keyed} {na nb:Nat}
include sa sb
theorem sE(m:MH key a b out na nb){k:Nat}(hk:k≤na)(c:∀i j,k≤i→i<na→j<nb→key (b.getD j nn)≤key (a.getD i nn)):MH key a b (out++(a.extract k na).reverse) k nb:=by
 obtain ⟨m,ha,hb⟩:=m
 refine ⟨?_,by omega,hb⟩
 have:=m.o6 (j6 sa) (na-k) fun x hx y hy=>by
  rw [pd ha hk,Array.toList_reverse,List.mem_reverse] at hx
  rw [fw hb,List.mem_reverse] at hy
  obtain ⟨i,i1,i2,rfl⟩:=gs ha hx
  obtain ⟨j,j1,j2,rfl⟩:=gs hb hy
  have:=c i j i1 i2 j2
  omega
 rw [pd ha hk,show a.size-na+(na-k)=a.size-k by omega] at this
 rw [Array.toList_append]
 exact this
theorem mT(m:MH key a b out na nb){k:Nat}(hk:k≤nb)(c:∀i j,k≤i→i<nb→j<na→key (a.getD j nn)≤key (b.getD i nn)):MH key a b (out++(b.extract k nb).reverse) na k:=by
 obtain ⟨m,ha,hb⟩:=m
 refine ⟨?_,ha,by omega⟩
 have:=m.sq (j6 sb) (nb-k) fun x hx y hy=>by
  rw [pd hb hk,Array.toList_reverse,List.mem_reverse] at hx
  rw [fw ha,List.mem_reverse] at hy
  obtain ⟨i,i1,i2,rfl⟩:=gs hb hx
  obtain ⟨j,j1,j2,rfl⟩:=gs ha hy
  have:=c i j i1 i2 j2
  omega
 rw [pd hb hk,show b.size-nb+(nb-k)=b.size-k by omega] at this
 rw [Array.toList_append]
 exact this
theorem fW(m:MH key a b out na nb)(h1:1≤na)(c:∀j,j<nb→key (b.getD j nn)≤key (a.getD (na-1) nn)):MH key a b (out.push (a.getD (na-1) nn)) (na-1) nb:=by
 have:=sE sa sb m (k:=na-1) (by omega) fun i j i1 i2 j1=>by
  rw [show i=na-1 by omega]
  exact c j j1
 have e:out++(a.extract (na-1) na).reverse=out.push (a.getD (na-1) nn):=by
  apply Array.toList_inj.mp
  rw [Array.toList_append,xp m.2.1 h1,Array.toList_push]
 rw [e] at this
 exact this
theorem mU(m:MH key a b out na nb)(h1:1≤nb)(c:∀j,j<na→key (a.getD j nn)≤key (b.getD (nb-1) nn)):MH key a b (out.push (b.getD (nb-1) nn)) na (nb-1):=by
 have:=mT sa sb m (k:=nb-1) (by omega) fun i j i1 i2 j1=>by
  rw [show i=nb-1 by omega]
  exact c j j1
 have e:out++(b.extract (nb-1) nb).reverse=out.push (b.getD (nb-1) nn):=by
  apply Array.toList_inj.mp
  rw [Array.toList_append,xp m.2.2 h1,Array.toList_push]
 rw [e] at this
 exact this
theorem dc(m:MH key a b out na nb)(e:na=0∨nb=0):(a.extract 0 na++b.extract 0 nb++out.reverse).toList.Perm (a.toList++b.toList)∧aJ key (a.extract 0 na++b.extract 0 nb++out.reverse).toList:=by
 obtain ⟨m,ha,hb⟩:=m
 have:=m.xm (j6 sa) (j6 sb) fun x hx y hy=>by
  rw [fw ha,List.mem_reverse] at hx
  rw [fw hb,List.mem_reverse] at hy
  obtain ⟨i,i1,i2,_⟩:=gs ha hx
  obtain ⟨j,j1,j2,_⟩:=gs hb hy
  omega
 rw [fw ha,fw hb] at this
 have er:(a.extract 0 na++b.extract 0 nb++out.reverse).toList=(out.toList++(b.extract 0 nb).toList.reverse++(a.extract 0 na).toList.reverse).reverse:=by
  simp
 rw [er]
 refine ⟨(List.reverse_perm _).trans (this.1.trans ?_),xo this.2⟩
 exact (List.reverse_perm _).append (List.reverse_perm _)
theorem fX(m:MH key a b out na nb)(h0:∀x∈a.toList,key (b.getD 0 nn)≤key x)(e:nb=1):(b.extract 0 nb++a.extract 0 na++out.reverse).toList.Perm (a.toList++b.toList)∧aJ key (b.extract 0 nb++a.extract 0 na++out.reverse).toList:=by
 obtain ⟨m,ha,hb⟩:=m
 have:=m.done (j6 sa) (j6 sb) fun x hx y hy=>by
  rw [fw ha,List.mem_reverse] at hx
  rw [fw hb,List.mem_reverse] at hy
  obtain ⟨i,i1,i2,rfl⟩:=gs ha hx
  obtain ⟨j,j1,j2,rfl⟩:=gs hb hy
  have:=h0 (a.getD i nn) (by simp [Array.getD,show i<a.size by omega])
  rw [show j=0 by omega]
  omega
 rw [fw ha,fw hb] at this
 have er:(b.extract 0 nb++a.extract 0 na++out.reverse).toList=(out.toList++(a.extract 0 na).toList.reverse++(b.extract 0 nb).toList.reverse).reverse:=by
  simp
 rw [er]
 refine ⟨(List.reverse_perm _).trans (this.1.trans ?_),xo this.2⟩
 exact (List.reverse_perm _).append (List.reverse_perm _)
end
section
variable {prog:Program} {w:World} {A:Around} {E:Value→Shared→Prop} {s:Shared} {κ:SortKind} {key:Keyed→Int} {Ok:Keyed→Prop}
theorem DB(h:eR prog w A s κ key Ok){a b:Array Keyed}(oa:cH Ok a)(ob:cH Ok b)(sa:aJ key a.toList)(sb:aJ key b.toList)(a1:1≤a.size)(b1:1≤b.size)
  (h0:∀x∈a.toList,key (b.getD 0 nn)≤key x) (hl:∀y∈b.toList,key y≤key (a.getD (a.size-1) nn)) {st:SortSt} (hk:kindOf st=κ) {Q:Array Keyed→SortSt→Prop}
  (q:∀m g,m.toList.Perm (a.toList++b.toList)→aJ key m.toList→Q m (setG st g)):wpS (model prog w) A E s (sj a b) Q st:=by
 rw [Dz]
 refine wpS_bind (wpS_lift (wpAny_rule ⟨rfl,?_⟩))
 refine wpS_bind (aQ (by omega) ?_)
 dsimp only
 have m0:MH key a b (#[a.getD (a.size-1) nn]:Array Keyed) (a.size-1) b.size:=by
  have:MH key a b (#[]:Array Keyed) a.size b.size:=⟨⟨by simp,List.Pairwise.nil,fun x hx=>by simp at hx,fun x hx=>by simp at hx⟩,Nat.le_refl _,Nat.le_refl _⟩
  exact fW sa sb this a1 fun j hj=>hl _ (by simp [Array.getD,hj])
 have cw:∀g,kindOf (setG st g)=κ:=fun _=>hk
 by_cases e1:(a.size-1 == 0)=true
 ·rw [if_pos e1]
  have:=dc sa sb m0 (.inl (eq_of_beq e1))
  exact wpS_pure (q _ (gallopOf st) this.1 this.2)
 rw [if_neg e1]
 by_cases e2:(b.size == 1)=true
 ·rw [if_pos e2]
  have:=fX sa sb m0 h0 (eq_of_beq e2)
  exact wpS_pure (q _ (gallopOf st) this.1 this.2)
 rw [if_neg e2]
 have a2:1≤a.size-1:=by
  have:a.size-1≠0:=fun e=>e1 (by simp [e])
  omega
 have b2:2≤b.size:=by
  have:b.size≠1:=fun e=>e2 (by simp [e])
  omega
 refine wpS_bind (wpS_get ?_)
 refine wpS_bind (wpS_mono (wpS_forRange (I:=fun x c ak=>∃(out:Array Keyed) (na nb mg g:Nat),c=(none,na,nb,out,mg)∧ak=setG st g∧MH key a b out na nb∧1≤na∧2≤nb∧x+na+nb≤a.size+b.size)
  (Q:=fun c ak=>∃(m:Array Keyed) (g:Nat),c.1=some m∧ak=setG st g∧m.toList.Perm (a.toList++b.toList)∧aJ key m.toList) ?_ ?_ ⟨_,a.size-1,b.size,_,gallopOf st,rfl,rfl,m0,a2,b2,show 0+(a.size-1)+b.size≤a.size+b.size by omega⟩) ?_)
 ·rintro x c ak _ hx ⟨out,na,nb,mg,g,rfl,rfl,mi,ha,hb,sC⟩
  dsimp only
  refine wpS_bind (wpS_mono (wpS_forRange (I:=fun y c ak=>∃(out:Array Keyed) (aM a_ ac bc:Nat),c=(none,aM,a_,out,ac,bc)∧ak=setG st g∧MH key a b out aM a_∧1≤aM∧2≤a_∧y+aM+a_≤na+nb)
   (Q:=fun c ak=>ak=setG st g∧((∃m:Array Keyed,c.1=some m∧m.toList.Perm (a.toList++b.toList)∧aJ key m.toList)∨∃(out:Array Keyed) (aM a_ ac bc:Nat),c=(none,aM,a_,out,ac,bc)∧MH key a b out aM a_∧1≤aM∧2≤a_∧1+aM+a_≤na+nb)) ?_ ?_ ⟨_,na,nb,_,_,rfl,rfl,mi,ha,hb,show 0+na+nb≤na+nb by omega⟩) ?_)
  ·rintro y c ak _ hy ⟨out,aM,a_,ac,bc,rfl,rfl,mi,ha,hb,dE⟩
   have DC:=mi.2.1
   have iU:=mi.2.2
   dsimp only
   refine wpS_bind (aQ (by omega) (wpS_bind (aQ (by omega) (wpS_bind (mR h (ob (a_-1) (by omega)) (oa (aM-1) (by omega)) (cw _) ?_)))))
   dsimp only
   by_cases z:key (b.getD (a_-1) nn)<key (a.getD (aM-1) nn)
   ·rw [decide_eq_true z,if_pos rfl]
    refine wpS_bind (aQ (by omega) ?_)
    have dF:=fW sa sb mi ha fun j hj=>Int.le_trans (cN sb (by omega) (by omega)) (Int.le_of_lt z)
    by_cases z1:(aM-1 == 0)=true
    ·rw [if_pos z1]
     exact wpS_pure ⟨rfl,.inl ⟨_,rfl,dc sa sb dF (.inl (eq_of_beq z1))⟩⟩
    ·rw [if_neg z1]
     have gq:aM-1≠0:=fun e=>z1 (by simp [e])
     exact cj (fun _=>wpS_pure ⟨rfl,.inr ⟨_,_,_,_,_,rfl,dF,by omega,hb,by omega⟩⟩) (fun _=>wpS_pure ⟨_,_,_,_,_,rfl,rfl,dF,by omega,hb,by omega⟩)
   ·rw [decide_eq_false z,if_neg (by simp)]
    refine wpS_bind (aQ (by omega) ?_)
    have dF:=mU sa sb mi (by omega) fun j hj=>Int.le_trans (cN sa (by omega) (by omega)) (Int.not_lt.mp z)
    by_cases z1:(a_-1 == 1)=true
    ·rw [if_pos z1]
     exact wpS_pure ⟨rfl,.inl ⟨_,rfl,fX sa sb dF h0 (eq_of_beq z1)⟩⟩
    ·rw [if_neg z1]
     have gq:a_-1≠1:=fun e=>z1 (by simp [e])
     exact cj (fun _=>wpS_pure ⟨rfl,.inr ⟨_,_,_,_,_,rfl,dF,ha,by omega,by omega⟩⟩) (fun _=>wpS_pure ⟨_,_,_,_,_,rfl,rfl,dF,ha,by omega,by omega⟩)
  ·rintro c ak ⟨out,aM,a_,ac,bc,rfl,rfl,mi,ha,hb,dE⟩
   exact ⟨rfl,.inr ⟨_,_,_,_,_,rfl,mi,ha,hb,by omega⟩⟩
  ·rintro c ak ⟨rfl,⟨m,e,pm⟩ | ⟨out,aM,a_,ac,bc,rfl,mi,ha,hb,dE⟩⟩
   ·obtain ⟨c1,c2⟩:=c
    dsimp only at e
    subst e
    exact wpS_pure ⟨m,g,rfl,rfl,pm⟩
   ·dsimp only
    refine wpS_bind (wpS_lift (wpAny_rule ⟨rfl,?_⟩))
    refine wpS_bind (wpS_mono (wpS_forRange (I:=fun y c ak=>∃(out:Array Keyed) (i j mg ac bc g:Nat),c=(none,i,j,out,mg,ac,bc)∧ak=setG st g∧MH key a b out i j∧1≤i∧2≤j∧x+1+i+j≤a.size+b.size)
     (Q:=fun c ak=>(∃(m:Array Keyed) (g:Nat),c.1=some m∧ak=setG st g∧m.toList.Perm (a.toList++b.toList)∧aJ key m.toList)∨∃(out:Array Keyed) (i j mg ac bc g:Nat),c=(none,i,j,out,mg,ac,bc)∧ak=setG st g∧MH key a b out i j∧1≤i∧2≤j∧x+1+i+j≤a.size+b.size) ?_ ?_ ⟨_,aM,a_,_,_,_,g,rfl,rfl,mi,ha,hb,by omega⟩) ?_)
    ·clear mi ha hb dE
     rintro y c ak _ hy ⟨out,na,nb,mg,ac,bc,g,rfl,rfl,mi,ha,hb,dE⟩
     have DC:=mi.2.1
     have iU:=mi.2.2
     dsimp only
     rcases Nat.lt_or_ge 1 mg with zm | zm
     ·rw [if_pos zm]
      refine wpS_bind (jZ ?_)
      refine wpS_bind (aQ (by omega) (wpS_bind (dS (f:=fun i=>bB false (key (b.getD (nb-1) nn)) (key (a.getD (0+i) nn))) (fun i hi Q q=>dR h (by omega) oa (ob _ (by omega)) (cw _) q) (by omega) (fun i j h1 h2 h3=>o9 sa (o:=0) i j h1 (by omega) h3) fun k k1 k2 k3=>?_)))
      dsimp only
      by_cases zk:na-k>0
      ·rw [if_pos zk]
       have dG:=sE sa sb mi (k:=k) k1 fun i j hi aR hj=>by
        have:=hI (k3 i hi aR)
        rw [Nat.zero_add] at this
        exact Int.le_trans (cN sb (by omega) (by omega)) (Int.le_of_lt this)
       by_cases w1:(k == 0)=true
       ·rw [if_pos w1]
        exact wpS_pure (.inl ⟨_,_,rfl,rfl,dc sa sb dG (.inl (eq_of_beq w1))⟩)
       ·rw [if_neg w1]
        have sD:k≠0:=fun e=>w1 (by simp [e])
        refine wpS_bind (aQ (by have:=dG.2.2;omega) ?_)
        have bf:=mU sa sb dG (by omega) fun j h1=>by have:=fV (k2 j h1);rw [Nat.zero_add] at this;exact this
        by_cases x1:(nb-1 == 1)=true
        ·rw [if_pos x1]
         exact wpS_pure (.inl ⟨_,_,rfl,rfl,fX sa sb bf h0 (eq_of_beq x1)⟩)
        ·rw [if_neg x1]
         have i8:nb-1≠1:=fun e=>x1 (by simp [e])
         have iU:=bf.2.2
         refine wpS_bind (aQ (by omega) (wpS_bind (dS (f:=fun i=>bB true (key (a.getD (k-1) nn)) (key (b.getD (0+i) nn))) (fun i hi Q q=>dR h (by omega) ob (oa _ (by omega)) (cw _) q) (by omega) (fun i j h1 h2 h3=>hJ sb (o:=0) i j h1 (by omega) h3) fun k' q1 q2 q3=>?_)))
         dsimp only
         by_cases b4:nb-1-k'>0
         ·rw [if_pos b4]
          have bO:=mT sa sb bf (k:=k') q1 fun i j hi aR hj=>by
           have:=dU (q3 i hi aR)
           rw [Nat.zero_add] at this
           exact Int.le_trans (cN sa (by omega) (by omega)) this
          by_cases x2:(k' == 1)=true
          ·rw [if_pos x2]
           exact wpS_pure (.inl ⟨_,_,rfl,rfl,fX sa sb bO h0 (eq_of_beq x2)⟩)
          ·rw [if_neg x2]
           have i9:k'≠1:=fun e=>x2 (by simp [e])
           by_cases x3:(k' == 0)=true
           ·rw [if_pos x3]
            exact wpS_pure (.inl ⟨_,_,rfl,rfl,dc sa sb bO (.inr (eq_of_beq x3))⟩)
           ·rw [if_neg x3]
            have sF:k'≠0:=fun e=>x3 (by simp [e])
            refine wpS_bind (aQ (by omega) ?_)
            have aD:=fW sa sb bO (by omega) fun j h1=>by have:=dC (q2 j h1);rw [Nat.zero_add] at this;exact Int.le_of_lt this
            by_cases y1:(k-1 == 0)=true
            ·rw [if_pos y1]
             exact wpS_pure (.inl ⟨_,_,rfl,rfl,dc sa sb aD (.inl (eq_of_beq y1))⟩)
            ·rw [if_neg y1]
             have dH:k-1≠0:=fun e=>y1 (by simp [e])
             exact cj (fun _=>wpS_pure (.inr ⟨_,_,_,_,_,_,_,rfl,rfl,aD,by omega,by omega,by omega⟩)) (fun _=>wpS_pure ⟨_,_,_,_,_,_,_,rfl,rfl,aD,by omega,by omega,by omega⟩)
         ·rw [if_neg b4]
          obtain rfl:k'=nb-1:=by omega
          refine wpS_bind (aQ (by omega) ?_)
          have aD:=fW sa sb bf (by omega) fun j h1=>by have:=dC (q2 j h1);rw [Nat.zero_add] at this;exact Int.le_of_lt this
          by_cases y1:(k-1 == 0)=true
          ·rw [if_pos y1]
           exact wpS_pure (.inl ⟨_,_,rfl,rfl,dc sa sb aD (.inl (eq_of_beq y1))⟩)
          ·rw [if_neg y1]
           have dH:k-1≠0:=fun e=>y1 (by simp [e])
           exact cj (fun _=>wpS_pure (.inr ⟨_,_,_,_,_,_,_,rfl,rfl,aD,by omega,by omega,by omega⟩)) (fun _=>wpS_pure ⟨_,_,_,_,_,_,_,rfl,rfl,aD,by omega,by omega,by omega⟩)
      ·rw [if_neg zk]
       obtain rfl:k=na:=by omega
       refine wpS_bind (aQ (by have:=mi.2.2;omega) ?_)
       have bf:=mU sa sb mi (by omega) fun j h1=>by have:=fV (k2 j h1);rw [Nat.zero_add] at this;exact this
       by_cases x1:(nb-1 == 1)=true
       ·rw [if_pos x1]
        exact wpS_pure (.inl ⟨_,_,rfl,rfl,fX sa sb bf h0 (eq_of_beq x1)⟩)
       ·rw [if_neg x1]
        have i8:nb-1≠1:=fun e=>x1 (by simp [e])
        have iU:=bf.2.2
        refine wpS_bind (aQ (by omega) (wpS_bind (dS (f:=fun i=>bB true (key (a.getD (k-1) nn)) (key (b.getD (0+i) nn))) (fun i hi Q q=>dR h (by omega) ob (oa _ (by omega)) (cw _) q) (by omega) (fun i j h1 h2 h3=>hJ sb (o:=0) i j h1 (by omega) h3) fun k' q1 q2 q3=>?_)))
        dsimp only
        by_cases b4:nb-1-k'>0
        ·rw [if_pos b4]
         have bO:=mT sa sb bf (k:=k') q1 fun i j hi aR hj=>by
          have:=dU (q3 i hi aR)
          rw [Nat.zero_add] at this
          exact Int.le_trans (cN sa (by omega) (by omega)) this
         by_cases x2:(k' == 1)=true
         ·rw [if_pos x2]
          exact wpS_pure (.inl ⟨_,_,rfl,rfl,fX sa sb bO h0 (eq_of_beq x2)⟩)
         ·rw [if_neg x2]
          have i9:k'≠1:=fun e=>x2 (by simp [e])
          by_cases x3:(k' == 0)=true
          ·rw [if_pos x3]
           exact wpS_pure (.inl ⟨_,_,rfl,rfl,dc sa sb bO (.inr (eq_of_beq x3))⟩)
          ·rw [if_neg x3]
           have sF:k'≠0:=fun e=>x3 (by simp [e])
           refine wpS_bind (aQ (by omega) ?_)
           have aD:=fW sa sb bO (by omega) fun j h1=>by have:=dC (q2 j h1);rw [Nat.zero_add] at this;exact Int.le_of_lt this
           by_cases y1:(k-1 == 0)=true
           ·rw [if_pos y1]
            exact wpS_pure (.inl ⟨_,_,rfl,rfl,dc sa sb aD (.inl (eq_of_beq y1))⟩)
           ·rw [if_neg y1]
            have dH:k-1≠0:=fun e=>y1 (by simp [e])
            exact cj (fun _=>wpS_pure (.inr ⟨_,_,_,_,_,_,_,rfl,rfl,aD,by omega,by omega,by omega⟩)) (fun _=>wpS_pure ⟨_,_,_,_,_,_,_,rfl,rfl,aD,by omega,by omega,by omega⟩)
        ·rw [if_neg b4]
         obtain rfl:k'=nb-1:=by omega
         refine wpS_bind (aQ (by omega) ?_)
         have aD:=fW sa sb bf (by omega) fun j h1=>by have:=dC (q2 j h1);rw [Nat.zero_add] at this;exact Int.le_of_lt this
         by_cases y1:(k-1 == 0)=true
         ·rw [if_pos y1]
          exact wpS_pure (.inl ⟨_,_,rfl,rfl,dc sa sb aD (.inl (eq_of_beq y1))⟩)
         ·rw [if_neg y1]
          have dH:k-1≠0:=fun e=>y1 (by simp [e])
          exact cj (fun _=>wpS_pure (.inr ⟨_,_,_,_,_,_,_,rfl,rfl,aD,by omega,by omega,by omega⟩)) (fun _=>wpS_pure ⟨_,_,_,_,_,_,_,rfl,rfl,aD,by omega,by omega,by omega⟩)
     ·rw [if_neg (by omega)]
      refine wpS_bind (jZ ?_)
      refine wpS_bind (aQ (by omega) (wpS_bind (dS (f:=fun i=>bB false (key (b.getD (nb-1) nn)) (key (a.getD (0+i) nn))) (fun i hi Q q=>dR h (by omega) oa (ob _ (by omega)) (cw _) q) (by omega) (fun i j h1 h2 h3=>o9 sa (o:=0) i j h1 (by omega) h3) fun k k1 k2 k3=>?_)))
      dsimp only
      by_cases zk:na-k>0
      ·rw [if_pos zk]
       have dG:=sE sa sb mi (k:=k) k1 fun i j hi aR hj=>by
        have:=hI (k3 i hi aR)
        rw [Nat.zero_add] at this
        exact Int.le_trans (cN sb (by omega) (by omega)) (Int.le_of_lt this)
       by_cases w1:(k == 0)=true
       ·rw [if_pos w1]
        exact wpS_pure (.inl ⟨_,_,rfl,rfl,dc sa sb dG (.inl (eq_of_beq w1))⟩)
       ·rw [if_neg w1]
        have sD:k≠0:=fun e=>w1 (by simp [e])
        refine wpS_bind (aQ (by have:=dG.2.2;omega) ?_)
        have bf:=mU sa sb dG (by omega) fun j h1=>by have:=fV (k2 j h1);rw [Nat.zero_add] at this;exact this
        by_cases x1:(nb-1 == 1)=true
        ·rw [if_pos x1]
         exact wpS_pure (.inl ⟨_,_,rfl,rfl,fX sa sb bf h0 (eq_of_beq x1)⟩)
        ·rw [if_neg x1]
         have i8:nb-1≠1:=fun e=>x1 (by simp [e])
         have iU:=bf.2.2
         refine wpS_bind (aQ (by omega) (wpS_bind (dS (f:=fun i=>bB true (key (a.getD (k-1) nn)) (key (b.getD (0+i) nn))) (fun i hi Q q=>dR h (by omega) ob (oa _ (by omega)) (cw _) q) (by omega) (fun i j h1 h2 h3=>hJ sb (o:=0) i j h1 (by omega) h3) fun k' q1 q2 q3=>?_)))
         dsimp only
         by_cases b4:nb-1-k'>0
         ·rw [if_pos b4]
          have bO:=mT sa sb bf (k:=k') q1 fun i j hi aR hj=>by
           have:=dU (q3 i hi aR)
           rw [Nat.zero_add] at this
           exact Int.le_trans (cN sa (by omega) (by omega)) this
          by_cases x2:(k' == 1)=true
          ·rw [if_pos x2]
           exact wpS_pure (.inl ⟨_,_,rfl,rfl,fX sa sb bO h0 (eq_of_beq x2)⟩)
          ·rw [if_neg x2]
           have i9:k'≠1:=fun e=>x2 (by simp [e])
           by_cases x3:(k' == 0)=true
           ·rw [if_pos x3]
            exact wpS_pure (.inl ⟨_,_,rfl,rfl,dc sa sb bO (.inr (eq_of_beq x3))⟩)
           ·rw [if_neg x3]
            have sF:k'≠0:=fun e=>x3 (by simp [e])
            refine wpS_bind (aQ (by omega) ?_)
            have aD:=fW sa sb bO (by omega) fun j h1=>by have:=dC (q2 j h1);rw [Nat.zero_add] at this;exact Int.le_of_lt this
            by_cases y1:(k-1 == 0)=true
            ·rw [if_pos y1]
             exact wpS_pure (.inl ⟨_,_,rfl,rfl,dc sa sb aD (.inl (eq_of_beq y1))⟩)
            ·rw [if_neg y1]
             have dH:k-1≠0:=fun e=>y1 (by simp [e])
             exact cj (fun _=>wpS_pure (.inr ⟨_,_,_,_,_,_,_,rfl,rfl,aD,by omega,by omega,by omega⟩)) (fun _=>wpS_pure ⟨_,_,_,_,_,_,_,rfl,rfl,aD,by omega,by omega,by omega⟩)
         ·rw [if_neg b4]
          obtain rfl:k'=nb-1:=by omega
          refine wpS_bind (aQ (by omega) ?_)
          have aD:=fW sa sb bf (by omega) fun j h1=>by have:=dC (q2 j h1);rw [Nat.zero_add] at this;exact Int.le_of_lt this
          by_cases y1:(k-1 == 0)=true
          ·rw [if_pos y1]
           exact wpS_pure (.inl ⟨_,_,rfl,rfl,dc sa sb aD (.inl (eq_of_beq y1))⟩)
          ·rw [if_neg y1]
           have dH:k-1≠0:=fun e=>y1 (by simp [e])
           exact cj (fun _=>wpS_pure (.inr ⟨_,_,_,_,_,_,_,rfl,rfl,aD,by omega,by omega,by omega⟩)) (fun _=>wpS_pure ⟨_,_,_,_,_,_,_,rfl,rfl,aD,by omega,by omega,by omega⟩)
      ·rw [if_neg zk]
       obtain rfl:k=na:=by omega
       refine wpS_bind (aQ (by have:=mi.2.2;omega) ?_)
       have bf:=mU sa sb mi (by omega) fun j h1=>by have:=fV (k2 j h1);rw [Nat.zero_add] at this;exact this
       by_cases x1:(nb-1 == 1)=true
       ·rw [if_pos x1]
        exact wpS_pure (.inl ⟨_,_,rfl,rfl,fX sa sb bf h0 (eq_of_beq x1)⟩)
       ·rw [if_neg x1]
        have i8:nb-1≠1:=fun e=>x1 (by simp [e])
        have iU:=bf.2.2
        refine wpS_bind (aQ (by omega) (wpS_bind (dS (f:=fun i=>bB true (key (a.getD (k-1) nn)) (key (b.getD (0+i) nn))) (fun i hi Q q=>dR h (by omega) ob (oa _ (by omega)) (cw _) q) (by omega) (fun i j h1 h2 h3=>hJ sb (o:=0) i j h1 (by omega) h3) fun k' q1 q2 q3=>?_)))
        dsimp only
        by_cases b4:nb-1-k'>0
        ·rw [if_pos b4]
         have bO:=mT sa sb bf (k:=k') q1 fun i j hi aR hj=>by
          have:=dU (q3 i hi aR)
          rw [Nat.zero_add] at this
          exact Int.le_trans (cN sa (by omega) (by omega)) this
         by_cases x2:(k' == 1)=true
         ·rw [if_pos x2]
          exact wpS_pure (.inl ⟨_,_,rfl,rfl,fX sa sb bO h0 (eq_of_beq x2)⟩)
         ·rw [if_neg x2]
          have i9:k'≠1:=fun e=>x2 (by simp [e])
          by_cases x3:(k' == 0)=true
          ·rw [if_pos x3]
           exact wpS_pure (.inl ⟨_,_,rfl,rfl,dc sa sb bO (.inr (eq_of_beq x3))⟩)
          ·rw [if_neg x3]
           have sF:k'≠0:=fun e=>x3 (by simp [e])
           refine wpS_bind (aQ (by omega) ?_)
           have aD:=fW sa sb bO (by omega) fun j h1=>by have:=dC (q2 j h1);rw [Nat.zero_add] at this;exact Int.le_of_lt this
           by_cases y1:(k-1 == 0)=true
           ·rw [if_pos y1]
            exact wpS_pure (.inl ⟨_,_,rfl,rfl,dc sa sb aD (.inl (eq_of_beq y1))⟩)
           ·rw [if_neg y1]
            have dH:k-1≠0:=fun e=>y1 (by simp [e])
            exact cj (fun _=>wpS_pure (.inr ⟨_,_,_,_,_,_,_,rfl,rfl,aD,by omega,by omega,by omega⟩)) (fun _=>wpS_pure ⟨_,_,_,_,_,_,_,rfl,rfl,aD,by omega,by omega,by omega⟩)
        ·rw [if_neg b4]
         obtain rfl:k'=nb-1:=by omega
         refine wpS_bind (aQ (by omega) ?_)
         have aD:=fW sa sb bf (by omega) fun j h1=>by have:=dC (q2 j h1);rw [Nat.zero_add] at this;exact Int.le_of_lt this
         by_cases y1:(k-1 == 0)=true
         ·rw [if_pos y1]
          exact wpS_pure (.inl ⟨_,_,rfl,rfl,dc sa sb aD (.inl (eq_of_beq y1))⟩)
         ·rw [if_neg y1]
          have dH:k-1≠0:=fun e=>y1 (by simp [e])
          exact cj (fun _=>wpS_pure (.inr ⟨_,_,_,_,_,_,_,rfl,rfl,aD,by omega,by omega,by omega⟩)) (fun _=>wpS_pure ⟨_,_,_,_,_,_,_,rfl,rfl,aD,by omega,by omega,by omega⟩)
    ·rintro c ak ⟨out,i,j,mg,ac,bc,g,rfl,rfl,mi,ha,hb,dE⟩
     exact .inr ⟨_,_,_,_,_,_,_,rfl,rfl,mi,ha,hb,dE⟩
    ·rintro c ak (⟨m,g,e,rfl,pm⟩ | ⟨out,i,j,mg,ac,bc,g,rfl,rfl,mi,ha,hb,dE⟩)
     ·obtain ⟨c1,c2⟩:=c
      dsimp only at e
      subst e
      exact wpS_pure ⟨m,g,rfl,rfl,pm⟩
     ·dsimp only
      exact wpS_bind (jZ (wpS_pure ⟨_,_,_,_,_,rfl,rfl,mi,ha,hb,by omega⟩))
 ·rintro c ak ⟨out,ia,ib,mg,g,rfl,rfl,mi,ha,hb,sC⟩
  exfalso
  omega
 ·rintro c ak ⟨m,g,e,rfl,pm,sm⟩
  obtain ⟨c1,c2⟩:=c
  dsimp only at e
  subst e
  exact wpS_pure (q m g pm sm)
end
section
variable {prog:Program} {w:World} {A:Around} {E:Value→Shared→Prop} {s:Shared} {κ:SortKind} {key:Keyed→Int} {Ok:Keyed→Prop}
def vA(key:Keyed→Int)(arr:Array Keyed)(i:Nat):Int:=key (arr.getD i nn)
def bx(key:Keyed→Int)(arr:Array Keyed)(lo hi:Nat):Prop:=∀i j,lo≤i→i≤j→j<hi→vA key arr i≤vA key arr j
def eW(key:Keyed→Int)(arr:Array Keyed)(lo hi:Nat):Prop:=∀i j,lo≤i→i≤j→j<hi→vA key arr j≤vA key arr i
structure Rl (arr aB:Array Keyed) (lo hi:Nat):Prop where
 pm:aB.Perm arr
 out:∀k,k<lo∨hi≤k→aB[k]?=arr[k]?
theorem Rl.refl(arr:Array Keyed)(lo hi:Nat):Rl arr arr lo hi:=⟨Array.Perm.refl _,fun _ _=>rfl⟩
theorem Rl.trans{arr aB au:Array Keyed}{lo hi:Nat}(h:Rl arr aB lo hi)(h':Rl aB au lo hi):Rl arr au lo hi:=⟨h'.pm.trans h.pm,fun k hk=>(h'.out k hk).trans (h.out k hk)⟩
theorem Rl.size{arr aB:Array Keyed}{lo hi:Nat}(h:Rl arr aB lo hi):aB.size=arr.size:=h.pm.size_eq
theorem Rl.wide{arr aB:Array Keyed}{lo hi xq aR:Nat}(h:Rl arr aB lo hi)(h1:xq≤lo)(h2:hi≤aR):Rl arr aB xq aR:=⟨h.pm,fun k hk=>h.out k (by omega)⟩
theorem fz(arr:Array Keyed)(i:Nat):arr.getD i nn=arr[i]?.getD nn:=by
 by_cases z:i<arr.size <;> simp [Array.getD,z]
theorem Rl.v{arr aB:Array Keyed}{lo hi:Nat}(h:Rl arr aB lo hi){k:Nat}(hk:k<lo∨hi≤k):vA key aB k=vA key arr k:=by
 unfold vA
 rw [fz,fz,h.out k hk]
theorem j7{arr aB:Array Keyed}(h:cH Ok arr)(p:aB.Perm arr):cH Ok aB:=fun i hi=>by
 have e:aB.getD i nn=aB[i]:=by simp [Array.getD,hi]
 rw [e]
 have m:aB[i]∈arr:=(Array.Perm.mem_iff p).mp (Array.getElem_mem hi)
 obtain ⟨j,hj,ej⟩:=Array.getElem_of_mem m
 rw [←ej]
 have:=h j hj
 simpa [Array.getD,hj] using this
theorem Rl.ok{arr aB:Array Keyed}{lo hi:Nat}(h:Rl arr aB lo hi)(ok:cH Ok arr):cH Ok aB:=j7 ok h.pm
theorem fA{arr:Array Keyed}{i j:Nat}(hj:j≤arr.size):Rl arr (mirror arr i j ((j-i) / 2)) i j:=⟨mirror_perm ..,fun k hk=>by rw [getElem?_mirror_all hj,if_neg (by omega)]⟩
theorem ph{arr:Array Keyed}{i j:Nat}(hj:j≤arr.size){k:Nat}(h1:i≤k)(h2:k<j):vA key (mirror arr i j ((j-i) / 2)) k=vA key arr (i+j-1-k):=by
 unfold vA
 rw [fz,fz,getElem?_mirror_all hj,if_pos ⟨h1,h2⟩]
abbrev aH (κ:SortKind) (arr:Array Keyed) (pend:Array (Nat×Nat×Nat)) (g:Nat):SortSt:=SortSt.mk' κ arr pend g none
variable {arr:Array Keyed} {pend:Array (Nat×Nat×Nat)} {g:Nat}
theorem fB(h:eR prog w A s κ key Ok)(ok:cH Ok arr){i j:Nat}(hi:i<arr.size)(hj:j<arr.size){Q:Option Bool→SortSt→Prop}(q:Q (some (decide (vA key arr i<vA key arr j))) (aH κ arr pend g)):wpS (model prog w) A E s (ltAt' i j) Q (aH κ arr pend g):=by
 rw [ltAt'_eq]
 refine wpS_bind (wpS_get ?_)
 exact wpS_bind (aQ hi (wpS_bind (aQ hj (mR h (ok _ hi) (ok _ hj) rfl q))))
theorem gu{i j:Nat}{Q:Unit→SortSt→Prop}(q:Q () (aH κ (mirror arr i j ((j-i) / 2)) pend g)):wpS (model prog w) A E s (reverseSlice' i j) Q (aH κ arr pend g):=by
 rw [reverseSlice'_eq]
 exact wpS_modify q
theorem bx.more{lo n:Nat}(h:bx key arr lo (lo+n))(n1:1≤n)(c:vA key arr (lo+n-1)≤vA key arr (lo+n)):bx key arr lo (lo+(n+1)):=fun i j h1 h2 h3=>by
 by_cases z:j<lo+n
 ·exact h i j h1 h2 z
 ·obtain rfl:j=lo+n:=by omega
  by_cases y:i=lo+n
  ·rw [y];exact Int.le_refl _
  ·exact Int.le_trans (h i (lo+n-1) h1 (by omega) (by omega)) c
theorem eW.more{lo n:Nat}(h:eW key arr lo (lo+n))(n1:1≤n)(c:vA key arr (lo+n)≤vA key arr (lo+n-1)):eW key arr lo (lo+(n+1)):=fun i j h1 h2 h3=>by
 by_cases z:j<lo+n
 ·exact h i j h1 h2 z
 ·obtain rfl:j=lo+n:=by omega
  by_cases y:i=lo+n
  ·rw [y];exact Int.le_refl _
  ·exact Int.le_trans c (h i (lo+n-1) h1 (by omega) (by omega))
def mV(key:Keyed→Int)(arr:Array Keyed)(lo n q:Nat):Prop:=q+1≤n∧∀i,lo+n-(q+1)≤i→i<lo+n→vA key arr i=vA key arr (lo+n-1)
theorem pj{lo n q:Nat}(hz:lo+n≤arr.size)(d:eW key arr lo (lo+n))(e:mV key arr lo n q):eW key (mirror arr (lo+n-(q+1)) (lo+n) ((lo+n-(lo+n-(q+1))) / 2)) lo (lo+n)∧∀k,vA key (mirror arr (lo+n-(q+1)) (lo+n) ((lo+n-(lo+n-(q+1))) / 2)) k=vA key arr k:=by
 have hv:∀k,vA key (mirror arr (lo+n-(q+1)) (lo+n) ((lo+n-(lo+n-(q+1))) / 2)) k=vA key arr k:=fun k=>by
  by_cases z:lo+n-(q+1)≤k∧k<lo+n
  ·rw [ph hz z.1 z.2,e.2 _ (by have:=e.1;omega) (by omega),e.2 k z.1 z.2]
  ·exact (fA hz).v (by omega)
 refine ⟨fun i j h1 h2 h3=>?_,hv⟩
 rw [hv,hv]
 exact d i j h1 h2 h3
theorem pA{lo n:Nat}(hz:lo+n≤arr.size)(d:eW key arr lo (lo+n)):bx key (mirror arr lo (lo+n) ((lo+n-lo) / 2)) lo (lo+n):=fun i j h1 h2 h3=>by
 rw [ph hz h1 (by omega),ph hz (by omega) h3]
 exact d _ _ (by omega) (by omega) (by omega)
end
section
variable {prog:Program} {w:World} {A:Around} {E:Value→Shared→Prop} {s:Shared} {κ:SortKind} {key:Keyed→Int} {Ok:Keyed→Prop} {arr:Array Keyed} {pend:Array (Nat×Nat×Nat)} {g:Nat}
theorem mW(h:eR prog w A s κ key Ok)(ok:cH Ok arr){lo m bg:Nat}(hz:lo+bg≤arr.size)(m1:1≤m)(mn:m≤bg)(sg:bx key arr lo (lo+m)){body:Nat→Option (Option Nat)×Nat→StateT SortSt Sem (ForInStep (Option (Option Nat)×Nat))}{R:Option (Option Nat)×Nat→SortSt→Prop}
  (hb:∀x n (R:ForInStep (Option (Option Nat)×Nat)→SortSt→Prop),1≤n→n<bg→R (if vA key arr (lo+n)<vA key arr (lo+n-1) then .done (none,n) else .yield (none,n+1)) (aH κ arr pend g)→wpS (model prog w) A E s (body x (none,n)) R (aH κ arr pend g))
  (k:∀n,m≤n→n≤bg→bx key arr lo (lo+n)→(n<bg→vA key arr (lo+n)<vA key arr (lo+n-1))→R (none,n) (aH κ arr pend g)) :
  wpS (model prog w) A E s (forIn [m:bg] (none,m) body) R (aH κ arr pend g):=by
 refine wpS_forRange (I:=fun x c ak=>ak=aH κ arr pend g∧c=(none,x)∧m≤x∧x≤bg∧bx key arr lo (lo+x)) ?_ ?_ ⟨rfl,rfl,Nat.le_refl _,mn,sg⟩
 ·rintro x c ak _ hx ⟨rfl,rfl,g1,g2,g3⟩
  refine hb x x _ (by omega) hx ?_
  by_cases z:vA key arr (lo+x)<vA key arr (lo+x-1)
  ·rw [if_pos z]
   exact k x g1 g2 g3 fun _=>z
  ·rw [if_neg z]
   exact ⟨rfl,rfl,by omega,by omega,g3.more (by omega) (Int.not_lt.mp z)⟩
 ·rintro c ak ⟨rfl,rfl,g1,g2,g3⟩
  have e:max m bg=bg:=by omega
  rw [e] at g3 ⊢
  exact k bg mn (Nat.le_refl _) g3 fun z=>absurd z (Nat.lt_irrefl _)
theorem DD(h:eR prog w A s κ key Ok)(ok:cH Ok arr){lo bg:Nat}(hz:lo+bg≤arr.size)(n1:1≤bg){Q:Option Nat→SortSt→Prop}
  (k:∀n aB,1≤n→n≤bg→Rl arr aB lo (lo+bg)→bx key aB lo (lo+n)→Q (some n) (aH κ aB pend g)):wpS (model prog w) A E s (countRun' lo bg) Q (aH κ arr pend g):=by
 rw [countRun'_eq]
 refine wpS_bind (mW h ok hz (Nat.le_refl 1) n1 (fun i j h1 h2 h3=>by rw [show i=j by omega];exact Int.le_refl _) ?_ fun n m1 mn sg br=>?_)
 ·intro x n R a1 a2 r
  dsimp only
  refine wpS_bind (fB h ok (by omega) (by omega) ?_)
  dsimp only
  by_cases z:vA key arr (lo+n)<vA key arr (lo+n-1)
  ·rw [if_pos z] at r
   rw [decide_eq_true z,if_pos rfl]
   exact wpS_pure r
  ·rw [if_neg z] at r
   rw [decide_eq_false z,if_neg (by simp)]
   exact wpS_pure r
 dsimp only
 by_cases e1:(n == bg)=true
 ·rw [if_pos e1]
  exact wpS_pure (k n arr m1 mn (Rl.refl ..) sg)
 rw [if_neg e1]
 have a8:n<bg:=by
  have:n≠bg:=fun e=>e1 (by simp [e])
  omega
 have xr:=br a8
 by_cases e2:n>1
 ·rw [if_pos e2]
  refine wpS_bind (fB h ok (by omega) (by omega) ?_)
  dsimp only
  by_cases z:vA key arr lo<vA key arr (lo+n-1)
  ·rw [decide_eq_true z,if_pos rfl]
   exact wpS_pure (k n arr m1 mn (Rl.refl ..) sg)
  ·rw [decide_eq_false z,if_neg (by simp)]
   refine wpS_bind (gu ?_)
   have ev:∀i,lo≤i→i<lo+n→vA key arr i=vA key arr (lo+n-1):=fun i h1 h2=>by
    have a1:=sg lo i (Nat.le_refl _) h1 h2
    have a2:=sg i (lo+n-1) h1 (by omega) (by omega)
    omega
   have hv:∀i,vA key (mirror arr lo (lo+n) ((lo+n-lo) / 2)) i=vA key arr i:=fun i=>by
    by_cases y:lo≤i∧i<lo+n
    ·rw [ph (by omega) y.1 y.2,ev _ (by omega) (by omega),ev i y.1 y.2]
    ·exact (fA (by omega)).v (by omega)
   have d1:eW key (mirror arr lo (lo+n) ((lo+n-lo) / 2)) lo (lo+n):=fun i j h1 h2 h3=>by
    rw [hv,hv,ev i h1 (by omega),ev j (by omega) h3]
    exact Int.le_refl _
   have pB:Rl arr (mirror arr lo (lo+n) ((lo+n-lo) / 2)) lo (lo+bg):=(fA (by omega)).wide (Nat.le_refl _) (by omega)
   have xt:vA key (mirror arr lo (lo+n) ((lo+n-lo) / 2)) (lo+n)<vA key (mirror arr lo (lo+n) ((lo+n-lo) / 2)) (lo+n-1):=by
    rw [hv,hv]
    exact xr
   generalize mirror arr lo (lo+n) ((lo+n-lo) / 2)=DE at d1 pB xt ⊢
   refine wpS_bind (wpS_lift (wpAny_rule ⟨rfl,?_⟩))
   refine wpS_bind (wpS_mono (wpS_forRange (I:=fun x c ak=>∃(au:Array Keyed) (q:Nat),ak=aH κ au pend g∧c=(none,x,q)∧Rl arr au lo (lo+bg)∧eW key au lo (lo+x)∧mV key au lo x q∧x≤bg∧1≤x)
    (Q:=fun c ak=>∃(au:Array Keyed) (n q:Nat),ak=aH κ au pend g∧c=(none,n,q)∧Rl arr au lo (lo+bg)∧eW key au lo (lo+n)∧mV key au lo n q∧n≤bg∧1≤n) ?_ ?_ ⟨DE,0,rfl,rfl,pB,d1.more (by omega) (Int.le_of_lt xt),⟨by omega,fun i h1 h2=>by rw [show i=lo+(n+1)-1 by omega]⟩,by omega,by omega⟩) ?_)
   ·rintro x c ak _ hx ⟨au,q,rfl,rfl,bS,d2,e2,x1,x2⟩
    have eX:=bS.ok ok
    have z2:=bS.size
    dsimp only
    refine wpS_bind (fB h eX (by omega) (by omega) ?_)
    dsimp only
    by_cases z:vA key au (lo+x)<vA key au (lo+x-1)
    ·rw [decide_eq_true z,if_pos rfl]
     by_cases y:q>0
     ·rw [if_pos y]
      refine wpS_bind (gu (wpS_pure ?_))
      obtain ⟨d3,hv⟩:=pj (by omega) d2 e2
      refine ⟨_,0,rfl,rfl,bS.trans ((fA (by omega)).wide (by have:=e2.1;omega) (by omega)),d3.more (by omega) (by rw [hv,hv];exact Int.le_of_lt z),⟨by omega,fun i h1 h2=>by rw [show i=lo+(x+1)-1 by omega]⟩,by omega,by omega⟩
     ·rw [if_neg y]
      exact wpS_pure ⟨_,0,rfl,rfl,bS,d2.more (by omega) (Int.le_of_lt z),⟨by omega,fun i h1 h2=>by rw [show i=lo+(x+1)-1 by omega]⟩,by omega,by omega⟩
    ·rw [decide_eq_false z,if_neg (by simp)]
     refine wpS_bind (fB h eX (by omega) (by omega) ?_)
     dsimp only
     by_cases y:vA key au (lo+x-1)<vA key au (lo+x)
     ·rw [decide_eq_true y,if_pos rfl]
      exact wpS_pure ⟨_,_,_,rfl,rfl,bS,d2,e2,x1,x2⟩
     ·rw [decide_eq_false y,if_neg (by simp)]
      have ev:vA key au (lo+x)=vA key au (lo+x-1):=by omega
      refine wpS_pure ⟨_,_,rfl,rfl,bS,d2.more (by omega) (by omega),⟨by have:=e2.1;omega,fun i h1 h2=>?_⟩,by omega,by omega⟩
      rw [show lo+(x+1)-1=lo+x by omega]
      by_cases w:i=lo+x
      ·rw [w]
      ·rw [ev]
       exact e2.2 i (by omega) (by omega)
   ·rintro c ak ⟨au,q,rfl,rfl,bS,d2,e2,x1,x2⟩
    exact ⟨au,_,q,rfl,rfl,bS,d2,e2,x1,x2⟩
   ·rintro c ak ⟨au,n2,q2,rfl,rfl,bS,d2,e2,x1,x2⟩
    have z2:=bS.size
    dsimp only
    by_cases y:q2>0
    ·rw [if_pos y]
     obtain ⟨d3,hv⟩:=pj (by omega) d2 e2
     refine wpS_bind (gu (wpS_bind (gu ?_)))
     have fD:=bS.trans ((fA (arr:=au) (i:=lo+n2-(q2+1)) (j:=lo+n2) (by omega)).wide (by have:=e2.1;omega) (show lo+n2≤lo+bg by omega))
     generalize mirror au (lo+n2-(q2+1)) (lo+n2) _=bq at d3 fD ⊢
     have z3:=fD.size
     have cS:=pA (by omega) d3
     have aY:=fD.trans ((fA (arr:=bq) (i:=lo) (j:=lo+n2) (by omega)).wide (Nat.le_refl lo) (show lo+n2≤lo+bg by omega))
     generalize mirror bq lo (lo+n2) _=aE at cS aY ⊢
     have fE:=Rl.ok aY ok
     have z4:=Rl.size aY
     refine wpS_bind (mW h fE (by omega) (by omega) (by omega) cS ?_ fun m m1 mn i_ _=>wpS_pure (k m aE (by omega) mn aY i_))
     intro x n R a1 a2 r
     dsimp only
     refine wpS_bind (fB h fE (by omega) (by omega) ?_)
     dsimp only
     by_cases z:vA key aE (lo+n)<vA key aE (lo+n-1)
     ·rw [if_pos z] at r
      rw [decide_eq_true z,if_pos rfl]
      exact wpS_pure r
     ·rw [if_neg z] at r
      rw [decide_eq_false z,if_neg (by simp)]
      exact wpS_pure r
    ·rw [if_neg y]
     refine wpS_bind (gu ?_)
     have cS:=pA (by omega) d2
     have aY:=bS.trans ((fA (arr:=au) (i:=lo) (j:=lo+n2) (by omega)).wide (Nat.le_refl lo) (show lo+n2≤lo+bg by omega))
     generalize mirror au lo (lo+n2) _=aE at cS aY ⊢
     have fE:=Rl.ok aY ok
     have z4:=Rl.size aY
     refine wpS_bind (mW h fE (by omega) (by omega) (by omega) cS ?_ fun m m1 mn i_ _=>wpS_pure (k m aE (by omega) mn aY i_))
     intro x n R a1 a2 r
     dsimp only
     refine wpS_bind (fB h fE (by omega) (by omega) ?_)
     dsimp only
     by_cases z:vA key aE (lo+n)<vA key aE (lo+n-1)
     ·rw [if_pos z] at r
      rw [decide_eq_true z,if_pos rfl]
      exact wpS_pure r
     ·rw [if_neg z] at r
      rw [decide_eq_false z,if_neg (by simp)]
      exact wpS_pure r
 ·rw [if_neg e2]
  have d1:eW key arr lo (lo+n):=fun i j h1 h2 h3=>by
   rw [show i=j by omega]
   exact Int.le_refl _
  have pB:Rl arr arr lo (lo+bg):=Rl.refl ..
  refine wpS_bind (wpS_lift (wpAny_rule ⟨rfl,?_⟩))
  refine wpS_bind (wpS_mono (wpS_forRange (I:=fun x c ak=>∃(au:Array Keyed) (q:Nat),ak=aH κ au pend g∧c=(none,x,q)∧Rl arr au lo (lo+bg)∧eW key au lo (lo+x)∧mV key au lo x q∧x≤bg∧1≤x)
   (Q:=fun c ak=>∃(au:Array Keyed) (n q:Nat),ak=aH κ au pend g∧c=(none,n,q)∧Rl arr au lo (lo+bg)∧eW key au lo (lo+n)∧mV key au lo n q∧n≤bg∧1≤n) ?_ ?_ ⟨arr,0,rfl,rfl,pB,d1.more (by omega) (Int.le_of_lt xr),⟨by omega,fun i h1 h2=>by rw [show i=lo+(n+1)-1 by omega]⟩,by omega,by omega⟩) ?_)
  ·rintro x c ak _ hx ⟨au,q,rfl,rfl,bS,d2,e2,x1,x2⟩
   have eX:=bS.ok ok
   have z2:=bS.size
   dsimp only
   refine wpS_bind (fB h eX (by omega) (by omega) ?_)
   dsimp only
   by_cases z:vA key au (lo+x)<vA key au (lo+x-1)
   ·rw [decide_eq_true z,if_pos rfl]
    by_cases y:q>0
    ·rw [if_pos y]
     refine wpS_bind (gu (wpS_pure ?_))
     obtain ⟨d3,hv⟩:=pj (by omega) d2 e2
     refine ⟨_,0,rfl,rfl,bS.trans ((fA (by omega)).wide (by have:=e2.1;omega) (by omega)),d3.more (by omega) (by rw [hv,hv];exact Int.le_of_lt z),⟨by omega,fun i h1 h2=>by rw [show i=lo+(x+1)-1 by omega]⟩,by omega,by omega⟩
    ·rw [if_neg y]
     exact wpS_pure ⟨_,0,rfl,rfl,bS,d2.more (by omega) (Int.le_of_lt z),⟨by omega,fun i h1 h2=>by rw [show i=lo+(x+1)-1 by omega]⟩,by omega,by omega⟩
   ·rw [decide_eq_false z,if_neg (by simp)]
    refine wpS_bind (fB h eX (by omega) (by omega) ?_)
    dsimp only
    by_cases y:vA key au (lo+x-1)<vA key au (lo+x)
    ·rw [decide_eq_true y,if_pos rfl]
     exact wpS_pure ⟨_,_,_,rfl,rfl,bS,d2,e2,x1,x2⟩
    ·rw [decide_eq_false y,if_neg (by simp)]
     have ev:vA key au (lo+x)=vA key au (lo+x-1):=by omega
     refine wpS_pure ⟨_,_,rfl,rfl,bS,d2.more (by omega) (by omega),⟨by have:=e2.1;omega,fun i h1 h2=>?_⟩,by omega,by omega⟩
     rw [show lo+(x+1)-1=lo+x by omega]
     by_cases w:i=lo+x
     ·rw [w]
     ·rw [ev]
      exact e2.2 i (by omega) (by omega)
  ·rintro c ak ⟨au,q,rfl,rfl,bS,d2,e2,x1,x2⟩
   exact ⟨au,_,q,rfl,rfl,bS,d2,e2,x1,x2⟩
  ·rintro c ak ⟨au,n2,q2,rfl,rfl,bS,d2,e2,x1,x2⟩
   have z2:=bS.size
   dsimp only
   by_cases y:q2>0
   ·rw [if_pos y]
    obtain ⟨d3,hv⟩:=pj (by omega) d2 e2
    refine wpS_bind (gu (wpS_bind (gu ?_)))
    have fD:=bS.trans ((fA (arr:=au) (i:=lo+n2-(q2+1)) (j:=lo+n2) (by omega)).wide (by have:=e2.1;omega) (show lo+n2≤lo+bg by omega))
    generalize mirror au (lo+n2-(q2+1)) (lo+n2) _=bq at d3 fD ⊢
    have z3:=fD.size
    have cS:=pA (by omega) d3
    have aY:=fD.trans ((fA (arr:=bq) (i:=lo) (j:=lo+n2) (by omega)).wide (Nat.le_refl lo) (show lo+n2≤lo+bg by omega))
    generalize mirror bq lo (lo+n2) _=aE at cS aY ⊢
    have fE:=Rl.ok aY ok
    have z4:=Rl.size aY
    refine wpS_bind (mW h fE (by omega) (by omega) (by omega) cS ?_ fun m m1 mn i_ _=>wpS_pure (k m aE (by omega) mn aY i_))
    intro x n R a1 a2 r
    dsimp only
    refine wpS_bind (fB h fE (by omega) (by omega) ?_)
    dsimp only
    by_cases z:vA key aE (lo+n)<vA key aE (lo+n-1)
    ·rw [if_pos z] at r
     rw [decide_eq_true z,if_pos rfl]
     exact wpS_pure r
    ·rw [if_neg z] at r
     rw [decide_eq_false z,if_neg (by simp)]
     exact wpS_pure r
   ·rw [if_neg y]
    refine wpS_bind (gu ?_)
    have cS:=pA (by omega) d2
    have aY:=bS.trans ((fA (arr:=au) (i:=lo) (j:=lo+n2) (by omega)).wide (Nat.le_refl lo) (show lo+n2≤lo+bg by omega))
    generalize mirror au lo (lo+n2) _=aE at cS aY ⊢
    have fE:=Rl.ok aY ok
    have z4:=Rl.size aY
    refine wpS_bind (mW h fE (by omega) (by omega) (by omega) cS ?_ fun m m1 mn i_ _=>wpS_pure (k m aE (by omega) mn aY i_))
    intro x n R a1 a2 r
    dsimp only
    refine wpS_bind (fB h fE (by omega) (by omega) ?_)
    dsimp only
    by_cases z:vA key aE (lo+n)<vA key aE (lo+n-1)
    ·rw [if_pos z] at r
     rw [decide_eq_true z,if_pos rfl]
     exact wpS_pure r
    ·rw [if_neg z] at r
     rw [decide_eq_false z,if_neg (by simp)]
     exact wpS_pure r
end
section
variable {prog:Program} {w:World} {A:Around} {E:Value→Shared→Prop} {s:Shared} {κ:SortKind} {key:Keyed→Int} {Ok:Keyed→Prop} {arr:Array Keyed} {pend:Array (Nat×Nat×Nat)} {g:Nat}
theorem DF{i j:Nat}{Q:Unit→SortSt→Prop}(q:Q () (aH κ (bubble arr i (i-j)) pend g)):wpS (model prog w) A E s (moveDown' i j) Q (aH κ arr pend g):=by
 rw [moveDown'_eq]
 exact wpS_modify q
theorem xu{i d k:Nat}(hi:i<arr.size)(hd:d≤i):vA key (bubble arr i d) k=if k=i-d then vA key arr i else if i-d<k∧k≤i then vA key arr (k-1) else vA key arr k:=by
 unfold vA
 rw [fz,getElem?_bubble hi d hd,fz arr i,fz arr (k-1),fz arr k]
 by_cases a:k=i-d
 ·rw [if_pos a,if_pos a]
 ·rw [if_neg a,if_neg a]
  by_cases b:i-d<k∧k≤i
  ·rw [if_pos b,if_pos b]
  ·rw [if_neg b,if_neg b]
theorem DG{i d lo hi:Nat}(h:i<arr.size)(hd:d≤i)(h1:lo≤i-d)(h2:i<hi):Rl arr (bubble arr i d) lo hi:=⟨bubble_perm ..,fun k hk=>by
 rw [getElem?_bubble h d hd,if_neg (by omega),if_neg (by omega)]⟩
theorem DH(h:eR prog w A s κ key Ok)(ok:cH Ok arr){lo n m:Nat}(hz:lo+n≤arr.size)(m1:1≤m)(mn:m≤n)(sg:bx key arr lo (lo+m)){Q:Bool→SortSt→Prop}
  (k:∀aB,Rl arr aB lo (lo+n)→bx key aB lo (lo+n)→Q true (aH κ aB pend g)):wpS (model prog w) A E s (binarySort' lo n m) Q (aH κ arr pend g):=by
 rw [binarySort'_eq]
 have em:max m 1=m:=by omega
 rw [em]
 refine wpS_bind (wpS_mono (wpS_forRange (I:=fun x c ak=>∃au:Array Keyed,ak=aH κ au pend g∧c=(none,())∧Rl arr au lo (lo+n)∧bx key au lo (lo+x)∧m≤x∧x≤n)
  (Q:=fun c ak=>∃au:Array Keyed,ak=aH κ au pend g∧c=(none,())∧Rl arr au lo (lo+n)∧bx key au lo (lo+n)) ?_ ?_ ⟨arr,rfl,rfl,Rl.refl ..,sg,Nat.le_refl _,mn⟩) ?_)
 ·rintro x c ak _ hx ⟨au,rfl,rfl,rl,sg,x1,x2⟩
  have eX:=rl.ok ok
  have z2:=rl.size
  dsimp only
  refine wpS_bind (wpS_mono (wpS_forRange (I:=fun y c ak=>∃l r:Nat,ak=aH κ au pend g∧c=(none,l,r)∧l≤r∧r≤x∧r-l+y≤x∧(∀i,i<l→vA key au (lo+i)≤vA key au (lo+x))∧(∀i,r≤i→i<x→vA key au (lo+x)≤vA key au (lo+i)))
   (Q:=fun c ak=>∃l:Nat,ak=aH κ au pend g∧c=(none,l,l)∧l≤x∧(∀i,i<l→vA key au (lo+i)≤vA key au (lo+x))∧(∀i,l≤i→i<x→vA key au (lo+x)≤vA key au (lo+i))) ?_ ?_ ⟨0,x,rfl,rfl,by omega,Nat.le_refl _,show x-0+0≤x by omega,fun i hi=>absurd hi (Nat.not_lt_zero _),fun i h1 h2=>by omega⟩) ?_)
  ·rintro y c ak _ hy ⟨l,r,rfl,rfl,g1,g2,g3,g4,g5⟩
   dsimp only
   by_cases z:l≥r
   ·rw [if_pos z]
    obtain rfl:l=r:=by omega
    exact wpS_pure ⟨l,rfl,rfl,g2,g4,g5⟩
   ·rw [if_neg z]
    refine wpS_bind (fB h eX (by omega) (by omega) ?_)
    dsimp only
    by_cases w:vA key au (lo+x)<vA key au (lo+(l+r) / 2)
    ·rw [decide_eq_true w,if_pos rfl]
     exact wpS_pure ⟨l,_,rfl,rfl,by omega,by omega,by omega,g4,fun i h1 h2=>Int.le_trans (Int.le_of_lt w) (sg _ _ (by omega) (by omega) (by omega))⟩
    ·rw [decide_eq_false w,if_neg (by simp)]
     exact wpS_pure ⟨_,r,rfl,rfl,by omega,g2,by omega,fun i h1=>Int.le_trans (sg _ _ (by omega) (by omega) (by omega)) (Int.not_lt.mp w),g5⟩
  ·rintro c ak ⟨l,r,rfl,rfl,g1,g2,g3,g4,g5⟩
   have:max 0 x=x:=by omega
   obtain rfl:l=r:=by omega
   exact ⟨l,rfl,rfl,g2,g4,g5⟩
  ·rintro c ak ⟨l,rfl,rfl,g2,g4,g5⟩
   dsimp only
   refine wpS_bind (DF (wpS_pure ?_))
   have ed:lo+x-(lo+l)=x-l:=by omega
   rw [ed]
   refine ⟨_,rfl,rfl,rl.trans (DG (by omega) (by omega) (by omega) (by omega)),fun i j h1 h2 h3=>?_,by omega,by omega⟩
   have e0:lo+x-(x-l)=lo+l:=by omega
   rw [xu (by omega) (by omega),xu (by omega) (by omega),e0]
   have f4:∀i,lo≤i→i<lo+l→vA key au i≤vA key au (lo+x):=fun i a b=>by have:=g4 (i-lo) (by omega);rwa [show lo+(i-lo)=i by omega] at this
   have f5:∀i,lo+l≤i→i<lo+x→vA key au (lo+x)≤vA key au i:=fun i a b=>by have:=g5 (i-lo) (by omega) (by omega);rwa [show lo+(i-lo)=i by omega] at this
   by_cases a1:i=lo+l
   ·rw [if_pos a1]
    by_cases b1:j=lo+l
    ·rw [if_pos b1];exact Int.le_refl _
    ·rw [if_neg b1,if_pos (by omega)]
     exact f5 _ (by omega) (by omega)
   ·rw [if_neg a1]
    by_cases a2:lo+l<i∧i≤lo+x
    ·rw [if_pos a2,if_neg (by omega),if_pos (by omega)]
     exact sg _ _ (by omega) (by omega) (by omega)
    ·rw [if_neg a2]
     by_cases b1:j=lo+l
     ·rw [if_pos b1]
      exact f4 i h1 (by omega)
     ·rw [if_neg b1]
      by_cases b2:lo+l<j∧j≤lo+x
      ·rw [if_pos b2]
       exact Int.le_trans (f4 i h1 (by omega)) (f5 _ (by omega) (by omega))
      ·rw [if_neg b2]
       exact sg _ _ (by omega) (by omega) (by omega)
 ·rintro c ak ⟨au,rfl,rfl,rl,sg,x1,x2⟩
  have:max m n=n:=by omega
  rw [this] at sg
  exact ⟨au,rfl,rfl,rl,sg⟩
 ·rintro c ak ⟨au,rfl,rfl,rl,sg⟩
  exact wpS_pure (k au rl sg)
end
theorem DI(i:Nat):mergeAt' i=(do
 let s ←get
 let (some (sa,na,power),some (sb,nb,_)):=((pendingOf s)[i]?,(pendingOf s)[i+1]?) | unsupported "internal:list.sort.pending"
 set (setPending s (((pendingOf s).setIfInBounds i (sa,na+nb,power)).eraseIdxIfInBounds (i+1)))
 let some k ←hG false (←elem' (arrOf s) sb) (arrOf s) sa na 0 | return false
 let (sa,na):=(sa+k,na-k)
 if na == 0 then return true
 let some nb ←hG true (←elem' (arrOf s) (sa+na-1)) (arrOf s) sb nb (nb-1) | return false
 if nb == 0 then return true
 let x:=(arrOf s).extract sa sb
 let y:=(arrOf s).extract sb (sb+nb)
 let merged ←if na≤nb then si x y else sj x y
 modify fun s=>setArr s (merged.toList.zipIdx.foldl (fun a (p,j)=>a.setIfInBounds (sa+j) p) (arrOf s))
 return (failedOf (←get)).isNone):=rfl
def putL(m:List Keyed)(o:Nat)(arr:Array Keyed)(n:Nat):Array Keyed:=(m.zipIdx n).foldl (fun a (p,j)=>a.setIfInBounds (o+j) p) arr
theorem xv(m:List Keyed)(o:Nat):∀(arr:Array Keyed) (n k:Nat),o+n+m.length≤arr.size→(putL m o arr n)[k]?=if o+n≤k∧k<o+n+m.length then m[k-(o+n)]? else arr[k]?:=by
 induction m with
 | nil=>
  intro arr n k _
  rw [if_neg (by simp)]
  rfl
 | cons x m ih=>
  intro arr n k hz
  rw [List.length_cons] at hz ⊢
  show (putL m o (arr.setIfInBounds (o+n) x) (n+1))[k]?=_
  rw [ih _ _ _ (by simp;omega)]
  by_cases a:o+(n+1)≤k∧k<o+(n+1)+m.length
  ·rw [if_pos a,if_pos (by omega),show k-(o+n)=(k-(o+(n+1)))+1 by omega]
   rfl
  ·rw [if_neg a]
   by_cases b:k=o+n
   ·subst b
    rw [if_pos (by omega),Nat.sub_self]
    simp [show o+n<arr.size by omega]
   ·rw [if_neg (by omega)]
    rw [Array.getElem?_setIfInBounds_ne (by omega)]
theorem DJ{m:List Keyed}{o:Nat}{arr:Array Keyed}(hz:o+m.length≤arr.size):(putL m o arr 0).toList=arr.toList.take o++m++arr.toList.drop (o+m.length):=by
 refine List.ext_getElem? fun k=>?_
 have e:(putL m o arr 0).toList[k]?=(putL m o arr 0)[k]?:=by simp
 rw [e,xv m o arr 0 k (by omega),Nat.add_zero]
 by_cases a:k<o
 ·rw [if_neg (by omega),List.append_assoc,List.getElem?_append_left (by simp;omega),List.getElem?_take_of_lt a]
  simp
 ·by_cases b:k<o+m.length
  ·rw [if_pos (by omega),List.append_assoc,List.getElem?_append_right (by simp;omega),List.getElem?_append_left (by simp;omega)]
   congr 1
   simp
   omega
  ·rw [if_neg (by omega),List.getElem?_append_right (by simp;omega),List.getElem?_drop]
   have:o+m.length+(k-(arr.toList.take o++m).length)=k:=by simp;omega
   rw [this]
   simp
section
variable {prog:Program} {w:World} {A:Around} {E:Value→Shared→Prop} {s:Shared} {κ:SortKind} {key:Keyed→Int} {Ok:Keyed→Prop} {arr:Array Keyed} {pend:Array (Nat×Nat×Nat)} {g:Nat}
theorem xw{lo hi:Nat}(h:bx key arr lo hi)(hz:hi≤arr.size):aJ key (arr.extract lo hi).toList:=by
 unfold aJ
 rw [List.pairwise_iff_getElem]
 intro i j aR hj su
 have h1:i<hi-lo∧j<hi-lo:=by
  simp at aR hj
  omega
 have:=h (lo+i) (lo+j) (by omega) (by omega) (by omega)
 unfold vA at this
 simpa [Array.getD,show lo+i<arr.size by omega,show lo+j<arr.size by omega] using this
theorem sG{lo hi i:Nat}(hz:hi≤arr.size)(aR:lo+i<hi):(arr.extract lo hi).getD i nn=arr.getD (lo+i) nn:=by
 simp [Array.getD,show lo+i<arr.size by omega,show i<min hi arr.size-lo by omega]
theorem xx(ok:cH Ok arr){lo hi:Nat}(hz:hi≤arr.size):cH Ok (arr.extract lo hi):=fun i aR=>by
 have:lo+i<hi:=by simp at aR;omega
 rw [sG hz this]
 exact ok _ (by omega)
theorem ext_mem{lo hi:Nat}(hz:hi≤arr.size){x:Keyed}(hx:x∈(arr.extract lo hi).toList):∃j,lo≤j∧j<hi∧x=arr.getD j nn:=gs hz hx
theorem DK{σ:Type}{st ak:σ}{Q:PUnit→σ→Prop}{M:Model}(q:Q ⟨⟩ ak):wpS M A E s (set ak:StateT σ Sem PUnit) Q st:=by
 unfold wpS
 rw [StateT.run_set]
 exact wpAny_pure ⟨rfl,q⟩
theorem DL{sa sb aM a_ na nb:Nat}{m:Array Keyed}(hz:sb+nb≤arr.size)(h0:sa+na=sb)(hk:aM≤na)(hb:a_≤nb)(pm:m.toList.Perm ((arr.extract (sa+aM) sb).toList++(arr.extract sb (sb+a_)).toList))(sm:aJ key m.toList)
  (s1:bx key arr sa sb) (s2:bx key arr sb (sb+nb)) (DM:aM<na) (xy:1≤nb)
  (c1:∀i,i<aM→vA key arr (sa+i)≤vA key arr sb) (c2:∀i,a_≤i→i<nb→vA key arr (sb-1)≤vA key arr (sb+i)) :
  Rl arr (putL m.toList (sa+aM) arr 0) sa (sb+nb)∧bx key (putL m.toList (sa+aM) arr 0) sa (sb+nb):=by
 have lm:m.toList.length=(na-aM)+a_:=by
  rw [pm.length_eq,List.length_append,eS,eS]
  simp
  omega
 have hsz:sa+aM+m.toList.length≤arr.size:=by omega
 have at':=xv m.toList (sa+aM) arr 0
 have rl:Rl arr (putL m.toList (sa+aM) arr 0) sa (sb+nb):=by
  refine ⟨Array.perm_iff_toList_perm.mpr ?_,fun k cw=>?_⟩
  ·rw [DJ hsz]
   have e:arr.toList=arr.toList.take (sa+aM)++((arr.extract (sa+aM) sb).toList++(arr.extract sb (sb+a_)).toList)++arr.toList.drop (sa+aM+m.toList.length):=by
    rw [eS,eS,show sa+aM+m.toList.length=sb+a_ by omega,show sb+a_-sb=a_ by omega]
    have t1:arr.toList.drop (sa+aM)=(arr.toList.drop (sa+aM)).take (sb-(sa+aM))++arr.toList.drop sb:=by
     have:=(List.take_append_drop (sb-(sa+aM)) (arr.toList.drop (sa+aM))).symm
     rw [List.drop_drop,show sa+aM+(sb-(sa+aM))=sb by omega] at this
     exact this
    have t2:arr.toList.drop sb=(arr.toList.drop sb).take a_++arr.toList.drop (sb+a_):=by
     have:=(List.take_append_drop a_ (arr.toList.drop sb)).symm
     rw [List.drop_drop] at this
     exact this
    have t0:=(List.take_append_drop (sa+aM) arr.toList).symm
    rw [t1,t2] at t0
    rw [List.append_assoc,List.append_assoc]
    exact t0
   refine List.Perm.trans ?_ (List.Perm.of_eq e.symm)
   exact List.Perm.append_right _ (List.Perm.append_left _ pm)
  ·rw [at' k (by omega),if_neg (by omega)]
 have vo:∀k,k<sa+aM∨sb+a_≤k→vA key (putL m.toList (sa+aM) arr 0) k=vA key arr k:=fun k cw=>by
  unfold vA
  rw [fz,at' k (by omega),if_neg (by omega),fz]
 have vm:∀k,sa+aM≤k→k<sb+a_→∃hj:k-(sa+aM)<m.toList.length,vA key (putL m.toList (sa+aM) arr 0) k=key (m.toList[k-(sa+aM)]'hj):=fun k h1 h2=>by
  have hj:k-(sa+aM)<m.toList.length:=by omega
  refine ⟨hj,?_⟩
  unfold vA
  rw [fz,at' k (by omega),if_pos (by omega),Nat.add_zero,List.getElem?_eq_getElem hj]
  rfl
 have vq:∀k,sa+aM≤k→k<sb+a_→∃q,sa+aM≤q∧q<sb+a_∧vA key (putL m.toList (sa+aM) arr 0) k=vA key arr q:=fun k h1 h2=>by
  obtain ⟨hj,e⟩:=vm k h1 h2
  have mm:=pm.mem_iff.mp (List.getElem_mem hj)
  rcases List.mem_append.mp mm with mm | mm
  ·obtain ⟨q,q1,q2,eq⟩:=ext_mem (by omega) mm
   exact ⟨q,q1,by omega,by rw [e,eq];rfl⟩
  ·obtain ⟨q,q1,q2,eq⟩:=ext_mem (by omega) mm
   exact ⟨q,by omega,q2,by rw [e,eq];rfl⟩
 have d1:∀i,sa≤i→i<sa+aM→vA key arr i≤vA key arr sb:=fun i a b=>by
  have:=c1 (i-sa) (by omega)
  rwa [show sa+(i-sa)=i by omega] at this
 have d2:∀j,sb+a_≤j→j<sb+nb→vA key arr (sb-1)≤vA key arr j:=fun j a b=>by
  have:=c2 (j-sb) (by omega) (by omega)
  rwa [show sb+(j-sb)=j by omega] at this
 refine ⟨rl,fun i j h1 h2 h3=>?_⟩
 by_cases i1:i<sa+aM
 ·rw [vo i (.inl i1)]
  by_cases j1:j<sa+aM
  ·rw [vo j (.inl j1)]
   exact s1 i j h1 h2 (by omega)
  ·by_cases j2:j<sb+a_
   ·obtain ⟨q,q1,q2,e⟩:=vq j (by omega) j2
    rw [e]
    by_cases q3:q<sb
    ·exact s1 i q h1 (by omega) q3
    ·exact Int.le_trans (d1 i h1 i1) (s2 sb q (Nat.le_refl _) (by omega) (by omega))
   ·rw [vo j (.inr (by omega))]
    exact Int.le_trans (d1 i h1 i1) (s2 sb j (Nat.le_refl _) (by omega) h3)
 ·by_cases i2:i<sb+a_
  ·by_cases j2:j<sb+a_
   ·obtain ⟨x1,e1⟩:=vm i (by omega) i2
    obtain ⟨x2,e2⟩:=vm j (by omega) j2
    rw [e1,e2]
    by_cases z:i=j
    ·subst z;exact Int.le_refl _
    ·exact List.pairwise_iff_getElem.mp sm _ _ x1 x2 (by omega)
   ·obtain ⟨q,q1,q2,e⟩:=vq i (by omega) i2
    rw [e,vo j (.inr (by omega))]
    by_cases q3:q<sb
    ·exact Int.le_trans (s1 q (sb-1) (by omega) (by omega) (by omega)) (d2 j (by omega) h3)
    ·exact s2 q j (by omega) (by omega) h3
  ·rw [vo i (.inr (by omega)),vo j (.inr (by omega))]
   exact s2 i j (by omega) h2 h3
theorem DN(h:eR prog w A s κ key Ok)(ok:cH Ok arr){i sa na pw nb gv:Nat}(e1:pend[i]?=some (sa,na,pw))(e2:pend[i+1]?=some (sa+na,nb,gv))(DM:1≤na)(xy:1≤nb)(hz:sa+na+nb≤arr.size)
  (s1:bx key arr sa (sa+na)) (s2:bx key arr (sa+na) (sa+na+nb)) {Q:Bool→SortSt→Prop}
  (k:∀aB g',Rl arr aB sa (sa+na+nb)→bx key aB sa (sa+na+nb)→Q true (aH κ aB ((pend.setIfInBounds i (sa,na+nb,pw)).eraseIdxIfInBounds (i+1)) g')):wpS (model prog w) A E s (mergeAt' i) Q (aH κ arr pend g):=by
 rw [DI]
 refine wpS_bind (wpS_get ?_)
 have gZ:(pendingOf (aH κ arr pend g))[i]?=some (sa,na,pw):=e1
 have DO:(pendingOf (aH κ arr pend g))[i+1]?=some (sa+na,nb,gv):=e2
 rw [gZ,DO]
 dsimp only
 refine wpS_bind (DK ?_)
 refine wpS_bind (aQ (by show sa+na<arr.size;omega) ?_)
 refine wpS_bind (dS (f:=fun j=>bB false (vA key arr (sa+na)) (vA key arr (sa+j))) (fun j hj Q q=>dR (κ:=κ) h (by show sa+j<arr.size;omega) ok (ok _ (by omega)) rfl q) (by omega) ?_ fun t t1 t2 t3=>?_)
 ·intro i j h1 h2 h3
  have:vA key arr (sa+i)≤vA key arr (sa+na):=Int.le_trans (s1 _ _ (by omega) (by omega) (by omega)) (fV h3)
  show (!decide (vA key arr (sa+na)<vA key arr (sa+i)))=true
  simpa using this
 dsimp only
 by_cases z1:(na-t == 0)=true
 ·rw [if_pos z1]
  have tz:t=na:=by
   have:=eq_of_beq z1
   omega
  subst tz
  refine wpS_pure (k arr g (Rl.refl ..) fun i j h1 h2 h3=>?_)
  by_cases i1:i<sa+t
  ·by_cases j1:j<sa+t
   ·exact s1 i j h1 h2 j1
   ·have:=fV (t2 (i-sa) (by omega))
    rw [show sa+(i-sa)=i by omega] at this
    exact Int.le_trans this (s2 _ _ (Nat.le_refl _) (by omega) (by omega))
  ·exact s2 i j (by omega) h2 (by omega)
 rw [if_neg z1]
 have tn:t<na:=by
  have:na-t≠0:=fun e=>z1 (by simp [e])
  omega
 refine wpS_bind (aQ (by show sa+t+(na-t)-1<arr.size;omega) ?_)
 have el:sa+t+(na-t)-1=sa+na-1:=by omega
 rw [el]
 refine wpS_bind (dS (f:=fun j=>bB true (vA key arr (sa+na-1)) (vA key arr (sa+na+j))) (fun j hj Q q=>dR (κ:=κ) h (by show sa+na+j<arr.size;omega) ok (ok _ (by omega)) rfl q) (by omega) ?_ fun u u1 u2 u3=>?_)
 ·intro i j h1 h2 h3
  exact decide_eq_true (Int.lt_of_le_of_lt (s2 _ _ (by omega) (by omega) (by omega)) (dC h3))
 dsimp only
 have DQ:=hI (t3 (na-1) (by omega) (by omega))
 rw [show sa+(na-1)=sa+na-1 by omega] at DQ
 by_cases z2:(u == 0)=true
 ·exfalso
  have:=dU (u3 0 (by have:=eq_of_beq z2;omega) (by omega))
  rw [Nat.add_zero] at this
  omega
 rw [if_neg z2]
 have un:1≤u:=by
  have:u≠0:=fun e=>z2 (by simp [e])
  omega
 have ox:=xx ok (lo:=sa+t) (hi:=sa+na) (by omega)
 have oy:=xx ok (lo:=sa+na) (hi:=sa+na+u) (by omega)
 have sx:aJ key (arr.extract (sa+t) (sa+na)).toList:=xw (fun i j h1 h2 h3=>s1 i j (by omega) h2 h3) (by omega)
 have sy:aJ key (arr.extract (sa+na) (sa+na+u)).toList:=xw (fun i j h1 h2 h3=>s2 i j h1 h2 (by omega)) (by omega)
 have zx:(arr.extract (sa+t) (sa+na)).size=na-t:=by simp;omega
 have zy:(arr.extract (sa+na) (sa+na+u)).size=u:=by simp;omega
 have h0:∀x∈(arr.extract (sa+t) (sa+na)).toList,key ((arr.extract (sa+na) (sa+na+u)).getD 0 nn)≤key x:=fun x hx=>by
  obtain ⟨j,j1,j2,rfl⟩:=ext_mem (by omega) hx
  rw [sG (by omega) (by omega),Nat.add_zero]
  have:=hI (t3 (j-sa) (by omega) (by omega))
  rw [show sa+(j-sa)=j by omega] at this
  exact Int.le_of_lt this
 have hl:∀y∈(arr.extract (sa+na) (sa+na+u)).toList,key y≤key ((arr.extract (sa+t) (sa+na)).getD ((arr.extract (sa+t) (sa+na)).size-1) nn):=fun y hy=>by
  obtain ⟨j,j1,j2,rfl⟩:=ext_mem (by omega) hy
  rw [zx,sG (by omega) (by omega),show sa+t+(na-t-1)=sa+na-1 by omega]
  have:=dC (u2 (j-(sa+na)) (by omega))
  rw [show sa+na+(j-(sa+na))=j by omega] at this
  exact Int.le_of_lt this
 have fin:∀(m:Array Keyed) (g':Nat),m.toList.Perm ((arr.extract (sa+t) (sa+na)).toList++(arr.extract (sa+na) (sa+na+u)).toList)→aJ key m.toList→Q true (aH κ (putL m.toList (sa+t) arr 0) ((pend.setIfInBounds i (sa,na+nb,pw)).eraseIdxIfInBounds (i+1)) g'):=fun m g' pm sm=>by
  obtain ⟨rl,sg⟩:=DL (sb:=sa+na) hz rfl (Nat.le_of_lt tn) u1 pm sm s1 s2 tn xy (fun i hi=>fV (t2 i hi)) (fun i h1 h2=>dU (u3 i h1 h2))
  exact k _ g' rl sg
 refine cj (fun _=>?_) (fun _=>?_)
 ·refine wpS_bind (Dx (κ:=κ) h ox oy sx sy (by omega) (by omega) h0 hl rfl fun m g' pm sm=>?_)
  exact wpS_bind (wpS_modify (wpS_bind (wpS_get (wpS_pure (fin m g' pm sm)))))
 ·refine wpS_bind (DB (κ:=κ) h ox oy sx sy (by omega) (by omega) h0 hl rfl fun m g' pm sm=>?_)
  exact wpS_bind (wpS_modify (wpS_bind (wpS_get (wpS_pure (fin m g' pm sm)))))
end
def bw(key:Keyed→Int)(arr:Array Keyed):List (Nat×Nat×Nat)→Nat→Nat→Prop
 | [],lo,hi=>lo=hi
 | p::r,lo,hi=>p.1=lo∧1≤p.2.1∧bx key arr lo (lo+p.2.1)∧bw key arr r (lo+p.2.1) hi
section
variable {key:Keyed→Int} {arr aB:Array Keyed}
theorem bw.le:∀{l:List (Nat×Nat×Nat)} {lo hi:Nat},bw key arr l lo hi→lo+l.length≤hi
 | [],lo,hi,h=>by
  have:lo=hi:=h
  simp
  omega
 | p::r,lo,hi,h=>by
  have:=bw.le h.2.2.2
  have:=h.2.1
  simp only [List.length_cons]
  omega
theorem bx.aZ{lo hi a b:Nat}(h:bx key arr lo hi)(rl:Rl arr aB a b)(d:hi≤a∨b≤lo):bx key aB lo hi:=fun i j h1 h2 h3=>by
 rw [rl.v (by omega),rl.v (by omega)]
 exact h i j h1 h2 h3
theorem bw.aZ:∀{l:List (Nat×Nat×Nat)} {lo hi a b:Nat},bw key arr l lo hi→Rl arr aB a b→hi≤a∨b≤lo→bw key aB l lo hi
 | [],lo,hi,a,b,h,_,_=>h
 | p::r,lo,hi,a,b,h,rl,d=>by
  have:=h.2.2.2.le
  refine ⟨h.1,h.2.1,h.2.2.1.aZ rl (by omega),h.2.2.2.aZ rl (by omega)⟩
theorem bw.snoc:∀{l:List (Nat×Nat×Nat)} {lo hi n pw:Nat},bw key arr l lo hi→1≤n→bx key arr hi (hi+n)→bw key arr (l++[(hi,n,pw)]) lo (hi+n)
 | [],lo,hi,n,pw,h,n1,s=>by
  obtain rfl:lo=hi:=h
  exact ⟨rfl,n1,s,rfl⟩
 | p::r,lo,hi,n,pw,h,n1,s=>⟨h.1,h.2.1,h.2.2.1,h.2.2.2.snoc n1 s⟩
theorem bw.two:∀{l:List (Nat×Nat×Nat)} {lo hi i:Nat},bw key arr l lo hi→i+1<l.length→∃sa na pw nb gv,l[i]?=some (sa,na,pw)∧l[i+1]?=some (sa+na,nb,gv)∧1≤na∧1≤nb∧lo≤sa∧sa+na+nb≤hi∧bx key arr sa (sa+na)∧bx key arr (sa+na) (sa+na+nb) ∧
  ∀aB,Rl arr aB sa (sa+na+nb)→bx key aB sa (sa+na+nb)→bw key aB ((l.set i (sa,na+nb,pw)).eraseIdx (i+1)) lo hi
 | [],lo,hi,i,h,aR=>by simp at aR
 | [p],lo,hi,i,h,aR=>by simp at aR
 | p::q::r,lo,hi,0,h,_=>by
  obtain ⟨p1,p2,pw⟩:=p
  obtain ⟨q1,q2,gv⟩:=q
  obtain ⟨e1,n1,s1,e2,n2,s2,c⟩:=h
  dsimp only at e1 n1 s1 e2 n2 s2 c
  subst e1
  subst e2
  have:=c.le
  refine ⟨p1,p2,pw,q2,gv,rfl,rfl,n1,n2,Nat.le_refl _,by omega,s1,s2,fun aB rl sg=>?_⟩
  show bw key aB ((p1,p2+q2,pw)::r) p1 hi
  refine ⟨rfl,by show 1≤p2+q2;omega,by show bx key aB p1 (p1+(p2+q2));rw [←Nat.add_assoc];exact sg,?_⟩
  show bw key aB r (p1+(p2+q2)) hi
  rw [←Nat.add_assoc]
  exact c.aZ rl (.inr (Nat.le_refl _))
 | p::q::r,lo,hi,i+1,h,aR=>by
  obtain ⟨sa,na,pw,nb,gv,e1,e2,n1,n2,l1,l2,s1,s2,k⟩:=h.2.2.2.two (i:=i) (by simpa using aR)
  refine ⟨sa,na,pw,nb,gv,e1,e2,n1,n2,by omega,l2,s1,s2,fun aB rl sg=>?_⟩
  exact ⟨h.1,h.2.1,h.2.2.1.aZ rl (.inl l1),k aB rl sg⟩
theorem bw.last:∀{l:List (Nat×Nat×Nat)} {lo hi pw:Nat},bw key arr l lo hi→bw key arr (l.modify (l.length-1) fun x=>(x.1,x.2.1,pw)) lo hi
 | [],lo,hi,pw,h=>h
 | [p],lo,hi,pw,h=>h
 | p::q::r,lo,hi,pw,h=>⟨h.1,h.2.1,h.2.2.1,h.2.2.2.last⟩
theorem bw.one{l:List (Nat×Nat×Nat)}{hi:Nat}(h:bw key arr l 0 hi)(hl:l.length≤1):bx key arr 0 hi:=by
 match l,h,hl with
 | [],h,_=>
  have:0=hi:=h
  exact fun i j h1 h2 h3=>by omega
 | [p],h,_=>
  have:=h.2.2.1
  have e:0+p.2.1=hi:=h.2.2.2
  rw [←e]
  exact this
 | p::q::r,_,hl=>simp at hl
end
section
variable {prog:Program} {w:World} {A:Around} {E:Value→Shared→Prop} {s:Shared} {κ:SortKind} {key:Keyed→Int} {Ok:Keyed→Prop} {arr:Array Keyed} {pend:Array (Nat×Nat×Nat)} {g:Nat}
theorem sI(h:eR prog w A s κ key Ok)(ok:cH Ok arr){i hi:Nat}(c:bw key arr pend.toList 0 hi)(hz:hi≤arr.size)(aR:i+1<pend.size){Q:Bool→SortSt→Prop}
  (k:∀aB sJ g',Rl arr aB 0 hi→bw key aB sJ.toList 0 hi→sJ.size+1=pend.size→Q true (aH κ aB sJ g')):wpS (model prog w) A E s (mergeAt' i) Q (aH κ arr pend g):=by
 obtain ⟨sa,na,pw,nb,gv,e1,e2,n1,n2,l1,l2,s1,s2,kk⟩:=c.two (i:=i) (by simpa using aR)
 refine DN h ok (by simpa using e1) (by simpa using e2) n1 n2 (by omega) s1 s2 fun aB g' rl sg=>?_
 refine k _ _ _ (rl.wide (Nat.zero_le _) l2) ?_ ?_
 ·have:=kk aB rl sg
  simpa using this
 ·rw [←Array.length_toList,Array.toList_eraseIdxIfInBounds,List.length_eraseIdx,if_pos (by simpa using aR)]
  simp
  omega
theorem DR(h:eR prog w A s κ key Ok)(ok:cH Ok arr){Q:Unit→SortSt→Prop}
  (k:∀aB ak,aB.Perm arr→bx key aB 0 arr.size→arrOf ak=aB→failedOf ak=none→Q () ak):wpS (model prog w) A E s sortRuns' Q (aH κ arr #[] g):=by
 rw [sortRuns'_eq]
 refine wpS_bind (wpS_get ?_)
 dsimp only
 have es:(arrOf (aH κ arr #[] g)).size=arr.size:=rfl
 rw [es]
 refine wpS_bind (wpS_mono (wpS_forRange (I:=fun x c ak=>∃(au:Array Keyed) (b9:Array (Nat×Nat×Nat)) (g2 lo:Nat),ak=aH κ au b9 g2∧c=(none,lo)∧au.Perm arr∧bw key au b9.toList 0 lo∧lo≤arr.size∧x≤lo)
  (Q:=fun c ak=>∃(au:Array Keyed) (b9:Array (Nat×Nat×Nat)) (g2:Nat),ak=aH κ au b9 g2∧c=(none,arr.size)∧au.Perm arr∧bw key au b9.toList 0 arr.size) ?_ ?_ ⟨arr,#[],g,0,rfl,rfl,Array.Perm.refl _,rfl,Nat.zero_le _,Nat.le_refl _⟩) ?_)
 ·rintro x c ak _ hx ⟨au,b9,g2,lo,rfl,rfl,hV,ja,l1,l2⟩
  have eX:=j7 ok hV
  have z2:=hV.size_eq
  dsimp only
  by_cases z:lo≥arr.size
  ·rw [if_pos z]
   obtain rfl:lo=arr.size:=by omega
   exact wpS_pure ⟨au,b9,g2,rfl,rfl,hV,ja⟩
  rw [if_neg z]
  refine wpS_bind (DD h eX (by omega) (by omega) fun n bq n1 nn fD sg=>?_)
  have b_:=fD.pm.trans hV
  have xA:=j7 ok b_
  have z3:=b_.size_eq
  have dW:=ja.aZ fD (.inl (Nat.le_refl _))
  dsimp only
  by_cases y:n<minRun' arr.size arr.size 0
  ·rw [if_pos y]
   refine wpS_bind (wpS_lift (wpAny_rule ⟨rfl,?_⟩))
   refine wpS_bind (DH h xA (n:=min (arr.size-lo) (minRun' arr.size arr.size 0)) (by omega) n1 (by omega) sg fun aE aY cS=>?_)
   rw [if_neg (by simp)]
   have cT:=dW.aZ aY (.inl (Nat.le_refl _))
   have sL:=aY.pm.trans b_
   clear dW b_ xA z3 sg fD aY
   have f1:1≤min (arr.size-lo) (minRun' arr.size arr.size 0):=by omega
   have f2:lo+min (arr.size-lo) (minRun' arr.size arr.size 0)≤arr.size:=by omega
   generalize min (arr.size-lo) (minRun' arr.size arr.size 0)=fo at cS f1 f2 ⊢
   revert cT sL cS
   generalize aE=bq
   intro dW b_ cS
   refine wpS_bind (wpS_get ?_)
   have eb:(pendingOf (aH κ bq b9 g2)).back?=b9.back?:=rfl
   rw [eb]
   cases b9.back? with
   | none=>
    dsimp only
    exact wpS_bind (wpS_modify (wpS_pure ⟨bq,b9.push (lo,fo,0),g2,lo+fo,rfl,rfl,b_,by rw [Array.toList_push];exact dW.snoc f1 cS,f2,by have:=f1;omega⟩))
   | some p=>
    obtain ⟨DS,pC,DT⟩:=p
    dsimp only
    have z3:=b_.size_eq
    refine wpS_bind (wpS_mono (wpS_forRange (I:=fun y c ak=>∃(aE:Array Keyed) (aV:Array (Nat×Nat×Nat)) (g4:Nat),ak=aH κ aE aV g4∧c=(none,())∧Rl bq aE 0 lo∧bw key aE aV.toList 0 lo)
     (Q:=fun c ak=>∃(aE:Array Keyed) (aV:Array (Nat×Nat×Nat)) (g4:Nat),ak=aH κ aE aV g4∧c=(none,())∧Rl bq aE 0 lo∧bw key aE aV.toList 0 lo) ?_ (fun c ak hh=>hh) ⟨bq,b9,g2,rfl,rfl,Rl.refl ..,dW⟩) ?_)
    ·rintro y c ak _ hy ⟨aE,aV,g4,rfl,rfl,aY,cT⟩
     have z4:=aY.size
     refine wpS_bind (wpS_get ?_)
     have hx:∀o,o=(if (pendingOf (aH κ aE aV g4)).size>1 then (pendingOf (aH κ aE aV g4))[(pendingOf (aH κ aE aV g4)).size-2]? else none)→o.isSome=true→aV.size>1:=fun o ho hs=>by
      by_cases z:aV.size>1
      ·exact z
      ·rw [if_neg z] at ho
       rw [ho] at hs
       cases hs
     generalize eo:(if (pendingOf (aH κ aE aV g4)).size>1 then (pendingOf (aH κ aE aV g4))[(pendingOf (aH κ aE aV g4)).size-2]? else none)=o
     cases o with
     | none=>exact wpS_pure ⟨aE,aV,g4,rfl,rfl,aY,cT⟩
     | some p=>
      have gt:=hx _ eo.symm rfl
      obtain ⟨q1,q2,DU⟩:=p
      dsimp only
      refine cj (fun _=>wpS_pure ⟨aE,aV,g4,rfl,rfl,aY,cT⟩) (fun _=>?_)
      refine wpS_bind (sI h (j7 ok (aY.pm.trans b_)) cT (by omega) (show aV.size-2+1<aV.size by omega) fun sM sN g5 sO sP _=>?_)
      rw [if_neg (by simp)]
      exact wpS_pure ⟨sM,sN,g5,rfl,rfl,aY.trans sO,sP⟩
    ·rintro c ak ⟨aE,aV,g4,rfl,rfl,aY,cT⟩
     dsimp only
     refine wpS_bind (wpS_modify (wpS_bind (wpS_modify (wpS_pure ⟨aE,_,g4,lo+fo,rfl,rfl,aY.pm.trans b_,?_,f2,by have:=f1;omega⟩))))
     rw [Array.toList_push]
     refine bw.snoc ?_ f1 (bx.aZ cS aY (.inr (Nat.le_refl _)))
     rw [Array.toList_modify]
     exact cT.last
  ·rw [if_neg y]
   have f2:lo+n≤arr.size:=by omega
   refine wpS_bind (wpS_get ?_)
   have eb:(pendingOf (aH κ bq b9 g2)).back?=b9.back?:=rfl
   rw [eb]
   cases b9.back? with
   | none=>
    dsimp only
    exact wpS_bind (wpS_modify (wpS_pure ⟨bq,b9.push (lo,n,0),g2,lo+n,rfl,rfl,b_,by rw [Array.toList_push];exact dW.snoc n1 sg,f2,by have:=n1;omega⟩))
   | some p=>
    obtain ⟨DS,pC,DT⟩:=p
    dsimp only
    have z3:=b_.size_eq
    refine wpS_bind (wpS_mono (wpS_forRange (I:=fun y c ak=>∃(aE:Array Keyed) (aV:Array (Nat×Nat×Nat)) (g4:Nat),ak=aH κ aE aV g4∧c=(none,())∧Rl bq aE 0 lo∧bw key aE aV.toList 0 lo)
     (Q:=fun c ak=>∃(aE:Array Keyed) (aV:Array (Nat×Nat×Nat)) (g4:Nat),ak=aH κ aE aV g4∧c=(none,())∧Rl bq aE 0 lo∧bw key aE aV.toList 0 lo) ?_ (fun c ak hh=>hh) ⟨bq,b9,g2,rfl,rfl,Rl.refl ..,dW⟩) ?_)
    ·rintro y c ak _ hy ⟨aE,aV,g4,rfl,rfl,aY,cT⟩
     have z4:=aY.size
     refine wpS_bind (wpS_get ?_)
     have hx:∀o,o=(if (pendingOf (aH κ aE aV g4)).size>1 then (pendingOf (aH κ aE aV g4))[(pendingOf (aH κ aE aV g4)).size-2]? else none)→o.isSome=true→aV.size>1:=fun o ho hs=>by
      by_cases z:aV.size>1
      ·exact z
      ·rw [if_neg z] at ho
       rw [ho] at hs
       cases hs
     generalize eo:(if (pendingOf (aH κ aE aV g4)).size>1 then (pendingOf (aH κ aE aV g4))[(pendingOf (aH κ aE aV g4)).size-2]? else none)=o
     cases o with
     | none=>exact wpS_pure ⟨aE,aV,g4,rfl,rfl,aY,cT⟩
     | some p=>
      have gt:=hx _ eo.symm rfl
      obtain ⟨q1,q2,DU⟩:=p
      dsimp only
      refine cj (fun _=>wpS_pure ⟨aE,aV,g4,rfl,rfl,aY,cT⟩) (fun _=>?_)
      refine wpS_bind (sI h (j7 ok (aY.pm.trans b_)) cT (by omega) (show aV.size-2+1<aV.size by omega) fun sM sN g5 sO sP _=>?_)
      rw [if_neg (by simp)]
      exact wpS_pure ⟨sM,sN,g5,rfl,rfl,aY.trans sO,sP⟩
    ·rintro c ak ⟨aE,aV,g4,rfl,rfl,aY,cT⟩
     dsimp only
     refine wpS_bind (wpS_modify (wpS_bind (wpS_modify (wpS_pure ⟨aE,_,g4,lo+n,rfl,rfl,aY.pm.trans b_,?_,f2,by have:=n1;omega⟩))))
     rw [Array.toList_push]
     refine bw.snoc ?_ n1 (bx.aZ sg aY (.inr (Nat.le_refl _)))
     rw [Array.toList_modify]
     exact cT.last
 ·rintro c ak ⟨au,b9,g2,lo,rfl,rfl,hV,ja,l1,l2⟩
  obtain rfl:lo=arr.size:=by omega
  exact ⟨au,b9,g2,rfl,rfl,hV,ja⟩
 ·rintro c ak ⟨au,b9,g2,rfl,rfl,hV,ja⟩
  dsimp only
  have pz:=ja.le
  refine wpS_bind (wpS_mono (wpS_forRange (I:=fun x c ak=>∃(bq:Array Keyed) (cf:Array (Nat×Nat×Nat)) (g3:Nat),ak=aH κ bq cf g3∧c=(none,())∧bq.Perm arr∧bw key bq cf.toList 0 arr.size∧cf.size+x≤arr.size)
   (Q:=fun c ak=>∃(bq:Array Keyed) (cf:Array (Nat×Nat×Nat)) (g3:Nat),ak=aH κ bq cf g3∧c=(none,())∧bq.Perm arr∧bw key bq cf.toList 0 arr.size∧cf.size≤1) ?_ ?_ ⟨au,b9,g2,rfl,rfl,hV,ja,show b9.size+0≤arr.size by simpa using pz⟩) ?_)
  ·rintro x c ak _ hx ⟨bq,cf,g3,rfl,rfl,b_,dW,l3⟩
   have z3:=b_.size_eq
   refine wpS_bind (wpS_get ?_)
   by_cases z:(pendingOf (aH κ bq cf g3)).size≤1
   ·rw [if_pos z]
    exact wpS_pure ⟨bq,cf,g3,rfl,rfl,b_,dW,z⟩
   ·rw [if_neg z]
    have z':1<cf.size:=Nat.lt_of_not_le z
    have go:∀i,i+1<cf.size→wpS (model prog w) A E s (mergeAt' i) (fun b ak=>b=true∧∃(aE:Array Keyed) (aV:Array (Nat×Nat×Nat)) (g4:Nat),ak=aH κ aE aV g4∧aE.Perm arr∧bw key aE aV.toList 0 arr.size∧aV.size+(x+1)≤arr.size) (aH κ bq cf g3):=fun i hi=>by
     refine sI h (j7 ok b_) dW (by omega) hi fun aE aV g4 aY cT sz=>⟨rfl,aE,aV,g4,rfl,aY.pm.trans b_,cT,by omega⟩
    refine wpS_bind (wpS_mono (go _ ?_) ?_)
    ·show (if _ then _ else _)+1<cf.size
     have e:(pendingOf (aH κ bq cf g3)).size=cf.size:=rfl
     rw [e]
     have:∀c:Bool,(if c=true then cf.size-2-1 else cf.size-2)+1<cf.size:=fun c=>by cases c <;> simp <;> omega
     exact this _
    ·rintro b ak ⟨rfl,aE,aV,g4,rfl,sL,cT,l4⟩
     rw [if_neg (by simp)]
     exact wpS_pure ⟨aE,aV,g4,rfl,rfl,sL,cT,l4⟩
  ·rintro c ak ⟨bq,cf,g3,rfl,rfl,b_,dW,l3⟩
   exact ⟨bq,cf,g3,rfl,rfl,b_,dW,by omega⟩
  ·rintro c ak ⟨bq,cf,g3,rfl,rfl,b_,dW,l3⟩
   exact wpS_pure (k bq _ b_ (dW.one (by simpa using l3)) rfl rfl)
end
end Tm
namespace My
open PySem PySem.W PyProof.Rows Tm
section
variable {prog:Program} {w:World} {A:Around} {E:Value→Shared→Prop} {s:Shared}
def cx(h:Heap)(v:Value)(x y:Int):Prop:=∃a o t u e,v=.ref a∧h.get? a=some o∧o.cls=.type "tuple"∧o.data=.seq #[.int x t,.int y u] e
theorem DV{v v':Value}{x y x' y':Int}(h1:cx s.heap v x y)(h2:cx s.heap v' x' y'){Q:Bool→Shared→Prop}(h:Q (decide (x<x'∨x=x'∧y<y')) s):wpAny (model prog w) A (keyLt' (tuples' true) v v') Q E s:=by
 obtain ⟨a,o,t,u,e,rfl,g,_,d⟩:=h1
 obtain ⟨a',o',t',u',e',rfl,g',_,d'⟩:=h2
 refine kat_lt g d g' d' ?_
 show KatLex prog w A true (decide (2<2)) Q [(.int x t,.int x' t'),(.int y u,.int y' u')] 0 s
 refine kat_cons (wpAny_eqBool_int ?_)
 by_cases z:x=x'
 ·subst z
  rw [show (x == x)=true by simp]
  refine kat_yes (kat_cons (wpAny_eqBool_int ?_))
  by_cases z2:y=y'
  ·subst z2
   rw [show (y == y)=true by simp]
   refine kat_yes (kat_nil ?_)
   rw [decide_eq_false (by omega)] at h
   exact h
  ·rw [show (y == y')=false by simp [z2]]
   refine kat_no ?_
   show wpAny (model prog w) A (oneLt' false (.int y u) (.int y' u')) Q _ s
   refine kat_one _ _ (lt_int ?_)
   show Q (decide (y<y')) s
   rw [show decide (y<y')=decide (x<x∨x=x∧y<y') from decide_eq_decide.mpr (by omega)]
   exact h
 ·rw [show (x == x')=false by simp [z]]
  refine kat_no ?_
  show wpAny (model prog w) A (oneLt' true (.int x t) (.int x' t')) Q _ s
  refine oneLt_int ?_
  rw [show decide (x<x')=decide (x<x'∨x=x'∧y<y') from decide_eq_decide.mpr (by omega)]
  exact h
theorem xB{h:Heap}:∀{vs:List Value},(∀v∈vs,∃x y,cx h v x y)→∃fs:List Value,KatTups h vs fs∧fs.length=vs.length∧∀f∈fs,∃n t,f=.int n t
 | [],_=>⟨[],.nil,rfl,fun f hf=>by cases hf⟩
 | v::vs,hv=>by
  obtain ⟨fs,k,l,i⟩:=xB (vs:=vs) fun v h=>hv v (List.mem_cons_of_mem _ h)
  obtain ⟨x,y,a,o,t,u,e,rfl,g,c,d⟩:=hv v List.mem_cons_self
  refine ⟨.int x t::fs,.cons g c d rfl k,by rw [List.length_cons,List.length_cons,l],fun f hf=>?_⟩
  rcases List.mem_cons.mp hf with rfl | hf
  ·exact ⟨x,t,rfl⟩
  ·exact i f hf
theorem perm_back{α β:Type}{f:α→β}{l m:List β}(h:l.Perm m):∀q:List α,m=q.map f→∃p:List α,p.Perm q∧l=p.map f:=by
 induction h with
 | nil=>
  intro q e
  exact ⟨q,List.Perm.refl _,e⟩
 | cons x _ ih=>
  intro q e
  match q,e with
  | a::q,e=>
   obtain ⟨rfl,e'⟩:=List.cons.inj e
   obtain ⟨p,hp,rfl⟩:=ih q e'
   exact ⟨a::p,hp.cons a,rfl⟩
 | swap x y _=>
  intro q e
  match q,e with
  | a::b::q,e=>
   obtain ⟨rfl,e'⟩:=List.cons.inj e
   obtain ⟨rfl,rfl⟩:=List.cons.inj e'
   exact ⟨b::a::q,List.Perm.swap ..,rfl⟩
 | trans _ _ DW DX=>
  intro q e
  obtain ⟨p,hp,e1⟩:=DX q e
  obtain ⟨p',hW,e2⟩:=DW p e1
  exact ⟨p',hW.trans hp,e2⟩
theorem cx.uniq{h:Heap}{v:Value}{x y x' y':Int}(h1:cx h v x y)(h2:cx h v x' y'):x=x'∧y=y':=by
 obtain ⟨a,o,t,u,e,rfl,g,_,d⟩:=h1
 obtain ⟨a',o',t',u',e',ev,g',_,d'⟩:=h2
 cases ev
 rw [g] at g'
 cases g'
 rw [d] at d'
 simp at d'
 exact ⟨d'.1.1.1,d'.1.2.1⟩
open Classical in
noncomputable def sQ (h:Heap) (k:Keyed):Int:=if e:∃z:Int×Int,cx h k.1 z.1 z.2 then (choose e).1*1000+(choose e).2 else 0
theorem pD{h:Heap}{v u:Value}{x y:Int}(p:cx h v x y):sQ h (v,u)=x*1000+y:=by
 have e:∃z:Int×Int,cx h (v,u).1 z.1 z.2:=⟨(x,y),p⟩
 unfold sQ
 rw [dif_pos e]
 obtain ⟨a,b⟩:=(Classical.choose_spec e).uniq p
 rw [a,b]
theorem DY{vs:List Value}{x y:Nat→Int}(h2:2≤vs.length)(hv:∀i v,vs[i]?=some v→cx s.heap v (x i) (y i)∧0≤y i∧y i<1000){Q:SortSt→Shared→Prop}
  (hQ:∀(p:Array Nat) (st:SortSt),fU vs.length p→hE (fun i=>x i*1000+y i) p vs.length→(arrOf st).map (·.2)=List.toArray (p.toList.map fun i=>vs.getD i Value.none)→failedOf st=none→Q st s) :
  wpAny (model prog w) A (sortRuns'.run (SortSt.mk' (tuples' true) (vs.toArray.zip vs.toArray) #[] 7 none)) (fun r s'=>Q r.2 s') E s:=by
 have az:(vs.toArray.zip vs.toArray).size=vs.length:=by simp
 have ag:∀i,i<vs.length→(vs.toArray.zip vs.toArray).getD i nn=(vs.getD i Value.none,vs.getD i Value.none):=fun i hi=>by
  simp [Array.getD,hi]
 have ga:∀i (hi:i<vs.length),cx s.heap (vs.getD i Value.none) (x i) (y i)∧0≤y i∧y i<1000:=fun i hi=>by
  refine hv i _ ?_
  simp [hi]
 have lt:eR prog w A s (tuples' true) (sQ s.heap) (fun k=>∃a b,cx s.heap k.1 a b∧0≤b∧b<1000):=by
  rintro ⟨u,u'⟩ ⟨v,v'⟩ ⟨a,b,p1,b0,b1⟩ ⟨c,d,p2,d0,d1⟩ C hC
  refine DV p1 p2 ?_
  rw [pD p1,pD p2] at hC
  rw [show decide (a<c∨a=c∧b<d)=decide (a*1000+b<c*1000+d) from decide_eq_decide.mpr (by omega)]
  exact hC
 have ok:cH (fun k=>∃a b,cx s.heap k.1 a b∧0≤b∧b<1000) (vs.toArray.zip vs.toArray):=fun i hi=>by
  rw [az] at hi
  rw [ag i hi]
  exact ⟨_,_,ga i hi⟩
 refine wpAny_mono (DR (E:=E) (Q:=fun _ st=>Q st s) (g:=7) lt ok fun aB st pm sg ha hf=>?_) (fun r s' h'=>by obtain ⟨rfl,h'⟩:=h';exact h') fun _ _ e=>e
 have el:(vs.toArray.zip vs.toArray).toList=(List.range vs.length).map fun i=>(vs.getD i Value.none,vs.getD i Value.none):=by
  refine List.ext_getElem (by simp) fun i h1 h2=>?_
  have hi:i<vs.length:=by simpa using h2
  simp [hi]
 obtain ⟨p,hp,ep⟩:=perm_back (Array.perm_iff_toList_perm.mp pm) _ el
 have pl:p.length=vs.length:=by rw [hp.length_eq,List.length_range]
 have DZ:∀i∈p,i<vs.length:=fun i hi=>List.mem_range.mp (hp.mem_iff.mp hi)
 have hsz:aB.size=vs.length:=by rw [pm.size_eq,az]
 have gd:∀i,i<vs.length→aB.getD i nn=(vs.getD (p.toArray.getD i 0) Value.none,vs.getD (p.toArray.getD i 0) Value.none)∧p.toArray.getD i 0<vs.length:=fun i hi=>by
  have e1:aB.getD i nn=aB.toList[i]'(by simp;omega):=by simp [Array.getD,show i<aB.size by omega]
  have e2:p.toArray.getD i 0=p[i]'(by omega):=by simp [Array.getD,show i<p.length by omega]
  rw [e1,e2]
  refine ⟨?_,DZ _ (List.getElem_mem _)⟩
  simp [ep]
 refine hQ p.toArray st (Array.perm_iff_toList_perm.mpr (by simpa using hp)) (fun i j h1 h3=>?_) ?_ hf
 ·have:=sg i j (Nat.zero_le _) h1 (by rw [az];exact h3)
  unfold vA at this
  obtain ⟨e1,l1⟩:=gd i (by omega)
  obtain ⟨e2,l2⟩:=gd j h3
  rw [e1,e2,pD (ga _ l1).1,pD (ga _ l2).1] at this
  exact this
 ·rw [ha]
  apply Array.toList_inj.mp
  rw [Array.toList_map,ep,List.map_map]
  rfl
theorem D3{vs:List Value}{Q:SortKind→Shared→Prop}(h1:1≤vs.length)(hv:∀v∈vs,∃x y,cx s.heap v x y)(h:Q (tuples' true) s):wpAny (model prog w) A (keyKind' vs.toArray) Q E s:=by
 obtain ⟨fs,k,l,i⟩:=xB hv
 refine kat_kind (T:=Value.type "int") k (by omega) (fun v hv=>?_) rfl h
 obtain ⟨n,t,rfl⟩:=i v hv
 exact .now
theorem cx.mono{h h':Heap}{v:Value}{x y:Int}(k:∀b o,h.get? b=some o→h'.get? b=some o)(p:cx h v x y):cx h' v x y:=by
 obtain ⟨a,o,t,u,e,rfl,g,c,d⟩:=p
 exact ⟨a,o,t,u,e,rfl,k _ _ g,c,d⟩
theorem D4{a:Addr}{vs:List Value}{n:Nat}{x y:Nat→Int}{P:PySem.Fin→Shared→Prop}(ho:s.heap.get? a=some (seqObj "list" vs.toArray n))(pE:vs.length<1000)(hv:∀i v,vs[i]?=some v→cx s.heap v (x i) (y i)∧0≤y i∧y i<1000)
  (h:∀(p:Array Nat),fU vs.length p→hE (fun i=>x i*1000+y i) p vs.length→P (.done (.ret .none)) {s with heap:=sortedHeap s.heap a vs (List.toArray (p.toList.map fun i=>vs.getD i Value.none))}) :
  wpAny (model prog w) A (Builtin.«list.sort» ⟨[.ref a],[]⟩) P E s:=by
 have sl:vs.length≤sizeLine:=by rw [sizeLine_eq];omega
 have lt:=Heap.lt_size ho
 obtain ⟨e1,g1⟩:∃e,(s.heap.update a (Obj.mapSeq fun _=>#[])).get? a=some (seqObj "list" #[] e):=⟨_,get?_update_seq ho fun _=>#[]⟩
 have z1:(s.heap.update a (Obj.mapSeq fun _=>#[])).objs.size=s.heap.objs.size:=Heap.size_update _ _ _
 have up:∀b u,b<s.heap.objs.size→(s.heap.update a (Obj.mapSeq fun _=>#[])).get? b=some u→(((s.heap.update a (Obj.mapSeq fun _=>#[])).push (seqObj "tuple" vs.toArray 0)).push (seqObj "list" #[] 0)).get? b=some u:=fun b u hb hu=>by
  rw [Heap.get?_push_ne _ _ _ (Nat.ne_of_lt (by rw [size_push',z1];exact Nat.lt_succ_of_lt hb)),Heap.get?_push_ne _ _ _ (Nat.ne_of_lt (by rw [z1];exact hb))]
  exact hu
 have g3:=up a _ lt g1
 have xC:∀i v,vs[i]?=some v→cx (((s.heap.update a (Obj.mapSeq fun _=>#[])).push (seqObj "tuple" vs.toArray 0)).push (seqObj "list" #[] 0)) v (x i) (y i)∧0≤y i∧y i<1000:=fun i v hi=>by
  obtain ⟨⟨b,o,t,u,e,rfl,g,cc,d⟩,y0⟩:=hv i v hi
  have nb:b≠a:=fun q=>by
   rw [q,ho] at g
   cases g
   exact absurd (Value.type.inj cc) (by decide)
  refine ⟨⟨b,o,t,u,e,rfl,up b o (Heap.lt_size g) ?_,cc,d⟩,y0⟩
  rw [Heap.get?_update_ne _ _ _ _ nb]
  exact g
 rw [list_sort_plain]
 refine wpAny_bind (listItems_at ho rfl (wpAny_bind (listUpdate_at ho rfl ?_ (by rw [List.size_toArray];omega) (Nat.zero_le _))))
 refine wpAny_bind (seqEpoch_at g1 rfl (wpAny_bind (wpAny_newTuple ?_ (by show vs.length≤_;omega))))
 refine wpAny_bind (wpAny_newList (wpAny_holding ?_) (Nat.zero_le _))
 show wpAny (model prog w) A _ P E {s with heap:=((s.heap.update a (Obj.mapSeq fun _=>#[])).push (seqObj "tuple" vs.toArray 0)).push (seqObj "list" #[] 0)}
 dsimp only
 have fin:∀(st:SortSt) (p:Array Nat),fU vs.length p→hE (fun i=>x i*1000+y i) p vs.length→(arrOf st).map (·.2)=List.toArray (p.toList.map fun i=>vs.getD i Value.none)→failedOf st=none→
   wpAny (model prog w) A (do
    let touched:=(←seqEpoch a) != e1
    Builtin.List.listUpdate (.ref a) fun _=>(arrOf st).map (·.2)
    if let some e:=failedOf st then rule "list.sort.comparison-raised";throw e
    if touched then rule "list.sort.modified";raiseError "ValueError" "list modified during sort"
    ret .none) P E {s with heap:=((s.heap.update a (Obj.mapSeq fun _=>#[])).push (seqObj "tuple" vs.toArray 0)).push (seqObj "list" #[] 0)}:=fun st p hp hu ha hf=>by
  refine wpAny_bind (seqEpoch_at g3 rfl (wpAny_bind (listUpdate_at g3 rfl ?_ (Nat.zero_le _) ?_)))
  ·rw [hf,ha]
   simp only [bne_self_eq_false,Bool.false_eq_true,if_false]
   exact wpAny_pure (h p hp hu)
  ·rw [ha,List.size_toArray,List.length_map,Array.length_toList,hp.size]
   omega
 by_cases z:vs.toArray.size<2
 ·rw [if_pos z,if_pos z]
  refine wpAny_bind (wpAny_pure ?_)
  rw [StateT.run_pure]
  refine wpAny_bind (wpAny_pure ?_)
  have len:vs.length<2:=by simpa using z
  refine fin _ (List.toArray (List.range vs.length)) (Array.Perm.refl _) (fun a b h1 h2=>by
   obtain rfl:a=b:=by omega
   exact Int.le_refl _) ?_ rfl
  match vs,len with
  | [],_=>
   show Array.map (·.2) ((#[]:Array Value).zip #[])=_
   simp
  | [v],_=>
   show Array.map (·.2) (#[v].zip #[v])=_
   simp
 ·rw [if_neg z,if_neg z]
  have len:2≤vs.length:=by simpa using z
  refine wpAny_bind (D3 (by omega) (fun v hm=>?_) ?_)
  ·obtain ⟨i,hi,rfl⟩:=List.getElem_of_mem hm
   exact ⟨_,_,(xC i _ (by simp [hi])).1⟩
  ·refine wpAny_bind (wpAny_mono (DY (Q:=fun st s'=>s'={s with heap:=((s.heap.update a (Obj.mapSeq fun _=>#[])).push (seqObj "tuple" vs.toArray 0)).push (seqObj "list" #[] 0)}∧∃p,fU vs.length p∧hE (fun i=>x i*1000+y i) p vs.length∧(arrOf st).map (·.2)=List.toArray (p.toList.map fun i=>vs.getD i Value.none)∧failedOf st=none) len xC fun p st a1 a2 a3 a4=>⟨rfl,p,a1,a2,a3,a4⟩) ?_ fun _ _ e=>e)
   rintro ⟨⟨⟩,st⟩ s' ⟨rfl,p,a1,a2,a3,a4⟩
   exact fin st p a1 a2 a3 a4
end
open PySem PySem.W PyProof.Rows
section
variable {prog:Program} {w:World} {A:Around} {E:Value→Shared→Prop} {s:Shared}
theorem D5{l:Addr}{vs:List Value}{x y:Nat→Int}{Q:Value→Shared→Prop}(hl:s.heap.IsList l vs.toArray)(pE:vs.length<1000)(hv:∀i v,vs[i]?=some v→cx s.heap v (x i) (y i)∧0≤y i∧y i<1000)
  (h:∀(p:Array Nat) (h':Heap) (c:Nat),fU vs.length p→hE (fun i=>x i*1000+y i) p vs.length→(∀b o,s.heap.get? b=some o→h'.get? b=some o)→h'.get? (s.heap.objs.size+1)=some (seqObj "list" (List.toArray (p.toList.map fun i=>vs.getD i Value.none)) c)→Q (.ref (s.heap.objs.size+1)) {s with heap:=h'}) :
  wpAny (model prog w) A (call (.builtin "sorted") [.ref l]) Q E s:=by
 have sl:vs.length≤sizeLine:=by rw [sizeLine_eq];omega
 refine Calls.call_function_entry kind_sorted plain_sorted entry_sorted (args_sorted1 _) ?_
 unfold Builtin.«sorted»
 refine wpAny_bind (m:=checkCount "sorted" 1 1 _) (wpAny_pure (wpAny_bind (collect_list hl (wpAny_bind (wpAny_newList ?_ sl)) sl)))
 have zz:((s.heap.push (seqObj "list" #[] 0)).update s.heap.objs.size (Obj.mapSeq (·++vs.toArray))).objs.size=s.heap.objs.size+1:=by rw [Heap.size_update,size_push']
 have kp:∀b o,s.heap.get? b=some o→(((s.heap.push (seqObj "list" #[] 0)).update s.heap.objs.size (Obj.mapSeq (·++vs.toArray))).push (seqObj "list" vs.toArray 0)).get? b=some o:=fun b o g=>by
  have lt:=Heap.lt_size g
  rw [Heap.get?_push_ne _ _ _ (Nat.ne_of_lt (by rw [zz];exact Nat.lt_succ_of_lt lt)),Heap.get?_update_ne _ _ _ _ (Nat.ne_of_lt lt),Heap.get?_push_ne _ _ _ (Nat.ne_of_lt lt)]
  exact g
 have gL:(((s.heap.push (seqObj "list" #[] 0)).update s.heap.objs.size (Obj.mapSeq (·++vs.toArray))).push (seqObj "list" vs.toArray 0)).get? (s.heap.objs.size+1)=some (seqObj "list" vs.toArray 0):=by
  rw [←zz]
  exact Heap.get?_push_size _ rfl
 show wpAny _ _ _ _ _ {s with heap:=((s.heap.push (seqObj "list" #[] 0)).update s.heap.objs.size (Obj.mapSeq (·++vs.toArray))).push (seqObj "list" vs.toArray 0)}
 rw [zz]
 generalize ((s.heap.push (seqObj "list" #[] 0)).update s.heap.objs.size (Obj.mapSeq (·++vs.toArray))).push (seqObj "list" vs.toArray 0)=h1 at kp gL
 refine wpAny_bind (wpAny_holding (wpAny_call_entry slot_list_sort ⟨_,gL,rfl⟩ entry_list_sort (D4 (s:={s with heap:=h1}) gL pE (fun i v hi=>⟨(hv i v hi).1.mono kp,(hv i v hi).2⟩) fun p hp hu=>⟨_,rfl,?_⟩) (args_list_sort _)))
 have D6:=Heap.lt_size gL
 have z1:(h1.update (s.heap.objs.size+1) (Obj.mapSeq fun _=>#[])).objs.size=h1.objs.size:=Heap.size_update _ _ _
 obtain ⟨e1,g1⟩:∃e,(h1.update (s.heap.objs.size+1) (Obj.mapSeq fun _=>#[])).get? (s.heap.objs.size+1)=some (seqObj "list" #[] e):=⟨_,get?_update_seq gL fun _=>#[]⟩
 have up:∀b u,b<h1.objs.size→(h1.update (s.heap.objs.size+1) (Obj.mapSeq fun _=>#[])).get? b=some u→(((h1.update (s.heap.objs.size+1) (Obj.mapSeq fun _=>#[])).push (seqObj "tuple" vs.toArray 0)).push (seqObj "list" #[] 0)).get? b=some u:=fun b u hb hu=>by
  rw [Heap.get?_push_ne _ _ _ (Nat.ne_of_lt (by rw [size_push',z1];exact Nat.lt_succ_of_lt hb)),Heap.get?_push_ne _ _ _ (Nat.ne_of_lt (by rw [z1];exact hb))]
  exact hu
 have g3:=up _ _ D6 g1
 refine wpAny_pure ⟨_,rfl,h p _ _ hp hu (fun b o g=>?_) (get?_update_seq g3 fun _=>List.toArray (p.toList.map fun i=>vs.getD i Value.none))⟩
 have g':=kp b o g
 have ne:b≠s.heap.objs.size+1:=Nat.ne_of_lt (Nat.lt_succ_of_lt (Heap.lt_size g))
 show (Heap.update _ _ _).get? b=some o
 rw [Heap.get?_update_ne _ _ _ _ ne]
 refine up b o (Heap.lt_size g') ?_
 rw [Heap.get?_update_ne _ _ _ _ ne]
 exact g'
end
end My
namespace L2
open PySem PySem.W PyProof.Rows My
def xD:List V→Hp→VK→Prop:=fun xs H Q=>∃(a:Addr) (vs:List V) (x y:Nat→Int),xs=[.ref a]∧H a=some (.lst vs)∧vs.length<1000∧(∀(i:Nat) (v:V),vs[i]?=some v→(∃b,v=.ref b∧H b=some (.tup [.int (x i),.int (y i)]))∧0≤y i∧y i<1000) ∧
 ∀(p:Array Nat) (l:Addr),fU vs.length p→hE (fun i=>x i*1000+y i) p vs.length→H l=none→Q (.ref l) (upd H l (.lst (p.toList.map fun i=>vs.getD i .aF)))
theorem xE{xs:List V}{us:List Value}(r:Vals xs us):∀(ns:List Nat),(∀i∈ns,i<xs.length)→Vals (ns.map fun i=>xs.getD i .aF) (ns.map fun i=>us.getD i Value.none)
 | [],_=>.nil
 | i::ns,h=>by
  have hi:=h i List.mem_cons_self
  obtain ⟨u,e,ru⟩:=r.get (i:=i) (x:=xs[i]) (by simp [hi])
  refine .cons ?_ (xE r ns fun j hj=>h j (List.mem_cons_of_mem _ hj))
  dsimp only
  rw [show xs.getD i .aF=xs[i] by simp [hi],show us.getD i Value.none=u by rw [List.getD_eq_getElem?_getD,e];rfl]
  exact ru
theorem sR{X:Cx}:d7 X (.builtin "sorted") xD:=by
 intro pins s σ H xs us Q I r h
 obtain ⟨a,vs,x,y,rfl,ha,pE,hv,k⟩:=h
 obtain ⟨u,rfl,ru⟩:=vals1 r
 cases ru
 obtain ⟨aa,rv,pl,hz⟩:=I.list (.of ha)
 have hl:=rv.length
 refine D5 (x:=x) (y:=y) pl.isList (by omega) (fun i v hi=>?_) fun p h' c hp hu kp g=>?_
 ·have aR:i<vs.length:=by
   have:=(List.getElem?_eq_some_iff.mp hi).1
   omega
  have gi:vs[i]?=some vs[i]:=by simp [aR]
  obtain ⟨⟨b,eb,hb⟩,D7⟩:=hv i _ gi
  obtain ⟨u,eu,ru⟩:=rv.get gi
  rw [hi] at eu
  cases eu
  rw [eb] at ru
  cases ru
  obtain ⟨_,gU,r2,o,g,cl,e,d⟩:=(show bj X.prog X.w H s.heap b (.tup [.int (x i),.int (y i)]) from I.ar b _ hb)
  obtain ⟨u1,u2,rfl,q1,q2⟩:=vals2 r2
  obtain ⟨t1,rfl⟩:=q1
  obtain ⟨t2,rfl⟩:=q2
  exact ⟨⟨b,o,t1,t2,e,rfl,g,cl,d⟩,D7⟩
 ·rw [←hl] at hp hu
  have sz:=hp.size
  refine ⟨.ref (s.heap.objs.size+1),_,I.laid (t':=s.toks) (o:=.lst (p.toList.map fun i=>vs.getD i .aF)) kp (Nat.le_succ _) ⟨?_,p.toList.map fun i=>aa.getD i Value.none,c,?_,g⟩,rfl,k p _ hp hu (I.ar.fresh (Nat.le_succ _))⟩
  ·rw [List.length_map,Array.length_toList,sz]
   exact hz
  ·refine xE rv _ fun i hi=>?_
   have m:i∈List.toArray (List.range vs.length):=(Array.Perm.mem_iff hp).mp (Array.mem_toList_iff.mp hi)
   simpa using m
end L2
namespace My
open PySem L2
def xF(K:PySem.W.Frag):R2:=fun x y H Q=>∃a b xs,x=.ref a∧y=.ref b∧aS K H a xs∧H b=some (.lst [])∧Q (.bl (!xs.isEmpty)) H
theorem pF{X:Cx}(hu:X.A.units+64<cLine):bE X (compareOp .NotEq) (xF X.K):=by
 intro pins s σ H x y v u Q I rx ry h
 obtain ⟨a,b,xs,rfl,rfl,h1,h2,q⟩:=h
 cases rx
 cases ry
 obtain ⟨us,r1,t1,_⟩:=I.list h1
 obtain ⟨vs,r2,t2,_⟩:=I.list (aS.of h2)
 have l1:=r1.length
 have l2:=r2.length
 cases xs with
 | nil=>
  refine SeqAt.RcNeAt.lists (e:=fun _=>true) t1.isList t2.isList (by simp at l1 l2 ⊢;omega) (by omega) (fun j z1 z2=>?_) _ _ _ _ ?_
  ·simp at l1
   have:us=[]:=List.length_eq_zero_iff.mp l1.symm
   subst this
   simp at z1
  ·rw [all_range]
   exact ⟨.bl false,H,I,rfl,q⟩
 | cons w ws=>
  refine SeqAt.RcNeAt.lists_lengths t1.isList t2.isList ?_ (by omega) _ _ _ _ ⟨.bl true,H,I,rfl,q⟩
  simp at l1 l2 ⊢
  omega
theorem xG{c:TT}{t u:TS}{D:Ends}{σ:St}{H:Hp}(M:St→Hp→Prop)(hM:∀σ H,M σ H→D.nx σ H)(k:∀R:St→Hp→Prop,(∀σ H,M σ H→R σ H)→qX c t u {D with nx:=R} σ H):qX c t u D σ H:=k D.nx hM
def D8(K:PySem.W.Frag):Sp:=fun vs H Q _=>∃(P a l:Addr) (ns:List Int) (xs:List V),vs=[.ref P,.ref l]∧a7 H P a∧aS K (er P H) a (ns.map V.int)∧l≠P∧H l=some (.lst xs)∧xs.length≤100 ∧
 ∀(r:Addr) (ys:List V) (H':Hp),av P H H'→a7 H' P a→er P H r=none→r≠P→H' r=some (.lst ys)→ys.Perm xs→Q (.ref r) H'
def D9(K:PySem.W.Frag):Sp:=fun vs H Q _=>∃(P a:Addr) (ns:List Int) (way size wide i j:Int),vs=[.ref P,.int way,.int size,.int wide,.int i,.int j]∧a7 H P a∧aS K (er P H) a (ns.map V.int) ∧
 ∀(b:Bool) (H':Hp),av P H H'→a7 H' P a→Q (.bl b) H'
theorem xH{α:Type}:∀(zs:List α) (k:Nat) (h:k<zs.length),(zs[k]::zs.eraseIdx k).Perm zs
 | _::_,0,_=>.refl _
 | z::zs,k+1,h=>(List.Perm.swap _ _ _).trans ((xH zs k (by simpa using h)).cons z)
def aN(H:Hp)(vs:List V)(L:List (Int×Int)):Prop:=vs.length=L.length∧∀(k:Nat) (v:V) (p:Int×Int),vs[k]?=some v→L[k]?=some p→∃b,v=.ref b∧H b=some (.tup [.int p.1,.int p.2])
theorem aN.nil(H:Hp):aN H [] []:=⟨rfl,fun k v p h=>by simp at h⟩
theorem aN.mono{H H':Hp}{vs:List V}{L:List (Int×Int)}(h:aN H vs L)(s:ae H H'):aN H' vs L:=⟨h.1,fun k v p h1 h2=>by
 obtain ⟨b,e,g⟩:=h.2 k v p h1 h2
 exact ⟨b,e,s _ _ g⟩⟩
theorem aN.aZ{H H':Hp}{vs:List V}{L:List (Int×Int)}{r:Addr}{xs:List V}(h:aN H vs L)(e:H r=some (.lst xs))(k:∀b o,b≠r→H b=some o→H' b=some o):aN H' vs L:=⟨h.1,fun i v p h1 h2=>by
 obtain ⟨b,eb,g⟩:=h.2 i v p h1 h2
 refine ⟨b,eb,k b _ (fun z=>?_) g⟩
 rw [z,e] at g
 cases g⟩
theorem aN.push{H:Hp}{vs:List V}{L:List (Int×Int)}{b:Addr}{p:Int×Int}(h:aN H vs L)(e:H b=some (.tup [.int p.1,.int p.2])):aN H (vs++[.ref b]) (L++[p]):=⟨by simp [h.1],fun k v q h1 h2=>by
 have hl:=h.1
 by_cases z:k<vs.length
 ·rw [List.getElem?_append_left z] at h1
  rw [List.getElem?_append_left (by omega)] at h2
  exact h.2 k v q h1 h2
 ·have hk:=(List.getElem?_eq_some_iff.mp h1).1
  rw [List.length_append,List.length_singleton] at hk
  obtain rfl:k=vs.length:=by omega
  rw [List.getElem?_append_right (Nat.le_refl _),Nat.sub_self] at h1
  rw [List.getElem?_append_right (by omega),show vs.length-L.length=0 by omega] at h2
  cases h1
  cases h2
  exact ⟨b,rfl,e⟩⟩
structure eY (n:Nat) (L:List (Int×Int)):Prop where
 nd:L.Nodup
 lt:∀p∈L,0≤p.1∧p.1<p.2∧p.2<n
 bQ:L.length≤n*n / 2
def lexLt(p q:Int×Int):Prop:=p.1<q.1∨p.1=q.1∧p.2<q.2
theorem D_{M:List (Int×Int)}{p:Array Nat}(P:fU M.length p)(U:hE (fun i=>(M.getD i (0,0)).1*1000+(M.getD i (0,0)).2) p M.length)(nd:M.Nodup)(b:∀q∈M,0≤q.2∧q.2<1000) :
  (p.toList.map fun i=>M.getD i (0,0)).Perm M∧(p.toList.map fun i=>M.getD i (0,0)).Pairwise lexLt:=by
 have pm:p.toList.Perm (List.range M.length):=Array.perm_iff_toList_perm.mp P
 have pn:p.toList.Nodup:=pm.nodup_iff.mpr List.nodup_range
 have lt:∀i∈p.toList,i<M.length:=fun i hi=>List.mem_range.mp (pm.mem_iff.mp hi)
 refine ⟨?_,?_⟩
 ·have e:((List.range M.length).map fun i=>M.getD i (0,0))=M:=by
   refine List.ext_getElem (by simp) fun i h1 h2=>?_
   rw [List.getElem_map,List.getElem_range,getD_at h2]
  have:=pm.map fun i=>M.getD i (0,0)
  rw [e] at this
  exact this
 ·rw [List.pairwise_iff_getElem]
  intro i j hi hj su
  rw [List.length_map] at hi hj
  rw [List.getElem_map,List.getElem_map]
  have sz:=P.size
  have li:p.toList[i]<M.length:=lt _ (List.getElem_mem _)
  have lj:p.toList[j]<M.length:=lt _ (List.getElem_mem _)
  have u:=U i j (by omega) (by rw [←sz,←Array.length_toList];exact hj)
  unfold vN at u
  have gi:p.getD i 0=p.toList[i]:=by
   have:i<p.size:=by rw [←Array.length_toList];exact hi
   simp [Array.getD,this]
  have gj:p.getD j 0=p.toList[j]:=by
   have:j<p.size:=by rw [←Array.length_toList];exact hj
   simp [Array.getD,this]
  rw [gi,gj] at u
  dsimp only at u
  rw [getD_at li,getD_at lj] at u
  rw [getD_at li,getD_at lj]
  have ne:M[p.toList[i]]≠M[p.toList[j]]:=fun e=>by
   have e1:=(List.getElem_inj nd).mp e
   have e2:=(List.getElem_inj pn).mp e1
   omega
  have b1:=b _ (List.getElem_mem li)
  have b2:=b _ (List.getElem_mem lj)
  generalize M[p.toList[i]]=x at u ne b1
  generalize M[p.toList[j]]=y at u ne b2
  obtain ⟨x1,x2⟩:=x
  obtain ⟨y1,y2⟩:=y
  unfold lexLt
  dsimp only at u b1 b2 ⊢
  by_cases z:x1<y1
  ·exact .inl z
  ·right
   have e1:x1=y1:=by omega
   subst e1
   refine ⟨rfl,?_⟩
   by_cases y:x2=y2
   ·subst y
    exact absurd rfl ne
   ·omega
theorem mX{α β:Type}{f:α→β}:∀{L:List α},L.Nodup→(∀p q,p∈L→q∈L→f p=f q→p=q)→(L.map f).Nodup
 | [],_,_=>List.nodup_nil
 | x::L,h,k=>by
  obtain ⟨h1,h2⟩:=List.nodup_cons.mp h
  refine List.nodup_cons.mpr ⟨fun m=>?_,mX h2 fun p q hp hq=>k p q (List.mem_cons_of_mem _ hp) (List.mem_cons_of_mem _ hq)⟩
  obtain ⟨y,hy,e⟩:=List.mem_map.mp m
  have:=k y x (List.mem_cons_of_mem _ hy) List.mem_cons_self e
  rw [this] at hy
  exact h1 hy
def dI(nm:Nat→Int)(p:Int×Int):Int×Int:=(min (nm p.1.toNat) (nm p.2.toNat),max (nm p.1.toNat) (nm p.2.toNat))
structure sS (n:Nat) (nm:Nat→Int):Prop where
 lt:∀i,i<n→0≤nm i∧nm i<n
 inj:∀i j,i<n→j<n→nm i=nm j→i=j
theorem Ea{n:Nat}{nm:Nat→Int}{L:List (Int×Int)}(h:eY n L)(N:sS n nm):eY n (L.map (dI nm)) where
 nd:=by
  refine mX h.nd fun p q hp hq e=>?_
  have a:=h.lt p hp
  have b:=h.lt q hq
  obtain ⟨p1,p2⟩:=p
  obtain ⟨q1,q2⟩:=q
  obtain ⟨i,rfl⟩:=Int.eq_ofNat_of_zero_le (show 0≤p1 by dsimp only at a;omega)
  obtain ⟨j,rfl⟩:=Int.eq_ofNat_of_zero_le (show 0≤p2 by dsimp only at a;omega)
  obtain ⟨k,rfl⟩:=Int.eq_ofNat_of_zero_le (show 0≤q1 by dsimp only at b;omega)
  obtain ⟨l,rfl⟩:=Int.eq_ofNat_of_zero_le (show 0≤q2 by dsimp only at b;omega)
  dsimp only at a b
  have e1:=congrArg Prod.fst e
  have e2:=congrArg Prod.snd e
  unfold dI at e1 e2
  simp only [Int.toNat_natCast] at e1 e2
  have ij:nm i≠nm j:=fun z=>by have:=N.inj i j (by omega) (by omega) z;omega
  have kl:nm k≠nm l:=fun z=>by have:=N.inj k l (by omega) (by omega) z;omega
  by_cases z:nm i=nm k
  ·have e3:nm j=nm l:=by omega
   have i1:=N.inj i k (by omega) (by omega) z
   have i2:=N.inj j l (by omega) (by omega) e3
   rw [i1,i2]
  ·have e3:nm i=nm l:=by omega
   have e4:nm j=nm k:=by omega
   have i1:=N.inj i l (by omega) (by omega) e3
   have i2:=N.inj j k (by omega) (by omega) e4
   omega
 lt:=fun p hp=>by
  obtain ⟨q,hq,rfl⟩:=List.mem_map.mp hp
  have a:=h.lt q hq
  have n1:=N.lt q.1.toNat (by omega)
  have n2:=N.lt q.2.toNat (by omega)
  have ne:nm q.1.toNat≠nm q.2.toNat:=fun z=>by have:=N.inj _ _ (by omega) (by omega) z;omega
  unfold dI
  dsimp only
  omega
 bQ:=by rw [List.length_map];exact h.bQ
theorem eY.perm{n:Nat}{L L':List (Int×Int)}(h:eY n L)(p:L'.Perm L):eY n L':=⟨p.nodup_iff.mpr h.nd,fun q hq=>h.lt q (p.mem_iff.mp hq),by rw [p.length_eq];exact h.bQ⟩
def cy(H:Hp)(t:Addr)(n:Nat)(L:List (Int×Int)):Prop:=∃(lt:Addr) (us:List V),H t=some (.tup [.int (n:Int),.ref lt])∧H lt=some (.tup us)∧aN H us L
def Eb:Sp:=fun vs H Q _=>∃(l r:Addr) (n:Nat) (us ws:List V) (L:List (Int×Int)) (nm:Nat→Int),vs=[.int (n:Int),.ref l,.ref r]∧H l=some (.lst us)∧aN H us L∧eY n L∧n≤30∧H r=some (.lst ws)∧ws.length=n∧(∀i,i<n→ws[i]?=some (.int (nm i)))∧sS n nm ∧
 ∀(t:Addr) (L':List (Int×Int)) (H':Hp),ae H H'→H t=none→cy H' t n L'→eY n L'→L'.Pairwise lexLt→L'.Perm (L.map (dI nm))→Q (.ref t) H'
theorem aN.pick{H:Hp}{us:List V}{M:List (Int×Int)}(h:aN H us M)(ns:List Nat)(hn:∀i∈ns,i<M.length):aN H (ns.map fun i=>us.getD i .aF) (ns.map fun i=>M.getD i (0,0)):=⟨by simp,fun k v p h1 h2=>by
 have hl:=h.1
 have hk:k<ns.length:=by
  have:=(List.getElem?_eq_some_iff.mp h1).1
  simpa using this
 have hi:=hn ns[k] (List.getElem_mem hk)
 rw [List.getElem?_map,List.getElem?_eq_getElem hk] at h1 h2
 cases h1
 cases h2
 dsimp only
 have aR:ns[k]<us.length:=by omega
 rw [getD_at hi]
 have e:us.getD ns[k] .aF=us[ns[k]]:=by simp [aR]
 rw [e]
 exact h.2 ns[k] _ _ (by simp [aR]) (by simp [hi])⟩
theorem Ec{K:PySem.W.Frag}{wi:TI}{ρ:St→St}{tt:TT}{te:TE}{σ:St}{H:Hp}{Q:VK}{P a l:Addr}{xs:List V}(hn:xs.length<sizeLine)(nl:l≠P)(el:H l=some (.lst xs))(pc:a7 H P a)
  (fu:∀R:It→Hp→Prop,R (iL K l) H→wi σ H R)
  (test:∀(i:Nat) (x:V),xs[i]?=some x→∀(Hc:Hp) (R:Bool→Hp→Prop),av P H Hc→a7 Hc P a→(∀b H3,av P Hc H3→a7 H3 P a→R b H3)→tt (some x::ρ σ) Hc R)
  (elem:∀(x:V) (Hc:Hp) (R:VK),R x Hc→te (some x::ρ σ) Hc R)
  (fin:∀(D:Addr) (ys:List V) (Hc:Hp),D≠P→er P H D=none→av P H Hc→a7 Hc P a→ys.Sublist xs→Hc D=some (.lst ys)→Q (.ref D) Hc):dP wi ρ tt te σ H Q:=by
 refine fu _ fun D nD=>?_
 have nP:=pc.ne nD
 have lD:l≠D:=fun e=>by rw [e,nD] at el;cases el
 refine ⟨fun i m ys Hc=>m=xs.length-i∧i≤xs.length∧Hc D=some (.lst ys)∧av P H Hc∧a7 Hc P a∧ys.Sublist (xs.take i),⟨_,rfl,Nat.zero_le _,aq,(av.refl H).but nD,pc.upd nP,by simp⟩,?_⟩
 rintro i m ys Hc ⟨rfl,hi,eD,sH,xI,sub⟩
 refine ⟨eD,?_⟩
 have gw:=sH.at nl el
 by_cases a8:i<xs.length
 ·refine .inr ⟨⟨xs,xs[i],.of gw,by simp [a8]⟩,fun x H' hy=>?_⟩
  obtain ⟨rfl,hx⟩:=hy
  have ex:=hx xs (.of gw)
  refine test i x ex _ _ sH xI fun b H3 s3 p3=>?_
  have tk:xs.take (i+1)=xs.take i++[x]:=by rw [List.take_succ,ex];rfl
  have e3:=s3.at nP eD
  cases b with
  | true=>
   rw [if_pos rfl]
   refine elem x H3 _ ⟨e3,?_,xs.length-(i+1),by omega,rfl,a8,aq,(sH.trans s3).but nD,p3.upd nP,?_⟩
   ·have:=sub.length_le
    rw [List.length_take] at this
    omega
   ·rw [tk]
    exact sub.append (List.Sublist.refl _)
  | false=>
   rw [if_neg (by simp)]
   refine ⟨xs.length-(i+1),by omega,rfl,a8,e3,sH.trans s3,p3,?_⟩
   rw [tk]
   exact sub.trans (List.sublist_append_left _ _)
 ·have e:i=xs.length:=by omega
  subst e
  rw [List.take_length] at sub
  exact .inl ⟨⟨xs,.of gw,by omega⟩,fin D ys Hc nP (by rw [cG nP];exact nD) sH xI sub eD⟩
def cO(k:Nat)(d:List Nat):Prop:=d.Pairwise (fun a b=>b<a)∧∀x∈d,x<k
theorem cO.len:∀{d:List Nat} {k:Nat},cO k d→d.length≤k
 | [],_,_=>Nat.zero_le _
 | x::d,k,h=>by
  obtain ⟨h1,h2⟩:=List.pairwise_cons.mp h.1
  have:=cO.len (k:=x) ⟨h2,fun y hy=>h1 y hy⟩
  have:=h.2 x List.mem_cons_self
  rw [List.length_cons]
  omega
theorem cO.nil(k:Nat):cO k []:=⟨List.Pairwise.nil,fun x hx=>by cases hx⟩
theorem cO.sub{k:Nat}{d e:List Nat}(h:cO k d)(s:e.Sublist d):cO k e:=⟨h.1.sublist s,fun x hx=>h.2 x (s.subset hx)⟩
theorem cO.put{j k:Nat}{d:List Nat}(h:cO k d)(hk:k<j):cO j (k::d):=⟨List.pairwise_cons.mpr ⟨h.2,h.1⟩,fun x hx=>by
 rcases List.mem_cons.mp hx with rfl | hx
 ·exact hk
 ·have:=h.2 x hx
  omega⟩
theorem cO.nd{k:Nat}{d:List Nat}(h:cO k d):d.Nodup:=h.1.imp fun h=>by omega
def cz(d:List Nat):List V:=d.map fun(x:Nat)=>V.int (x:Int)
theorem sU:∀{d:List Nat} {ys:List V},ys.Sublist (cz d)→∃e:List Nat,e.Sublist d∧ys=cz e
 | [],ys,h=>⟨[],List.Sublist.refl _,by
  have h:ys.Sublist []:=h
  rw [List.sublist_nil.mp h]
  rfl⟩
 | x::d,ys,h=>by
  have h:ys.Sublist (V.int (x:Int)::cz d):=h
  cases h with
  | cons _ h=>
   obtain ⟨e,h1,h2⟩:=sU h
   exact ⟨e,h1.cons _,h2⟩
  | cons_cons _ h=>
   obtain ⟨e,h1,h2⟩:=sU h
   exact ⟨x::e,.cons_cons _ h1,by rw [h2];rfl⟩
structure gx (j:Nat) (L:List (Int×Int)):Prop where
 nd:L.Nodup
 lt:∀p∈L,0≤p.1∧p.1<p.2∧p.2<j
 bQ:2*L.length≤j*(j-1)
theorem gx.nil:gx 1 []:=⟨List.nodup_nil,(fun p hp=>by cases hp),by simp⟩
theorem gx.ok{n:Nat}{L:List (Int×Int)}(h:gx n L):eY n L:=⟨h.nd,h.lt,by
 have:=h.bQ
 have:n*(n-1)≤n*n:=Nat.mul_le_mul_left _ (by omega)
 omega⟩
theorem gx.more{j:Nat}{L:List (Int×Int)}{d:List Nat}(h:gx j L)(hd:cO j d):gx (j+1) (L++d.map fun(x:Nat)=>((x:Int),(j:Int))) where
 nd:=by
  refine List.nodup_append.mpr ⟨h.nd,mX hd.nd fun p q _ _ e=>by
   have:=congrArg Prod.fst e
   dsimp only at this
   omega,fun p hp q hq e=>?_⟩
  obtain ⟨x,_,rfl⟩:=List.mem_map.mp hq
  have:=h.lt p hp
  rw [e] at this
  dsimp only at this
  omega
 lt:=fun p hp=>by
  rcases List.mem_append.mp hp with hp | hp
  ·have:=h.lt p hp
   omega
  ·obtain ⟨x,hx,rfl⟩:=List.mem_map.mp hp
   have:=hd.2 x hx
   dsimp only
   omega
 bQ:=by
  have a:=h.bQ
  have b:=hd.len
  rw [List.length_append,List.length_map,Nat.add_sub_cancel]
  cases j with
  | zero=>
   rw [Nat.zero_mul] at a
   rw [Nat.mul_zero]
   omega
  | succ j=>
   rw [Nat.add_sub_cancel] at a
   have e:(j+1+1)*(j+1)=(j+1)*j+2*(j+1):=by grind
   rw [e]
   omega
def Ed(K:PySem.W.Frag):Sp:=fun vs H Q _=>∃(P a:Addr) (ns:List Int) (n:Nat),vs=[.ref P,.int (n:Int)]∧a7 H P a∧aS K (er P H) a (ns.map V.int)∧1≤n∧n≤30 ∧
 ∀(r:Addr) (us:List V) (L:List (Int×Int)) (H':Hp),av P H H'→a7 H' P a→er P H r=none→r≠P→H' r=some (.lst us)→aN (er P H') us L→eY n L→Q (.ref r) H'
def Ee(H:Hp)(vs:List V)(j:Nat)(D:Nat→List Nat):Prop:=vs.length=j∧∀k,k<j→cO k (D k)∧∃b,vs[k]?=some (.ref b)∧H b=some (.lst (cz (D k)))
theorem sV{P r:Addr}{H:Hp}{o:HO}:∀b o',b≠r→er P H b=some o'→er P (upd H r o) b=some o':=fun b o' nb e=>by
 by_cases z:b=P
 ·subst z
  unfold er at e
  rw [if_pos rfl] at e
  cases e
 ·rw [cG z] at e ⊢
  rw [aA nb]
  exact e
theorem aN.cat{H:Hp}{us zs:List V}{L M:List (Int×Int)}(h:aN H us L)(g:aN H zs M):aN H (us++zs) (L++M):=⟨by simp [h.1,g.1],fun k v p h1 h2=>by
 have hl:=h.1
 by_cases z:k<us.length
 ·rw [List.getElem?_append_left z] at h1
  rw [List.getElem?_append_left (by omega)] at h2
  exact h.2 k v p h1 h2
 ·rw [List.getElem?_append_right (by omega)] at h1
  rw [List.getElem?_append_right (by omega),show k-L.length=k-us.length by omega] at h2
  exact g.2 _ v p h1 h2⟩
theorem Ef{d:List Nat}{i:Nat}{x:V}(h:(cz d)[i]?=some x):∃y,d[i]?=some y∧x=.int (y:Int):=by
 unfold cz at h
 rw [List.getElem?_map] at h
 cases e:d[i]? with
 | none=>rw [e] at h;cases h
 | some y=>rw [e] at h;cases h;exact ⟨y,rfl,rfl⟩
theorem mY{P a b:Addr}{H:Hp}{xs:List V}(p:a7 H P a)(e:H b=some (.tup xs)):er P H b=some (.tup xs):=by
 refine r6 (fun z=>?_) e
 obtain ⟨x,y,eP,_⟩:=p
 rw [z,eP] at e
 cases e
structure de (j i:Nat) (L:List (Int×Int)):Prop where
 nd:L.Nodup
 lt:∀p∈L,0≤p.1∧p.1<p.2∧(p.2<j∨p.2=j∧p.1<i)
 bQ:2*L.length≤j*(j-1)+2*i
theorem de.start:de 0 0 []:=⟨List.nodup_nil,(fun p hp=>by cases hp),by simp⟩
theorem de.skip{j i:Nat}{L:List (Int×Int)}(h:de j i L):de j (i+1) L:=⟨h.nd,fun p hp=>by
 have:=h.lt p hp
 omega,by
 have:=h.bQ
 omega⟩
theorem de.push{j i:Nat}{L:List (Int×Int)}(h:de j i L)(hi:i<j):de j (i+1) (L++[((i:Int),(j:Int))]) where
 nd:=by
  refine List.nodup_append.mpr ⟨h.nd,by simp,fun p hp q hq e=>?_⟩
  rw [List.mem_singleton.mp hq] at e
  have:=h.lt p hp
  rw [e] at this
  dsimp only at this
  omega
 lt:=fun p hp=>by
  rcases List.mem_append.mp hp with hp | hp
  ·have:=h.lt p hp
   omega
  ·rw [List.mem_singleton.mp hp]
   dsimp only
   omega
 bQ:=by
  have:=h.bQ
  rw [List.length_append,List.length_singleton]
  omega
theorem de.next{j:Nat}{L:List (Int×Int)}(h:de j j L):de (j+1) 0 L:=⟨h.nd,fun p hp=>by
 have:=h.lt p hp
 omega,by
 have a:=h.bQ
 rw [Nat.add_sub_cancel]
 cases j with
 | zero=>omega
 | succ j=>
  rw [Nat.add_sub_cancel] at a
  have e:(j+1+1)*(j+1)=(j+1)*j+2*(j+1):=by grind
  rw [e]
  omega⟩
theorem de.ok{n:Nat}{L:List (Int×Int)}(h:de n 0 L):eY n L:=⟨h.nd,fun p hp=>by
 have:=h.lt p hp
 omega,by
 have:=h.bQ
 have:n*(n-1)≤n*n:=Nat.mul_le_mul_left _ (by omega)
 omega⟩
theorem Eg(n:Nat):(bK n).Nodup:=mX List.nodup_range fun p q _ _ e=>by
 have:=V.int.inj e
 omega
theorem Eh{n:Nat}{ys:List V}(h:ys.Perm (bK n)):∃nm:Nat→Int,ys.length=n∧(∀i,i<n→ys[i]?=some (.int (nm i)))∧sS n nm:=by
 have ln:ys.length=n:=by rw [h.length_eq];unfold bK;simp
 have nd:ys.Nodup:=h.nodup_iff.mpr (Eg n)
 have each:∀i,∃x:Int,i<n→ys[i]?=some (.int x)∧0≤x∧x<n:=fun i=>by
  by_cases hi:i<n
  ·have aR:i<ys.length:=by omega
   have m:ys[i]∈bK n:=h.mem_iff.mp (List.getElem_mem aR)
   obtain ⟨k,hk,e⟩:=List.mem_map.mp m
   have:=List.mem_range.mp hk
   exact ⟨(k:Int),fun _=>⟨by rw [e];simp [aR],by omega,by omega⟩⟩
  ·exact ⟨0,fun z=>absurd z hi⟩
 obtain ⟨nm,hn⟩:=Classical.axiomOfChoice each
 refine ⟨nm,ln,fun i hi=>(hn i hi).1,fun i hi=>(hn i hi).2,fun i j hi hj e=>?_⟩
 have a:=(hn i hi).1
 have b:=(hn j hj).1
 rw [e] at a
 have aR:i<ys.length:=by omega
 have cu:j<ys.length:=by omega
 rw [List.getElem?_eq_getElem aR] at a
 rw [List.getElem?_eq_getElem cu] at b
 exact (List.getElem_inj nd).mp ((Option.some.inj a).trans (Option.some.inj b).symm)
def Ei(K:PySem.W.Frag):Sp:=fun vs H Q _=>∃(P a:Addr) (ns:List Int) (most:Nat),vs=[.ref P,.int (most:Int)]∧a7 H P a∧aS K (er P H) a (ns.map V.int)∧1≤most∧most≤30 ∧
 ∀(t:Addr) (n:Nat) (L:List (Int×Int)) (H':Hp),av P H H'→a7 H' P a→er P H t=none→t≠P→cy (er P H') t n L→eY n L→L.Pairwise lexLt→1≤n→n≤most→Q (.ref t) H'
theorem aN.er{P a:Addr}{H:Hp}{us:List V}{L:List (Int×Int)}(h:aN H us L)(p:a7 H P a):aN (er P H) us L:=⟨h.1,fun k v q h1 h2=>by
 obtain ⟨b,e,g⟩:=h.2 k v q h1 h2
 exact ⟨b,e,mY p g⟩⟩
theorem cy.er{P a t:Addr}{H:Hp}{n:Nat}{L:List (Int×Int)}(h:cy H t n L)(p:a7 H P a):cy (er P H) t n L:=by
 obtain ⟨lt,us,h1,h2,h3⟩:=h
 exact ⟨lt,us,mY p h1,mY p h2,h3.er p⟩
theorem cy.mono{t:Addr}{H H':Hp}{n:Nat}{L:List (Int×Int)}(h:cy H t n L)(s:ae H H'):cy H' t n L:=by
 obtain ⟨lt,us,h1,h2,h3⟩:=h
 exact ⟨lt,us,s _ _ h1,s _ _ h2,h3.mono s⟩
theorem Ej{wi:TI}{ρ:St→St}{tt:TT}{te:TE}{σ:St}{H:Hp}{Q:VK}{xs:List V}(pr:Nat→Bool)(fu:∀R:It→Hp→Prop,(∀J,gp J xs H→R J H)→wi σ H R)(hn:xs.length<sizeLine)
  (P:Addr→Nat→V→Hp→Prop) (mono:∀D i y H H' ys,P D i y H→H D=some (.lst ys)→(∀b o,b≠D→H b=some o→H' b=some o)→P D i y H')
  (test:∀(i:Nat) (x:V),xs[i]?=some x→∀(Hc:Hp) (R:Bool→Hp→Prop),ae H Hc→R (pr i) Hc→tt (some x::ρ σ) Hc R)
  (step:∀D (i:Nat) (x:V),xs[i]?=some x→∀(Hc:Hp) (R:VK),ae H Hc→(∃ys,Hc D=some (.lst ys))→(∀y H3,ae Hc H3→P D i y H3→R y H3)→te (some x::ρ σ) Hc R)
  (fin:∀D ys Hc,H D=none→ae H Hc→ys.length=((List.range xs.length).filter pr).length→(∀(k i:Nat) (y:V),ys[k]?=some y→((List.range xs.length).filter pr)[k]?=some i→P D i y Hc)→Hc D=some (.lst ys)→Q (.ref D) Hc):dP wi ρ tt te σ H Q:=by
 refine fu _ fun J js=>?_
 intro D nD
 refine ⟨fun i m ys Hc=>m=xs.length-i∧i≤xs.length∧Hc D=some (.lst ys)∧ae H Hc∧ys.length=((List.range i).filter pr).length∧∀(k i':Nat) (y:V),ys[k]?=some y→((List.range i).filter pr)[k]?=some i'→P D i' y Hc,⟨_,rfl,Nat.zero_le _,aq,dA (ae.refl H) nD,rfl,fun k i y h=>by simp at h⟩,?_⟩
 rintro i m ys Hc ⟨rfl,hi,eD,sH,ly,hP⟩
 refine ⟨eD,?_⟩
 by_cases a8:i<xs.length
 ·refine .inr ⟨js.go i Hc sH a8,fun x H' hy=>?_⟩
  obtain ⟨rfl,hx⟩:=js.cQ i Hc x H' sH hy
  refine test i x (hx a8) _ _ sH ?_
  have fs:(List.range (i+1)).filter pr=(List.range i).filter pr++(if pr i=true then [i] else []):=by
   rw [List.range_succ,List.filter_append]
   congr 1
   cases e:pr i <;> simp [e]
  have fl:((List.range i).filter pr).length≤i:=Nat.le_trans (List.length_filter_le _ _) (by simp)
  cases e:pr i with
  | true=>
   rw [if_pos rfl]
   refine step D i x (hx a8) _ _ sH ⟨_,eD⟩ fun y H3 s3 hp=>?_
   have e3:=s3 _ _ eD
   have aZ:∀b o,b≠D→H3 b=some o→upd H3 D (.lst (ys++[y])) b=some o:=fun b o nb e=>by rw [aA nb];exact e
   refine ⟨e3,by omega,xs.length-(i+1),by omega,rfl,a8,aq,dA (sH.trans s3) nD,?_,fun k i' y' h1 h2=>?_⟩
   ·rw [fs,e,if_pos rfl,List.length_append,List.length_append,ly]
    rfl
   ·rw [fs,e,if_pos rfl] at h2
    by_cases z:k<ys.length
    ·rw [List.getElem?_append_left z] at h1
     rw [List.getElem?_append_left (by omega)] at h2
     refine mono D i' y' H' _ ys (hP k i' y' h1 h2) eD fun b o nb e=>aZ b o nb (s3 _ _ e)
    ·have hk:=(List.getElem?_eq_some_iff.mp h1).1
     rw [List.length_append,List.length_singleton] at hk
     obtain rfl:k=ys.length:=by omega
     rw [List.getElem?_append_right (Nat.le_refl _),Nat.sub_self] at h1
     rw [List.getElem?_append_right (by omega),show ys.length-((List.range i).filter pr).length=0 by omega] at h2
     cases h1
     cases h2
     exact mono D _ _ H3 _ ys hp e3 aZ
  | false=>
   rw [if_neg (by simp)]
   refine ⟨xs.length-(i+1),by omega,rfl,a8,eD,sH,?_,fun k i' y' h1 h2=>?_⟩
   ·rw [fs,e,if_neg (by simp),List.append_nil]
    exact ly
   ·rw [fs,e,if_neg (by simp),List.append_nil] at h2
    exact hP k i' y' h1 h2
 ·have e:i=xs.length:=by omega
  subst e
  exact .inl ⟨js.stop _ Hc sH (Nat.le_refl _),fin D ys Hc nD sH ly hP eD⟩
theorem xJ{p:Int×Int}:¬lexLt p p:=fun h=>by
 unfold lexLt at h
 omega
theorem Ek{p q:Int×Int}(h1:lexLt p q)(h2:lexLt q p):False:=by
 unfold lexLt at h1 h2
 omega
theorem xK:∀{A B:List (Int×Int)},A.Pairwise lexLt→B.Pairwise lexLt→(∀p,p∈A↔p∈B)→A=B
 | [],[],_,_,_=>rfl
 | [],b::B,_,_,h=>absurd ((h b).mpr List.mem_cons_self) (by simp)
 | a::A,[],_,_,h=>absurd ((h a).mp List.mem_cons_self) (by simp)
 | a::A,b::B,ha,hb,h=>by
  obtain ⟨a1,a2⟩:=List.pairwise_cons.mp ha
  obtain ⟨b1,b2⟩:=List.pairwise_cons.mp hb
  have e:a=b:=by
   rcases List.mem_cons.mp ((h a).mp List.mem_cons_self) with z | z
   ·exact z
   ·rcases List.mem_cons.mp ((h b).mpr List.mem_cons_self) with y | y
    ·exact y.symm
    ·exact (Ek (b1 a z) (a1 b y)).elim
  subst e
  rw [xK a2 b2 fun p=>⟨fun m=>?_,fun m=>?_⟩]
  ·rcases List.mem_cons.mp ((h p).mp (List.mem_cons_of_mem _ m)) with z | z
   ·subst z
    exact (xJ (a1 _ m)).elim
   ·exact z
  ·rcases List.mem_cons.mp ((h p).mpr (List.mem_cons_of_mem _ m)) with z | z
   ·subst z
    exact (xJ (b1 _ m)).elim
   ·exact z
end My
namespace L2
open PySem PySem.Spec PyProof.Rows
end L2
namespace My
open PySem L2
theorem El{te:TE}{σ:St}{H:Hp}{R:VK}(M:V→Hp→Prop)(h1:∀R':VK,(∀x H,M x H→R' x H)→te σ H R')(h2:∀x H,M x H→R x H):te σ H R:=h1 R h2
end My
namespace L2
open PySem PySem.Spec PyProof.Rows
section
variable (P:Program) (w:World)
end
section
variable {P:Program} {w:World} {H H':Hp} {h h':Heap} {a:Addr} {o:HO}
end
section
variable {P:Program} {w:World} {H:Hp} {h h':Heap} {x e:Addr} {o':HO}
end
section
variable {fs lK ex dZ:List Addr} {H H1 H2:Hp} {h h1 h2 h':Heap} {a x e:Addr} {o:HO}
end
section
variable {X:Cx} {pins:List (Addr×Obj)} {σ:List (Option V)} {H H':Hp} {s:Shared} {h':Heap}
end
section
variable {X:Cx}
variable {a b:Expr} {ta tb:TE} {pos:Pos}
variable {tA lT:TT} {rest:List Expr}
end
section
variable {X:Cx} {pins:List (Addr×Obj)} {σ:St} {H:Hp} {s:Shared} {a:Addr} {xs ys:List V}
end
section
variable {X:Cx} {pins:List (Addr×Obj)} {σ:St} {H:Hp} {s:Shared} {E:Value→Shared→Prop}
end
section
variable {X:Cx} {st:Stmt} {rest:List Stmt} {t u:TS} {e:Expr} {te:TE} {pos:Pos}
end
section
variable {X:Cx} {pos:Pos}
end
section
variable {X:Cx} {pos:Pos}
end
section
variable {X:Cx} {tg:Expr}
end
section
variable {X:Cx} {a b c:Expr} {ta tb tc:TE} {pos:Pos}
end
section
variable {X:Cx} {a b c:Expr} {ta tb tc:TE} {pos:Pos}
end
section
variable {prog:Program} {w:World} {A:Around} {E:Value→Shared→Prop} {s:Shared} {K:PySem.W.Frag} {x dx C f:Addr} {mA:Str→Option Value} {name:Str} {v:Value}
end
section
variable {P:Program} {w:World} {H H':Hp} {h h':Heap} {a C dx:Addr} {fs lK:List (Str×V)}
end
section
variable {X:Cx} {pins:List (Addr×Obj)} {σ:St} {H:Hp} {s:Shared} {a C dx:Addr} {fs:List (Str×V)} {f:Str} {v:V} {A:Around} {E:Value→Shared→Prop}
end
section
variable {X:Cx} {o e value:Expr} {f:Str} {pos pos' oj:Pos} {ta tv:TE}
end
section
variable {X:Cx} {pins:List (Addr×Obj)} {σ:St} {H:Hp} {s:Shared} {A:Around} {E:Value→Shared→Prop} {Q:Value→Shared→Prop} {c:Value} {b:Bool}
end
section
variable {X:Cx} {e:Expr} {es:List Expr} {te:TE} {t:TA} {pos:Pos}
end
section
variable {X:Cx} {pins:List (Addr×Obj)} {σ:St} {H:Hp} {s s':Shared}
end
section
variable {X:Cx} {CX:du} {k:Nat} {f C:Addr} {fd:FuncData} {ps:List Str} {sp:Sp} {fO:List V} {ds:List Value} {E:XK} {x m:Str} {p pos apos:Pos} {e o:Expr} {es:List Expr} {ta:TE} {t:TA}
end
section
variable {X:Cx} {CX:du} {k:Nat} {f C:Addr} {fd:FuncData} {ps ks:List Str} {sp:Sp} {E:XK} {x m:Str} {p pos apos vW:Pos} {e o:Expr} {es:List Expr} {BD:List Keyword} {te ta:TE} {t tk:TA} {nm:Option Str}
variable {g:List Value→List Value→List Value} {gV:List V→List V→List V}
end
section
variable {X:Cx} {x:Str} {p pos:Pos} {e:Expr} {es:List Expr} {t:TA} {id T:String} {r:List V→Hp→VK→Prop}
end
section
variable {κ:Type} [DecidableEq κ]
def eB(ai:List (κ×V))(k:κ):Option V:=(ai.find? fun kv=>decide (kv.1=k)).map (·.2)
def putK(ai:List (κ×V))(k:κ)(v:V):List (κ×V):=
 if (ai.any fun kv=>decide (kv.1=k))=true then ai.map (fun kv=>if kv.1=k then (kv.1,v) else kv) else ai++[(k,v)]
theorem pG{p:κ×V}{r:List (κ×V)}{k:κ}(e:p.1=k):eB (p::r) k=some p.2:=by simp [eB,List.find?_cons,e]
theorem pH{p:κ×V}{r:List (κ×V)}{k:κ}(e:¬p.1=k):eB (p::r) k=eB r k:=by simp [eB,List.find?_cons,e]
theorem xM(k:κ):∀ai:List (κ×V),(ai.any fun kv=>decide (kv.1=k))=(eB ai k).isSome
 | []=>rfl
 | p::r=>by
  rw [List.any_cons]
  by_cases e:p.1=k
  ·simp only [pG e,decide_eq_true e,Bool.true_or,Option.isSome_some]
  ·rw [pH e,decide_eq_false e,Bool.false_or];exact xM k r
theorem sW(ai:List (κ×V))(k:κ)(v:V):(putK ai k v).length≤ai.length+1:=by
 unfold putK
 split
 ·rw [List.length_map];omega
 ·rw [List.length_append,List.length_cons,List.length_nil];omega
theorem iD.mZ{o:Option V}{u:Option Value}(r:iD o u):o.isSome=u.isSome:=by
 cases o with
 | none=>cases u with
  | none=>rfl
  | some _=>exact (show False from r).elim
 | some _=>cases u with
  | none=>exact (show False from r).elim
  | some _=>rfl
theorem KV.val{ai:List (κ×V)}{vs:List (κ×Value)}(r:KV ai vs)(k:κ):iD (eB ai k) (valueAt vs k):=by
 unfold KV at r
 induction r with
 | nil=>exact True.intro
 | @cons p q ps qs h t ih=>
  obtain ⟨h1,h2⟩:=h
  by_cases e:p.1=k
  ·have e':q.1=k:=h1.symm.trans e
   have b:valueAt (q::qs) k=some q.2:=by simp [valueAt,List.find?_cons,e']
   rw [pG e,b];exact h2
  ·have e':¬q.1=k:=fun z=>e (h1.trans z)
   have b:valueAt (q::qs) k=valueAt qs k:=by simp [valueAt,List.find?_cons,e']
   rw [pH e,b];exact ih
theorem KV.any{ai:List (κ×V)}{vs:List (κ×Value)}(r:KV ai vs)(k:κ):(ai.any fun kv=>decide (kv.1=k))=vs.any fun kv=>decide (kv.1=k):=by
 unfold KV at r
 induction r with
 | nil=>rfl
 | cons h t ih=>rw [List.any_cons,List.any_cons,ih,h.1]
theorem KV.sX{ai:List (κ×V)}{vs:List (κ×Value)}(r:KV ai vs)(k:κ){y:V}{u:Value}(ry:RelV y u) :
  KV (ai.map fun kv=>if kv.1=k then (kv.1,y) else kv) (vs.map fun kv=>if kv.1=k then (kv.1,u) else kv):=by
 unfold KV at r ⊢
 induction r with
 | nil=>exact .nil
 | @cons p q ps qs h t ih=>
  rw [List.map_cons,List.map_cons]
  refine .cons ?_ ih
  obtain ⟨h1,h2⟩:=h
  by_cases e:p.1=k
  ·rw [if_pos e,if_pos (h1.symm.trans e)];exact ⟨h1,ry⟩
  ·rw [if_neg e,if_neg (fun z=>e (h1.trans z))];exact ⟨h1,h2⟩
theorem KV.put{ai:List (κ×V)}{vs:List (κ×Value)}(r:KV ai vs)(k:κ){y:V}{u:Value}(ry:RelV y u):KV (putK ai k y) (stored vs k u):=by
 unfold putK stored
 rw [r.any k]
 by_cases e:(vs.any fun kv=>decide (kv.1=k))=true
 ·rw [if_pos e,if_pos e];exact r.sX k ry
 ·rw [if_neg e,if_neg e];exact Paired.snoc r ⟨rfl,ry⟩
theorem KV.length{ai:List (κ×V)}{vs:List (κ×Value)}(r:KV ai vs):ai.length=vs.length:=Paired.length r
end
theorem m8{P:Program}{w:World}{k:Key}{u:Value}(r:RelV (kV k) u):(cW P w).is k u=true:=by
 cases k with
 | inl i=>obtain ⟨t,e⟩:=(show ∃t,u=Value.int i t from r);subst e;exact Az P w i t
 | inr x=>obtain ⟨t,e⟩:=(show ∃t,u=Value.str x t from r);subst e;exact AA P w x t
theorem xN{P:Program}{w:World}:∀{ks:List Key} {us:List Value},Vals (ks.map kV) us→ItemsAre (cW P w) ks us
 | [],_,r=>by rw [List.map_nil] at r;cases r;exact .nil
 | k::ks,_,r=>by
  rw [List.map_cons] at r
  cases r with
  | cons h t=>exact .cons (m8 h) (xN t)
abbrev KT (H:Hp):List (List Key×V)→List (List Key×Addr×Value)→Prop:=Paired fun p q=>p.1=q.1∧H q.2.1=some (.tup (p.1.map kV))∧RelV p.2 q.2.2
theorem KT.val{H:Hp}{ai:List (List Key×V)}{xs:List (List Key×Addr×Value)}(r:KT H ai xs)(k:List Key):iD (eB ai k) ((atKey xs k).map (·.2)):=by
 induction r with
 | nil=>exact True.intro
 | @cons p q ps qs h t ih=>
  obtain ⟨h1,_,h2⟩:=h
  by_cases e:p.1=k
  ·have e':q.1=k:=h1.symm.trans e
   have b:atKey (q::qs) k=some q.2:=by simp [atKey,List.find?_cons,e']
   rw [pG e,b];exact h2
  ·have e':¬q.1=k:=fun z=>e (h1.trans z)
   have b:atKey (q::qs) k=atKey qs k:=by simp [atKey,List.find?_cons,e']
   rw [pH e,b];exact ih
theorem KT.sX{H:Hp}{ai:List (List Key×V)}{xs:List (List Key×Addr×Value)}(r:KT H ai xs)(k:List Key){y:V}{u:Value}(ry:RelV y u) :
  KT H (ai.map fun kv=>if kv.1=k then (kv.1,y) else kv) (xs.map (putAt k u)):=by
 induction r with
 | nil=>exact .nil
 | @cons p q ps qs h t ih=>
  rw [List.map_cons,List.map_cons]
  refine .cons ?_ ih
  obtain ⟨h1,h2,h3⟩:=h
  unfold putAt
  by_cases e:p.1=k
  ·rw [if_pos e,if_pos (h1.symm.trans e)];exact ⟨h1,h2,ry⟩
  ·rw [if_neg e,if_neg (fun z=>e (h1.trans z))];exact ⟨h1,h2,h3⟩
theorem KT.put{H:Hp}{ai:List (List Key×V)}{xs:List (List Key×Addr×Value)}(r:KT H ai xs)(k:List Key){b:Addr}{y:V}{u:Value}(hb:H b=some (.tup (k.map kV)))(ry:RelV y u) :
  KT H (putK ai k y) (storedH xs k b u):=by
 have e:(ai.any fun kv=>decide (kv.1=k))=(atKey xs k).isSome:=by
  rw [xM,(r.val k).mZ,Option.isSome_map]
 unfold putK storedH
 rw [e]
 by_cases q:(atKey xs k).isSome=true
 ·rw [if_pos q,if_pos q];exact r.sX k ry
 ·rw [if_neg q,if_neg q];exact Paired.snoc r ⟨rfl,hb,ry⟩
theorem KT.keeps{H H':Hp}{ai:List (List Key×V)}{xs:List (List Key×Addr×Value)}(r:KT H ai xs)(ht:∀b ys,H b=some (.tup ys)→H' b=some (.tup ys)):KT H' ai xs:=
 Paired.qS r fun _ _ z=>⟨z.1,ht _ _ z.2.1,z.2.2⟩
section
variable {P:Program} {w:World} {H:Hp} {h:Heap} {a:Addr}
theorem xO{u:HO}(ok:ba P w H h)(e:Rd H a u):bj P w H h a u:=e.ok ok
theorem sY{ai:List (Key×V)}(ok:ba P w H h)(e:Rd H a (.dK ai)):ai.length≤sizeLine∧(a == sysModules)=false∧∃vs,KV ai vs∧h.DictOf (cW P w) a vs:=
 show bj P w H h a (.dK ai) from xO ok e
theorem xP{ai:List (Key×V)}(ok:ba P w H h)(e:H a=some (.dK ai)):ai.length≤sizeLine∧(a == sysModules)=false∧∃vs,KV ai vs∧h.DictOf (cW P w) a vs:=sY ok (.inl e)
theorem pI{ks:List Key}(ok:ba P w H h)(e:H a=some (.tup (ks.map kV))):(tupleKind (cW P w)).is h ks a:=by
 obtain ⟨_,aa,r,o,h1,h2,n,h3⟩:=(show bj P w H h a (.tup (ks.map kV)) from ok a _ e)
 exact ⟨o,aa.toArray,n,h1,h2,h3,by simpa using xN r⟩
theorem sZ{ai:List (List Key×V)}(ok:ba P w H h)(e:Rd H a (.dT ai)):ai.length≤sizeLine∧(a == sysModules)=false ∧
  ∃xs,KT H ai xs∧h.DictOfH (tupleKind (cW P w)) a xs:=by
 obtain ⟨z,y,xs,r,o,es,ep,h1,h2,h3,h4,h5⟩:=(show bj P w H h a (.dT ai) from xO ok e)
 refine ⟨z,y,xs,r,o,es,ep,h1,h2,h3,h4,fun x hx=>?_,h5⟩
 have all:∀{l:List (List Key×V)} {m:List (List Key×Addr×Value)},KT H l m→∀x∈m,(tupleKind (cW P w)).is h x.1 x.2.1:=by
  intro l m q
  induction q with
  | nil=>intro x hx;exact nomatch hx
  | @cons p q ps qs hq t ih=>
   intro x hx
   rcases List.mem_cons.mp hx with e | hx
   ·subst e
    exact pI ok (by rw [←hq.1];exact hq.2.1)
   ·exact ih x hx
 exact all r x hx
theorem Em{ai:List (List Key×V)}(ok:ba P w H h)(e:H a=some (.dT ai)):ai.length≤sizeLine∧(a == sysModules)=false ∧
  ∃xs,KT H ai xs∧h.DictOfH (tupleKind (cW P w)) a xs:=sZ ok (.inl e)
end
def pJ(H:Hp)(a:Addr)(y:V)(r:Option V):Prop:=
 (∃ai k,Rd H a (.dK ai)∧y=kV k∧r=eB ai k)∨∃ai k b,Rd H a (.dT ai)∧y=.ref b∧H b=some (.tup (k.map kV))∧r=eB ai k
def s_(H:Hp)(a:Addr)(y v:V)(H':Hp):Prop:=
 (∃ai k,H a=some (.dK ai)∧y=kV k∧ai.length<sizeLine∧H'=upd H a (.dK (putK ai k v))) ∨
 ∃ai k b,H a=some (.dT ai)∧y=.ref b∧H b=some (.tup (k.map kV))∧ai.length<sizeLine∧H'=upd H a (.dT (putK ai k v))
section
variable {X:Cx} {pins:List (Addr×Obj)} {σ:St} {H:Hp} {s:Shared} {a:Addr} {y v:V} {u r:Value} {o:Option V} {A:Around} {E:Value→Shared→Prop}
theorem Inv.big(I:Inv X pins σ H s):sysModules<s.heap.objs.size:=by
 have h:mainGlobals<s.heap.objs.size:=(I.mod.glob.keeps I.bk).lt
 exact Nat.lt_trans (by decide) h
theorem En{Q:Value→Shared→Prop}(hu:A.units+1<cLine)(I:Inv X pins σ H s)(g:pJ H a y o)(ry:RelV y u)(h:∀s',Inv X pins σ H s'→Q (.bool o.isSome) s') :
  wpAny (model X.prog X.w) A (compareOp .In u (.ref a)) Q E s:=by
 rcases g with ⟨ai,k,e,ey,l⟩ | ⟨ai,k,b,e,ey,eb,l⟩
 ·subst ey
  obtain ⟨z,hd,vs,rel,dd⟩:=sY I.ar e
  refine wpAny_in_of (m8 ry) hd dd.mapOf ?_
  rw [←(rel.val k).mZ,←l]
  exact h _ (I.tok _)
 ·subst ey
  cases (show u=Value.ref b from ry)
  obtain ⟨z,hd,xs,rel,dd⟩:=sZ I.ar e
  refine wpAny_in_heap (tupleKind_room_in1 hu) (pI I.ar eb) hd dd ?_
  have q:=(rel.val k).mZ
  rw [Option.isSome_map] at q
  rw [←q,←l]
  exact h _ (I.tok _)
theorem Eo{Q:Value→Shared→Prop}(hu:A.units+1<cLine)(I:Inv X pins σ H s)(g:pJ H a y o)(ry:RelV y u)(h:∀s',Inv X pins σ H s'→Q (.bool (!o.isSome)) s') :
  wpAny (model X.prog X.w) A (compareOp .NotIn u (.ref a)) Q E s:=by
 rcases g with ⟨ai,k,e,ey,l⟩ | ⟨ai,k,b,e,ey,eb,l⟩
 ·subst ey
  obtain ⟨z,hd,vs,rel,dd⟩:=sY I.ar e
  refine wpAny_notIn_of (m8 ry) hd dd.mapOf ?_
  rw [←(rel.val k).mZ,←l]
  exact h _ (I.tok _)
 ·subst ey
  cases (show u=Value.ref b from ry)
  obtain ⟨z,hd,xs,rel,dd⟩:=sZ I.ar e
  refine wpAny_notIn_heap (tupleKind_room_in1 hu) (pI I.ar eb) hd dd ?_
  have q:=(rel.val k).mZ
  rw [Option.isSome_map] at q
  rw [←q,←l]
  exact h _ (I.tok _)
theorem tf{h':Heap}{t':Nat}{ob:HO}(I:Inv X pins σ H s)(mu:lJ (H a))(hs:Heap.SameBut a s.heap h')(he:∃q,h'.get? a=some q)(new:bj X.prog X.w (upd H a ob) h' a ob) :
  Inv X pins σ (upd H a ob) {s with heap:=h',toks:=t'}:=
 I.write (x:=a) (e:=a) mu (.inl rfl) (fun b q hb z=>(hs.2 b hb).trans z) he new
theorem xQ{P:Program}{w:World}{H':Hp}{h':Heap}{ai:List (Key×V)}{vs:List (Key×Value)}(z:ai.length≤sizeLine)(hd:(a == sysModules)=false)(rel:KV ai vs)(dd:h'.DictOf (cW P w) a vs) :
  bj P w H' h' a (.dK ai):=⟨z,hd,vs,rel,dd⟩
theorem Ep{H':Hp}{Q:Unit→Shared→Prop}(hu:A.units+1<cLine)(I:Inv X pins σ H s)(g:s_ H a y v H')(ry:RelV y u)(rv:RelV v r)(h:∀s',Inv X pins σ H' s'→Q () s') :
  wpAny (model X.prog X.w) A (setItem (.ref a) u r) Q E s:=by
 rcases g with ⟨ai,k,e,ey,l,eH⟩ | ⟨ai,k,b,e,ey,eb,l,eH⟩
 ·subst ey eH
  obtain ⟨z,hd,vs,rel,dd⟩:=xP I.ar e
  have hz:vs.length≤sizeLine:=by rw [←rel.length];exact z
  have hl:(putK ai k v).length≤sizeLine:=by have:=sW ai k v;omega
  refine wpAny_setItem_pairs (hsz:=hz) (m8 ry) dd fun h' gW hs=>h _ ?_
  have he:∃q,h'.get? a=some q:=let ⟨q,_,_,hq,_⟩:=gW;⟨q,hq⟩
  exact tf I (by rw [e];exact True.intro) hs he (xQ hl hd (rel.put k rv) gW)
 ·subst ey eH
  cases (show u=Value.ref b from ry)
  obtain ⟨z,hd,xs,rel,dd⟩:=Em I.ar e
  have hz:xs.length≤sizeLine:=by rw [←Paired.length rel];exact z
  have hl:(putK ai k v).length≤sizeLine:=by have:=sW ai k v;omega
  refine wpAny_setItem_heap (hsz:=hz) (tupleKind_room_in1 hu) (pI I.ar eb) dd fun h' gW hs=>h _ ?_
  obtain ⟨q,es,ep,hq,h2,h3,h4,_,h5⟩:=gW
  refine tf I (by rw [e];exact True.intro) hs ⟨q,hq⟩ ⟨hl,hd,_,(rel.put k eb rv).keeps fun c ys ec=>?_,q,es,ep,hq,h2,h3,h4,h5⟩
  rw [aA (AB ec e (fun z=>nomatch z))]
  exact ec
end
section
variable {X:Cx} {pins:List (Addr×Obj)} {σ:St} {H:Hp} {s:Shared} {a:Addr} {ai:List (Key×V)} {k:Key} {u:Value} {A:Around} {E:Value→Shared→Prop}
end
def Er(ty td:TE):TE:=fun σ H Q=>ty σ H fun y H1=>td σ H1 fun x H2=>∃a o,x=.ref a∧pJ H2 a y o∧Q (.bl o.isSome) H2
def Es(ty td:TE):TE:=fun σ H Q=>ty σ H fun y H1=>td σ H1 fun x H2=>∃a o,x=.ref a∧pJ H2 a y o∧Q (.bl (!o.isSome)) H2
def Et(td ty tv:TE):TS:=fun D σ H=>tv σ H fun v H1=>td σ H1 fun x H2=>ty σ H2 fun y H3=>∃a H4,x=.ref a∧s_ H3 a y v H4∧D.nx σ H4
section
variable {X:Cx} {o i e value:Expr} {pos pos' oj:Pos} {td ty tv:TE}
theorem Eu(hu:X.A.units+1<cLine)(hi:PE X i ty)(ho:PE X o td):PC X .In i o (Er ty td):=by
 intro pins s σ H Q I h
 refine aw (hi pins s σ H _ I h) fun iv s1 ⟨y,H1,I1,ry,q1⟩=>aw (ho pins s1 σ H1 _ I1 q1) fun u s2 ⟨x,H2,I2,rx,a,ov,ex,g,q2⟩=>?_
 subst ex
 obtain rfl:u=Value.ref a:=rx
 exact En hu I2 g ry fun s3 I3=>⟨.bl ov.isSome,H2,I3,rfl,q2⟩
theorem Ew(hu:X.A.units+1<cLine)(hi:PE X i ty)(ho:PE X o td):PC X .NotIn i o (Es ty td):=by
 intro pins s σ H Q I h
 refine aw (hi pins s σ H _ I h) fun iv s1 ⟨y,H1,I1,ry,q1⟩=>aw (ho pins s1 σ H1 _ I1 q1) fun u s2 ⟨x,H2,I2,rx,a,ov,ex,g,q2⟩=>?_
 subst ex
 obtain rfl:u=Value.ref a:=rx
 exact Eo hu I2 g ry fun s3 I3=>⟨.bl (!ov.isSome),H2,I3,rfl,q2⟩
theorem pK(hu:X.A.units+1<cLine)(ho:PE X o td)(hi:PE X i ty)(hv:PE X value tv)(hs:swapsWith value (some (.Subscript o i pos')) pos.line X.env=pure false) :
  PS X (.Assign [.Subscript o i pos'] value pos) (Et td ty tv):=by
 intro pins s σ H D I h
 refine wpAny_Assign_Subscript (aw (hv pins s σ H _ I h) fun r s1 ⟨v,H1,I1,rv,q1⟩=>aw (ho pins s1 σ H1 _ I1 q1) fun u s2 ⟨x,H2,I2,rx,q2⟩=>aw (hi pins s2 σ H2 _ I2 q2) fun iv s3 ⟨y,H3,I3,ry,a,H4,ex,g,q3⟩=>?_) hs
 subst ex
 obtain rfl:u=Value.ref a:=rx
 exact Ep hu I3 g ry rv fun s4 I4=>⟨σ,H4,I4,q3⟩
end
theorem xR{P:Program}{w:World}{H:Hp}(h:Heap)(hb:sysModules<h.objs.size):bj P w H (h.push {cls:=.type "dict",data:=.dict #[]}) h.objs.size (.dK []):=
 ⟨Nat.zero_le _,beq_eq_false_iff_ne.mpr (Ne.symm (Nat.ne_of_lt hb)),[],.nil,Heap.DictOf.new h⟩
def Ex:TE:=fun _ H Q=>∀p,H p=none→Q (.ref p) (upd H p (.dK []))
section
variable {X:Cx} {pos:Pos}
theorem Ey:PE X (.Dict [] [] pos) Ex:=fun pins s σ H Q I h=>
 wpAny_Dict_empty ⟨.ref s.heap.objs.size,_,I.laid (a:=s.heap.objs.size) (o:=.dK []) (t':=s.toks) (fun _ _ q=>Heap.get?_push_of_some _ q) (Nat.le_refl _) (xR s.heap I.big),rfl,h _ (I.ar.fresh (Nat.le_refl _))⟩
end
def tj:List (TE×TE)→St→Hp→(List (V×V)→Hp→Prop)→Prop
 | [],_,H,Q=>Q [] H
 | (tk,tv)::r,σ,H,Q=>tk σ H fun x H1=>tv σ H1 fun y H2=>tj r σ H2 fun ps H3=>Q ((x,y)::ps) H3
abbrev VV:List (V×V)→List (Value×Value)→Prop:=Paired fun p q=>RelV p.1 q.1∧RelV p.2 q.2
def pL(X:Cx)(pos:Pos)(keys:List (Option Expr))(values:List Expr)(gy:List (TE×TE)):Prop:=
 ∀(pins:List (Addr×Obj)) (s:Shared) (σ:St) (H:Hp) (Q:List (V×V)→Hp→Prop),Inv X pins σ H s→tj gy σ H Q→
  wpAny (model X.prog X.w) X.A (evalPairs (pairTrees keys values X.env pos)) (fun vs s'=>∃ps H',Inv X pins σ H' s'∧VV ps vs∧Q ps H') X.xe s
theorem Ez{X:Cx}{pos:Pos}:pL X pos [] [] []:=fun pins s σ H Q I h=>pairTrees_nil_walk ⟨[],H,I,.nil,h⟩
theorem EA{X:Cx}{pos:Pos}{k v:Expr}{ks:List (Option Expr)}{vs:List Expr}{tk tv:TE}{gy:List (TE×TE)}(hk:PE X k tk)(hv:PE X v tv)(hr:pL X pos ks vs gy) :
  pL X pos (some k::ks) (v::vs) ((tk,tv)::gy):=fun pins s σ H Q I h=>
 pairTrees_cons_walk (aw (hk pins s σ H _ I h) fun u s1 ⟨x,H1,I1,rx,q1⟩=>aw (hv pins s1 σ H1 _ I1 q1) fun w2 s2 ⟨y,H2,I2,ry,q2⟩=>
  aw (hr pins s2 σ H2 _ I2 q2) fun ws s3 ⟨ps,H3,I3,rel,q3⟩=>⟨(x,y)::ps,H3,I3,.cons ⟨rx,ry⟩ rel,q3⟩)
def hZ(ai more:List (Key×V)):List (Key×V):=more.foldl (fun acc kv=>putK acc kv.1 kv.2) ai
theorem KV.merge:∀{more:List (Key×V)} {rs:List (Key×Value)} {ai:List (Key×V)} {vs:List (Key×Value)},KV more rs→KV ai vs→KV (hZ ai more) (merged vs rs):=by
 intro more rs ai vs r
 unfold KV at r
 induction r generalizing ai vs with
 | nil=>intro q;exact q
 | @cons p q ps qs h t ih=>
  intro r0
  have e:KV (putK ai p.1 p.2) (stored vs q.1 q.2):=by
   have:=r0.put p.1 h.2
   rw [←h.1];exact this
  exact ih e
theorem xS:∀(more ai:List (Key×V)),(hZ ai more).length≤ai.length+more.length
 | [],ai=>by show ai.length≤ai.length+0;omega
 | p::r,ai=>by
  have h1:=xS r (putK ai p.1 p.2)
  have h2:=sW ai p.1 p.2
  show (hZ (putK ai p.1 p.2) r).length≤_
  rw [List.length_cons];omega
theorem xT{P:Program}{w:World}:∀{ai:List (Key×V)} {ws:List (Value×Value)},VV (ai.map fun kv=>(kV kv.1,kv.2)) ws→∃rs,Carries (cW P w) ws rs∧KV ai rs
 | [],_,r=>by rw [List.map_nil] at r;cases r;exact ⟨[],True.intro,.nil⟩
 | p::ai,_,r=>by
  rw [List.map_cons] at r
  cases r with
  | @cons a b as bs h t=>
   obtain ⟨rs,c,q⟩:=xT (P:=P) (w:=w) t
   obtain ⟨b1,b2⟩:=b
   exact ⟨(p.1,b2)::rs,⟨m8 h.1,rfl,c⟩,.cons ⟨rfl,h.2⟩ q⟩
def EB(gy:List (TE×TE)):TE:=fun σ H Q=>∀p,H p=none→tj gy σ (upd H p (.dK [])) fun ps H2=>H2 p=some (.dK [])∧∃ai:List (Key×V),ps=ai.map (fun kv=>(kV kv.1,kv.2))∧ai.length≤15∧Q (.ref p) (upd H2 p (.dK (hZ [] ai)))
theorem EC{X:Cx}{pos:Pos}{keys:List (Option Expr)}{values:List Expr}{gy:List (TE×TE)}(h:pL X pos keys values gy)(rL:keys.all (·.isSome)=true)(hl:keys.length=values.length)(h0:keys≠[])
  (ED:keys.length≤15):PE X (.Dict keys values pos) (EB gy):=by
 intro pins s σ H Q I q
 have hn:=I.ar.fresh (Nat.le_refl s.heap.objs.size)
 have I1:=I.laid (a:=s.heap.objs.size) (o:=.dK []) (h':=s.heap.push {cls:=.type "dict",data:=.dict #[]}) (t':=s.toks) (fun _ _ q=>Heap.get?_push_of_some _ q) (Nat.le_refl _) (xR s.heap I.big)
 refine wpAny_Dict_walk (knd:=cW X.prog X.w) rL hl h0 ED (aw (h pins _ σ _ _ I1 (q _ hn)) fun ws s2 ⟨ps,H2,I2,rel,e,ai,ep,lk,q2⟩=>?_)
 subst ep
 obtain ⟨rs,c,rk⟩:=xT (P:=X.prog) (w:=X.w) rel
 obtain ⟨z,hd,Ll,r0,dd⟩:=xP I2.ar e
 cases r0
 refine ⟨rs,c,dd,fun h' gW hs=>⟨.ref s.heap.objs.size,_,?_,rfl,q2⟩⟩
 have hz:(hZ [] ai).length≤sizeLine:=by
  have h1:=xS ai []
  rw [List.length_nil] at h1
  rw [sizeLine_eq];omega
 have he:∃q,h'.get? s.heap.objs.size=some q:=let ⟨q,_,_,hq,_⟩:=gW;⟨q,hq⟩
 exact tf I2 (by rw [e];exact True.intro) hs he (xQ hz hd (rk.merge .nil) gW)
section
variable {X:Cx} {pins:List (Addr×Obj)} {σ:St} {H:Hp} {s:Shared} {a:Addr} {y d:V} {u r:Value} {o:Option V} {A:Around} {E:Value→Shared→Prop}
end
section
variable {X:Cx} {o e f:Expr} {apos dy:Pos} {td ty tx:TE}
end
section
variable {X:Cx} {pins:List (Addr×Obj)} {σ:St} {H:Hp} {s:Shared} {a:Addr} {ai:List (Key×V)} {A:Around} {E:Value→Shared→Prop}
end
section
variable {X:Cx} {pins:List (Addr×Obj)} {σ:St} {H:Hp} {s:Shared} {a:Addr} {y:V} {u:Value} {A:Around} {E:Value→Shared→Prop}
end
end L2
namespace oA
open PySem PySem.W PySem.Calls PyProof.Rows
section
variable {prog:Program} {w:World} {A:Around} {E:Value→Shared→Prop} {s:Shared} {K:Frag}
end
end oA
namespace L2
open PySem PySem.Spec PyProof.Rows
section
variable {P:Program} {w:World} {K:PySem.W.Frag} {mg:Str→Option Value} {base:Heap}
end
section
variable {X:Cx}
end
section
variable {κ:Type} [DecidableEq κ]
end
def tm(o:Obj):Nat:=match o.data with
 | .dict _ ep=>ep
 | _=>0
def j8(a:Addr)(o:Obj)(ai:List (Key×V)):It:=
 ⟨fun i H=>H a=some (.bb o (.dK ai))∧i<ai.length,fun i H x H'=>H'=H∧∃kv,ai[i]?=some kv∧x=kV kv.1,fun i H=>H a=some (.bb o (.dK ai))∧ai.length≤i⟩
theorem EE{k:Key}{v:Value}(h:iC k v=true):RelV (kV k) v:=by
 rcases fH h with ⟨i,t,rfl,rfl⟩ | ⟨x,t,rfl,rfl⟩
 ·exact ⟨t,rfl⟩
 ·exact ⟨t,rfl⟩
theorem xU{ai:List (Key×V)}{vs:List (Key×Value)}:∀{i:Nat} {kv:Key×V},KV ai vs→ai[i]?=some kv→∃v,vs[i]?=some (kv.1,v)
 | _,_,.nil,h=>by simp at h
 | 0,kv,.cons (b:=b) r _,h=>by
  simp at h
  subst h
  obtain ⟨k,v⟩:=b
  have e:_=k:=r.1
  exact ⟨v,by rw [e];rfl⟩
 | i+1,kv,.cons _ t,h=>by
  simp at h
  obtain ⟨v,e⟩:=xU t h
  exact ⟨v,by simpa using e⟩
section
variable {X:Cx} {pins:List (Addr×Obj)} {σ:St} {H:Hp} {s:Shared}
theorem Inv.tu{a:Addr}{o:Obj}{ai:List (Key×V)}(I:Inv X pins σ H s)(h:H a=some (.bb o (.dK ai))):∃vs,KV ai vs∧s.heap.DictAt (cW X.prog X.w) a vs (tm o):=by
 obtain ⟨g,_,_,vs,r,o',es,ep,g',c,d,rest⟩:=(show bj X.prog X.w H s.heap a (.bb o (.dK ai)) from I.ar a _ h)
 rw [g] at g'
 cases g'
 refine ⟨vs,r,o,es,g,c,?_,rest⟩
 rw [d]
 unfold tm
 rw [d]
end
theorem EF{P:Program}{w:World}{K:PySem.W.Frag}{tg:Expr}(a it:Addr)(o:Obj)(ai:List (Key×V)):Turn P w K tg (j8 a o ai) [it] it (fun i h=>h.IsKeyIter it a i ai.length (tm o)) where
 mem:=by simp
 obj:=fun i h st b hb=>by
  have e:b=it:=by simpa using hb
  subst e
  obtain ⟨o,e,c,d⟩:=st
  exact ⟨o,e,fun v z=>by rw [d] at z;cases z⟩
 keep:=fun i h h' st k=>by
  obtain ⟨o,e,c,d⟩:=st
  exact ⟨o,k it (by simp) o e,c,d⟩
 item:=by
  intro X hP hw hK hc i pins s σ H E I hf st hg
  subst hP hw hK
  obtain ⟨eH,hi⟩:=hg
  obtain ⟨vs,r,hm⟩:=I.tu eH
  have lr:ai.length=vs.length:=Paired.length r
  have ek:ai[i]?=some ai[i]:=by simp [hi]
  obtain ⟨v,ev⟩:=xU r ek
  obtain ⟨f0,f1,f2,f3,f4,f5⟩:=hf it (by simp)
  rw [lr] at st
  refine wpAny_pyNext_dict_item st hm ev fun key h' hk ak sb=>?_
  have I1:Inv X pins σ H {s with heap:=h'}:=I.turned (t':=s.toks) (fun b o hb e=>(sb.2 b hb).trans e) f0 f1 f3 f4 f5
  obtain ⟨o',e,c,d⟩:=id ak
  rw [←lr] at ak
  exact ⟨key,rfl,n5 (s:={s with heap:=h'}) e c d (by decide) ⟨kV ai[i].1,H,I1,EE hk,⟨rfl,_,ek,rfl⟩,ak,fun b hb=>(hf b hb).1⟩⟩
 done:=by
  intro X hP hw hK hc i pins s σ H E I hf st hg
  subst hP hw hK
  obtain ⟨eH,hi⟩:=hg
  obtain ⟨vs,r,hm⟩:=I.tu eH
  have lr:ai.length=vs.length:=Paired.length r
  obtain ⟨f0,f1,f2,f3,f4,f5⟩:=hf it (by simp)
  rw [lr] at st
  exact wpAny_pyNext_dict_end (I.ok.hd hc) st hm (by simp;omega) fun h' eb=>⟨rfl,I.turned (t':=s.toks) (fun b o hb e=>eb b o hb e) f0 f1 f3 f4 f5⟩
 self:=fun _ _ _ _ _ st h=>wpAny_pyIter_keyiter st h
section
variable {X:Cx} {tg:Expr}
def EG(tl:TE):TI:=fun σ H R=>tl σ H fun x H1=>∃a ai,x=.ref a∧((H1 a=some (.dK ai)∧∀o,R (j8 a o ai) (upd H1 a (.bb o (.dK ai))))∨∃o,H1 a=some (.bb o (.dK ai))∧R (j8 a o ai) H1)
theorem EH{l:Expr}{tl:TE}(hl:PE X l tl):PI X tg l (EG tl):=by
 intro pins s σ H R I h
 refine aw (hl pins s σ H _ I h) fun v s1 ⟨x,H1,I1,r1,q1⟩=>?_
 obtain ⟨a,ai,e,q⟩:=q1
 subst e
 cases r1
 have main:∀{H2:Hp} {o:Obj},Inv X pins σ H2 s1→H2 a=some (.bb o (.dK ai))→R (j8 a o ai) H2→wpAny (model X.prog X.w) X.A (pyIter (.ref a)) (q8 X pins σ tg R) X.xe s1:=fun{H2 o} I2 eH q=>by
  obtain ⟨vs,r,hm⟩:=I2.tu eH
  obtain ⟨_,_,sys,_⟩:=(show bj X.prog X.w H2 s1.heap a (.bb o (.dK ai)) from I2.ar a _ eH)
  have lr:ai.length=vs.length:=Paired.length r
  refine wpAny_pyIter_dict sys hm ?_
  refine ⟨s1.heap.objs.size,[s1.heap.objs.size],_,_,H2,rfl,I2.kept (t':=s1.toks) fun b o e=>Heap.get?_push_of_some _ e,EF a _ o ai,⟨_,Heap.get?_push_size _ rfl,rfl,by rw [lr];rfl⟩,fun b hb=>?_,q⟩
  have e:b=s1.heap.objs.size:=by simpa using hb
  subst e
  exact I2.l7 (Nat.le_refl _) (I2.ar.fresh (Nat.le_refl _))
 rcases q with ⟨eH,q⟩ | ⟨o,eH,q⟩
 ·obtain ⟨hz,sys,vs,r,o,es,ep,g,c,d,rest⟩:=(show bj X.prog X.w H1 s1.heap a (.dK ai) from I1.ar a _ eH)
  refine main (H2:=upd H1 a (.bb o (.dK ai))) ?_ aq (q o)
  exact I1.write (t':=s1.toks) (x:=a) (e:=a) (by rw [eH];exact trivial) (.inl rfl) (fun b u _ e=>e) ⟨o,g⟩ ⟨g,hz,sys,vs,r,o,es,ep,g,c,d,rest⟩
 ·exact main I1 eH q
end
theorem xV:∀{us:List Value} {ns:List Int},IntsAre us ns→Vals (ns.map V.int) us
 | _,_,.nil=>.nil
 | _,_,.cons a u r=>.cons ⟨u,rfl⟩ (xV r)
def EI:List V→Hp→VK→Prop:=fun xs H Q=>∃(a:Addr) (zs:List Int),xs=[.ref a]∧H a=some (.lst (zs.map V.int))∧zs.length<64∧∀(ws:List Int) (D:Addr),ws.Perm zs→ws.Pairwise (·≤·)→H D=none→Q (.ref D) (upd H D (.lst (ws.map V.int)))
theorem xW{X:Cx}:d7 X (.builtin "sorted") EI:=by
 intro pins s σ H xs us Q I r h
 obtain ⟨a,zs,rfl,ha,pE,k⟩:=h
 obtain ⟨u,rfl,ru⟩:=vals1 r
 cases ru
 obtain ⟨aa,rv,pl,hz⟩:=I.list (.of ha)
 have hl:=rv.length
 rw [List.length_map] at hl
 refine sorted_ints pl.isList (intsAre_of rv) (by omega) fun out xX a1 a2 a3=>?_
 obtain ⟨e,he⟩:=sortedAll_at s.heap aa out
 refine ⟨.ref (s.heap.objs.size+1),_,I.laid (t':=s.toks) (o:=.lst (xX.map .int)) (fun _ _=>sortedAll_old) (Nat.le_succ _) ⟨?_,out.toList,e,xV a1,?_⟩,rfl,k xX _ a2 a3 (I.ar.fresh (Nat.le_succ _))⟩
 ·rw [List.length_map,a2.length_eq]
  rw [sizeLine_eq];omega
 ·simpa using he
end L2
namespace My
open PySem L2
def dk(ks:List Nat):List (Key×V):=ks.map fun k:Nat=>((Sum.inl (k:Int):Key),V.bl true)
def bz(ks:List Nat)(k:Nat):List Nat:=if k∈ks then ks else ks++[k]
theorem xY{a b:Nat}:((Sum.inl (a:Int):Key)=Sum.inl (b:Int))↔a=b:=by
 constructor
 ·intro h
  have:=Sum.inl.inj h
  omega
 ·rintro rfl;rfl
theorem xZ(ks:List Nat):(dk ks).length=ks.length:=List.length_map _
theorem EJ(ks:List Nat)(k:Nat):((dk ks).any fun kv=>decide (kv.1=(Sum.inl (k:Int):Key)))=decide (k∈ks):=by
 rw [Bool.eq_iff_iff,List.any_eq_true,decide_eq_true_iff]
 constructor
 ·rintro ⟨kv,h1,h2⟩
  obtain ⟨j,hj,rfl⟩:=List.mem_map.mp h1
  have:=xY.mp (of_decide_eq_true h2)
  subst this
  exact hj
 ·intro h
  exact ⟨_,List.mem_map.mpr ⟨k,h,rfl⟩,decide_eq_true rfl⟩
theorem x4(ks:List Nat)(k:Nat):putK (dk ks) (Sum.inl (k:Int):Key) (V.bl true)=dk (bz ks k):=by
 unfold putK bz
 rw [EJ]
 by_cases h:k∈ks
 ·rw [if_pos (decide_eq_true h),if_pos h]
  unfold dk
  rw [List.map_map]
  refine List.map_congr_left fun j _=>?_
  show (if _ then _ else _)=_
  split <;> rfl
 ·rw [if_neg (by rw [decide_eq_true_iff];exact h),if_neg h]
  unfold dk
  rw [List.map_append]
  rfl
theorem x5(ks:List Nat)(k:Nat):eB (dk ks) (Sum.inl (k:Int):Key)=if k∈ks then some (V.bl true) else none:=by
 induction ks with
 | nil=>simp [dk,eB]
 | cons j r ih=>
  by_cases h:j=k
  ·subst h
   rw [if_pos (List.mem_cons_self ..)]
   exact pG rfl
  ·show eB ((Sum.inl (j:Int),V.bl true)::dk r) _=_
   rw [pH (fun e=>h (xY.mp e)),ih]
   by_cases m:k∈r
   ·rw [if_pos m,if_pos (List.mem_cons_of_mem _ m)]
   ·rw [if_neg m,if_neg (fun x=>by rcases List.mem_cons.mp x with e | e;exact h e.symm;exact m e)]
theorem dX{ks:List Nat}{k j:Nat}:j∈bz ks k↔j∈ks∨j=k:=by
 unfold bz
 by_cases h:k∈ks
 ·rw [if_pos h]
  constructor
  ·exact .inl
  ·rintro (e | rfl)
   ·exact e
   ·exact h
 ·rw [if_neg h,List.mem_append,List.mem_singleton]
theorem EK{ks:List Nat}{k:Nat}(h:ks.Nodup):(bz ks k).Nodup:=by
 unfold bz
 by_cases m:k∈ks
 ·rw [if_pos m];exact h
 ·rw [if_neg m]
  refine List.nodup_append.mpr ⟨h,(by simp),fun a ha b hb=>?_⟩
  rw [List.mem_singleton] at hb
  subst hb
  rintro rfl
  exact m ha
def eZ(n:Nat)(ks:List Nat):Prop:=ks.Nodup∧∀k∈ks,k<n
theorem eZ.nil(n:Nat):eZ n []:=⟨List.nodup_nil,fun _ h=>by cases h⟩
theorem eZ.add{n k:Nat}{ks:List Nat}(h:eZ n ks)(hk:k<n):eZ n (bz ks k):=⟨EK h.1,fun j hj=>by
 rcases dX.mp hj with e | rfl
 ·exact h.2 j e
 ·exact hk⟩
theorem tw:∀{n:Nat} {ks:List Nat},ks.Nodup→(∀k∈ks,k<n)→ks.length≤n
 | 0,ks,_,h=>by
  cases ks with
  | nil=>exact Nat.le_refl _
  | cons a r=>exact absurd (h a (List.mem_cons_self ..)) (Nat.not_lt_zero _)
 | n+1,ks,nd,h=>by
  have e:=tw (n:=n) (ks:=ks.erase n) (nd.erase n) (fun k hk=>by
   have m:=(List.Nodup.mem_erase_iff nd).mp hk
   have:=h k m.2
   have:=m.1
   omega)
  by_cases hm:n∈ks
  ·have:=List.length_erase_of_mem hm
   omega
  ·rw [List.erase_of_not_mem hm] at e
   omega
theorem eZ.len{n:Nat}{ks:List Nat}(h:eZ n ks):ks.length≤n:=tw h.1 h.2
structure bX (H:Hp) (D:Addr) (n:Nat) (ds:Nat→Addr) (un:Nat→Prop) (f:Nat→List Nat):Prop where
 lst:H D=some (.lst ((List.range n).map fun i=>V.ref (ds i)))
 inj:∀i j,i<n→j<n→ds i=ds j→i=j
 ne:∀i,i<n→ds i≠D
 at':∀i,i<n→un i→H (ds i)=some (.dK (dk (f i)))
 pl:∀i,i<n→eZ n (f i)
def b5(f:Nat→List Nat)(i:Nat)(ks:List Nat):Nat→List Nat:=fun j=>if j=i then ks else f j
theorem bX.put{H:Hp}{D:Addr}{n:Nat}{ds:Nat→Addr}{un:Nat→Prop}{f:Nat→List Nat}(h:bX H D n ds un f){i j:Nat}(hi:i<n)(hj:j<n)(ui:un i)(hn:n≤1000) :
  s_ H (ds i) (.int (j:Int)) (.bl true) (upd H (ds i) (.dK (dk (bz (f i) j))))∧bX (upd H (ds i) (.dK (dk (bz (f i) j)))) D n ds un (b5 f i (bz (f i) j)):=by
 refine ⟨.inl ⟨dk (f i),Sum.inl (j:Int),h.at' i hi ui,rfl,?_,by rw [x4]⟩,?_,h.inj,h.ne,fun k hk uk=>?_,fun k hk=>?_⟩
 ·rw [xZ]
  have:=(h.pl i hi).len
  exact Nat.lt_of_le_of_lt this (Nat.lt_of_le_of_lt hn (by rw [sizeLine_eq];decide))
 ·rw [aA (Ne.symm (h.ne i hi))]
  exact h.lst
 ·unfold b5
  by_cases e:k=i
  ·subst e
   rw [if_pos rfl,aq]
  ·rw [if_neg e,aA (fun z=>e (h.inj k i hk hi z))]
   exact h.at' k hk uk
 ·unfold b5
  by_cases e:k=i
  ·rw [if_pos e];exact (h.pl i hi).add hj
  ·rw [if_neg e];exact h.pl k hk
theorem bX.ix{H:Hp}{D:Addr}{n:Nat}{ds:Nat→Addr}{un:Nat→Prop}{f:Nat→List Nat}(h:bX H D n ds un f){i:Nat}(hi:i<n):dv ((List.range n).map fun i=>V.ref (ds i)) (i:Int)=some (V.ref (ds i)):=
 gT (by rw [List.getElem?_map,List.getElem?_range hi];rfl)
def gz(n:Nat)(L:List (Int×Int)):Prop:=∀p∈L,0≤p.1∧p.1<(n:Int)∧0≤p.2∧p.2<(n:Int)
def df(n:Nat)(L:List (Int×Int))(f:Nat→List Nat):Prop:=∀i j:Nat,i<n→(j∈f i↔((i:Int),(j:Int))∈L∨((j:Int),(i:Int))∈L)
theorem df.nil(n:Nat):df n [] (fun _=>[]):=fun i j _=>by simp
theorem df.more{n:Nat}{L:List (Int×Int)}{f:Nat→List Nat}(h:df n L f){i j:Nat}(hi:i<n)(hj:j<n):df n (L++[((i:Int),(j:Int))]) (b5 (b5 f i (bz (f i) j)) j (bz (b5 f i (bz (f i) j) j) i)):=fun a b ha=>by
 have e1:∀x y:Nat,y∈b5 f i (bz (f i) j) x↔y∈f x∨(x=i∧y=j):=fun x y=>by
  unfold b5
  by_cases e:x=i
  ·subst e
   rw [if_pos rfl,dX]
   simp
  ·rw [if_neg e]
   simp [e]
 have e2:b∈b5 (b5 f i (bz (f i) j)) j (bz (b5 f i (bz (f i) j) j) i) a↔b∈b5 f i (bz (f i) j) a∨(a=j∧b=i):=by
  unfold b5
  by_cases e:a=j
  ·subst e
   rw [if_pos rfl,dX]
   simp
  ·rw [if_neg e]
   simp [e]
 rw [e2,e1,h a b ha]
 simp only [List.mem_append,List.mem_singleton,Prod.mk.injEq]
 constructor
 ·rintro ((e | e) | ⟨rfl,rfl⟩)
  ·rcases e with e | e
   ·exact .inl (.inl e)
   ·exact .inr (.inl e)
  ·exact .inl (.inr ⟨by omega,by omega⟩)
  ·exact .inr (.inr ⟨rfl,rfl⟩)
 ·rintro ((e | ⟨e1,e2⟩) | (e | ⟨e1,e2⟩))
  ·exact .inl (.inl (.inl e))
  ·exact .inl (.inr ⟨by omega,by omega⟩)
  ·exact .inl (.inl (.inr e))
  ·exact .inr ⟨by omega,by omega⟩
def EL:Sp:=fun vs H Q _=>∃(t:Addr) (n:Nat) (L:List (Int×Int)),vs=[.ref t]∧cy H t n L∧gz n L∧n≤1000 ∧
 ∀(H':Hp) (D:Addr) (ds:Nat→Addr) (f:Nat→List Nat),ae H H'→H D=none→(∀i,i<n→H (ds i)=none)→bX H' D n ds (fun _=>True) f→df n L f→Q (.ref D) H'
end My
namespace L2
open PySem PySem.Spec PyProof.Rows
def EM(K:PySem.W.Frag):R2:=fun x y H Q=>∃(a b:Addr) (xs ys:List Int),x=.ref a∧y=.ref b∧aS K H a (xs.map V.int)∧aS K H b (ys.map V.int)∧Q (.bl (decide (xs=ys))) H
theorem x6{X:Cx}(hu:X.A.units+64<cLine):bE X (compareOp .Eq) (EM X.K):=by
 intro pins s σ H x y v u Q I rx ry h
 obtain ⟨a,b,xs,ys,rfl,rfl,h1,h2,q⟩:=h
 cases rx
 cases ry
 obtain ⟨us,r1,t1,_⟩:=I.list h1
 obtain ⟨vs,r2,t2,_⟩:=I.list h2
 have l1:=r1.length
 have l2:=r2.length
 rw [List.length_map] at l1 l2
 by_cases hl:xs.length=ys.length
 ·refine SeqAt.RcAt.lists (e:=fun j=>cp (.int (xs.getD j 0)) (.int (ys.getD j 0))) t1.isList t2.isList (by simp;omega) (by omega) (fun j z1 z2=>?_) _ _ _ _ ?_
  ·have gq:j<us.length:=by simpa using z1
   have mL:j<vs.length:=by simpa using z2
   have ex:(xs.map V.int)[j]?=some (.int (xs.getD j 0)):=by
    rw [List.getElem?_map,List.getD_eq_getElem?_getD]
    simp [show j<xs.length by omega]
   have ey:(ys.map V.int)[j]?=some (.int (ys.getD j 0)):=by
    rw [List.getElem?_map,List.getD_eq_getElem?_getD]
    simp [show j<ys.length by omega]
   obtain ⟨x',dZ,rx⟩:=r1.get ex
   obtain ⟨y',fv,ry⟩:=r2.get ey
   have e1:us.toArray[j]=x':=by simpa using (List.getElem?_eq_some_iff.mp dZ).2
   have e2:vs.toArray[j]=y':=by simpa using (List.getElem?_eq_some_iff.mp fv).2
   rw [e1,e2]
   exact iR rx ry rfl rfl
  ·rw [show us.toArray.size=xs.length by simp;omega,Dt hl]
   exact ⟨.bl (decide (xs=ys)),H,I,rfl,q⟩
 ·rw [decide_eq_false (fun e=>hl (by rw [e]))] at q
  refine SeqAt.RcAt.lists_lengths t1.isList t2.isList ?_ (by omega) _ _ _ _ ⟨.bl false,H,I,rfl,q⟩
  simp
  omega
end L2
namespace My
open PySem L2
def iN(k:Nat):Int:=(k:Int)
def fF(zs:List Int)(n:Nat):Prop:=zs.Perm ((List.range n).map iN)
instance (zs:List Int) (n:Nat):Decidable (fF zs n):=by unfold fF;exact inferInstance
theorem EN(n:Nat):((List.range n).map iN).Pairwise (·≤·):=by
 rw [List.pairwise_map]
 exact List.Pairwise.imp (fun h=>by unfold iN;omega) List.pairwise_lt_range
theorem EO{ws zs:List Int}{n:Nat}(p:ws.Perm zs)(o:ws.Pairwise (·≤·)):decide (ws=(List.range n).map iN)=decide (fF zs n):=by
 by_cases h:fF zs n
 ·rw [decide_eq_true h]
  refine decide_eq_true ?_
  exact (p.trans h).eq_of_pairwise (fun a b _ _ h1 h2=>by omega) o (EN n)
 ·rw [decide_eq_false h]
  refine decide_eq_false fun e=>h ?_
  subst e
  exact p.symm
def ER:Sp:=fun vs H Q _=>∃(a:Addr) (zs:List Int) (n:Nat),vs=[.ref a,.int (n:Int)]∧H a=some (.lst (zs.map V.int))∧zs.length<64∧n≤1000∧(∀H',ae H H'→Q (.bl (decide (fF zs n))) H')
def ES(N:Addr):Sp:=fun vs H Q E=>∃(a:Addr) (zs:List Int) (n:Nat),vs=[.ref a,.int (n:Int)]∧H a=some (.lst (zs.map V.int))∧zs.length<64∧n≤1000 ∧
 (¬fF zs n→∀H',ae H H'→E (.ref N) none H')∧(fF zs n→∀H',ae H H'→Q .aF H')
def ET(H:Hp)(a:Addr)(n:Nat)(o:List Nat):Prop:=H a=some (.lst (o.map fun k:Nat=>V.int (k:Int)))∧o.Perm (List.range n)
def EU:Sp:=fun vs H Q _=>∃(a:Addr) (n:Nat) (o:List Nat),vs=[.ref a]∧ET H a n o∧n≤1000 ∧
 ∀(r:Addr) (H':Hp),ae H H'→H r=none→H' r=some (.lst ((List.range n).map fun p=>V.int (o.idxOf p:Int)))→Q (.ref r) H'
theorem EV{H H1:Hp}(s:ae H H1){D:Addr}(e:H1 D=none):H D=none:=by
 cases z:H D with
 | none=>rfl
 | some o=>rw [s _ _ z] at e;cases e
theorem pM{H H1:Hp}(s:ae H H1){D:Addr}{o:HO}(e:H1 D=none):ae H (upd H1 D o):=dA s (EV s e)
theorem x8{n k:Nat}(h:k<n):fj n (k:Int)=some k:=by
 unfold fj
 rw [if_pos (by omega),if_pos (by omega),Int.toNat_natCast]
def e8(o:List Nat)(k p:Nat):Int:=if o.idxOf p<k then (o.idxOf p:Int) else 0
theorem m9{n:Nat}{o:List Nat}(h:o.Perm (List.range n)):o.Nodup:=h.nodup_iff.mpr List.nodup_range
theorem gA{n:Nat}{o:List Nat}(h:o.Perm (List.range n)):o.length=n:=by rw [h.length_eq,List.length_range]
theorem eC{n:Nat}{o:List Nat}(h:o.Perm (List.range n)){p:Nat}:p∈o↔p<n:=by rw [h.mem_iff,List.mem_range]
theorem m_{o:List Nat}(nd:o.Nodup){k:Nat}(hk:k<o.length):o.idxOf o[k]=k:=nd.idxOf_getElem k hk
theorem h8{o:List Nat}{p:Nat}(h:p∈o):∃hk:o.idxOf p<o.length,o[o.idxOf p]=p:=⟨List.idxOf_lt_length_of_mem h,List.getElem_idxOf _⟩
theorem EW{n:Nat}{o:List Nat}(h:o.Perm (List.range n)){k:Nat}(hk:k<o.length):((List.range n).map fun p=>V.int (e8 o k p)).set o[k] (.int (k:Int))=(List.range n).map fun p=>V.int (e8 o (k+1) p):=by
 have nd:=m9 h
 refine List.ext_getElem (by simp) fun q h1 h2=>?_
 have hq:q<n:=by simpa using h2
 rw [List.getElem_set]
 by_cases e:o[k]=q
 ·rw [if_pos e]
  simp only [List.getElem_map,List.getElem_range]
  unfold e8
  rw [←e,m_ nd hk,if_pos (Nat.lt_succ_self k)]
 ·rw [if_neg e]
  simp only [List.getElem_map,List.getElem_range]
  unfold e8
  have ne:o.idxOf q≠k:=fun z=>by
   obtain ⟨hz,ez⟩:=h8 ((eC h).mpr hq)
   subst z
   exact e ez
  by_cases z:o.idxOf q<k
  ·rw [if_pos z,if_pos (by omega)]
  ·rw [if_neg z,if_neg (by omega)]
theorem EX(n:Nat)(o:List Nat):(List.replicate n [V.int 0]).flatten=(List.range n).map fun p=>V.int (e8 o 0 p):=by
 have e:∀n:Nat,(List.replicate n [V.int 0]).flatten=List.replicate n (V.int 0):=fun n=>by
  induction n with
  | zero=>rfl
  | succ n ih=>rw [List.replicate_succ,List.flatten_cons,ih];rfl
 rw [e]
 refine List.ext_getElem (by simp) fun q h1 h2=>?_
 simp [e8]
theorem EY{n:Nat}{o:List Nat}(h:o.Perm (List.range n)):(List.range n).map (fun p=>V.int (e8 o o.length p))=(List.range n).map fun p=>V.int (o.idxOf p:Int):=by
 refine List.map_congr_left fun p hp=>?_
 unfold e8
 rw [if_pos (List.idxOf_lt_length_of_mem ((eC h).mpr (List.mem_range.mp hp)))]
def h9(n:Nat)(ds:Nat→Addr)(un:Nat→Prop)(H H':Hp):Prop:=∀b o,H b=some o→(∀i,i<n→un i→b≠ds i)→H' b=some o
theorem h9.refl{n:Nat}{ds:Nat→Addr}{un:Nat→Prop}{H:Hp}:h9 n ds un H H:=fun _ _ h _=>h
theorem h9.put{n:Nat}{ds:Nat→Addr}{un:Nat→Prop}{H H1:Hp}(h:h9 n ds un H H1){i:Nat}(hi:i<n)(ui:un i){o:HO}:h9 n ds un H (upd H1 (ds i) o):=fun b u e k=>by
 rw [aA (k i hi ui)]
 exact h b u e k
theorem take_snoc{α:Type}{xs:List α}{i:Nat}{x:α}(h:xs[i]?=some x):xs.take (i+1)=xs.take i++[x]:=by rw [List.take_succ,h];rfl
def dg(n:Nat)(f:Nat→List Nat)(ps:List Nat)(i j:Nat)(g:Nat→List Nat):Prop:=∀a b:Nat,a<n→(b∈g a↔b∈f a∨(a≠b∧(a∈ps.take i∧b∈ps∨ps[i]?=some a∧b∈ps.take j)))
theorem dg.start(n:Nat)(f:Nat→List Nat)(ps:List Nat):dg n f ps 0 0 f:=fun a b _=>by simp
theorem dg.row{n:Nat}{f g:Nat→List Nat}{ps:List Nat}{i:Nat}(h:dg n f ps i ps.length g):dg n f ps (i+1) 0 g:=fun a b ha=>by
 rw [h a b ha,List.take_length]
 cases e:ps[i]? with
 | none=>
  have:ps.length≤i:=List.getElem?_eq_none_iff.mp e
  rw [List.take_of_length_le this,List.take_of_length_le (by omega)]
  simp
 | some x=>
  rw [take_snoc e]
  simp only [List.mem_append,List.mem_singleton,Option.some.injEq,List.take_zero,List.not_mem_nil,and_false,or_false]
  constructor
  ·rintro (z | ⟨z,z1 | z1⟩)
   ·exact .inl z
   ·exact .inr ⟨z,.inl z1.1,z1.2⟩
   ·exact .inr ⟨z,.inr z1.1.symm,z1.2⟩
  ·rintro (z | ⟨z,z1 | z1,z2⟩)
   ·exact .inl z
   ·exact .inr ⟨z,.inl ⟨z1,z2⟩⟩
   ·exact .inr ⟨z,.inr ⟨z1.symm,z2⟩⟩
theorem dg.same{n:Nat}{f g:Nat→List Nat}{ps:List Nat}{i j x:Nat}(h:dg n f ps i j g)(hi:ps[i]?=some x)(hj:ps[j]?=some x):dg n f ps i (j+1) g:=fun a b ha=>by
 rw [h a b ha,take_snoc hj]
 simp only [List.mem_append,List.mem_singleton,hi,Option.some.injEq]
 constructor
 ·rintro (z | ⟨z,z1 | z1⟩)
  ·exact .inl z
  ·exact .inr ⟨z,.inl z1⟩
  ·exact .inr ⟨z,.inr ⟨z1.1,.inl z1.2⟩⟩
 ·rintro (z | ⟨z,z1 | ⟨z1,z2 | z2⟩⟩)
  ·exact .inl z
  ·exact .inr ⟨z,.inl z1⟩
  ·exact .inr ⟨z,.inr ⟨z1,z2⟩⟩
  ·exact absurd (z1.symm.trans z2.symm) z
theorem dg.put{n:Nat}{f g:Nat→List Nat}{ps:List Nat}{i j x y:Nat}(h:dg n f ps i j g)(hi:ps[i]?=some x)(hj:ps[j]?=some y)(ne:x≠y):dg n f ps i (j+1) (b5 g x (bz (g x) y)):=fun a b ha=>by
 have e1:b∈b5 g x (bz (g x) y) a↔b∈g a∨(a=x∧b=y):=by
  unfold b5
  by_cases e:a=x
  ·subst e
   rw [if_pos rfl,dX]
   simp
  ·rw [if_neg e]
   simp [e]
 rw [e1,h a b ha,take_snoc hj]
 simp only [List.mem_append,List.mem_singleton,hi,Option.some.injEq]
 constructor
 ·rintro ((z | ⟨z,z1 | z1⟩) | ⟨rfl,rfl⟩)
  ·exact .inl z
  ·exact .inr ⟨z,.inl z1⟩
  ·exact .inr ⟨z,.inr ⟨z1.1,.inl z1.2⟩⟩
  ·exact .inr ⟨ne,.inr ⟨rfl,.inr rfl⟩⟩
 ·rintro (z | ⟨z,z1 | ⟨z1,z2 | z2⟩⟩)
  ·exact .inl (.inl z)
  ·exact .inl (.inr ⟨z,.inl z1⟩)
  ·exact .inl (.inr ⟨z,.inr ⟨z1,z2⟩⟩)
  ·exact .inr ⟨z1.symm,z2⟩
theorem dg.done{n:Nat}{f g:Nat→List Nat}{ps:List Nat}(h:dg n f ps ps.length 0 g):∀a b:Nat,a<n→(b∈g a↔b∈f a∨(a≠b∧a∈ps∧b∈ps)):=fun a b ha=>by
 rw [h a b ha,List.take_length]
 simp
def EZ:Sp:=fun vs H Q _=>∃(D pl:Addr) (n:Nat) (ds:Nat→Addr) (un:Nat→Prop) (f:Nat→List Nat) (ps:List Nat),vs=[.ref D,.ref pl]∧bX H D n ds un f∧H pl=some (.lst (ps.map fun k:Nat=>V.int (k:Int)))∧(∀p∈ps,p<n∧un p)∧n≤1000 ∧
 ∀(H':Hp) (g:Nat→List Nat),h9 n ds un H H'→bX H' D n ds un g→(∀a b:Nat,a<n→(b∈g a↔b∈f a∨(a≠b∧a∈ps∧b∈ps)))→Q .aF H'
theorem bX.mono{H H':Hp}{D:Addr}{n:Nat}{ds:Nat→Addr}{un:Nat→Prop}{f:Nat→List Nat}(h:bX H D n ds un f)(s:ae H H'):bX H' D n ds un f:=⟨s _ _ h.lst,h.inj,h.ne,fun i hi ui=>s _ _ (h.at' i hi ui),h.pl⟩
theorem bX.less{H:Hp}{D:Addr}{n:Nat}{ds:Nat→Addr}{un x9:Nat→Prop}{f:Nat→List Nat}(h:bX H D n ds un f)(k:∀i,i<n→x9 i→un i):bX H D n ds x9 f:=⟨h.lst,h.inj,h.ne,fun i hi ui=>h.at' i hi (k i hi ui),h.pl⟩
theorem bX.upd{H:Hp}{D:Addr}{n:Nat}{ds:Nat→Addr}{un:Nat→Prop}{f:Nat→List Nat}(h:bX H D n ds un f){x:Addr}{o:HO}(n1:x≠D)(n2:∀i,i<n→un i→ds i≠x):bX (upd H x o) D n ds un f:=⟨by rw [aA (Ne.symm n1)];exact h.lst,h.inj,h.ne,fun i hi ui=>by rw [aA (n2 i hi ui)];exact h.at' i hi ui,h.pl⟩
theorem E1{a:Addr}{o:Obj}{ai:List (Key×V)}{H1:Hp}(h:H1 a=some (.bb o (.dK ai))):gp (j8 a o ai) (ai.map fun kv=>kV kv.1) H1 where
 go:=fun i Hc s hi=>⟨s _ _ h,by simpa using hi⟩
 cQ:=fun i Hc x H' s y=>⟨y.1,fun _=>by
  obtain ⟨kv,e,rfl⟩:=y.2
  rw [List.getElem?_map,e]
  rfl⟩
 stop:=fun i Hc s hi=>⟨s _ _ h,by simpa using hi⟩
theorem E2(ks:List Nat):(dk ks).map (fun kv=>kV kv.1)=ks.map fun k:Nat=>V.int (k:Int):=by
 unfold dk
 rw [List.map_map]
 rfl
theorem E3(ks:List Nat):(List.range ks.length).map (fun i=>ks.getD i 0)=ks:=by
 refine List.ext_getElem (by simp) fun i h1 h2=>?_
 simp [List.getD_eq_getElem?_getD,h2]
theorem E4(ks:List Nat)(pr:Nat→Bool):((List.range ks.length).filter fun i=>pr (ks.getD i 0)).map (fun i=>ks.getD i 0)=ks.filter pr:=by
 have e:=List.filter_map (f:=fun i=>ks.getD i 0) (l:=List.range ks.length) (p:=pr)
 rw [E3] at e
 exact e.symm
theorem E5{ρ:St→St}{tt:TT}{te:TE}{σ:St}{H:Hp}{Q:VK}{ks:List Nat}{a:Addr}{ob:Obj}(h:H a=some (.bb ob (.dK (dk ks))))(pr:Nat→Bool)(hl:ks.length<sizeLine)
  (test:∀k∈ks,∀(Hc:Hp) (R:Bool→Hp→Prop),ae H Hc→R (pr k) Hc→tt (some (.int (k:Int))::ρ σ) Hc R)
  (step:∀k∈ks,∀(Hc:Hp) (R:VK),R (.int (k:Int)) Hc→te (some (.int (k:Int))::ρ σ) Hc R)
  (fin:∀D Hc,H D=none→ae H Hc→Hc D=some (.lst ((ks.filter pr).map fun k:Nat=>V.int (k:Int)))→Q (.ref D) Hc):dP (fun _ H R=>R (j8 a ob (dk ks)) H) ρ tt te σ H Q:=by
 have at':∀{i:Nat} {x:V},(ks.map fun k:Nat=>V.int (k:Int))[i]?=some x→i<ks.length∧x=.int ((ks.getD i 0:Nat):Int)∧ks.getD i 0∈ks:=fun{i x} hx=>by
  have hi:i<ks.length:=by
   have:=(List.getElem?_eq_some_iff.mp hx).1
   simpa using this
  rw [List.getElem?_map] at hx
  simp [hi] at hx
  rw [getD_at hi]
  exact ⟨hi,hx.symm,List.getElem_mem hi⟩
 refine Ej (xs:=ks.map fun k:Nat=>V.int (k:Int)) (fun i=>pr (ks.getD i 0)) (fun R k=>k _ (by rw [←E2];exact E1 h)) (by rw [List.length_map];exact hl) (fun _ i y _=>y=.int ((ks.getD i 0:Nat):Int)) (fun _ _ _ _ _ _ h _ _=>h) ?_ ?_ ?_
 ·intro i x hx Hc R sc hR
  obtain ⟨_,rfl,m⟩:=at' hx
  exact test _ m Hc R sc hR
 ·intro D i x hx Hc R sc _ kc
  obtain ⟨_,rfl,m⟩:=at' hx
  exact step _ m Hc R (kc _ Hc (ae.refl _) rfl)
 ·intro D ys Hc nD sc ly hP eD
  refine fin D Hc nD sc ?_
  rw [eD,←E4 ks pr,List.map_map]
  rw [List.length_map] at ly hP
  congr 2
  refine List.ext_getElem (by simpa using ly) fun k h1 h2=>?_
  have h3:k<((List.range ks.length).filter fun i=>pr (ks.getD i 0)).length:=by simpa using h2
  rw [List.getElem_map]
  exact hP k _ _ (List.getElem?_eq_getElem h1) (List.getElem?_eq_getElem h3)
theorem x_{ws:List Int}{ks:List Nat}(p:ws.Perm (ks.map iN)):∃ms:List Nat,ws=ms.map iN∧ms.Perm ks:=by
 refine ⟨ws.map Int.toNat,?_,?_⟩
 ·rw [List.map_map]
  conv=>lhs;rw [←List.map_id ws]
  refine List.map_congr_left fun z hz=>?_
  obtain ⟨k,_,rfl⟩:=List.mem_map.mp (p.mem_iff.mp hz)
  show iN k=iN (Int.toNat (iN k))
  unfold iN
  rw [Int.toNat_natCast]
 ·have:=p.map Int.toNat
  rw [List.map_map] at this
  have e:ks.map (Int.toNat ∘ iN)=ks:=by
   conv=>rhs;rw [←List.map_id ks]
   exact List.map_congr_left fun k _=>Int.toNat_natCast k
  rw [e] at this
  exact this
structure h_ (n:Nat) (o:List Nat) (p:Nat) (ms:List Nat):Prop where
 up:ms.Pairwise (· < ·)
 lt:∀q∈ms,q<n
 la:∀q∈ms,o.idxOf p<o.idxOf q
theorem E6{n:Nat}{o:List Nat}{p:Nat}{ks ms:List Nat}(hk:eZ n ks)(h:ms.Perm (ks.filter fun q=>decide (o.idxOf p<o.idxOf q)))(s:(ms.map iN).Pairwise (·≤·)):h_ n o p ms:=by
 have m:∀q∈ms,q∈ks∧o.idxOf p<o.idxOf q:=fun q hq=>by
  have:=List.mem_filter.mp (h.mem_iff.mp hq)
  exact ⟨this.1,by simpa using this.2⟩
 refine ⟨?_,fun q hq=>hk.2 q (m q hq).1,fun q hq=>(m q hq).2⟩
 have nd:ms.Nodup:=h.nodup_iff.mpr (hk.1.filter _)
 rw [List.pairwise_map] at s
 refine List.Pairwise.imp₂ (fun a b h1 h2=>?_) s nd
 have h1:(a:Int)≤(b:Int):=h1
 have h2:a≠b:=h2
 omega
def ya(H:Hp)(D:Addr)(n:Nat)(rs:Nat→Addr)(g:Nat→List Nat):Prop:=H D=some (.lst ((List.range n).map fun p=>V.ref (rs p)))∧∀p,p<n→H (rs p)=some (.lst ((g p).map fun k:Nat=>V.int (k:Int)))
theorem E7{zs:List Int}{n:Nat}(h:fF zs n):∃o:List Nat,zs=o.map iN∧o.Perm (List.range n):=x_ h
def e9(rs:Nat→Addr)(p:Nat)(x:Addr):Nat→Addr:=fun q=>if q=p then x else rs q
theorem E8(n:Nat)(rs:Nat→Addr)(p:Nat)(x:Addr):((List.range n).map fun q=>V.ref (rs q)).set p (.ref x)=(List.range n).map fun q=>V.ref (e9 rs p x q):=by
 refine List.ext_getElem (by simp) fun q h1 h2=>?_
 rw [List.getElem_set,List.getElem_map,List.getElem_range,List.getElem_map,List.getElem_range]
 unfold e9
 by_cases e:p=q
 ·subst e
  rw [if_pos rfl,if_pos rfl]
 ·rw [if_neg e,if_neg (Ne.symm e)]
theorem yb{rs:Nat→Addr}{p:Nat}{x:Addr}:e9 rs p x p=x:=if_pos rfl
theorem E9{rs:Nat→Addr}{p q:Nat}{x:Addr}(h:q≠p):e9 rs p x q=rs q:=if_neg h
theorem E_{f:Nat→List Nat}{p:Nat}{x:List Nat}:b5 f p x p=x:=if_pos rfl
theorem Fb{f:Nat→List Nat}{p q:Nat}{x:List Nat}(h:q≠p):b5 f p x q=f q:=if_neg h
theorem ic{n:Nat}{g:Nat→V}{p:Nat}(h:p<n):dv ((List.range n).map g) (p:Int)=some (g p):=gT (by rw [List.getElem?_map,List.getElem?_range h];rfl)
theorem Fc(o ks:List Nat)(p:Nat):(ks.filter fun q=>decide ((o.idxOf p:Int)<(o.idxOf q:Int)))=ks.filter fun q=>decide (o.idxOf p<o.idxOf q):=by
 refine List.filter_congr fun q _=>?_
 rw [Bool.eq_iff_iff,decide_eq_true_iff,decide_eq_true_iff]
 omega
theorem jb{n:Nat}{o:List Nat}(h:o.Perm (List.range n)){p q:Nat}(hp:p<n)(hq:q<n)(ne:p≠q):o.idxOf p≠o.idxOf q:=fun z=>by
 obtain ⟨h1,e1⟩:=h8 ((eC h).mpr hp)
 obtain ⟨h2,e2⟩:=h8 ((eC h).mpr hq)
 refine ne ?_
 rw [←e1,←e2]
 congr 1
theorem Fd{wi:TI}{ρ:St→St}{tt:TT}{te:TE}{σ:St}{H:Hp}{Q:VK}(h:wi σ H fun J H1=>dP (fun _ H R=>R J H) ρ tt te σ H1 Q):dP wi ρ tt te σ H Q:=h
end My
namespace L2
open PySem PySem.Spec PyProof.Rows
section
variable {X:Cx} {pins:List (Addr×Obj)} {σ:St} {H:Hp} {s:Shared}
end
end L2
namespace My
open PySem L2
theorem yc{n:Nat}{o:List Nat}(h:o.Perm (List.range n)){p:Nat}{ms:List Nat}(k:h_ n o p ms):ms.length≤n-1-o.idxOf p:=by
 have nd:(ms.map fun q=>o.idxOf q-(o.idxOf p+1)).Nodup:=by
  rw [List.nodup_iff_pairwise_ne,List.pairwise_map]
  refine List.Pairwise.imp_of_mem (fun{a b} ha hb lt=>?_) k.up
  have h1:=k.la a ha
  have h2:=k.la b hb
  have ne:=jb h (k.lt a ha) (k.lt b hb) (Nat.ne_of_lt lt)
  omega
 have:=tw (n:=n-1-o.idxOf p) nd (fun x hx=>by
  obtain ⟨q,hq,rfl⟩:=List.mem_map.mp hx
  have h1:=k.la q hq
  have h2:=(h8 ((eC h).mpr (k.lt q hq))).1
  rw [gA h] at h2
  omega)
 rwa [List.length_map] at this
theorem yd{f g:Nat→Nat}:∀{l:List Nat},(∀p∈l,f p≤g p)→(l.map f).sum≤(l.map g).sum
 | [],_=>Nat.le_refl _
 | a::r,h=>by
  have h1:=h a (List.mem_cons_self ..)
  have h2:=yd (l:=r) fun p hp=>h p (List.mem_cons_of_mem _ hp)
  simp only [List.map_cons,List.sum_cons]
  omega
def b6(p q:Nat):Int×Int:=(if (q:Int)<(p:Int) then (q:Int) else (p:Int),if (q:Int)>(p:Int) then (q:Int) else (p:Int))
theorem tD{n p q:Nat}(hp:p<n)(hq:q<n):0≤(b6 p q).2∧(b6 p q).2<(n:Int):=by
 unfold b6
 dsimp only
 split <;> omega
theorem aN.app{H:Hp}{xs ys:List V}{M N:List (Int×Int)}(h:aN H xs M)(h':aN H ys N):aN H (xs++ys) (M++N):=by
 have l1:=h.1
 have l2:=h'.1
 refine ⟨by simp [l1,l2],fun k v p h1 h2=>?_⟩
 by_cases e:k<xs.length
 ·rw [List.getElem?_append_left e] at h1
  rw [List.getElem?_append_left (by omega)] at h2
  exact h.2 k v p h1 h2
 ·rw [List.getElem?_append_right (by omega)] at h1
  rw [List.getElem?_append_right (by omega),←l1] at h2
  exact h'.2 _ v p h1 h2
theorem Fe{g:Nat→Nat}{n k:Nat}(h:k≤n):((List.range k).map g).sum≤((List.range n).map g).sum:=by
 induction n with
 | zero=>rw [Nat.le_zero.mp h];exact Nat.le_refl _
 | succ n ih=>
  by_cases e:k=n+1
  ·subst e;exact Nat.le_refl _
  ·have:=ih (by omega)
   rw [List.range_succ,List.map_append,List.sum_append]
   omega
end My
namespace L2
open PySem PySem.Spec PyProof.Rows
theorem Ff{X:Cx}{E:XK}(L:mC X E):PassesOwn (model X.prog X.w) X.A X.env X.xe:=by
 rw [L.xe]
 exact PassesOwn.leaving
end L2
namespace My
open PySem L2
end My
namespace L2
open PySem PySem.Spec PyProof.Rows
end L2
namespace My
open PySem L2
end My
namespace L2
open PySem PySem.Spec PyProof.Rows
end L2
namespace My
open PySem L2
end My
namespace L2
open PySem PySem.Spec PyProof.Rows
theorem Fg{X:Cx}{K:PySem.W.Frag}(hk:X.K=K:=by rfl):bE X (compareOp .In) (oz K false):=by
 subst hk
 exact wy
end L2
namespace My
open PySem L2
def tE:V→Nat
 | .int i=>i.toNat
 | _=>0
theorem Fh{ys:List V}{n:Nat}(p:ys.Perm (bK n)):∃o:List Nat,ys=o.map (fun k:Nat=>V.int (k:Int))∧o.Perm (List.range n):=by
 refine ⟨ys.map tE,?_,?_⟩
 ·rw [List.map_map]
  conv=>lhs;rw [←List.map_id ys]
  refine List.map_congr_left fun y hy=>?_
  obtain ⟨k,_,rfl⟩:=List.mem_map.mp (p.mem_iff.mp hy)
  show V.int (k:Int)=V.int (((k:Int).toNat:Nat):Int)
  rw [Int.toNat_natCast]
 ·have:=p.map tE
  unfold bK at this
  rw [List.map_map] at this
  have e:(List.range n).map (tE ∘ fun i:Nat=>V.int (i:Int))=List.range n:=by
   conv=>rhs;rw [←List.map_id (List.range n)]
   exact List.map_congr_left fun k _=>Int.toNat_natCast k
  rw [e] at this
  exact this
theorem Lm(xs:List V)(k:Nat)(h:k≤xs.length):c_ xs none (some (k:Int))=xs.take k:=by
 unfold c_ HT.cF
 simp only
 rw [if_neg (by omega),Int.toNat_natCast,Nat.min_eq_left h,Nat.sub_zero]
 rfl
theorem Fi(xs:List V)(k:Nat)(h:k≤xs.length):c_ xs (some (k:Int)) none=xs.drop k:=by
 unfold c_ HT.cF
 simp only
 rw [if_neg (by omega),Int.toNat_natCast,Nat.min_eq_left h]
 exact List.take_of_length_le (by rw [List.length_drop];exact Nat.le_refl _)
inductive ie (aU:Nat→Nat→Prop) (aT:Nat→Prop) (s:Nat):Nat→Prop where
 | start:ie aU aT s s
 | step {a b:Nat}:ie aU aT s a→(a=s∨aT a)→aU a b→ie aU aT s b
structure ck (n:Nat) (aU:Nat→Nat→Prop) (aT:Nat→Prop) (s:Nat) (here:Option Nat) (dn:Nat→Prop) (ks ws:List Nat):Prop where
 pl:eZ n ks
 st:s∈ks
 rc:∀k∈ks,ie aU aT s k
 wt:∀w∈ws,w∈ks∧(w=s∨aT w)
 cl:∀k∈ks,(k=s∨aT k)→k∈ws∨∀b,aU k b→b∈ks∨(here=some k∧¬dn b)
variable {n:Nat} {aU:Nat→Nat→Prop} {aT:Nat→Prop} {s:Nat}
theorem ck.start(hs:s<n){dn:Nat→Prop}:ck n aU aT s none dn [s] [s]:=
 ⟨⟨by simp,fun k hk=>by rw [List.mem_singleton.mp hk];exact hs⟩,List.mem_singleton.mpr rfl,fun k hk=>by rw [List.mem_singleton.mp hk];exact .start,fun w hw=>⟨hw,.inl (List.mem_singleton.mp hw)⟩,fun k hk _=>.inl hk⟩
theorem ck.pop{dn:Nat→Prop}{ks ws:List Nat}{h:Nat}(k:ck n aU aT s none dn ks (ws++[h])):ck n aU aT s (some h) (fun _=>False) ks ws:=
 ⟨k.pl,k.st,k.rc,fun w hw=>k.wt w (List.mem_append_left _ hw),fun x hx ox=>by
  rcases k.cl x hx ox with e | e
  ·rcases List.mem_append.mp e with e | e
   ·exact .inl e
   ·exact .inr fun b _=>.inr ⟨by rw [List.mem_singleton.mp e],fun z=>z⟩
  ·exact .inr fun b hb=>.inl ((e b hb).resolve_right fun z=>by cases z.1)⟩
theorem ck.old{h b:Nat}{dn:Nat→Prop}{ks ws:List Nat}(k:ck n aU aT s (some h) dn ks ws)(hb:b∈ks):ck n aU aT s (some h) (fun x=>dn x∨x=b) ks ws:=
 ⟨k.pl,k.st,k.rc,k.wt,fun x hx ox=>by
  rcases k.cl x hx ox with e | e
  ·exact .inl e
  ·refine .inr fun c hc=>?_
   rcases e c hc with e | e
   ·exact .inl e
   ·by_cases z:c=b
    ·rw [z];exact .inl hb
    ·exact .inr ⟨e.1,fun q=>q.elim e.2 z⟩⟩
theorem ck.new{h b:Nat}{dn:Nat→Prop}{ks ws vs:List Nat}(k:ck n aU aT s (some h) dn ks ws)(hb:b∉ks)(bn:b<n)(hh:h∈ks)(oh:h=s∨aT h)(ab:aU h b)(hv:(aT b∧vs=ws++[b])∨(¬aT b∧vs=ws)):ck n aU aT s (some h) (fun x=>dn x∨x=b) (bz ks b) vs:=by
 have bs:b≠s:=fun z=>hb (z▸k.st)
 have sub:∀w∈ws,w∈vs:=fun w hw=>by
  rcases hv with ⟨_,rfl⟩ | ⟨_,rfl⟩
  ·exact List.mem_append_left _ hw
  ·exact hw
 refine ⟨k.pl.add bn,dX.mpr (.inl k.st),fun x hx=>?_,fun w hw=>?_,fun x hx ox=>?_⟩
 ·rcases dX.mp hx with e | rfl
  ·exact k.rc x e
  ·exact .step (k.rc h hh) oh ab
 ·rcases hv with ⟨tb,rfl⟩ | ⟨_,rfl⟩
  ·rcases List.mem_append.mp hw with e | e
   ·exact ⟨dX.mpr (.inl (k.wt w e).1),(k.wt w e).2⟩
   ·rw [List.mem_singleton.mp e]
    exact ⟨dX.mpr (.inr rfl),.inr tb⟩
  ·exact ⟨dX.mpr (.inl (k.wt w hw).1),(k.wt w hw).2⟩
 ·rcases dX.mp hx with e | rfl
  ·rcases k.cl x e ox with e | e
   ·exact .inl (sub x e)
   ·refine .inr fun c hc=>?_
    rcases e c hc with e | e
    ·exact .inl (dX.mpr (.inl e))
    ·by_cases z:c=b
     ·exact .inl (dX.mpr (.inr z))
     ·exact .inr ⟨e.1,fun q=>q.elim e.2 z⟩
  ·rcases hv with ⟨tb,rfl⟩ | ⟨tb,rfl⟩
   ·exact .inl (List.mem_append_right _ (List.mem_singleton.mpr rfl))
   ·exact absurd ox (fun z=>z.elim bs tb)
theorem ck.next{h:Nat}{dn Fj:Nat→Prop}{ks ws:List Nat}(k:ck n aU aT s (some h) dn ks ws)(all:∀b,aU h b→dn b):ck n aU aT s none Fj ks ws:=
 ⟨k.pl,k.st,k.rc,k.wt,fun x hx ox=>by
  rcases k.cl x hx ox with e | e
  ·exact .inl e
  ·refine .inr fun c hc=>.inl ?_
   rcases e c hc with e | ⟨e,e2⟩
   ·exact e
   ·cases e
    exact absurd (all c hc) e2⟩
theorem ck.done{dn:Nat→Prop}{ks:List Nat}(k:ck n aU aT s none dn ks [])(x:Nat):x∈ks↔ie aU aT s x:=by
 refine ⟨k.rc x,fun h=>?_⟩
 induction h with
 | start=>exact k.st
 | step _ o ab ih=>
  rcases k.cl _ ih o with e | e
  ·cases e
  ·exact (e _ ab).resolve_right fun z=>by cases z.1
theorem Fl{ks:List Nat}{b:Nat}(h:b∉ks):(bz ks b).length=ks.length+1:=by
 unfold bz
 rw [if_neg h,List.length_append]
 rfl
end My
namespace L2
open PySem PySem.Spec PyProof.Rows
theorem Fm{X:Cx}{K:PySem.W.Frag}(hk:X.K=K:=by rfl):bE X (compareOp .NotIn) (oz K true):=by
 subst hk
 exact BU
end L2
namespace My
open PySem L2
def ig(n:Nat)(f:Nat→List Nat)(a b:Nat):Prop:=a<n∧b∈f a
theorem ye(done:List Nat)(k:Nat):jS (.int (k:Int)) (done.map fun k:Nat=>V.int (k:Int))=decide (k∈done):=by
 unfold jS
 rw [Bool.eq_iff_iff,List.any_eq_true,decide_eq_true_iff]
 constructor
 ·rintro ⟨y,hy,e⟩
  obtain ⟨j,hj,rfl⟩:=List.mem_map.mp hy
  have e:((j:Int) == (k:Int))=true:=e
  rw [beq_iff_eq] at e
  have:j=k:=by omega
  subst this
  exact hj
 ·intro h
  exact ⟨_,List.mem_map.mpr ⟨k,h,rfl⟩,oU rfl⟩
theorem Fn(done:List Nat):(done.map fun k:Nat=>V.int (k:Int)).all eg=true:=by
 rw [List.all_eq_true]
 intro x hx
 obtain ⟨j,_,rfl⟩:=List.mem_map.mp hx
 rfl
def gB(g:Nat→List Nat)(i j:Nat):Nat→List Nat:=b5 g i (g i++[j])
theorem yf{g:Nat→List Nat}{i j a b:Nat}:b∈gB g i j a↔b∈g a∨(a=i∧b=j):=by
 unfold gB b5
 by_cases e:a=i
 ·subst e
  rw [if_pos rfl,List.mem_append,List.mem_singleton]
  simp
 ·rw [if_neg e]
  simp [e]
theorem tF{g:Nat→List Nat}{i j a:Nat}:(gB g i j a).length≤(g a).length+1:=by
 unfold gB b5
 by_cases e:a=i
 ·subst e
  rw [if_pos rfl,List.length_append]
  exact Nat.le_refl _
 ·rw [if_neg e];omega
theorem df.snoc{n:Nat}{L:List (Int×Int)}{g:Nat→List Nat}(h:df n L g){i j:Nat}:df n (L++[((i:Int),(j:Int))]) (gB (gB g i j) j i):=fun a b ha=>by
 rw [yf,yf,h a b ha]
 simp only [List.mem_append,List.mem_singleton,Prod.mk.injEq]
 constructor
 ·rintro (((e | e) | ⟨rfl,rfl⟩) | ⟨rfl,rfl⟩)
  ·exact .inl (.inl e)
  ·exact .inr (.inl e)
  ·exact .inl (.inr ⟨rfl,rfl⟩)
  ·exact .inr (.inr ⟨rfl,rfl⟩)
 ·rintro ((e | ⟨e1,e2⟩) | (e | ⟨e1,e2⟩))
  ·exact .inl (.inl (.inl e))
  ·exact .inl (.inr ⟨by omega,by omega⟩)
  ·exact .inl (.inl (.inr e))
  ·exact .inr ⟨by omega,by omega⟩
structure eE (H:Hp) (D:Addr) (n:Nat) (rs:Nat→Addr) (g:Nat→List Nat):Prop where
 lst:H D=some (.lst ((List.range n).map fun i=>V.ref (rs i)))
 inj:∀i j,i<n→j<n→rs i=rs j→i=j
 ne:∀i,i<n→rs i≠D
 at':∀i,i<n→H (rs i)=some (.lst ((g i).map fun k:Nat=>V.int (k:Int)))
theorem eE.snoc{H:Hp}{D:Addr}{n:Nat}{rs:Nat→Addr}{g:Nat→List Nat}(h:eE H D n rs g){i:Nat}(j:Nat)(hi:i<n):eE (upd H (rs i) (.lst (((g i).map fun k:Nat=>V.int (k:Int))++[V.int (j:Int)]))) D n rs (gB g i j):=by
 refine ⟨by rw [aA (Ne.symm (h.ne i hi))];exact h.lst,h.inj,h.ne,fun a ha=>?_⟩
 unfold gB b5
 by_cases e:a=i
 ·subst e
  rw [if_pos rfl,aq,List.map_append]
  rfl
 ·rw [if_neg e,aA (fun z=>e (h.inj a i ha hi z))]
  exact h.at' a ha
def Fo:Sp:=fun vs H Q _=>∃(D d:Addr) (n:Nat) (rs:Nat→Addr) (g:Nat→List Nat) (done:List Nat) (p:Nat),vs=[.ref D,.ref d,.int (p:Int)]∧eE H D n rs g∧(∀i,i<n→∀j∈g i,j<n)∧H d=some (.lst (done.map fun k:Nat=>V.int (k:Int)))∧done.length≤1000∧p<n∧n≤60 ∧
 ∀(H':Hp) (mt:Addr) (ks:List Nat),ae H H'→H mt=none→H' mt=some (.dK (dk ks))→eZ n ks→(∀x,x∈ks↔ie (ig n g) (·∈done) p x)→Q (.ref mt) H'
end My
namespace L2
open PySem PySem.Spec PyProof.Rows
end L2
namespace My
open PySem L2
theorem Fp{X:Cx}{pins:List (Addr×Obj)}{σ:St}{H:Hp}{s:Shared}(I:Inv X pins σ H s){A:Around}(hu:A.units<cLine){p q:Addr}{x y:Int×Int}(e:H p=some (.tup [.int x.1,.int x.2]))(e':H q=some (.tup [.int y.1,.int y.2])):SeqAt.EqAt A s (.ref p) (.ref q) (decide (x=y)):=by
 by_cases pq:p=q
 ·subst pq
  rw [e] at e'
  cases x
  cases y
  simp only [Option.some.injEq,HO.tup.injEq,List.cons.injEq,V.int.injEq,and_true] at e'
  rw [decide_eq_true (Prod.ext e'.1 e'.2)]
  exact SeqAt.EqAt.same _
 obtain ⟨us,r1,t1,_⟩:=I.tuple (.of e)
 obtain ⟨vs,r2,t2,_⟩:=I.tuple (.of e')
 obtain ⟨a1,a2,rfl,tG,tH⟩:=vals2 r1
 obtain ⟨b1,b2,rfl,tI,tJ⟩:=vals2 r2
 have z:=SeqAt.RcAt.tuples (A:=A) (e:=fun j=>if j=0 then cp (.int x.1) (.int y.1) else cp (.int x.2) (.int y.2)) t1 t2 hu (fun j z1 z2=>by
  have:j<2:=z1
  match j with
  | 0=>exact iR tG tI rfl rfl
  | 1=>exact iR tH tJ rfl rfl)
 have ec:decide (x=y)=((List.range (min ([a1,a2]:List Value).toArray.size ([b1,b2]:List Value).toArray.size)).all (fun j=>if j=0 then cp (.int x.1) (.int y.1) else cp (.int x.2) (.int y.2)) && ([a1,a2]:List Value).toArray.size == ([b1,b2]:List Value).toArray.size):=by
  cases x
  cases y
  simp only [Prod.mk.injEq]
  show _=((List.range 2).all _ && true)
  simp [List.range_succ,cp]
  rfl
 rw [ec]
 exact SeqAt.EqAt.of_refs pq z
end My
namespace L2
open PySem PySem.Spec PyProof.Rows My
end L2
namespace My
open PySem L2
def ng(p q:Int×Int):Prop:=p.1*1000+p.2≤q.1*1000+q.2
theorem Fq{M:List (Int×Int)}{p:Array Nat}(P:fU M.length p)(U:hE (fun i=>(M.getD i (0,0)).1*1000+(M.getD i (0,0)).2) p M.length) :
  (p.toList.map fun i=>M.getD i (0,0)).Perm M∧(p.toList.map fun i=>M.getD i (0,0)).Pairwise ng:=by
 have pm:p.toList.Perm (List.range M.length):=Array.perm_iff_toList_perm.mp P
 have lt:∀i∈p.toList,i<M.length:=fun i hi=>List.mem_range.mp (pm.mem_iff.mp hi)
 refine ⟨?_,?_⟩
 ·have e:((List.range M.length).map fun i=>M.getD i (0,0))=M:=by
   refine List.ext_getElem (by simp) fun i h1 h2=>?_
   rw [List.getElem_map,List.getElem_range,getD_at h2]
  have:=pm.map fun i=>M.getD i (0,0)
  rw [e] at this
  exact this
 ·rw [List.pairwise_iff_getElem]
  intro i j hi hj su
  rw [List.length_map] at hi hj
  rw [List.getElem_map,List.getElem_map]
  have sz:=P.size
  have u:=U i j (by omega) (by rw [←sz,←Array.length_toList];exact hj)
  unfold vN at u
  have gi:p.getD i 0=p.toList[i]:=by
   have:i<p.size:=by rw [←Array.length_toList];exact hi
   simp [Array.getD,this]
  have gj:p.getD j 0=p.toList[j]:=by
   have:j<p.size:=by rw [←Array.length_toList];exact hj
   simp [Array.getD,this]
  rw [gi,gj] at u
  exact u
theorem yg{H:Hp}{l:Addr}{us:List V}{M:List (Int×Int)}{Q:VK}(el:H l=some (.lst us))(hM:aN H us M)(Ln:M.length<1000)(b:∀q∈M,0≤q.2∧q.2<1000)
  (k:∀(l':Addr) (ws:List V) (N:List (Int×Int)) (H':Hp),ae H H'→H l'=none→H' l'=some (.lst ws)→aN H' ws N→N.Perm M→N.Pairwise ng→Q (.ref l') H'):xD [.ref l] H Q:=by
 have lX:=hM.1
 refine ⟨l,us,fun i=>(M.getD i (0,0)).1,fun i=>(M.getD i (0,0)).2,rfl,el,by omega,fun i v hv=>?_,fun p l' hp hu ik=>?_⟩
 ·have hi:i<M.length:=by
   rw [←lX]
   exact (List.getElem?_eq_some_iff.mp hv).1
  obtain ⟨c,rfl,ec⟩:=hM.2 i v M[i] hv (by simp [hi])
  dsimp only
  rw [getD_at hi]
  exact ⟨⟨c,rfl,ec⟩,b _ (List.getElem_mem hi)⟩
 ·rw [lX] at hp hu
  obtain ⟨pm,pw⟩:=Fq hp hu
  have hP:aN H (p.toList.map fun i=>us.getD i .aF) (p.toList.map fun i=>M.getD i (0,0)):=hM.pick _ fun i hi=>by
   have:p.toList.Perm (List.range M.length):=Array.perm_iff_toList_perm.mp hp
   exact List.mem_range.mp (this.mem_iff.mp hi)
  exact k l' _ _ _ (aG ik) ik aq (hP.mono (aG ik)) pm pw
end My
namespace L2
open PySem PySem.Spec PyProof.Rows My
theorem tK{wi:TI}{ρ:St→St}{tt:TT}{te:TE}{σ:St}{H:Hp}{Q:VK}{xs:List V}(fu:∀R:It→Hp→Prop,(∀J H1,ae H H1→gp J xs H1→R J H1)→wi σ H R)(hn:xs.length<sizeLine)
  (test:∀x∈xs,∀(Hc:Hp) (R:Bool→Hp→Prop),ae H Hc→(∀b H3,ae Hc H3→R b H3)→tt (some x::ρ σ) Hc R)
  (elem:∀(x:V) (Hc:Hp) (R:VK),R x Hc→te (some x::ρ σ) Hc R)
  (fin:∀D ys Hc,H D=none→ae H Hc→ys.length≤xs.length→(∀y∈ys,y∈xs)→Hc D=some (.lst ys)→Q (.ref D) Hc):dP wi ρ tt te σ H Q:=by
 refine fu _ fun J H1 s1 js=>?_
 intro D nD
 refine ⟨fun i m ys Hc=>m=xs.length-i∧i≤xs.length∧Hc D=some (.lst ys)∧ae H1 Hc∧ys.length≤i∧∀y∈ys,y∈xs,⟨_,rfl,Nat.zero_le _,aq,dA (ae.refl H1) nD,Nat.le_refl _,fun y h=>by cases h⟩,?_⟩
 rintro i m ys Hc ⟨rfl,hi,eD,sH,ly,hP⟩
 refine ⟨eD,?_⟩
 by_cases a8:i<xs.length
 ·refine .inr ⟨js.go i Hc sH a8,fun x H' hy=>?_⟩
  obtain ⟨rfl,hx⟩:=js.cQ i Hc x H' sH hy
  have mx:x∈xs:=List.mem_of_getElem? (hx a8)
  refine test x mx _ _ (s1.trans sH) fun b H3 s3=>?_
  have e3:=s3 _ _ eD
  cases b with
  | true=>
   rw [if_pos rfl]
   refine elem x _ _ ⟨e3,by omega,xs.length-(i+1),by omega,rfl,a8,aq,dA (sH.trans s3) nD,by simp;omega,fun y hy=>?_⟩
   rcases List.mem_append.mp hy with h | h
   ·exact hP y h
   ·rw [List.mem_singleton.mp h]
    exact mx
  | false=>
   rw [if_neg (by simp)]
   exact ⟨xs.length-(i+1),by omega,rfl,a8,e3,sH.trans s3,by omega,hP⟩
 ·have e:i=xs.length:=by omega
  subst e
  exact .inl ⟨js.stop _ Hc sH (Nat.le_refl _),fin D ys Hc (none_of s1 nD) (s1.trans sH) ly hP eD⟩
end L2
namespace My
open PySem L2
def dJ(n:Nat)(xs:List V):Prop:=∃ms:List Nat,xs=ms.map (fun k:Nat=>V.int (k:Int))∧∀k∈ms,k<n
theorem dJ.sub{n:Nat}{xs ys:List V}(h:dJ n xs)(s:∀y∈ys,y∈xs):dJ n ys:=by
 obtain ⟨ms,rfl,hm⟩:=h
 induction ys with
 | nil=>exact ⟨[],rfl,fun k h=>by cases h⟩
 | cons y ys ih=>
  obtain ⟨ks,rfl,hk⟩:=ih fun z hz=>s z (List.mem_cons_of_mem _ hz)
  obtain ⟨k,cw,rfl⟩:=List.mem_map.mp (s y (List.mem_cons_self ..))
  refine ⟨k::ks,rfl,fun j hj=>?_⟩
  rcases List.mem_cons.mp hj with rfl | h
  ·exact hm _ cw
  ·exact hk j h
theorem dJ.at{n:Nat}{xs:List V}(h:dJ n xs){i:Nat}(hi:i<xs.length):∃k:Nat,k<n∧xs[i]?=some (.int (k:Int)):=by
 obtain ⟨ms,rfl,hm⟩:=h
 have aR:i<ms.length:=by simpa using hi
 exact ⟨ms[i],hm _ (List.getElem_mem _),by simp [aR]⟩
theorem dJ.flat{n:Nat}{xs:List V}(h:dJ n xs):xs.all eg=true:=by
 obtain ⟨ms,rfl,_⟩:=h
 rw [List.all_eq_true]
 intro x hx
 obtain ⟨z,_,rfl⟩:=List.mem_map.mp hx
 rfl
theorem dJ.ints{n:Nat}{xs:List V}(h:dJ n xs):∃zs:List Int,xs=zs.map V.int∧∀z∈zs,0≤z∧z<n:=by
 obtain ⟨ms,rfl,hm⟩:=h
 refine ⟨ms.map fun k:Nat=>(k:Int),by rw [List.map_map];rfl,fun z hz=>?_⟩
 obtain ⟨k,hk,rfl⟩:=List.mem_map.mp hz
 have:=hm k hk
 omega
def Fs:Sp:=fun vs H Q _=>∃(t:Addr) (n:Nat) (L:List (Int×Int)),vs=[.ref t]∧cy H t n L∧gz n L∧n≤60∧L.length≤200 ∧
 ∀(H':Hp) (D:Addr) (rs:Nat→Addr) (g:Nat→List Nat),ae H H'→H D=none→(∀i,i<n→H (rs i)=none)→eE H' D n rs g→df n L g→(∀i,(g i).length≤2*L.length)→Q (.ref D) H'
theorem Ft{xs:List V}{v:V}(h1:1≤xs.length)(h:xs[xs.length-1]?=some v):dv xs (-1)=some v:=by
 unfold dv
 have e:fj xs.length (-1)=some (xs.length-1):=by
  unfold fj
  split
  ·rename_i hh;omega
  ·split
   ·congr 1
    omega
   ·rename_i h2 h3
    omega
 rw [e]
 exact h
inductive Wk (aU:Nat→Nat→Prop) (aT:Nat→Prop) (s:Nat):Nat→Prop where
 | one {b:Nat}:aU s b→Wk aU aT s b
 | more {a b:Nat}:Wk aU aT s a→aT a→aU a b→Wk aU aT s b
section
variable {aU:Nat→Nat→Prop} {aT nh:Nat→Prop} {s t:Nat}
theorem Fu(t:Nat):ie aU aT s t↔t=s∨Wk aU aT s t:=by
 constructor
 ·intro h
  induction h with
  | start=>exact .inl rfl
  | step _ o ab ih=>
   rcases ih with rfl | w
   ·exact .inr (.one ab)
   ·rcases o with rfl | o
    ·exact .inr (.one ab)
    ·exact .inr (.more w o ab)
 ·rintro (rfl | h)
  ·exact .start
  ·induction h with
   | one ab=>exact .step .start (.inl rfl) ab
   | more _ o ab ih=>exact .step ih (.inr o) ab
theorem Wk.mono(h:Wk aU aT s t)(k:∀x,aT x→nh x):Wk aU nh s t:=by
 induction h with
 | one ab=>exact .one ab
 | more _ o ab ih=>exact .more ih (k _ o) ab
theorem Wk.imp{yh:Nat→Nat→Prop}(h:Wk aU aT s t)(k:∀a b,aU a b→yh a b):Wk yh aT s t:=by
 induction h with
 | one ab=>exact .one (k _ _ ab)
 | more _ o ab ih=>exact .more ih o (k _ _ ab)
theorem Wk.cons{a:Nat}(ab:aU s a)(ta:aT a)(h:Wk aU aT a t):Wk aU aT s t:=by
 induction h with
 | one e=>exact .more (.one ab) ta e
 | more _ o e ih=>exact .more ih o e
theorem Wk.symm(sy:∀a b,aU a b→aU b a)(h:Wk aU aT s t):Wk aU aT t s:=by
 induction h with
 | one ab=>exact .one (sy _ _ ab)
 | more _ o ab ih=>exact ih.cons (sy _ _ ab) o
theorem Wk.trans{p:Nat}(h:Wk aU aT s p)(tp:aT p)(h':Wk aU aT p t):Wk aU aT s t:=by
 induction h' with
 | one ab=>exact .more h tp ab
 | more _ o ab ih=>exact .more ih o ab
theorem Wk.step{p:Nat}(k:∀x,nh x↔aT x∨x=p):Wk aU nh s t↔Wk aU aT s t∨(Wk aU aT s p∧Wk aU aT p t):=by
 constructor
 ·intro h
  induction h with
  | one ab=>exact .inl (.one ab)
  | more _ o ab ih=>
   rcases (k _).mp o with o | rfl
   ·rcases ih with ih | ⟨i1,i2⟩
    ·exact .inl (.more ih o ab)
    ·exact .inr ⟨i1,.more i2 o ab⟩
   ·rcases ih with ih | ⟨i1,_⟩
    ·exact .inr ⟨ih,.one ab⟩
    ·exact .inr ⟨i1,.one ab⟩
 ·have m:∀x,aT x→nh x:=fun x h=>(k x).mpr (.inl h)
  rintro (h | ⟨h,h'⟩)
  ·exact h.mono m
  ·exact (h.mono m).trans ((k p).mpr (.inr rfl)) (h'.mono m)
end
def aL(n:Nat)(L:List (Int×Int))(a b:Nat):Prop:=a<n∧b<n∧(((a:Int),(b:Int))∈L∨((b:Int),(a:Int))∈L)
theorem yi{n:Nat}{L:List (Int×Int)}(a b:Nat)(h:aL n L a b):aL n L b a:=⟨h.2.1,h.1,h.2.2.symm⟩
def ni(L:List (Int×Int)):Prop:=∀p∈L,p.1≠p.2
def dY(n:Nat)(o:List Nat)(k x:Nat):Prop:=x<n∧o.idxOf x<k
def jc(n:Nat)(L:List (Int×Int))(o:List Nat)(k:Nat)(f:Nat→List Nat):Prop:=∀a b:Nat,a<n→b<n→k≤o.idxOf a→k≤o.idxOf b→(b∈f a↔a≠b∧Wk (aL n L) (dY n o k) a b)
theorem jc.start{n:Nat}{L:List (Int×Int)}{o:List Nat}{f:Nat→List Nat}(nb:df n L f)(ns:ni L):jc n L o 0 f:=fun a b ha hb _ _=>by
 rw [nb a b ha]
 constructor
 ·intro h
  refine ⟨fun e=>?_,.one ⟨ha,hb,h⟩⟩
  subst e
  rcases h with h | h <;> exact ns _ h rfl
 ·rintro ⟨_,h⟩
  cases h with
  | one ab=>exact ab.2.2
  | more _ o _=>exact absurd o.2 (Nat.not_lt_zero _)
theorem jc.step{n:Nat}{L:List (Int×Int)}{o:List Nat}(ho:o.Perm (List.range n)){k p:Nat}{f g:Nat→List Nat}{ms:List Nat}(h:jc n L o k f)(hp:p<n)(ip:o.idxOf p=k)(hm:∀q,q∈ms↔q∈f p∧k<o.idxOf q)(ml:∀q∈ms,q<n)
  (con:∀a b:Nat,a<n→(b∈g a↔b∈f a∨(a≠b∧a∈ms∧b∈ms))):jc n L o (k+1) g:=fun a b ha hb ka kb=>by
 have th:∀x,dY n o (k+1) x↔dY n o k x∨x=p:=fun x=>by
  unfold dY
  constructor
  ·rintro ⟨h1,h2⟩
   by_cases e:o.idxOf x=k
   ·right
    by_cases z:x=p
    ·exact z
    ·exact absurd (e.trans ip.symm) (jb ho h1 hp z)
   ·exact .inl ⟨h1,by omega⟩
  ·rintro (⟨h1,h2⟩ | rfl)
   ·exact ⟨h1,by omega⟩
   ·exact ⟨hp,by omega⟩
 have ap:a≠p:=fun e=>by subst e;omega
 have bp:b≠p:=fun e=>by subst e;omega
 have ea:=h p a hp ha (by omega) (by omega)
 have eb:=h p b hp hb (by omega) (by omega)
 rw [con a b ha,h a b ha hb (by omega) (by omega),hm a,hm b,ea,eb,Wk.step th]
 constructor
 ·rintro (⟨h1,h2⟩ | ⟨h1,⟨⟨_,h2⟩,_⟩,⟨_,h3⟩,_⟩)
  ·exact ⟨h1,.inl h2⟩
  ·exact ⟨h1,.inr ⟨h2.symm yi,h3⟩⟩
 ·rintro ⟨h1,h2 | ⟨h2,h3⟩⟩
  ·exact .inl ⟨h1,h2⟩
  ·exact .inr ⟨h1,⟨⟨Ne.symm ap,h2.symm yi⟩,by omega⟩,⟨Ne.symm bp,h3⟩,by omega⟩
def nj(n:Nat)(L:List (Int×Int))(o:List Nat)(p:Nat)(ms:List Nat):Prop:=∀q,q∈ms↔q<n∧o.idxOf p<o.idxOf q∧Wk (aL n L) (dY n o (o.idxOf p)) p q
def Fv(N:Addr):Sp:=fun vs H Q E=>∃(t a:Addr) (n:Nat) (L:List (Int×Int)) (zs:List Int),vs=[.ref t,.ref a]∧cy H t n L∧gz n L∧ni L∧n≤60∧H a=some (.lst (zs.map V.int))∧zs.length<64 ∧
 (¬fF zs n→∀H',ae H H'→E (.ref N) none H') ∧
 ∀o:List Nat,zs=o.map iN→o.Perm (List.range n)→∀(H':Hp) (D:Addr) (rs:Nat→Addr) (g:Nat→List Nat),ae H H'→H D=none→(∀p,p<n→H (rs p)=none)→ya H' D n rs g→(∀p,p<n→h_ n o p (g p)∧nj n L o p (g p))→Q (.ref D) H'
theorem tL{p q p' q':Nat}(h:b6 p q=b6 p' q'):(p=p'∧q=q')∨(p=q'∧q=p'):=by
 unfold b6 at h
 have h1:=congrArg Prod.fst h
 have h2:=congrArg Prod.snd h
 dsimp only at h1 h2
 split at h1 <;> split at h1 <;> split at h2 <;> split at h2 <;> omega
def jd(n:Nat)(L:List (Int×Int))(o:List Nat)(M:List (Int×Int)):Prop:=M.Pairwise lexLt∧∀z,z∈M↔∃p q:Nat,p<n∧q<n∧o.idxOf p<o.idxOf q∧Wk (aL n L) (dY n o (o.idxOf p)) p q∧z=b6 p q
theorem jd.uniq{n:Nat}{L:List (Int×Int)}{o:List Nat}{M N:List (Int×Int)}(h:jd n L o M)(h':jd n L o N):M=N:=xK h.1 h'.1 fun z=>by rw [h.2 z,h'.2 z]
theorem yj{N:List (Int×Int)}(h:N.Pairwise ng)(nd:N.Nodup)(b:∀q∈N,0≤q.2∧q.2<1000):N.Pairwise lexLt:=by
 have:=List.Pairwise.and h nd
 refine List.Pairwise.imp_of_mem (fun{x y} hx hy Fw=>?_) this
 obtain ⟨h1,h2⟩:=Fw
 have b1:=b x hx
 have b2:=b y hy
 obtain ⟨x1,x2⟩:=x
 obtain ⟨y1,y2⟩:=y
 unfold ng at h1
 unfold lexLt
 dsimp only at *
 by_cases z:x1<y1
 ·exact .inl z
 ·right
  have e1:x1=y1:=by omega
  subst e1
  refine ⟨rfl,?_⟩
  by_cases y:x2=y2
  ·subst y
   exact absurd rfl h2
  ·omega
theorem Fx{n:Nat}{o:List Nat}(h:o.Perm (List.range n))(n9:n≤30){g:Nat→List Nat}(k:∀p,p<n→h_ n o p (g p)):((List.range n).map fun p=>(g p).length).sum≤435:=by
 have a:=yd (l:=List.range n) (f:=fun p=>(g p).length) (g:=fun p=>n-1-o.idxOf p) fun p hp=>yc h (k p (List.mem_range.mp hp))
 have b:((List.range n).map fun p=>n-1-o.idxOf p).sum=(o.map fun p=>n-1-o.idxOf p).sum:=((h.map _).symm).sum_nat
 have c:(o.map fun p=>n-1-o.idxOf p)=(List.range n).map fun k=>n-1-k:=by
  have nd:=m9 h
  refine List.ext_getElem (by simp [gA h]) fun i h1 h2=>?_
  rw [List.getElem_map,List.getElem_map,List.getElem_range,m_ nd (by simpa using h1)]
 have d:∀n:Nat,n≤30→((List.range n).map fun k=>n-1-k).sum≤435:=by decide
 rw [c] at b
 have:=d n n9
 omega
structure pO (H:Hp) (g:Nat→List Nat) (k:Nat) (xs:List V) (M:List (Int×Int)):Prop where
 at':aN H xs M
 len:M.length=((List.range k).map fun p=>(g p).length).sum
 mem:∀z,z∈M↔∃p q:Nat,p<k∧q∈g p∧z=b6 p q
 nd:M.Nodup
theorem pO.more{H H':Hp}{n:Nat}{o:List Nat}{g:Nat→List Nat}{k:Nat}{xs ys:List V}{M:List (Int×Int)}(h:pO H g k xs M)(s:aN H xs M→aN H' xs M)(hk:k<n)(hg:∀p,p<n→h_ n o p (g p))(hy:aN H' ys ((g k).map (b6 k))):pO H' g (k+1) (xs++ys) (M++(g k).map (b6 k)):=by
 have gk:=hg k hk
 refine ⟨(s h.at').app hy,by rw [List.length_append,h.len,List.length_map,List.range_succ,List.map_append,List.sum_append];simp,fun z=>?_,?_⟩
 ·rw [List.mem_append,h.mem,List.mem_map]
  constructor
  ·rintro (⟨p,q,h1,h2,h3⟩ | ⟨q,h1,rfl⟩)
   ·exact ⟨p,q,by omega,h2,h3⟩
   ·exact ⟨k,q,by omega,h1,rfl⟩
  ·rintro ⟨p,q,h1,h2,rfl⟩
   by_cases e:p=k
   ·subst e
    exact .inr ⟨q,h2,rfl⟩
   ·exact .inl ⟨p,q,by omega,h2,rfl⟩
 ·refine List.nodup_append.mpr ⟨h.nd,?_,fun a ha b hb e=>?_⟩
  ·refine mX (List.Pairwise.imp (fun h=>Nat.ne_of_lt h) gk.up) fun q q' hq iY e=>?_
   rcases tL e with ⟨_,e⟩ | ⟨e1,e2⟩
   ·exact e
   ·omega
  ·subst e
   obtain ⟨p,q,h1,h2,rfl⟩:=(h.mem a).mp ha
   obtain ⟨q',iY,e⟩:=List.mem_map.mp hb
   rcases tL e with ⟨e1,e2⟩ | ⟨e1,e2⟩
   ·omega
   ·have l1:=(hg p (by omega)).la q h2
    have l2:=gk.la q' iY
    subst e1
    subst e2
    omega
def Fy(N:Addr):Sp:=fun vs H Q E=>∃(t a:Addr) (n:Nat) (L:List (Int×Int)) (zs:List Int),vs=[.ref t,.ref a]∧cy H t n L∧gz n L∧ni L∧n≤30∧H a=some (.lst (zs.map V.int))∧zs.length<64 ∧
 (¬fF zs n→∀H',ae H H'→E (.ref N) none H') ∧
 ∀o:List Nat,zs=o.map iN→o.Perm (List.range n)→∀(H':Hp) (t':Addr) (M:List (Int×Int)),ae H H'→H t'=none→cy H' t' n M→jd n L o M→M.length≤435→Q (.ref t') H'
def Fz:R2:=fun x y H Q=>∃(a b:Addr) (n:Nat) (L M:List (Int×Int)),x=.ref a∧y=.ref b∧cy H a n L∧cy H b n M∧Q (.bl (decide (L=M))) H
theorem FA{X:Cx}{pins:List (Addr×Obj)}{σ:St}{H:Hp}{s:Shared}(I:L2.Inv X pins σ H s){A:Around}(hu:A.units<cLine){xs ys:List V}{us vs:List Value}{L M:List (Int×Int)}(k1:aN H xs L)(k2:aN H ys M)(r1:Vals xs us)(r2:Vals ys vs):∀j (z1:j<us.toArray.size) (z2:j<vs.toArray.size),SeqAt.EqAt A s us.toArray[j] vs.toArray[j] (decide (L.getD j (0,0)=M.getD j (0,0))):=fun j z1 z2=>by
 have l1:=r1.length
 have l2:=r2.length
 have m1:=k1.1
 have m2:=k2.1
 have gq:j<us.length:=by simpa using z1
 have mL:j<vs.length:=by simpa using z2
 obtain ⟨p,ep,hp⟩:=k1.2 j xs[j] (L.getD j (0,0)) (by simp) (by simp [List.getD_eq_getElem?_getD,show j<L.length by omega])
 obtain ⟨p',gJ,hW⟩:=k2.2 j ys[j] (M.getD j (0,0)) (by simp) (by simp [List.getD_eq_getElem?_getD,show j<M.length by omega])
 obtain ⟨x',dZ,rx⟩:=r1.get (i:=j) (x:=xs[j]) (by simp)
 obtain ⟨y',fv,ry⟩:=r2.get (i:=j) (x:=ys[j]) (by simp)
 have e1:us.toArray[j]=x':=by simpa using (List.getElem?_eq_some_iff.mp dZ).2
 have e2:vs.toArray[j]=y':=by simpa using (List.getElem?_eq_some_iff.mp fv).2
 rw [e1,e2]
 rw [ep] at rx
 rw [gJ] at ry
 cases rx
 cases ry
 exact Fp I hu hp hW
theorem FC{L M:List (Int×Int)}:((List.range (min L.length M.length)).all (fun j=>decide (L.getD j (0,0)=M.getD j (0,0))) && L.length == M.length)=decide (L=M):=by
 by_cases e:L=M
 ·subst e
  simp
 ·rw [decide_eq_false e,Bool.eq_false_iff]
  intro h
  rw [Bool.and_eq_true,List.all_eq_true] at h
  obtain ⟨h1,h2⟩:=h
  have hl:L.length=M.length:=by simpa using h2
  refine e (List.ext_getElem hl fun j g1 g2=>?_)
  have:=h1 j (List.mem_range.mpr (by omega))
  simpa [List.getD_eq_getElem?_getD,g1,g2] using this
theorem yk{X:Cx}(hu:X.A.units+64<cLine):bE X (compareOp .Eq) Fz:=by
 intro pins s σ H x y v u Q I rx ry h
 obtain ⟨a,b,n,L,M,rfl,rfl,⟨la,ua,FD,yl,k1⟩,⟨lb,ub,FE,tM,k2⟩,q⟩:=h
 cases rx
 cases ry
 obtain ⟨us,r1,t1,_⟩:=I.tuple (.of FD)
 obtain ⟨vs,r2,t2,_⟩:=I.tuple (.of FE)
 obtain ⟨a1,a2,rfl,tG,tH⟩:=vals2 r1
 obtain ⟨b1,b2,rfl,tI,tJ⟩:=vals2 r2
 cases tH
 cases tJ
 have inner:SeqAt.EqAt X.A.in1 s (.ref la) (.ref lb) (decide (L=M)):=by
  by_cases pq:la=lb
  ·subst pq
   rw [yl] at tM
   cases tM
   have:L=M:=by
    have m1:=k1.1
    have m2:=k2.1
    refine List.ext_getElem (by omega) fun j g1 g2=>?_
    obtain ⟨p,ep,hp⟩:=k1.2 j (ua[j]'(by omega)) L[j] (by simp) (by simp [g1])
    obtain ⟨p',gJ,hW⟩:=k2.2 j (ua[j]'(by omega)) M[j] (by simp) (by simp [g2])
    rw [ep] at gJ
    cases gJ
    rw [hp] at hW
    simp only [Option.some.injEq,HO.tup.injEq,List.cons.injEq,V.int.injEq,and_true] at hW
    exact Prod.ext hW.1 hW.2
   rw [decide_eq_true this]
   exact SeqAt.EqAt.same _
  ·obtain ⟨us,r1,t1,_⟩:=I.tuple (.of yl)
   obtain ⟨vs,r2,t2,_⟩:=I.tuple (.of tM)
   have z:=SeqAt.RcAt.tuples (A:=X.A.in1) t1 t2 (by rw [Around.in1_units];omega) (FA I (by rw [Around.in1_units,Around.in1_units];omega) k1 k2 r1 r2)
   have e1:us.toArray.size=L.length:=by rw [List.size_toArray,←r1.length];exact k1.1
   have e2:vs.toArray.size=M.length:=by rw [List.size_toArray,←r2.length];exact k2.1
   rw [e1,e2,FC] at z
   exact SeqAt.EqAt.of_refs pq z
 refine SeqAt.eq_tupleAt (e:=fun j=>if j=0 then cp (.int (n:Int)) (.int (n:Int)) else decide (L=M)) t1 t2 (by omega) (fun j z1 z2=>?_) ⟨.bl (decide (L=M)),H,I,?_,q⟩
 ·have:j<2:=z1
  match j with
  | 0=>exact iR tG tI rfl rfl
  | 1=>exact inner
 ·show RelV _ _
  have e:((List.range 2).all (fun j=>if j=0 then cp (.int (n:Int)) (.int (n:Int)) else decide (L=M)) && true)=decide (L=M):=by
   simp [List.range_succ,cp]
  exact congrArg Value.bool e.symm▸rfl
def FF(N:Addr):Sp:=fun vs H Q E=>∃(t a:Addr) (n:Nat) (L:List (Int×Int)) (zs:List Int),vs=[.ref t,.ref a]∧cy H t n L∧gz n L∧ni L∧n≤30∧H a=some (.lst (zs.map V.int))∧zs.length<64 ∧
 (¬fF zs n→∀H',ae H H'→E (.ref N) none H') ∧
 ∀o:List Nat,zs=o.map iN→o.Perm (List.range n)→∀(H':Hp) (M:List (Int×Int)),ae H H'→jd n L o M→Q (.bl (decide (M=L))) H'
def FG:Sp:=fun vs H Q _=>∃(t a:Addr) (n:Nat) (L:List (Int×Int)) (o:List Nat),vs=[.ref t,.ref a]∧cy H t n L∧gz n L∧n≤30∧L.length≤200∧H a=some (.lst (o.map fun k:Nat=>V.int (k:Int)))∧o.Perm (List.range n) ∧
 ∀(H':Hp) (t':Addr) (M:List (Int×Int)),ae H H'→cy H' t' n M→jd n L o M→Q (.ref t') H'
structure cP (n:Nat) (L:List (Int×Int)) (o:List Nat) (k j:Nat) (M:List (Int×Int)):Prop where
 mem:∀z,z∈M↔∃p q:Nat,p<n∧q<n∧o.idxOf p<o.idxOf q∧Wk (aL n L) (dY n o (o.idxOf p)) p q∧z=b6 p q∧(o.idxOf p<k∨(o.idxOf p=k∧o.idxOf q<k+1+j))
 nd:M.Nodup
theorem cP.start(n:Nat)(L:List (Int×Int))(o:List Nat):cP n L o 0 0 []:=⟨fun z=>⟨(fun h=>by cases h),fun⟨p,q,_,_,h,_,_,h'⟩=>by omega⟩,List.nodup_nil⟩
theorem cP.row{n:Nat}{L:List (Int×Int)}{o:List Nat}{k j:Nat}{M:List (Int×Int)}(h:cP n L o k j M)(ho:o.Perm (List.range n))(hj:n≤k+1+j):cP n L o (k+1) 0 M:=⟨fun z=>by
 rw [h.mem]
 constructor
 ·rintro ⟨p,q,h1,h2,h3,h4,h5,h6⟩
  exact ⟨p,q,h1,h2,h3,h4,h5,.inl (by omega)⟩
 ·rintro ⟨p,q,h1,h2,h3,h4,h5,h6⟩
  have:=(h8 ((eC ho).mpr h2)).1
  rw [gA ho] at this
  refine ⟨p,q,h1,h2,h3,h4,h5,?_⟩
  by_cases e:o.idxOf p<k
  ·exact .inl e
  ·exact .inr ⟨by omega,by omega⟩,h.nd⟩
theorem cP.skip{n:Nat}{L:List (Int×Int)}{o:List Nat}{k j p q:Nat}{M:List (Int×Int)}(h:cP n L o k j M)(ho:o.Perm (List.range n))(hp:p<n)(hq:q<n)(ip:o.idxOf p=k)(iq:o.idxOf q=k+1+j)(nw:¬Wk (aL n L) (dY n o k) p q):cP n L o k (j+1) M:=⟨fun z=>by
 rw [h.mem]
 constructor
 ·rintro ⟨p,q,h1,h2,h3,h4,h5,h6⟩
  exact ⟨p,q,h1,h2,h3,h4,h5,by omega⟩
 ·rintro ⟨p',q',h1,h2,h3,h4,h5,h6⟩
  refine ⟨p',q',h1,h2,h3,h4,h5,?_⟩
  rcases h6 with h6 | ⟨h6,h7⟩
  ·exact .inl h6
  ·refine .inr ⟨h6,?_⟩
   by_cases e:o.idxOf q'=k+1+j
   ·have e1:p'=p:=by
     by_cases z:p'=p
     ·exact z
     ·exact absurd (h6.trans ip.symm) (jb ho h1 hp z)
    have e2:q'=q:=by
     by_cases z:q'=q
     ·exact z
     ·exact absurd (e.trans iq.symm) (jb ho h2 hq z)
    subst e1
    subst e2
    rw [ip] at h4
    exact absurd h4 nw
   ·omega,h.nd⟩
theorem cP.put{n:Nat}{L:List (Int×Int)}{o:List Nat}{k j p q:Nat}{M:List (Int×Int)}(h:cP n L o k j M)(ho:o.Perm (List.range n))(hp:p<n)(hq:q<n)(ip:o.idxOf p=k)(iq:o.idxOf q=k+1+j)(w:Wk (aL n L) (dY n o k) p q):cP n L o k (j+1) (M++[b6 p q]):=by
 refine ⟨fun z=>?_,List.nodup_append.mpr ⟨h.nd,by simp,fun a ha b hb e=>?_⟩⟩
 ·rw [List.mem_append,List.mem_singleton,h.mem]
  constructor
  ·rintro (⟨p,q,h1,h2,h3,h4,h5,h6⟩ | rfl)
   ·exact ⟨p,q,h1,h2,h3,h4,h5,by omega⟩
   ·exact ⟨p,q,hp,hq,by omega,by rw [ip];exact w,rfl,.inr ⟨ip,by omega⟩⟩
  ·rintro ⟨p',q',h1,h2,h3,h4,h5,h6⟩
   by_cases e:o.idxOf p'=k∧o.idxOf q'=k+1+j
   ·right
    have e1:p'=p:=by
     by_cases z:p'=p
     ·exact z
     ·exact absurd (e.1.trans ip.symm) (jb ho h1 hp z)
    have e2:q'=q:=by
     by_cases z:q'=q
     ·exact z
     ·exact absurd (e.2.trans iq.symm) (jb ho h2 hq z)
    rw [h5,e1,e2]
   ·exact .inl ⟨p',q',h1,h2,h3,h4,h5,by omega⟩
 ·subst e
  rw [List.mem_singleton] at hb
  obtain ⟨p',q',h1,h2,h3,h4,h5,h6⟩:=(h.mem a).mp ha
  rw [hb] at h5
  rcases tL h5 with ⟨rfl,rfl⟩ | ⟨rfl,rfl⟩
  ·omega
  ·omega
theorem cP.done{n:Nat}{L:List (Int×Int)}{o:List Nat}{M N:List (Int×Int)}(h:cP n L o n 0 M)(ho:o.Perm (List.range n))(p:N.Perm M)(so:N.Pairwise ng)(n1:n≤1000):jd n L o N:=by
 have mem:∀z,z∈N↔∃p q:Nat,p<n∧q<n∧o.idxOf p<o.idxOf q∧Wk (aL n L) (dY n o (o.idxOf p)) p q∧z=b6 p q:=fun z=>by
  rw [p.mem_iff,h.mem]
  constructor
  ·rintro ⟨p,q,h1,h2,h3,h4,h5,h6⟩
   exact ⟨p,q,h1,h2,h3,h4,h5⟩
  ·rintro ⟨p,q,h1,h2,h3,h4,h5⟩
   have:=(h8 ((eC ho).mpr h1)).1
   rw [gA ho] at this
   exact ⟨p,q,h1,h2,h3,h4,h5,.inl this⟩
 refine ⟨yj so (p.nodup_iff.mpr h.nd) fun z hz=>?_,mem⟩
 obtain ⟨p,q,h1,h2,_,_,rfl⟩:=(mem z).mp hz
 have:=tD h1 h2
 omega
theorem cP.bd{n:Nat}{L:List (Int×Int)}{o:List Nat}{k j:Nat}{M:List (Int×Int)}(h:cP n L o k j M)(n1:n≤1000):∀z∈M,0≤z.2∧z.2<1000:=fun z hz=>by
 obtain ⟨p,q,h1,h2,_,_,rfl,_⟩:=(h.mem z).mp hz
 have:=tD h1 h2
 omega
theorem FH{n:Nat}{L:List (Int×Int)}{o:List Nat}{g:Nat→List Nat}(ho:o.Perm (List.range n))(nb:df n L g)(dM:gz n L){k p q:Nat}(hk:k≤n)(ne:q≠p):ie (ig n g) (·∈o.take k) p q↔Wk (aL n L) (dY n o k) p q:=by
 have ad:∀a b,ig n g a b↔aL n L a b:=fun a b=>by
  unfold ig aL
  constructor
  ·rintro ⟨h1,h2⟩
   have h3:=(nb a b h1).mp h2
   refine ⟨h1,?_,h3⟩
   rcases h3 with e | e
   ·have:=dM _ e
    omega
   ·have:=dM _ e
    omega
  ·rintro ⟨h1,_,h3⟩
   exact ⟨h1,(nb a b h1).mpr h3⟩
 have th:∀x,x∈o.take k↔dY n o k x:=fun x=>by
  unfold dY
  have nd:=m9 ho
  constructor
  ·intro h
   obtain ⟨i,hi,e⟩:=List.mem_take_iff_getElem.mp h
   have aR:i<o.length:=by omega
   refine ⟨(eC ho).mp (List.mem_of_mem_take h),?_⟩
   rw [←e,m_ nd aR]
   omega
  ·rintro ⟨h1,h2⟩
   obtain ⟨cw,e⟩:=h8 ((eC ho).mpr h1)
   rw [List.mem_take_iff_getElem]
   exact ⟨o.idxOf x,by omega,e⟩
 rw [Fu]
 constructor
 ·rintro (e | h)
  ·exact absurd e ne
  ·exact (h.imp fun a b=>(ad a b).mp).mono fun x=>(th x).mp
 ·intro h
  exact .inr ((h.imp fun a b=>(ad a b).mpr).mono fun x=>(th x).mpr)
end My
namespace L2
open PySem PySem.Spec PyProof.Rows
section
variable {X:Cx} {a b:Expr} {rest:List Expr} {pos:Pos} {ta tb:TE}
def FI(K:PySem.W.Frag)(ta tb:TE):TE:=fun σ H Q=>ta σ H fun x H1=>∃p xs,x=.ref p∧aS K H1 p xs∧(if xs.isEmpty=true then tb σ H1 Q else Q x H1)
theorem FJ(ha:PE X a ta)(hb:PE X (.BoolOp .Or (b::rest) pos) tb):PE X (.BoolOp .Or (a::b::rest) pos) (FI X.K ta tb):=by
 intro pins s σ H Q I h
 refine BoolOp_or (aw (ha pins s σ H _ I h) fun v s1 ⟨x,H1,I1,r1,q1⟩=>?_)
 obtain ⟨p,xs,rfl,hq,q1⟩:=q1
 cases r1
 obtain ⟨aa,rv,pl,hz⟩:=I1.list hq
 have hn:=md
 have hlen:=rv.length
 refine wpAny_truthy_list pl.isList (by simp only [List.size_toArray] <;> omega) ?_
 have e:(!aa.toArray.isEmpty) = !xs.isEmpty:=by
  cases rv with
  | nil=>rfl
  | cons _ _=>rfl
 rw [e]
 cases z:xs.isEmpty with
 | true=>
  rw [z,if_pos rfl] at q1
  exact hb pins _ σ H1 Q (I1.tok _) q1
 | false=>
  rw [z,if_neg (by simp)] at q1
  exact ⟨.ref p,H1,I1.tok _,rfl,q1⟩
def FK:V→List V→Hp→VK→Prop:=fun x vs H Q=>∃(l:Addr) (zs:List Int) (j:Nat) (z:Int),x=.ref l∧vs=[.int z]∧H l=some (.lst (zs.map V.int))∧zs[j]?=some z∧(∀m,m<j→zs[m]?≠some z)∧Q .aF (upd H l (.lst ((zs.map V.int).eraseIdx j)))
theorem FL:mr X "list.remove" FK:=by
 intro pins s σ H x vs v us Q I rx rv h
 obtain ⟨l,zs,j,z,rfl,rfl,hH,hj,FN,q⟩:=h
 cases rx
 obtain ⟨u,rfl,ru⟩:=rv.one
 obtain ⟨t,rfl⟩:=ru
 obtain ⟨sz,aa,n,r,hl,e⟩:=I.gh hH
 have Lo:j<zs.length:=(List.getElem?_eq_some_iff.mp hj).1
 rw [List.length_map] at hl sz
 have at':∀m (hm:m<aa.toArray.size),∃t',aa.toArray[m]=.int (zs.getD m 0) t':=fun m hm=>by
  have cL:m<zs.length:=by simp at hm;omega
  obtain ⟨w,hw,iQ⟩:=r.get (i:=m) (x:=.int (zs.getD m 0)) (by rw [List.getElem?_map,List.getD_eq_getElem?_getD,List.getElem?_eq_getElem cL];rfl)
  obtain ⟨t',rfl⟩:=iQ
  exact ⟨t',by simpa using (List.getElem?_eq_some_iff.mp hw).2⟩
 have zj:zs.getD j 0=z:=by rw [List.getD_eq_getElem?_getD,hj];rfl
 refine call_meets F.slot_list_remove ⟨_,e,rfl⟩ F.entry_list_remove (F.args_list_remove_2 _ _) (MeetsSeq.list_remove l aa.toArray n (.int z t) (fun v=>numOf v == z) (fun y hy=>?_) j (by rw [List.size_toArray];omega) ?_ (fun m hm FO=>?_) (by rw [List.size_toArray];omega)) ⟨e,?_⟩
 ·obtain ⟨m,hm,rfl⟩:=Array.getElem_of_mem hy
  obtain ⟨t',e'⟩:=at' m hm
  rw [e']
  exact MeetsSeq.EqGives.int _ _ _ _
 ·obtain ⟨t',e'⟩:=at' j (by rw [List.size_toArray];omega)
  rw [e',zj]
  exact beq_self_eq_true z
 ·obtain ⟨t',e'⟩:=at' m hm
  rw [e']
  have cL:m<zs.length:=by simp at hm;omega
  have:=FN m FO
  rw [List.getElem?_eq_getElem cL] at this
  have ne:zs.getD m 0≠z:=fun q=>this (by rw [←q,List.getD_eq_getElem?_getD,List.getElem?_eq_getElem cL];rfl)
  show (zs.getD m 0 == z)=false
  simpa using ne
 ·refine ⟨.aF,_,I.my (its':=aa.eraseIdx j) hH e ?_ (r.eraseIdx j) ?_,rfl,q⟩
  ·show aa.toArray.eraseIdxIfInBounds j=(aa.eraseIdx j).toArray
   rw [List.eraseIdxIfInBounds_toArray]
  ·have:=rF (zs.map V.int) j
   rw [List.length_map] at this
   omega
end
end L2
namespace My
open PySem L2
theorem FP{X:Cx}{K:PySem.W.Frag}(hu:X.A.units+64<cLine)(hk:X.K=K:=by rfl):bE X (compareOp .NotEq) (xF K):=by
 subst hk
 exact pF hu
def FQ:Sp:=fun vs H Q _=>∃(D lf:Addr) (n:Nat) (rs:Nat→Addr) (g:Nat→List Nat) (xs:List V),vs=[.ref D,.ref lf]∧eE H D n rs g∧(∀i,i<n→dJ n ((g i).map fun k:Nat=>V.int (k:Int)))∧(∀i,i<n→(g i).length≤400)∧H lf=some (.lst xs)∧dJ n xs∧xs.length≤100 ∧
 ∀(H':Hp) (r:Addr) (ys:List V),ae H H'→H r=none→H' r=some (.lst ys)→(∀y∈ys,y∈xs)→ys.length≤xs.length→Q (.ref r) H'
def FR(K:PySem.W.Frag):Sp:=fun vs H Q _=>∃(P a tp:Addr) (ns:List Int) (n:Nat) (L:List (Int×Int)),vs=[.ref P,.ref tp]∧a7 H P a∧aS K (er P H) a (ns.map V.int)∧tp≠P∧cy H tp n L∧gz n L∧1≤n∧n≤30∧L.length≤200 ∧
 ∀(l:Addr) (o:List Nat) (H':Hp),av P H H'→a7 H' P a→l≠P→H l=none→H' l=some (.lst (o.map fun k:Nat=>V.int (k:Int)))→o.Perm (List.range n)→Q (.ref l) H'
theorem ym:∀{zs:List Nat} {j m:Nat},m<zs.idxOf j→zs[m]?≠some j
 | [],_,_,h=>by simp at h
 | z::zs,j,m,h=>by
  by_cases e:z=j
  ·subst e
   simp [List.idxOf_cons_self] at h
  ·rw [List.idxOf_cons,show (z == j)=false by simpa using e] at h
   dsimp only [cond_false] at h
   cases m with
   | zero=>simpa using e
   | succ m=>
    rw [List.getElem?_cons_succ]
    exact ym (by omega)
theorem yn{α β:Type}(f:α→β):∀(l:List α) (i:Nat),(l.map f).eraseIdx i=(l.eraseIdx i).map f
 | [],_=>rfl
 | _::_,0=>rfl
 | x::l,i+1=>by
  show f x::(l.map f).eraseIdx i=f x::(l.eraseIdx i).map f
  rw [yn f l i]
theorem yo(xs:List V)(k:Nat):c_ xs (some (k:Int)) none=xs.drop k:=by
 unfold c_
 rw [HT.we,HT.wd]
 by_cases h:k≤xs.length
 ·rw [Nat.min_eq_left h]
  exact List.take_of_length_le (by rw [List.length_drop];omega)
 ·rw [Nat.min_eq_right (by omega),List.drop_of_length_le (Nat.le_refl _),List.drop_of_length_le (by omega),List.take_nil]
theorem swap_perm(o:List Nat)(k:Nat):(o.take k++((o.drop k).take 2).reverse++o.drop (k+2)).Perm o:=by
 have e:o=o.take k++(o.drop k).take 2++o.drop (k+2):=by
  have h1:=(List.take_append_drop k o).symm
  have h2:=(List.take_append_drop 2 (o.drop k)).symm
  rw [List.drop_drop] at h2
  rw [h2] at h1
  rw [List.append_assoc]
  exact h1
 have h:(o.take k++((o.drop k).take 2).reverse++o.drop (k+2)).Perm (o.take k++(o.drop k).take 2++o.drop (k+2)):=List.Perm.append_right _ (List.Perm.append_left _ (List.reverse_perm _))
 exact h.trans (List.Perm.of_eq e.symm)
end My
set_option maxRecDepth 100000
set_option maxHeartbeats 4000000
namespace My
open PySem L2
def top(i:Nat):Stmt:=PySem.Challenge.pw_bandwright_k21_orders_looked_at.main.body.getD i (.Pass ⟨0,0,0,0⟩)
abbrev pP:Stmt:=top 4
abbrev pQ:Stmt:=top 6
abbrev pR:Stmt:=top 8
abbrev pS:Stmt:=top 9
abbrev pU:Stmt:=top 10
abbrev pV:Stmt:=top 11
abbrev pW:Stmt:=top 12
abbrev pX:Stmt:=top 13
abbrev pY:Stmt:=top 15
abbrev pZ:Stmt:=top 17
abbrev p9:Stmt:=top 18
abbrev p_:Stmt:=top 19
abbrev qa:Stmt:=top 20
abbrev qb:Stmt:=top 21
abbrev qc:Stmt:=top 22
abbrev qd:Stmt:=top 23
abbrev qe:Stmt:=top 24
abbrev qf:Stmt:=top 25
abbrev qg:Stmt:=top 26
abbrev qh:Stmt:=top 27
abbrev qi:Stmt:=top 29
abbrev qj:Stmt:=top 30
structure tN where
 je:Addr
 j9:FuncData
 jf:Addr
 j_:FuncData
 jg:Addr
 kd:FuncData
 jh:Addr
 ke:FuncData
 ji:Addr
 kf:FuncData
 jj:Addr
 kg:FuncData
 jk:Addr
 kh:FuncData
 jl:Addr
 ki:FuncData
 jm:Addr
 kj:FuncData
 jo:Addr
 ko:FuncData
 jq:Addr
 kq:FuncData
 jr:Addr
 kr:FuncData
 jt:Addr
 ku:FuncData
 ju:Addr
 ky:FuncData
 jv:Addr
 kA:FuncData
 jw:Addr
 kB:FuncData
 jx:Addr
 kC:FuncData
 jy:Addr
 kD:FuncData
 jA:Addr
 kF:FuncData
 jB:Addr
 kG:FuncData
 jC:Addr
 kH:FuncData
 il:Addr
 jD:FuncData
 fY:Addr
structure Txt (K:PySem.W.Frag) (mg:Str→Option Value) (t:tN):Prop where
 kI:aP K "is_whole" "is_whole" pP t.je t.j9
 yp:Binds K t.j9 ["thing"] []
 yq:mg "is_whole" = some (.ref t.je)
 kJ:aP K "neighbours" "neighbours" pQ t.jf t.j_
 yr:Binds K t.j_ ["shape"] []
 yt:mg "neighbours" = some (.ref t.jf)
 kK:aP K "is_order" "is_order" pR t.jg t.kd
 yu:Binds K t.kd ["thing","n"] []
 yv:mg "is_order" = some (.ref t.jg)
 kL:aP K "check_order" "check_order" pS t.jh t.ke
 yw:Binds K t.ke ["order","n"] []
 yy:mg "check_order" = some (.ref t.jh)
 kM:aP K "turns_of" "turns_of" pU t.ji t.kf
 yz:Binds K t.kf ["order"] []
 yA:mg "turns_of" = some (.ref t.ji)
 kN:aP K "link_all" "link_all" pV t.jj t.kg
 yB:Binds K t.kg ["linked","places"] []
 yC:mg "link_all" = some (.ref t.jj)
 kO:aP K "later" "later" pW t.jk t.kh
 yE:Binds K t.kh ["shape","order"] []
 yF:mg "later" = some (.ref t.jk)
 kP:aP K "filled" "filled" pX t.jl t.ki
 yG:Binds K t.ki ["shape","order"] []
 yH:mg "filled" = some (.ref t.jl)
 kS:aP K "is_perfect" "is_perfect" pY t.jm t.kj
 yI:Binds K t.kj ["shape","order"] []
 yJ:mg "is_perfect" = some (.ref t.jm)
 kT:aP K "_law_fill" "_law_fill" pZ t.jo t.ko
 yK:Binds K t.ko ["_law_cell","_law_at"] []
 yL:mg "_law_fill" = some (.ref t.jo)
 cU:aP K "_law_next" "_law_next" p9 t.jq t.kq
 eF:Binds K t.kq ["_law_pen","_law_many"] []
 eG:mg "_law_next" = some (.ref t.jq)
 jE:aP K "_law_turned" "_law_turned" p_ t.jr t.kr
 tO:Binds K t.kr ["_law_pen","_law_some"] []
 tP:mg "_law_turned" = some (.ref t.jr)
 kU:aP K "_law_tied_by" "_law_tied_by" qa t.jt t.ku
 yM:Binds K t.ku ["_law_pen","_law_way","_law_size","_law_wide","_law_i","_law_j"] []
 yN:mg "_law_tied_by" = some (.ref t.jt)
 kW:aP K "_law_grown_links" "_law_grown_links" qb t.ju t.ky
 yO:Binds K t.ky ["_law_pen","_law_size"] []
 yP:mg "_law_grown_links" = some (.ref t.ju)
 kX:aP K "_law_drawn" "_law_drawn" qc t.jv t.kA
 yQ:Binds K t.kA ["_law_pen","_law_most"] []
 yR:mg "_law_drawn" = some (.ref t.jv)
 kY:aP K "_law_named" "_law_named" qd t.jw t.kB
 yS:Binds K t.kB ["_law_size","_law_links","_law_names"] []
 yT:mg "_law_named" = some (.ref t.jw)
 jF:aP K "_law_beside" "_law_beside" qe t.jx t.kC
 tQ:Binds K t.kC ["_law_shape"] []
 tR:mg "_law_beside" = some (.ref t.jx)
 kZ:aP K "_law_walks" "_law_walks" qf t.jy t.kD
 yU:Binds K t.kD ["_law_beside_here","_law_through","_law_start"] []
 yV:mg "_law_walks" = some (.ref t.jy)
 k4:aP K "_law_filled" "_law_filled" qg t.jA t.kF
 yW:Binds K t.kF ["_law_shape","_law_order"] []
 yX:mg "_law_filled" = some (.ref t.jA)
 k6:aP K "_law_free" "_law_free" qh t.jB t.kG
 yY:Binds K t.kG ["_law_beside_here","_law_left"] []
 yZ:mg "_law_free" = some (.ref t.jB)
 k8:aP K "_law_far" "_law_far" qi t.jC t.kH
 y3:Binds K t.kH ["_law_pen","_law_shape"] []
 y4:mg "_law_far" = some (.ref t.jC)
 k_:aP K "law" "law" qj t.il t.jD
 FT:Binds K t.jD ["script"] []
 y6:mg "law" = some (.ref t.il)
 y7:mg "NoOrder" = some (.ref t.fY)
 ir:mg "len" = none
 nk:mg "isinstance" = none
 y8:mg "int" = none
 tS:mg "bool" = none
 ql:mg "tuple" = none
 iu:mg "list" = none
 e_:mg "range" = none
 y9:mg "all" = none
 tT:mg "enumerate" = none
 qm:mg "min" = none
 qo:mg "max" = none
 lh:mg "sorted" = none
 FU:mg "ValueError" = none
 y_:PySem.W.excIn K t.fY [.type "ValueError",.type "Exception",.type "BaseException",.type "object"] "ValueError.__new__" = true
section
variable {P:Program} {w:World} {K:PySem.W.Frag} {mg:Str→Option Value} {base:Heap} {t:tN}
theorem FV:bP ["thing"] ["thing"] (bu pP):=⟨rfl,rfl,rfl,by decide +kernel,rfl,by decide +kernel,by decide +kernel⟩
theorem FW(T:Txt K mg t):bA P w K mg base bU 1 t.je t.j9 ["thing"] C0:=by
 have S:=FV
 refine T.kI.ok S (fun vs H Q E h=>?_) (fun aK A outer s H vs Q E hr h=>?_)
 ·obtain ⟨v,rfl,_⟩:=h
  rfl
 ·obtain ⟨v,rfl,ha,k⟩:=h
  refine ⟨_,(@aC _ _ _ (@bL _ _ _ _ (@AY _ _ _ _ _ _ _ (b3 (oJ (K:=K)) rfl T.nk boot_isinstance (@aj _ _ _ _ _ (by rfl) (pv 0) (@aj _ _ _ _ _ (by rfl) (nY (v:=.ty "int") rfl T.y8 boot_int rfl) ao))) (@qW _ _ _ _ _ (@A0 _ _ _ _ (b3 (oJ (K:=K)) rfl T.nk boot_isinstance (@aj _ _ _ _ _ (by rfl) (pv 0) (@aj _ _ _ _ _ (by rfl) (nY (v:=.ty "bool") rfl T.tS boot_bool rfl) ao)))))))),?_⟩
  obtain ⟨Ty,ty,k1,k2,_⟩:=ha.oI (K:=K)
  refine ⟨_,rfl,_,_,_,_,rfl,rfl,ty,k1,_,rfl,b8 (fun h1=>?_) (fun h1=>?_)⟩
  ·refine ⟨_,rfl,_,_,_,_,rfl,rfl,ty,k2,_,rfl,?_⟩
   have e:(!jX v)=jW v:=by
    cases h2:jX v with
    | true=>rw [CZ h2];rfl
    | false=>rw [h2,Bool.or_false] at h1;rw [h1];rfl
   show Q (.bl (!jX v)) H
   rw [e]
   exact k
  ·have e:jW v=false:=by
    cases h2:jW v with
    | true=>rw [h2] at h1;exact absurd rfl h1
    | false=>rfl
   rw [e] at k
   exact k
theorem FX:bP ["shape","linked","i","j"] ["shape"] (bu pQ):=⟨rfl,rfl,rfl,by decide +kernel,rfl,by decide +kernel,by decide +kernel⟩
theorem FY(T:Txt K mg t):bA P w K mg base bU 1 t.jf t.j_ ["shape"] EL:=by
 have S:=FX
 refine T.kJ.ok S (fun vs H Q E h=>?_) (fun aK A outer s H vs Q E hr h=>?_)
 ·obtain ⟨tp,n,L,rfl,_⟩:=h
  rfl
 ·obtain ⟨tp,n,L,rfl,⟨lt,us,cI,elt,hL⟩,ok,n9,kk⟩:=h
  have hu:=Nat.lt_of_le_of_lt (Nat.add_le_add_left (show 1≤64 by decide) _) hr.units
  have tU:((List.range n).map fun i:Nat=>V.int (0+(i:Int))).length=n:=by rw [List.length_map,List.length_range]
  refine ⟨_,(@ax _ _ _ _ _ (rV (i0:=1) (N:=["place"]) (ρ:=(fun σ=>[])) ⟨rfl,rfl,by decide +kernel,by decide +kernel,(List.forall_mem_nil _),fS (by rfl),rfl,by decide +kernel,rfl,(fun σ j v h=>match j,h with | j,h=>by cases h),(fun _ _=>rfl)⟩ rfl S.nd rfl (Or.inl rfl) (jL rfl T.e_ (@aj _ _ _ _ _ (by rfl) (@aX _ _ _ _ _ _ _ fR (pv 0) ay (fun _ _=>rfl)) ao)) (fun s₃ H₃ fp=>.nil) (fun s₃ H₃ fp=>Ey))
   (@ax _ _ _ _ _ (cR PassesOwn.never rfl (vF (@aX _ _ _ _ _ _ _ fR (pv 0) ay (fun _ _=>rfl))) (lZ rfl (fL (bR (i:=2) S.nd rfl (Or.inl rfl)) (fL (bR (i:=3) S.nd rfl (Or.inl rfl)) lY)))
    (@ax _ _ _ _ _ (pK hu (@aX _ _ _ _ _ _ _ bC (pv 1) (pv 2) (fun _ _=>rfl)) (pv 3) gb rfl)
   (@aC _ _ _ (pK hu (@aX _ _ _ _ _ _ _ bC (pv 1) (pv 3) (fun _ _=>rfl)) (pv 2) gb rfl))))
   (@aC _ _ _ (@bL _ _ _ _ (pv 1))))),?_⟩
  refine bD (g_ (r_ (xs:=(List.range n).map fun i:Nat=>V.int (0+(i:Int))) (n:=n) tU (fun R h=>⟨_,rfl,tp,_,_,_,rfl,rfl,.of cI,rfl,(n:Int),rfl,by omega,by omega,h _ _ (ae.refl _) (by rw [Int.toNat_natCast];exact wZ)⟩) (bV (by omega)) (fun _ i y Hx=>Hx y=some (.dK (dk []))∧H y=none) ?_ ?_ ?_))
  ·intro D i y Ha Hb ys ⟨h1,h2⟩ hy e f
   exact ⟨f y _ hy h1,h2⟩
  ·intro D i x hx Hc R sc _ kc
   refine fun p np=>kc p _ (dA (ae.refl _) np) np ⟨_,aq⟩ ⟨aq,?_⟩
   cases e:H p with
   | none=>rfl
   | some o=>rw [sc _ _ e] at np;cases np
  ·intro D ds H1 nD s1 inj hA eD
   have K0:bX H1 D n ds (fun _=>True) (fun _=>[]):=⟨eD,inj,fun i hi=>(hA i hi).2,fun i hi _=>(hA i hi).1.1,fun i _=>eZ.nil n⟩
   have fr:∀i,i<n→H (ds i)=none:=fun i hi=>(hA i hi).1.2
   dsimp only [aI]
   refine bD ⟨_,rfl,tp,_,_,_,rfl,rfl,.of (s1 _ _ cI),rfl,lt,rfl,⟨_,.of (s1 _ _ elt)⟩,?_⟩
   refine vJ (K:=K) (a:=lt) (xs:=us) (fun k σ Hc=>∃(f:Nat→List Nat) (v2 v3:Option V),σ=[some (.ref tp),some (.ref D),v2,v3]∧ae H Hc∧bX Hc D n ds (fun _=>True) f∧df n (L.take k) f) ⟨_,_,_,rfl,s1,K0,df.nil n⟩ (fun k σ Hc _ ⟨_,_,_,_,sc,_⟩=>.of (sc _ _ elt)) ?_ ?_
   ·rintro k x σ Hc hx ⟨f,v2,v3,rfl,sc,KL,nb⟩
    have hk:k<L.length:=by
     rw [←hL.1]
     exact (List.getElem?_eq_some_iff.mp hx).1
    obtain ⟨b,rfl,eb⟩:=hL.2 k x L[k] hx (by simp [hk])
    have pk:=ok L[k] (List.getElem_mem hk)
    have tk:L.take (k+1)=L.take k++[L[k]]:=by rw [List.take_succ,List.getElem?_eq_getElem hk];rfl
    generalize L[k]=p at eb pk tk
    obtain ⟨p1,p2⟩:=p
    dsimp only at pk eb
    obtain ⟨i,rfl⟩:=Int.eq_ofNat_of_zero_le pk.1
    obtain ⟨j,rfl⟩:=Int.eq_ofNat_of_zero_le pk.2.2.1
    have hi:i<n:=by omega
    have hj:j<n:=by omega
    refine ⟨b,_,rfl,.of (sc _ _ eb),rfl,_,_,rfl,_,_,rfl,rfl,?_⟩
    obtain ⟨q1,K1⟩:=KL.put hi hj trivial n9
    obtain ⟨q2,K2⟩:=K1.put hj hi trivial n9
    refine ⟨_,rfl,_,rfl,D,_,_,_,rfl,rfl,.of KL.lst,KL.ix hi,_,rfl,_,_,rfl,q1,?_⟩
    refine ⟨_,rfl,_,rfl,D,_,_,_,rfl,rfl,.of K1.lst,K1.ix hj,_,rfl,_,_,rfl,q2,?_⟩
    have off:∀(Hx:Hp) (i:Nat) (o:HO),i<n→ae H Hx→ae H (upd Hx (ds i) o):=fun Hx i o hi sx a u e=>by
     rw [aA (fun z=>by rw [z,fr i hi] at e;cases e)]
     exact sx _ _ e
    exact ⟨_,_,_,rfl,off _ _ _ hj (off _ _ _ hi sc),K2,by rw [tk];exact nb.more hi hj⟩
   ·rintro σ Hc ⟨f,v2,v3,rfl,sc,KL,nb⟩
    rw [hL.1,List.take_length] at nb
    exact ⟨_,rfl,kk _ _ _ _ sc nD fr KL nb⟩
theorem FZ:bP ["thing","n"] ["thing","n"] (bu pR):=⟨rfl,rfl,rfl,by decide +kernel,rfl,by decide +kernel,by decide +kernel⟩
theorem F0(T:Txt K mg t):bA P w K mg base bU 2 t.jg t.kd ["thing","n"] ER:=by
 have S:=FZ
 have F1:=FW (P:=P) (w:=w) (base:=base) T
 refine T.kK.ok S (fun vs H Q E h=>?_) (fun aK A outer s H vs Q E hr h=>?_)
 ·obtain ⟨a,zs,n,rfl,_⟩:=h
  rfl
 ·obtain ⟨a,zs,n,rfl,ea,gC,n1,k⟩:=h
  have dh:=hr.units
  refine ⟨_,(@ax _ _ _ _ _ (@cm _ _ _ _ _ _ _ _ (PW.pt (@pw_or _ _ _ _ _ _ _ (@nZ _ _ _ _ (lS (b3 (oJ (K:=K)) rfl T.nk boot_isinstance (@aj _ _ _ _ _ (by rfl) (pv 0) (@aj _ _ _ _ _ (by rfl) (nY (v:=.ty "list") rfl T.iu boot_list rfl) ao))))) (@pw_or1 _ _ _ _ (@nZ _ _ _ _ (lS (b3 (CQ (K:=K) rfl) rfl T.y9 boot_all (@aj _ _ _ _ _ (by rfl) (iX (N:=["place"]) (ρ:=(fun σ=>[])) ⟨rfl,rfl,by decide +kernel,by decide +kernel,(List.forall_mem_nil _),fS (by rfl),rfl,by decide +kernel,rfl,(fun σ j v h=>match j,h with | j,h=>by cases h),(fun _ _=>rfl)⟩ rfl (cZ (pv 0)) (fun s₃ H₃ fp=>.nil) (fun s₃ H₃ fp=>(bo F1 (hr.mono (by decide)) rfl T.yq T.kI.kp T.yp .nil bH (@aj _ _ _ _ _ (by rfl) (pv 0) ao)))) ao))))))) (@aC _ _ _ (@bL _ _ _ _ gb)) cE)
   (@aC _ _ _ (@bL _ _ _ _ (@gg _ _ _ _ _ _ _ _ (x6 dh) (b3 xW rfl T.lh PyProof.Rows.boot_sorted (@aj _ _ _ _ _ (by rfl) (pv 0) ao)) (d_ (oQ rfl) rfl T.iu boot_list (@aj _ _ _ _ _ (by rfl) (d_ oP rfl T.e_ oR (@aj _ _ _ _ _ (by rfl) (pv 1) ao)) ao)) (bG _))))),?_⟩
  refine ⟨_,rfl,_,_,_,true,rfl,rfl,.of (.lst ea),CY,true,rfl,iV ?_⟩
  unfold vz tB
  refine xf (C1 (xs:=zs.map V.int) (fun R h=>⟨_,rfl,a,rfl,⟨_,.of ea⟩,h _ _ (ae.refl _) (iZ (.of ea))⟩) (by rw [List.length_map];exact bV (by omega)) (fun _ i y _=>y=.bl true) (fun _ _ _ _ _ _ h _ _=>h) ?_ ?_)
  ·intro D i v hi Hc R sc _ kc
   obtain ⟨z,rfl⟩:∃z:Int,v=.int z:=by
    rw [List.getElem?_map] at hi
    cases e:zs[i]? with
    | none=>rw [e] at hi;cases hi
    | some z=>rw [e] at hi;exact ⟨z,(Option.some.inj hi).symm⟩
   exact ⟨_,rfl,.int z,rfl,.int z,kc _ Hc (ae.refl _) rfl⟩
  ·intro D ys Hc sc za hP eD
   refine ⟨D,List.replicate ys.length true,rfl,.of (by rw [eD];exact congrArg _ (congrArg _ (Dj hP))),?_⟩
   rw [Dk]
   refine ⟨true,rfl,iV ?_⟩
   dsimp only [gM]
   have qp:=sc _ _ ea
   refine ⟨_,rfl,a,zs,rfl,qp,gC,fun ws D2 p o n2=>?_⟩
   refine ⟨_,rfl,(n:Int),rfl,fun p1 tV=>⟨p1,n,rfl,aq,by omega,fun l nl=>?_⟩⟩
   have d1:D2≠p1:=fun z=>by rw [←z,aq] at tV;cases tV
   have d2:D2≠l:=fun z=>by rw [←z,aA d1,aq] at nl;cases nl
   refine ⟨D2,l,ws,(List.range n).map iN,rfl,rfl,.of ?_,.of ?_,?_⟩
   ·rw [aA d2,aA d1,aq]
   ·rw [aq]
    unfold bK
    rw [List.map_map]
    rfl
   ·rw [EO p o]
    exact k _ (pM (pM (pM sc n2) tV) nl)
theorem F2:bP ["order","n"] ["order","n"] (bu pS):=⟨rfl,rfl,rfl,by decide +kernel,rfl,by decide +kernel,by decide +kernel⟩
theorem F3(T:Txt K mg t):bA P w K mg base (fk P w) 3 t.jh t.ke ["order","n"] (ES t.fY):=by
 have S:=F2
 have F4:=F0 (P:=P) (w:=w) (base:=base) T
 refine T.kL.oG S (fun vs H Q E h=>?_) (fun aK A outer s H vs Q E hr h L=>?_)
 ·obtain ⟨a,zs,n,rfl,_⟩:=h
  rfl
 ·obtain ⟨a,zs,n,rfl,ea,gC,n1,kE,k⟩:=h
  refine ⟨_,(@aC _ _ _ (@cm _ _ _ _ _ _ _ _ (@nZ _ _ _ _ (lS (bo F4 (hr.mono (by decide)) rfl T.yv T.kK.kp T.yu .nil bH (@aj _ _ _ _ _ (by rfl) (pv 0) (@aj _ _ _ _ _ (by rfl) (pv 1) ao))))) (@aC _ _ _ (CB L rfl PySem.F.excBase_ValueError T.y_ rfl T.y7 (@aj _ _ _ _ _ (by rfl) AR ao))) cE)),?_⟩
  refine ⟨_,rfl,_,rfl,a,zs,n,rfl,ea,gC,n1,fun H1 s1=>⟨_,rfl,b8 (fun hb=>?_) (fun hb=>?_)⟩⟩
  ·exact ⟨by show 1≤sizeLine;decide,kE (by simpa using hb) _ s1⟩
  ·exact k (by simpa using hb) _ s1
theorem F5:bP ["order","turns","turn","place"] ["order"] (bu pU):=⟨rfl,rfl,rfl,by decide +kernel,rfl,by decide +kernel,by decide +kernel⟩
theorem F6(T:Txt K mg t):bA P w K mg base bU 1 t.ji t.kf ["order"] EU:=by
 have S:=F5
 refine T.kM.ok S (fun vs H Q E h=>?_) (fun aK A outer s H vs Q E hr h=>?_)
 ·obtain ⟨a,n,o,rfl,_⟩:=h
  rfl
 ·obtain ⟨a,n,o,rfl,⟨ea,ho⟩,n1,kk⟩:=h
  have lo:=gA ho
  have lm:(o.map fun k:Nat=>V.int (k:Int)).length=n:=by rw [List.length_map,lo]
  refine ⟨_,(@ax _ _ _ _ _ (@aW _ _ 1 _ _ _ _ (by rfl) (by first | exact .inl rfl | exact .inr rfl | assumption) S.nd rfl (Or.inl rfl) (@a9 _ _ _ _ _ _ _ _ B_ (@bZ _ _ _ _ (@aj _ _ _ _ _ (by rfl) ay ao)) (b3 iS rfl T.ir boot_len (@aj _ _ _ _ _ (by rfl) (pv 0) ao))))
   (@ax _ _ _ _ _ (cR PassesOwn.never rfl (xj rfl T.tT (@aj _ _ _ _ _ (by rfl) (pv 0) ao)) (lZ rfl (fL (bR (i:=2) S.nd rfl (Or.inl rfl)) (fL (bR (i:=3) S.nd rfl (Or.inl rfl)) lY)))
    (@aC _ _ _ (@l6 _ _ _ _ _ _ (pv 2) (l5 (pv 1) (pv 3) set_list) (by rfl) (by rfl) (by rfl))))
   (@aC _ _ _ (@bL _ _ _ _ (pv 1))))),?_⟩
  refine ⟨by show 1≤sizeLine;decide,fun l nl=>?_⟩
  have al:a≠l:=fun z=>by rw [z,nl] at ea;cases ea
  refine ⟨_,rfl,a,_,rfl,.inl (.of (by rw [aA al];exact ea)),l,_,_,rfl,rfl,aq,by omega,by rw [lm];omega,?_,fun c nc=>?_⟩
  ·rw [lm,Int.toNat_natCast]
   show 1*n≤sizeLine
   rw [sizeLine_eq];omega
  rw [lm,Int.toNat_natCast,EX n o]
  have zb:H c=none:=none_of (aG nl) nc
  have s0:ae H (upd (upd H l (.lst [.int 0])) c (.lst ((List.range n).map fun p=>V.int (e8 o 0 p)))):=(aG nl).trans (aG nc)
  have e0:upd (upd H l (.lst [.int 0])) c (.lst ((List.range n).map fun p=>V.int (e8 o 0 p))) c=_:=aq
  generalize upd (upd H l (.lst [.int 0])) c (.lst ((List.range n).map fun p=>V.int (e8 o 0 p)))=H0 at s0 e0 ⊢
  dsimp only [aI]
  refine bD ⟨_,rfl,a,rfl,⟨_,.of (s0 _ _ ea)⟩,?_⟩
  refine xk (K:=K) (l:=a) (xs:=o.map fun k:Nat=>V.int (k:Int)) (fun i σ Hc=>ae H Hc∧∃(v2 v3:Option V),σ=[some (.ref a),some (.ref c),v2,v3]∧Hc c=some (.lst ((List.range n).map fun p=>V.int (e8 o i p))))
   ⟨s0,_,_,rfl,e0⟩ (fun i σ Hc ⟨z,_⟩=>.of (z _ _ ea)) ?_ ?_
  ·rintro i x σ Hc Tt hx ⟨sc,v2,v3,rfl,ec⟩ nT
   have hi:i<o.length:=by
    have:=(List.getElem?_eq_some_iff.mp hx).1
    simpa using this
   have ex:x=.int ((o[i]:Nat):Int):=by
    rw [List.getElem?_map] at hx
    simp [hi] at hx
    exact hx.symm
   subst ex
   have hp:o[i]<n:=(eC ho).mp (List.getElem_mem hi)
   have sT:ae Hc (upd Hc Tt (.tup [.int (i:Int),.int ((o[i]:Nat):Int)])):=aG nT
   have eT:upd Hc Tt (.tup [.int (i:Int),.int ((o[i]:Nat):Int)]) Tt=_:=aq
   generalize upd Hc Tt (.tup [.int (i:Int),.int ((o[i]:Nat):Int)])=H1 at sT eT ⊢
   refine ⟨Tt,_,rfl,.of eT,rfl,_,_,rfl,_,_,rfl,rfl,?_⟩
   refine ⟨_,rfl,_,rfl,_,rfl,c,_,_,o[i],rfl,rfl,sT _ _ ec,by rw [List.length_map,List.length_range];exact x8 hp,?_⟩
   exact ⟨dA (sc.trans sT) zb,_,_,rfl,by rw [aq,EW ho hi]⟩
  ·rintro σ Hc ⟨sc,v2,v3,rfl,ec⟩
   rw [List.length_map,EY ho] at ec
   exact ⟨_,rfl,kk c Hc sc zb ec⟩
theorem F7:bP ["linked","places","one","other"] ["linked","places"] (bu pV):=⟨rfl,rfl,rfl,by decide +kernel,rfl,by decide +kernel,by decide +kernel⟩
theorem F8(T:Txt K mg t):bA P w K mg base bU 1 t.jj t.kg ["linked","places"] EZ:=by
 have S:=F7
 refine T.kN.ok S (fun vs H Q E h=>?_) (fun aK A outer s H vs Q E hr h=>?_)
 ·obtain ⟨D,pl,n,ds,un,f,ps,rfl,_⟩:=h
  rfl
 ·obtain ⟨D,pl,n,ds,un,f,ps,rfl,KL,lp,F9,n9,kk⟩:=h
  have hu:=Nat.lt_of_le_of_lt (Nat.add_le_add_left (show 1≤64 by decide) _) hr.units
  have aZ:∀i,i<n→un i→pl≠ds i:=fun i hi ui z=>by
   rw [z,KL.at' i hi ui] at lp
   cases lp
  have zc:∀{i:Nat} {x:V},(ps.map fun k:Nat=>V.int (k:Int))[i]?=some x→∃p:Nat,ps[i]?=some p∧x=.int (p:Int)∧p<n∧un p:=fun{i x} hx=>by
   rw [List.getElem?_map] at hx
   cases e:ps[i]? with
   | none=>rw [e] at hx;cases hx
   | some p=>
    rw [e] at hx
    exact ⟨p,rfl,(Option.some.inj hx).symm,F9 p (List.mem_of_getElem? e)⟩
  refine ⟨_,(@aC _ _ _ (cR PassesOwn.never rfl (cZ (pv 1)) (bR (i:=2) S.nd rfl (Or.inl rfl))
    (@aC _ _ _ (cR PassesOwn.never rfl (cZ (pv 1)) (bR (i:=3) S.nd rfl (Or.inl rfl))
    (@aC _ _ _ (@cm _ _ _ _ _ _ _ _ (@bT _ _ _ _ _ _ _ _ rh (pv 2) (pv 3) (bG _)) (@aC _ _ _ (pK hu (@aX _ _ _ _ _ _ _ bC (pv 0) (pv 2) (fun _ _=>rfl)) (pv 3) gb rfl)) cE)))))),?_⟩
  refine ⟨_,rfl,pl,rfl,⟨_,.of lp⟩,?_⟩
  refine gP (K:=K) (a:=pl) (xs:=ps.map fun k:Nat=>V.int (k:Int)) (fun i σ Hc=>∃(g:Nat→List Nat) (v2 v3:Option V),σ=[some (.ref D),some (.ref pl),v2,v3]∧h9 n ds un H Hc∧bX Hc D n ds un g∧dg n f ps i 0 g) ⟨f,_,_,rfl,.refl,KL,dg.start n f ps⟩ (fun i σ Hc _ ⟨_,_,_,_,oc,_⟩=>.of (oc _ _ lp aZ)) ?_ ?_
  ·rintro i x σ Hc hx ⟨g,v2,v3,rfl,oc,Kc,la⟩
   obtain ⟨p,hp,rfl,pn,up⟩:=zc hx
   refine ⟨_,rfl,pl,rfl,⟨_,.of (oc _ _ lp aZ)⟩,?_⟩
   refine gP (K:=K) (a:=pl) (xs:=ps.map fun k:Nat=>V.int (k:Int)) (fun j σ Hd=>∃(g:Nat→List Nat) (v3:Option V),σ=[some (.ref D),some (.ref pl),some (.int (p:Int)),v3]∧h9 n ds un H Hd∧bX Hd D n ds un g∧dg n f ps i j g) ⟨g,_,rfl,oc,Kc,la⟩ (fun i σ Hc _ ⟨_,_,_,oc,_⟩=>.of (oc _ _ lp aZ)) ?_ ?_
   ·rintro j y σ Hd hy ⟨g,v3,rfl,od,Kd,la⟩
    obtain ⟨q,hq,rfl,qn,uq⟩:=zc hy
    refine ⟨_,rfl,_,rfl,rfl,_,rfl,b8 (fun hb=>?_) (fun hb=>?_)⟩
    ·have ne:p≠q:=fun z=>by
      subst z
      rw [wX,decide_eq_true rfl] at hb
      cases hb
     obtain ⟨q1,K1⟩:=Kd.put pn qn up n9
     exact ⟨_,rfl,_,rfl,D,_,_,_,rfl,rfl,.of Kd.lst,Kd.ix pn,_,rfl,_,_,rfl,q1,_,_,rfl,od.put pn up,K1,la.put hp hq ne⟩
    ·have e:p=q:=by
      by_cases z:(p:Int)=(q:Int)
      ·omega
      ·exact absurd (by rw [wX,decide_eq_false z];rfl) hb
     subst e
     exact ⟨_,_,rfl,od,Kd,la.same hp hq⟩
   ·rintro σ Hd ⟨g,v3,rfl,od,Kd,la⟩
    rw [List.length_map] at la
    exact ⟨g,_,_,rfl,od,Kd,la.row⟩
  ·rintro σ Hc ⟨g,v2,v3,rfl,oc,Kc,la⟩
   rw [List.length_map] at la
   exact kk _ g oc Kc la.done
theorem F_:bP ["shape","order","linked","turns","told","place"] ["shape","order"] (bu pW):=⟨rfl,rfl,rfl,by decide +kernel,rfl,by decide +kernel,by decide +kernel⟩
theorem Ga(T:Txt K mg t):bA P w K mg base (fk P w) 4 t.jk t.kh ["shape","order"] (Fv t.fY):=by
 have S:=F_
 have Gb:=F3 (P:=P) (w:=w) (base:=base) T
 have Gd:=FY (P:=P) (w:=w) (base:=base) T
 have Ge:=F6 (P:=P) (w:=w) (base:=base) T
 have Gf:=F8 (P:=P) (w:=w) (base:=base) T
 refine T.kO.oG S (fun vs H Q E h=>?_) (fun aK A outer s H vs Q E hr h L=>?_)
 ·obtain ⟨tp,a,n,L,zs,rfl,_⟩:=h
  rfl
 ·obtain ⟨tp,a,n,Lk,zs,rfl,hS,hL,ns,Gg,ea,gC,kE,kk⟩:=h
  obtain ⟨lt,us,cI,elt,iT⟩:=id hS
  refine ⟨_,(@ax _ _ _ _ _ (dq (bo Gb (hr.mono (by decide)) rfl T.yy T.kL.kp T.yw .nil (rR L) (@aj _ _ _ _ _ (by rfl) (pv 1) (@aj _ _ _ _ _ (by rfl) (@aX _ _ _ _ _ _ _ fR (pv 0) ay (fun _ _=>rfl)) ao))))
   (dm.lW (@ax _ _ _ _ _ (@aW _ _ 2 _ _ _ _ (by rfl) (by first | exact .inl rfl | exact .inr rfl | assumption) S.nd rfl (Or.inl rfl) (bo Gd (hr.mono (by decide)) rfl T.yt T.kJ.kp T.yr .nil bH (@aj _ _ _ _ _ (by rfl) (pv 0) ao)))
   (@ax _ _ _ _ _ (@aW _ _ 3 _ _ _ _ (by rfl) (by first | exact .inl rfl | exact .inr rfl | assumption) S.nd rfl (Or.inr rfl) (bo Ge (hr.mono (by decide)) rfl T.yA T.kM.kp T.yz .nil bH (@aj _ _ _ _ _ (by rfl) (pv 1) ao)))
   (@ax _ _ _ _ _ (rV (i0:=4) (N:=["place"]) (ρ:=(fun σ=>[])) ⟨rfl,rfl,by decide +kernel,by decide +kernel,(List.forall_mem_nil _),fS (by rfl),rfl,by decide +kernel,rfl,(fun σ j v h=>match j,h with | j,h=>by cases h),(fun _ _=>rfl)⟩ rfl S.nd rfl (Or.inl rfl) (cZ (pv 1)) (fun s₃ H₃ fp=>.nil) (fun s₃ H₃ fp=>(@bZ _ _ _ _ ao)))
   (@ax _ _ _ _ _ (cR PassesOwn.never rfl (cZ (pv 1)) (bR (i:=5) S.nd rfl (Or.inr rfl))
    (@ax _ _ _ _ _ (@l6 _ _ _ _ _ _ (b3 xW rfl T.lh PyProof.Rows.boot_sorted (@aj _ _ _ _ _ (by rfl) (iX (N:=["other","turns","place"]) (ρ:=(fun σ=>[σ[3]?.join,σ[5]?.join])) ⟨rfl,rfl,by decide +kernel,by decide +kernel,(List.forall_mem_cons.mpr ⟨rfl,(List.forall_mem_cons.mpr ⟨rfl,(List.forall_mem_nil _)⟩)⟩),fS (by rfl),rfl,by decide +kernel,rfl,(fun σ j v h=>match j,h with | 0,h=>⟨3,_,rfl,rfl,join_some h,Or.inr (Or.inl rfl),.inl rfl,.inl rfl⟩ | 1,h=>⟨5,_,rfl,rfl,join_some h,Or.inr (Or.inl rfl),.inl rfl,.inl rfl⟩ | j+2,h=>by cases h),(fun _ _=>rfl)⟩ rfl (EH (@aX _ _ _ _ _ _ _ bC (pv 2) (pv 5) (fun _ _=>rfl))) (fun s₃ H₃ fp=>(.one (@bT _ _ _ _ _ _ _ _ oi (@aX _ _ _ _ _ _ _ (rZ (K:=K)) (pv 1) (pv 0) (fun _ _=>rfl)) (@aX _ _ _ _ _ _ _ (rZ (K:=K)) (pv 1) (pv 2) (fun _ _=>rfl)) (bG _)))) (fun s₃ H₃ fp=>(pv 0))) ao)) (l5 (pv 4) (pv 5) set_list) (by rfl) (by rfl) (by rfl))
   (@aC _ _ _ (dq (bo Gf (hr.mono (by decide)) rfl T.yC T.kN.kp T.yB .nil bH (@aj _ _ _ _ _ (by rfl) (pv 2) (@aj _ _ _ _ _ (by rfl) (@aX _ _ _ _ _ _ _ bC (pv 4) (pv 5) (fun _ _=>rfl)) ao)))))))
   (@aC _ _ _ (@bL _ _ _ _ (pv 4))))))))),?_⟩
  refine ⟨_,rfl,_,rfl,tp,_,_,_,rfl,rfl,.of cI,rfl,a,zs,n,rfl,ea,gC,by omega,fun no H1 s1=>kE no H1 s1,fun yes H1 s1=>?_⟩
  obtain ⟨o,rfl,ho⟩:=E7 yes
  have kk:=kk o rfl ho
  have lo:=gA ho
  have nd:=m9 ho
  have nq:H a=some (.lst (o.map fun k:Nat=>V.int (k:Int))):=by rw [ea,List.map_map];rfl
  have lm:(o.map fun k:Nat=>V.int (k:Int)).length=n:=by rw [List.length_map,lo]
  refine ⟨_,rfl,tp,n,Lk,rfl,⟨lt,us,s1 _ _ cI,s1 _ _ elt,iT.mono s1⟩,hL,by omega,fun H2 D ds f s2 nD Gh KL nb=>?_⟩
  have Lp:=none_of s1 nD
  have zd:∀i,i<n→H (ds i)=none:=fun i hi=>none_of s1 (Gh i hi)
  have eI:=s1.trans s2
  dsimp only [aI]
  refine ⟨_,rfl,a,n,o,rfl,⟨eI _ _ nq,ho⟩,by omega,fun tr H3 s3 Gi e3=>?_⟩
  have cJ:=eI.trans s3
  have Lq:=none_of eI Gi
  have K3:=KL.mono s3
  dsimp only [aI]
  refine bD (g_ (r_ (xs:=o.map fun k:Nat=>V.int (k:Int)) (n:=n) lm (fun R h=>⟨_,rfl,a,rfl,⟨_,.of (cJ _ _ nq)⟩,h _ _ (ae.refl _) (iZ (.of (cJ _ _ nq)))⟩) (bV (by omega)) (fun _ i y Hx=>H3 y=none) (fun _ _ _ _ _ _ h _ _ _=>h) ?_ ?_))
  ·intro D' i x hx Hc R sc _ kc
   refine ⟨by show 0≤sizeLine;exact Nat.zero_le _,fun p np=>kc p _ (aG np) np ⟨_,aq⟩ (none_of sc np)⟩
  ·intro c Gj H4 nc s4 _ hA ec
   have gD:=cJ.trans s4
   have ze:=none_of cJ nc
   have K4:=K3.mono s4
   have e4:=s4 _ _ e3
   have cD:c≠D:=fun z=>by rw [z,K3.lst] at nc;cases nc
   have Gk:c≠tr:=fun z=>by rw [z,e3] at nc;cases nc
   dsimp only [aI]
   refine bD ⟨_,rfl,a,rfl,⟨_,.of (gD _ _ nq)⟩,?_⟩
   refine gP (K:=K) (a:=a) (xs:=o.map fun k:Nat=>V.int (k:Int)) (fun k σ Hc=>∃(rs:Nat→Addr) (f g:Nat→List Nat) (v5:Option V),σ=[some (.ref tp),some (.ref a),some (.ref D),some (.ref tr),some (.ref c),v5]∧ae H Hc∧bX Hc D n ds (fun p=>k≤o.idxOf p) f∧Hc tr=some (.lst ((List.range n).map fun p=>V.int (o.idxOf p:Int)))∧Hc c=some (.lst ((List.range n).map fun p=>V.ref (rs p))) ∧
     (∀p,p<n→o.idxOf p<k→H (rs p)=none∧rs p≠c∧Hc (rs p)=some (.lst ((g p).map fun k:Nat=>V.int (k:Int)))∧h_ n o p (g p)∧nj n Lk o p (g p))∧jc n Lk o k f) ⟨Gj,f,fun _=>[],_,rfl,gD,K4.less (fun _ _ _=>trivial),e4,ec,fun p _ h=>absurd h (Nat.not_lt_zero _),jc.start nb ns⟩ (fun k σ Hc _ ⟨_,_,_,_,_,sc,_⟩=>.of (sc _ _ nq)) ?_ ?_
   ·rintro k x σ Hc hx ⟨rs,f,g,v5,rfl,sc,Kc,tW,qq,done,tX⟩
    have hk:k<o.length:=by
     have:=(List.getElem?_eq_some_iff.mp hx).1
     simpa using this
    have ex:x=.int ((o[k]:Nat):Int):=by
     rw [List.getElem?_map] at hx
     simp [hk] at hx
     exact hx.symm
    subst ex
    have hp:o[k]<n:=(eC ho).mp (List.getElem_mem hk)
    have ip:o.idxOf o[k]=k:=m_ nd hk
    generalize o[k]=p at hp ip ⊢
    dsimp only [aI]
    have zf:=Kc.at' p hp (by omega)
    refine bD (g_ (xf (Fd ⟨_,rfl,_,rfl,D,_,_,_,rfl,rfl,.of Kc.lst,Kc.ix hp,ds p,dk (f p),rfl,.inl ⟨zf,fun ob=>?_⟩⟩)))
    have Kf:bX (upd Hc (ds p) (.bb ob (.dK (dk (f p))))) D n ds (fun q=>k+1≤o.idxOf q) f:=(Kc.less (fun i hi (ui:k+1≤o.idxOf i)=>show k≤o.idxOf i by omega)).upd (Kc.ne p hp) (fun i hi (ui:k+1≤o.idxOf i) z=>by
     have:=Kc.inj i p hi hp z
     subst this
     omega)
    have tY:∀{b:Addr} {xs:List V},Hc b=some (.lst xs)→b≠ds p:=fun{b xs} e z=>by rw [z,zf] at e;cases e
    have qr:upd Hc (ds p) (.bb ob (.dK (dk (f p)))) tr=_:=(aA (tY tW)).trans tW
    have qt:upd Hc (ds p) (.bb ob (.dK (dk (f p)))) c=_:=(aA (tY qq)).trans qq
    have sf:ae H (upd Hc (ds p) (.bb ob (.dK (dk (f p))))):=fun b u e=>by
     rw [aA (fun z=>by rw [z,zd p hp] at e;cases e)]
     exact sc _ _ e
    have tZ:∀q,q<n→o.idxOf q<k→H (rs q)=none∧rs q≠c∧upd Hc (ds p) (.bb ob (.dK (dk (f p)))) (rs q)=some (.lst ((g q).map fun k:Nat=>V.int (k:Int)))∧h_ n o q (g q)∧nj n Lk o q (g q):=fun q hq qu=>by
     obtain ⟨d1,d2,d3,d4⟩:=done q hq qu
     exact ⟨d1,d2,(aA (tY d3)).trans d3,d4⟩
    have zg:upd Hc (ds p) (.bb ob (.dK (dk (f p)))) (ds p)=some (.bb ob (.dK (dk (f p)))):=aq
    generalize upd Hc (ds p) (.bb ob (.dK (dk (f p))))=Hf at Kf qr qt sf tZ zg ⊢
    have nu:=Kc.pl p hp
    refine E5 zg (fun q=>decide ((o.idxOf p:Int)<(o.idxOf q:Int))) (Nat.lt_of_le_of_lt nu.len (bV (by omega))) ?_ ?_ ?_
    ·intro q hq Hx R sx hR
     have qn:=nu.2 q hq
     exact ⟨_,rfl,_,rfl,tr,_,_,_,rfl,rfl,.of (sx _ _ qr),ic qn,_,rfl,_,rfl,tr,_,_,_,rfl,rfl,.of (sx _ _ qr),ic hp,_,_,rfl,rfl,_,rfl,hR⟩
    ·intro q hq Hx R hR
     exact ⟨_,rfl,hR⟩
    ·intro D1 H1 Lr zh zl
     rw [Fc] at zl
     have fl:((f p).filter fun q=>decide (o.idxOf p<o.idxOf q)).length≤n:=Nat.le_trans (List.length_filter_le _ _) nu.len
     refine ⟨D1,((f p).filter fun q=>decide (o.idxOf p<o.idxOf q)).map iN,rfl,by rw [zl,List.map_map];rfl,by rw [List.length_map];omega,fun ws D2 pw so zo=>?_⟩
     obtain ⟨ms,rfl,pm⟩:=x_ pw
     have qv:=E6 nu pm so
     have hm:∀q,q∈ms↔q∈f p∧k<o.idxOf q:=fun q=>by
      rw [pm.mem_iff,List.mem_filter,decide_eq_true_iff,ip]
     have Gm:nj n Lk o p ms:=fun q=>by
      rw [hm q,ip]
      constructor
      ·rintro ⟨h1,h2⟩
       have qn:=nu.2 q h1
       exact ⟨qn,h2,((tX p q hp qn (by omega) (by omega)).mp h1).2⟩
      ·rintro ⟨h1,h2,h3⟩
       exact ⟨(tX p q hp h1 (by omega) (by omega)).mpr ⟨fun e=>by subst e;omega,h3⟩,h2⟩
     have jG:ae Hf (upd H1 D2 (.lst ((ms.map iN).map V.int))):=pM zh zo
     have zp:upd H1 D2 (.lst ((ms.map iN).map V.int)) D2=some (.lst (ms.map fun k:Nat=>V.int (k:Int))):=by rw [aq,List.map_map];rfl
     have t8:Hf D2=none:=none_of zh zo
     have Gn:H D2=none:=none_of sf t8
     generalize upd H1 D2 (.lst ((ms.map iN).map V.int))=Hg at jG zp ⊢
     have zq:D2≠c:=fun z=>by rw [z,qt] at t8;cases t8
     refine ⟨_,rfl,_,rfl,c,_,_,p,rfl,rfl,jG _ _ qt,by rw [List.length_map,List.length_range];exact x8 hp,?_⟩
     rw [E8]
     have Kg:=Kf.mono jG
     have Kh:bX (upd Hg c (.lst ((List.range n).map fun q=>V.ref (e9 rs p D2 q)))) D n ds (fun q=>k+1≤o.idxOf q) f:=Kg.upd cD (fun i hi ui z=>by
      have:=Kg.at' i hi ui
      rw [z,jG _ _ qt] at this
      cases this)
     have sh:ae H (upd Hg c (.lst ((List.range n).map fun q=>V.ref (e9 rs p D2 q)))):=dA (sf.trans jG) ze
     have t9:upd Hg c (.lst ((List.range n).map fun q=>V.ref (e9 rs p D2 q))) c=_:=aq
     have zr:upd Hg c (.lst ((List.range n).map fun q=>V.ref (e9 rs p D2 q))) tr=_:=(aA (Ne.symm Gk)).trans (jG _ _ qr)
     have t_:upd Hg c (.lst ((List.range n).map fun q=>V.ref (e9 rs p D2 q))) D2=_:=(aA zq).trans zp
     have zt:∀q,q<n→o.idxOf q<k→upd Hg c (.lst ((List.range n).map fun q=>V.ref (e9 rs p D2 q))) (rs q)=some (.lst ((g q).map fun k:Nat=>V.int (k:Int))):=fun q hq qu=>by
      obtain ⟨d1,d2,d3,d4⟩:=tZ q hq qu
      exact (aA d2).trans (jG _ _ d3)
     generalize upd Hg c (.lst ((List.range n).map fun q=>V.ref (e9 rs p D2 q)))=Hh at Kh sh t9 zr t_ zt ⊢
     refine ⟨_,rfl,_,rfl,_,rfl,c,_,_,_,rfl,rfl,.of t9,ic hp,?_⟩
     rw [yb]
     refine ⟨D,D2,n,ds,_,f,ms,rfl,Kh,t_,fun q hq=>⟨qv.lt q hq,by have:=qv.la q hq;omega⟩,by omega,fun H5 g5 off K5 con=>?_⟩
     have aZ:∀{b:Addr} {xs:List V},Hh b=some (.lst xs)→H5 b=some (.lst xs):=fun{b xs} e=>off _ _ e fun i hi ui z=>by
      rw [z,Kh.at' i hi ui] at e
      cases e
     refine ⟨e9 rs p D2,g5,b5 g p ms,_,rfl,fun b u e=>off _ _ (sh _ _ e) (fun i hi _ z=>by rw [z,zd i hi] at e;cases e),K5,aZ zr,aZ t9,fun q hq qu=>?_,tX.step ho hp ip hm qv.lt con⟩
     by_cases e:q=p
     ·subst e
      rw [yb,E_]
      exact ⟨Gn,zq,aZ t_,qv,Gm⟩
     ·rw [E9 e,Fb e]
      have ne:=jb ho hq hp e
      have zu:o.idxOf q<k:=by omega
      obtain ⟨d1,d2,d3,d4⟩:=tZ q hq zu
      exact ⟨d1,d2,aZ (zt q hq zu),d4⟩
   ·rintro σ Hc ⟨rs,f,g,v5,rfl,sc,Kc,tW,qq,done,_⟩
    rw [lm] at done
    have lt:∀p,p<n→o.idxOf p<n:=fun p hp=>by
     have:=(h8 ((eC ho).mpr hp)).1
     omega
    exact ⟨_,rfl,kk Hc c rs g sc ze (fun p hp=>(done p hp (lt p hp)).1) ⟨qq,fun p hp=>(done p hp (lt p hp)).2.2.1⟩ fun p hp=>(done p hp (lt p hp)).2.2.2⟩
theorem Gp:bP ["shape","order","links","place","others"] ["shape","order"] (bu pX):=⟨rfl,rfl,rfl,by decide +kernel,rfl,by decide +kernel,by decide +kernel⟩
theorem Gq(T:Txt K mg t):bA P w K mg base (fk P w) 5 t.jl t.ki ["shape","order"] (Fy t.fY):=by
 have S:=Gp
 have Gr:=Ga (P:=P) (w:=w) (base:=base) T
 refine T.kP.oG S (fun vs H Q E h=>?_) (fun aK A outer s H vs Q E hr h L=>?_)
 ·obtain ⟨tp,a,n,L,zs,rfl,_⟩:=h
  rfl
 ·obtain ⟨tp,a,n,Lk,zs,rfl,hS,hL,ns,n9,ea,gC,kE,kk⟩:=h
  obtain ⟨lt,us,cI,elt,iT⟩:=id hS
  refine ⟨_,(@ax _ _ _ _ _ (@aW _ _ 2 _ _ _ _ (by rfl) (by first | exact .inl rfl | exact .inr rfl | assumption) S.nd rfl (Or.inl rfl) (@bZ _ _ _ _ ao))
   (@ax _ _ _ _ _ (cR (Ff L) rfl (xj rfl T.tT (@aj _ _ _ _ _ (by rfl) (bo Gr (hr.mono (by decide)) rfl T.yF T.kO.kp T.yE .nil (rR L) (@aj _ _ _ _ _ (by rfl) (pv 0) (@aj _ _ _ _ _ (by rfl) (pv 1) ao))) ao)) (lZ rfl (fL (bR (i:=3) S.nd rfl (Or.inr rfl)) (fL (bR (i:=4) S.nd rfl (Or.inl rfl)) lY)))
    (@aC _ _ _ (dq (dO PySem.F.plainAttrs_list PySem.F.slot_list_extend PySem.F.type_list_extend wD (pv 2) (@aj _ _ _ _ _ (by rfl) (iX (N:=["other","place"]) (ρ:=(fun σ=>[σ[3]?.join])) ⟨rfl,rfl,by decide +kernel,by decide +kernel,(List.forall_mem_cons.mpr ⟨rfl,(List.forall_mem_nil _)⟩),fS (by rfl),rfl,by decide +kernel,rfl,(fun σ j v h=>match j,h with | 0,h=>⟨3,_,rfl,rfl,join_some h,Or.inr (Or.inl rfl),.inl rfl,.inl rfl⟩ | j+1,h=>by cases h),(fun _ _=>rfl)⟩ rfl (cZ (pv 4)) (fun s₃ H₃ fp=>.nil) (fun s₃ H₃ fp=>(@gR _ _ _ _ _ (@aj _ _ _ _ _ (by rfl) (b3 (rm rfl) rfl T.qm boot_min (@aj _ _ _ _ _ (by rfl) (pv 1) (@aj _ _ _ _ _ (by rfl) (pv 0) ao))) (@aj _ _ _ _ _ (by rfl) (b3 (rj rfl) rfl T.qo boot_max (@aj _ _ _ _ _ (by rfl) (pv 1) (@aj _ _ _ _ _ (by rfl) (pv 0) ao))) ao))))) ao)))))
   (@aC _ _ _ (@bL _ _ _ _ (@gR _ _ _ _ _ (@aj _ _ _ _ _ (by rfl) (@aX _ _ _ _ _ _ _ fR (pv 0) ay (fun _ _=>rfl)) (@aj _ _ _ _ _ (by rfl) (d_ rA rfl T.ql boot_tuple (@aj _ _ _ _ _ (by rfl) (b3 sR rfl T.lh PyProof.Rows.boot_sorted (@aj _ _ _ _ _ (by rfl) (pv 2) ao)) ao)) ao))))))),?_⟩
  refine ⟨Nat.zero_le _,fun l nl=>?_⟩
  have s0:ae H (upd H l (.lst [])):=aG nl
  have el:upd H l (.lst []) l=some (.lst []):=aq
  generalize upd H l (.lst [])=H0 at s0 el ⊢
  dsimp only [aI]
  refine bD ⟨_,rfl,_,rfl,tp,a,n,Lk,zs,rfl,hS.mono s0,hL,ns,by omega,s0 _ _ ea,gC,fun no H1 s1=>kE no H1 (s0.trans s1),fun o ez ho H1 D rs g s1 nD qw la ok=>?_⟩
  have kk:=kk o ez ho
  have eX:∀p,p<n→nj n Lk o p (g p):=fun p hp=>(ok p hp).2
  have ok:∀p,p<n→h_ n o p (g p):=fun p hp=>(ok p hp).1
  have bQ:=Fx ho n9 ok
  have iw:∀p,p<n→rs p≠l:=fun p hp z=>by
   have:=qw p hp
   rw [z,el] at this
   cases this
  have Gs:D≠l:=fun z=>by rw [z,el] at nD;cases nD
  have zv:((List.range n).map fun p=>V.ref (rs p)).length=n:=by rw [List.length_map,List.length_range]
  refine ⟨D,rfl,⟨_,.of la.1⟩,?_⟩
  refine xk (K:=K) (l:=D) (xs:=(List.range n).map fun p=>V.ref (rs p)) (fun k σ Hc=>∃(xs:List V) (M:List (Int×Int)) (v3 v4:Option V),σ=[some (.ref tp),some (.ref a),some (.ref l),v3,v4]∧ae H Hc∧ya Hc D n rs g∧Hc l=some (.lst xs)∧pO Hc g k xs M)
   ⟨[],[],_,_,rfl,s0.trans s1,la,s1 _ _ el,⟨⟨rfl,fun k v p h=>by cases h⟩,rfl,fun z=>⟨(fun h=>by cases h),fun⟨p,q,h,_⟩=>absurd h (Nat.not_lt_zero _)⟩,List.nodup_nil⟩⟩ (fun k σ Hc ⟨_,_,_,_,_,_,z,_⟩=>.of z.1) ?_ ?_
  ·rintro k x σ Hc Tt hx ⟨xs,M,v3,v4,rfl,sc,lc,fZ,so⟩ nT
   have hk:k<n:=by
    have:=(List.getElem?_eq_some_iff.mp hx).1
    rw [zv] at this
    exact this
   have ex:x=.ref (rs k):=by
    rw [List.getElem?_map,List.getElem?_range hk] at hx
    exact (Option.some.inj hx).symm
   subst ex
   have sT:ae Hc (upd Hc Tt (.tup [.int (k:Int),.ref (rs k)])):=aG nT
   have eT:upd Hc Tt (.tup [.int (k:Int),.ref (rs k)]) Tt=_:=aq
   generalize upd Hc Tt (.tup [.int (k:Int),.ref (rs k)])=H2 at sT eT ⊢
   have ek:=ok k hk
   have lg:(g k).length≤30:=Nat.le_trans (yc ho ek) (by omega)
   have e2:=sT _ _ (lc.2 k hk)
   refine ⟨Tt,_,rfl,.of eT,rfl,_,_,rfl,_,_,rfl,rfl,?_⟩
   refine ⟨_,rfl,.inl ⟨rfl,_,.of (sT _ _ fZ)⟩,xc (xs:=(g k).map fun k:Nat=>V.int (k:Int)) (fun R h=>⟨_,rfl,rs k,rfl,⟨_,.of e2⟩,h _ _ (ae.refl _) (iZ (.of e2))⟩) (by rw [List.length_map];exact bV (by omega)) (fun _ i y Hz=>∃(b:Addr) (q:Nat),y=.ref b∧(g k)[i]?=some q∧Hz b=some (.tup [.int (b6 k q).1,.int (b6 k q).2])) (fun Dd i y Ha Hb ys ⟨b,x,h1,h2,h3⟩ e f=>⟨b,x,h1,h2,f b _ (fun z=>by rw [z,e] at h3;cases h3) h3⟩) ?_ ?_⟩
   ·intro Dd i x hx Hz R sz _ kz
    obtain ⟨q,hq,rfl⟩:∃q:Nat,(g k)[i]?=some q∧x=.int (q:Int):=by
     rw [List.getElem?_map] at hx
     cases e:(g k)[i]? with
     | none=>rw [e] at hx;cases hx
     | some q=>rw [e] at hx;exact ⟨q,rfl,(Option.some.inj hx).symm⟩
    refine ⟨_,rfl,_,rfl,_,_,rfl,_,rfl,_,rfl,_,_,rfl,by show 2≤sizeLine;decide,fun tp fG=>?_⟩
    exact kz _ _ (aG fG) ⟨tp,q,rfl,hq,aq⟩
   ·intro Dd ys H3 Gu s3 zw za uc
    rw [List.length_map] at zw
    have lM:M.length≤435:=by
     rw [so.len]
     exact Nat.le_trans (Fe (g:=fun p=>(g p).length) (Nat.le_of_lt hk)) bQ
    have lx:=so.at'.1
    have nz:=s3 _ _ (sT _ _ fZ)
    refine ⟨l,Dd,xs,ys,rfl,rfl,nz,uc,Nat.le_trans (show _≤900 by omega) (by decide),?_⟩
    have k9:∀b o,b≠l→H3 b=some o→upd H3 l (.lst (xs++ys)) b=some o:=fun b o nb e=>by rw [aA nb];exact e
    have gE:=sc.trans (sT.trans s3)
    refine ⟨xs++ys,M++(g k).map (b6 k),_,_,rfl,fun b u e=>k9 b u (fun z=>by rw [z,nl] at e;cases e) (gE _ _ e),⟨k9 _ _ Gs (s3 _ _ (sT _ _ lc.1)),fun p hp=>k9 _ _ (iw p hp) (s3 _ _ (sT _ _ (lc.2 p hp)))⟩,aq,so.more (fun h=>((h.mono sT).mono s3).aZ nz k9) hk ok ?_⟩
    refine aN.aZ (H:=H3) ⟨by rw [zw,List.length_map],fun i v p h1 h2=>?_⟩ nz k9
    obtain ⟨b,q,rfl,hq,e⟩:=za i v h1
    rw [List.getElem?_map,hq] at h2
    cases h2
    exact ⟨b,rfl,e⟩
  ·rintro σ Hc ⟨xs,M,v3,v4,rfl,sc,lc,fZ,so⟩
   rw [zv] at so
   have lM:M.length≤435:=by rw [so.len];exact bQ
   have lx:=so.at'.1
   have bM:∀z∈M,0≤z.2∧z.2<1000:=fun z hz=>by
    obtain ⟨p,q,h1,h2,rfl⟩:=(so.mem z).mp hz
    have:=tD h1 ((ok p h1).lt q h2)
    omega
   refine ⟨_,rfl,tp,_,_,_,rfl,rfl,.of (sc _ _ cI),rfl,_,rfl,?_⟩
   dsimp only [om]
   refine yg fZ so.at' (by omega) bM fun l' ws N H3 s3 ik gw hN pN oN=>?_
   have s4:=sc.trans s3
   refine ⟨l',ws,rfl,.inl ⟨.of gw,fun lt nB=>?_⟩⟩
   have eJ:ae H3 (upd H3 lt (.tup ws)):=aG nB
   have nC:upd H3 lt (.tup ws) lt=some (.tup ws):=aq
   generalize upd H3 lt (.tup ws)=Hd at eJ nC ⊢
   refine ⟨by show 2≤sizeLine;decide,fun tq lq=>?_⟩
   have st:ae Hd (upd Hd tq (.tup [.int (n:Int),.ref lt])):=aG lq
   have s5:=s4.trans (eJ.trans st)
   have bN:∀z∈N,0≤z.2∧z.2<1000:=fun z hz=>bM z (pN.mem_iff.mp hz)
   refine kk _ tq N s5 (none_of (s4.trans eJ) lq) ⟨lt,ws,aq,st _ _ nC,(hN.mono eJ).mono st⟩ ⟨yj oN (pN.nodup_iff.mpr so.nd) bN,fun z=>?_⟩ (by rw [pN.length_eq];omega)
   rw [pN.mem_iff,so.mem]
   constructor
   ·rintro ⟨p,q,h1,h2,h3⟩
    obtain ⟨w1,w2,w3⟩:=(eX p h1 q).mp h2
    exact ⟨p,q,h1,w1,w2,w3,h3⟩
   ·rintro ⟨p,q,h1,w1,w2,w3,h3⟩
    exact ⟨p,q,h1,(eX p h1 q).mpr ⟨w1,w2,w3⟩,h3⟩
theorem Gv:bP ["shape","order"] ["shape","order"] (bu pY):=⟨rfl,rfl,rfl,by decide +kernel,rfl,by decide +kernel,by decide +kernel⟩
theorem Gw(T:Txt K mg t):bA P w K mg base (fk P w) 6 t.jm t.kj ["shape","order"] (FF t.fY):=by
 have S:=Gv
 have Gx:=Gq (P:=P) (w:=w) (base:=base) T
 refine T.kS.oG S (fun vs H Q E h=>?_) (fun aK A outer s H vs Q E hr h L=>?_)
 ·obtain ⟨tp,a,n,L,zs,rfl,_⟩:=h
  rfl
 ·obtain ⟨tp,a,n,Lk,zs,rfl,hS,hL,ns,n9,ea,gC,kE,kk⟩:=h
  have dh:=hr.units
  refine ⟨_,(@aC _ _ _ (@bL _ _ _ _ (@gg _ _ _ _ _ _ _ _ (yk dh) (bo Gx (hr.mono (by decide)) rfl T.yH T.kP.kp T.yG .nil (rR L) (@aj _ _ _ _ _ (by rfl) (pv 0) (@aj _ _ _ _ _ (by rfl) (pv 1) ao))) (pv 0) (bG _)))),?_⟩
  refine ⟨_,rfl,_,rfl,tp,a,n,Lk,zs,rfl,hS,hL,ns,n9,ea,gC,kE,fun o ez ho H1 t1 M s1 _ h1 fs _=>?_⟩
  exact ⟨_,rfl,t1,tp,n,M,Lk,rfl,rfl,h1,hS.mono s1,kk o ez ho _ _ s1 fs⟩
theorem Gy:bP ["_law_cell","_law_at","_law_x"] ["_law_cell","_law_at"] (bu pZ):=⟨rfl,rfl,rfl,by decide +kernel,rfl,by decide +kernel,by decide +kernel⟩
theorem Gz(T:Txt K mg t):bA P w K mg base bU 1 t.jo t.ko ["_law_cell","_law_at"] Dl:=by
 have S:=Gy
 refine T.kT.ok S (fun vs H Q E h=>?_) (fun aK A outer s H vs Q E hr h=>?_)
 ·obtain ⟨c,a,rfl,_⟩:=h
  rfl
 ·obtain ⟨c,a,rfl,ha,k⟩:=h
  refine ⟨_,(@ax _ _ _ _ _ (@cm _ _ _ _ _ _ _ _ (@bT _ _ _ _ _ _ _ _ Bq (pv 0) (@a9 _ _ _ _ _ _ _ _ Bl ay ay) (bG _)) (@aC _ _ _ (@bL _ _ _ _ (pv 0))) cE)
   (@ax _ _ _ _ _ (@aW _ _ 2 _ _ _ _ (by rfl) (by first | exact .inl rfl | exact .inr rfl | assumption) S.nd rfl (Or.inl rfl) (@a9 _ _ _ _ _ _ _ _ iP (@a9 _ _ _ _ _ _ _ _ fi (@a9 _ _ _ _ _ _ _ _ fi (@a9 _ _ _ _ _ _ _ _ gf (@a9 _ _ _ _ _ _ _ _ iP (pv 0) ay) ay) (@a9 _ _ _ _ _ _ _ _ gf (pv 1) ay)) ay) ay))
   (@ax _ _ _ _ _ (@aW _ _ 2 _ _ _ _ (by rfl) (by first | exact .inl rfl | exact .inr rfl | assumption) S.nd rfl (Or.inl rfl) (@a9 _ _ _ _ _ _ _ _ iP (@a9 _ _ _ _ _ _ _ _ fi (@a9 _ _ _ _ _ _ _ _ fi (@a9 _ _ _ _ _ _ _ _ gf (pv 2) (pv 2)) (@a9 _ _ _ _ _ _ _ _ gf ay (pv 2))) (pv 1)) ay))
   (@aC _ _ _ (@bL _ _ _ _ (@a9 _ _ _ _ _ _ _ _ fi (@a9 _ _ _ _ _ _ _ _ gf (pv 2) ay) (@a9 _ _ _ _ _ _ _ _ iP (@a9 _ _ _ _ _ _ _ _ fi (@a9 _ _ _ _ _ _ _ _ gf (pv 2) (pv 2)) (@a9 _ _ _ _ _ _ _ _ gf ay (pv 1))) ay))))))),?_⟩
  refine ⟨_,rfl,_,_,rfl,rfl,⟨by decide,by decide,by decide⟩,_,_,rfl,rfl,_,rfl,b8 (fun h=>?_) (fun h=>?_)⟩
  ·have h:=of_decide_eq_true h
   exact ⟨_,rfl,k _ (Int.le_trans (by decide) h)⟩
  ·refine ⟨_,rfl,_,_,rfl,rfl,(by show (0:Int)<2147483647;decide),_,_,rfl,rfl,.inr ⟨by decide,by decide⟩,_,rfl,_,_,rfl,rfl,.inr ⟨by decide,by decide⟩,_,_,rfl,rfl,_,_,rfl,rfl,_,_,rfl,rfl,(by show (0:Int)<2147483629;decide),?_⟩
   have b0:=Int.emod_nonneg (c % 2147483647*48271+a*69621+11) (show (2147483629:Int)≠0 by decide)
   have b1:=Int.emod_lt_of_pos (c % 2147483647*48271+a*69621+11) (show (0:Int)<2147483629 by decide)
   generalize (c % 2147483647*48271+a*69621+11) % 2147483629=x at b0 b1 ⊢
   refine ⟨_,rfl,_,rfl,_,_,rfl,rfl,.inl ⟨by omega,by omega⟩,_,rfl,_,_,rfl,rfl,.inl ⟨by decide,by decide⟩,_,_,rfl,rfl,_,rfl,_,_,rfl,rfl,_,_,rfl,rfl,(by show (0:Int)<2147483587;decide),?_⟩
   have c0:=Int.emod_nonneg (x*x+48271*x+a) (show (2147483587:Int)≠0 by decide)
   have c1:=Int.emod_lt_of_pos (x*x+48271*x+a) (show (0:Int)<2147483587 by decide)
   generalize (x*x+48271*x+a) % 2147483587=y at c0 c1 ⊢
   refine ⟨_,rfl,_,_,rfl,rfl,.inr ⟨by decide,by decide⟩,_,rfl,_,rfl,_,_,rfl,rfl,.inl ⟨by omega,by omega⟩,_,rfl,_,_,rfl,rfl,.inl ⟨by decide,by decide⟩,_,_,rfl,rfl,_,_,rfl,rfl,(by show (0:Int)<2147483579;decide),_,_,rfl,rfl,k _ (Int.add_nonneg (Int.mul_nonneg (Int.emod_nonneg _ (by decide)) (by decide)) (Int.emod_nonneg _ (by decide)))⟩
theorem GA:bP ["_law_pen","_law_many","_law_at","_law_cell","_law_found"] ["_law_pen","_law_many"] (bu p9):=⟨rfl,rfl,rfl,by decide +kernel,rfl,by decide +kernel,by decide +kernel⟩
theorem lA(T:Txt K mg t):bA P w K mg base bU 2 t.jq t.kq ["_law_pen","_law_many"] (Dm K):=by
 have S:=GA
 have GB:=Gz (P:=P) (w:=w) (base:=base) T
 refine T.cU.ok S (fun vs H Q E h=>?_) (fun aK A outer s H vs Q E hr h=>?_)
 ·obtain ⟨P0,a,ns,many,rfl,_⟩:=h
  rfl
 ·obtain ⟨P0,a,ns,many,rfl,⟨x,y,eP,hx,hy⟩,hS,m1,mm,k⟩:=h
  have dh:=hr.units
  refine ⟨_,(@ax _ _ _ _ _ (@cm _ _ _ _ _ _ _ _ (@bT _ _ _ _ _ _ _ _ vT (@aX _ _ _ _ _ _ _ bC (pv 0) ay (fun _ _=>rfl)) (pv 1) (bG _)) (@ax _ _ _ _ _ (@aW _ _ 2 _ _ _ _ (by rfl) (by first | exact .inl rfl | exact .inr rfl | assumption) S.nd rfl (Or.inl rfl) (@aX _ _ _ _ _ _ _ bC (pv 0) ay (fun _ _=>rfl)))
   (@ax _ _ _ _ _ (@aW _ _ 3 _ _ _ _ (by rfl) (by first | exact .inl rfl | exact .inr rfl | assumption) S.nd rfl (Or.inl rfl) ay)
   (@ax _ _ _ _ _ (@cm _ _ _ _ _ _ _ _ (@bT _ _ _ _ _ _ _ _ vT (pv 2) (b3 iS rfl T.ir boot_len (@aj _ _ _ _ _ (by rfl) (@aX _ _ _ _ _ _ _ bC (pv 0) ay (fun _ _=>rfl)) ao)) (bG _)) (@aC _ _ _ (@aW _ _ 3 _ _ _ _ (by rfl) (by first | exact .inl rfl | exact .inr rfl | assumption) S.nd rfl (Or.inl rfl) (@aX _ _ _ _ _ _ _ bC (@aX _ _ _ _ _ _ _ bC (pv 0) ay (fun _ _=>rfl)) (pv 2) (fun _ _=>rfl)))) (@aC _ _ _ (@cm _ _ _ _ _ _ _ _ (@bT _ _ _ _ _ _ _ _ oi (b3 iS rfl T.ir boot_len (@aj _ _ _ _ _ (by rfl) (@aX _ _ _ _ _ _ _ bC (pv 0) ay (fun _ _=>rfl)) ao)) ay (bG _)) (@aC _ _ _ (@aW _ _ 3 _ _ _ _ (by rfl) (by first | exact .inl rfl | exact .inr rfl | assumption) S.nd rfl (Or.inl rfl) (@a9 _ _ _ _ _ _ _ _ fi (@a9 _ _ _ _ _ _ _ _ iP (@aX _ _ _ _ _ _ _ bC (@aX _ _ _ _ _ _ _ bC (pv 0) ay (fun _ _=>rfl)) (@a9 _ _ _ _ _ _ _ _ iP (@a9 _ _ _ _ _ _ _ _ gf (pv 2) ay) (b3 iS rfl T.ir boot_len (@aj _ _ _ _ _ (by rfl) (@aX _ _ _ _ _ _ _ bC (pv 0) ay (fun _ _=>rfl)) ao))) (fun _ _=>rfl)) ay) (@a9 _ _ _ _ _ _ _ _ gf (pv 2) ay)))) cE)))
   (@ax _ _ _ _ _ (@l6 _ _ _ _ _ _ (@a9 _ _ _ _ _ _ _ _ fi (pv 2) ay) (l5 (pv 0) ay set_list) (by rfl) (by rfl) (by rfl))
   (@aC _ _ _ (@l6 _ _ _ _ _ _ (bo GB (hr.mono (by decide)) rfl T.yL T.kT.kp T.yK .nil bH (@aj _ _ _ _ _ (by rfl) (pv 3) (@aj _ _ _ _ _ (by rfl) (pv 2) ao))) (l5 (pv 0) ay set_list) (by rfl) (by rfl) (by rfl))))))) cE)
   (@ax _ _ _ _ _ (@aW _ _ 4 _ _ _ _ (by rfl) (by first | exact .inl rfl | exact .inr rfl | assumption) S.nd rfl (Or.inl rfl) (@a9 _ _ _ _ _ _ _ _ iP (@aX _ _ _ _ _ _ _ bC (pv 0) ay (fun _ _=>rfl)) (pv 1)))
   (@ax _ _ _ _ _ (@l6 _ _ _ _ _ _ (@a9 _ _ _ _ _ _ _ _ CP (@aX _ _ _ _ _ _ _ bC (pv 0) ay (fun _ _=>rfl)) (pv 1)) (l5 (pv 0) ay set_list) (by rfl) (by rfl) (by rfl))
   (@aC _ _ _ (@bL _ _ _ _ (pv 4)))))),?_⟩
  have qx:=oW.seq hS
  refine ⟨_,rfl,P0,_,_,_,rfl,rfl,.of eP,rfl,_,rfl,_,_,rfl,rfl,_,rfl,b8 (fun a8=>?_) (fun a8=>?_)⟩
  ·refine ⟨_,rfl,P0,_,_,_,rfl,rfl,.of eP,rfl,?_⟩
   refine ⟨_,rfl,_,rfl,P0,_,_,_,rfl,rfl,.of eP,rfl,a,ns.map V.int,rfl,.inl qx,_,_,rfl,rfl,_,rfl,b8 (fun h1=>?_) (fun h1=>?_)⟩
   ·have h1:x<((ns.map V.int).length:Int):=of_decide_eq_true h1
    obtain ⟨v,hv,mv⟩:=wY (xs:=ns.map V.int) hx h1
    obtain ⟨c,_,rfl⟩:=List.mem_map.mp mv
    refine ⟨_,rfl,P0,_,_,_,rfl,rfl,.of eP,rfl,_,rfl,a,ns.map V.int,_,_,rfl,rfl,qx,hv,?_⟩
    refine ⟨_,rfl,_,_,rfl,rfl,_,rfl,P0,_,1,1,rfl,rfl,eP,rfl,?_⟩
    refine ⟨_,rfl,_,rfl,c,x,rfl,hx,fun r nE=>⟨_,rfl,P0,_,2,2,rfl,rfl,aq,rfl,?_⟩⟩
    have q0:=Int.emod_nonneg (r) (show many≠0 by omega)
    have q1:=Int.emod_lt_of_pos (r) (show 0<many by omega)
    have q2:=Int.ediv_nonneg (nE) (show 0≤many by omega)
    refine ⟨_,rfl,P0,_,_,_,rfl,rfl,.of aq,rfl,_,rfl,_,_,rfl,rfl,(show 0<many by omega),?_⟩
    refine ⟨_,rfl,P0,_,_,_,rfl,rfl,.of aq,rfl,_,rfl,_,_,rfl,rfl,⟨show 0<many by omega,mm⟩,_,rfl,P0,_,2,2,rfl,rfl,aq,rfl,?_⟩
    exact ⟨_,rfl,k _ _ q0 q1 (((av.refl H).trans av.fT).trans (av.fT.trans av.fT)) ⟨x+1,r / many,aq,by omega,q2⟩⟩
   ·refine ⟨_,rfl,P0,_,_,_,rfl,rfl,.of eP,rfl,a,ns.map V.int,rfl,.inl qx,_,_,rfl,rfl,_,rfl,?_⟩
    have qy:=eP
    have zA:=qx
    have sl:=ae.refl H
    refine b8 (fun h2=>?_) (fun h2=>?_)
    ·have hl:0<(ns.map V.int).length:=by
      have:=of_decide_eq_true h2
      omega
     have GC:=Int.emod_nonneg (x*7) (show ((ns.map V.int).length:Int)≠0 by omega)
     have GD:=Int.emod_lt_of_pos (x*7) (show (0:Int)<((ns.map V.int).length:Int) by omega)
     obtain ⟨v,hv,mv⟩:=wY (xs:=ns.map V.int) GC GD
     obtain ⟨c,_,rfl⟩:=List.mem_map.mp mv
     refine ⟨_,rfl,P0,_,_,_,rfl,rfl,.of qy,rfl,_,rfl,_,_,rfl,rfl,.inr ⟨by decide,by decide⟩,_,rfl,P0,_,_,_,rfl,rfl,.of qy,rfl,a,ns.map V.int,rfl,.inl zA,_,_,rfl,rfl,(show (0:Int)<((ns.map V.int).length:Int) by omega),a,ns.map V.int,_,_,rfl,rfl,zA,hv,_,_,rfl,rfl,(show (0:Int)<1000003 by decide),_,rfl,_,_,rfl,rfl,.inr ⟨by decide,by decide⟩,_,_,rfl,rfl,?_⟩
     refine ⟨_,rfl,_,_,rfl,rfl,_,rfl,P0,_,1,1,rfl,rfl,qy,rfl,?_⟩
     refine ⟨_,rfl,_,rfl,_,x,rfl,hx,fun r nE=>⟨_,rfl,P0,_,2,2,rfl,rfl,aq,rfl,?_⟩⟩
     have q0:=Int.emod_nonneg (r) (show many≠0 by omega)
     have q1:=Int.emod_lt_of_pos (r) (show 0<many by omega)
     have q2:=Int.ediv_nonneg (nE) (show 0≤many by omega)
     refine ⟨_,rfl,P0,_,_,_,rfl,rfl,.of aq,rfl,_,rfl,_,_,rfl,rfl,(show 0<many by omega),?_⟩
     refine ⟨_,rfl,P0,_,_,_,rfl,rfl,.of aq,rfl,_,rfl,_,_,rfl,rfl,⟨show 0<many by omega,mm⟩,_,rfl,P0,_,2,2,rfl,rfl,aq,rfl,?_⟩
     exact ⟨_,rfl,k _ _ q0 q1 (((av.of sl).trans av.fT).trans (av.fT.trans av.fT)) ⟨x+1,r / many,aq,by omega,q2⟩⟩
    ·
     refine ⟨_,rfl,_,_,rfl,rfl,_,rfl,P0,_,1,1,rfl,rfl,qy,rfl,?_⟩
     refine ⟨_,rfl,_,rfl,0,x,rfl,hx,fun r nE=>⟨_,rfl,P0,_,2,2,rfl,rfl,aq,rfl,?_⟩⟩
     have q0:=Int.emod_nonneg (r) (show many≠0 by omega)
     have q1:=Int.emod_lt_of_pos (r) (show 0<many by omega)
     have q2:=Int.ediv_nonneg (nE) (show 0≤many by omega)
     refine ⟨_,rfl,P0,_,_,_,rfl,rfl,.of aq,rfl,_,rfl,_,_,rfl,rfl,(show 0<many by omega),?_⟩
     refine ⟨_,rfl,P0,_,_,_,rfl,rfl,.of aq,rfl,_,rfl,_,_,rfl,rfl,⟨show 0<many by omega,mm⟩,_,rfl,P0,_,2,2,rfl,rfl,aq,rfl,?_⟩
     exact ⟨_,rfl,k _ _ q0 q1 (((av.of sl).trans av.fT).trans (av.fT.trans av.fT)) ⟨x+1,r / many,aq,by omega,q2⟩⟩
  ·dsimp only [gM]
   have q0:=Int.emod_nonneg (y) (show many≠0 by omega)
   have q1:=Int.emod_lt_of_pos (y) (show 0<many by omega)
   have q2:=Int.ediv_nonneg (hy) (show 0≤many by omega)
   refine ⟨_,rfl,P0,_,_,_,rfl,rfl,.of eP,rfl,_,rfl,_,_,rfl,rfl,(show 0<many by omega),?_⟩
   refine ⟨_,rfl,P0,_,_,_,rfl,rfl,.of eP,rfl,_,rfl,_,_,rfl,rfl,⟨show 0<many by omega,mm⟩,_,rfl,P0,_,2,2,rfl,rfl,eP,rfl,?_⟩
   exact ⟨_,rfl,k _ _ q0 q1 (av.fT) ⟨x,y / many,aq,hx,q2⟩⟩
theorem GF:bP ["_law_pen","_law_some","_law_left","_law_found"] ["_law_pen","_law_some"] (bu p_):=⟨rfl,rfl,rfl,by decide +kernel,rfl,by decide +kernel,by decide +kernel⟩
theorem zB(T:Txt K mg t):bA P w K mg base bU 3 t.jr t.kr ["_law_pen","_law_some"] (D8 K):=by
 have S:=GF
 have cV:=lA (P:=P) (w:=w) (base:=base) T
 refine T.jE.ok S (fun vs H Q E h=>?_) (fun aK A outer s H vs Q E hr h=>?_)
 ·obtain ⟨P0,a,l,ns,xs,rfl,_⟩:=h
  rfl
 ·obtain ⟨P0,a,l,ns,xs,rfl,pc,hS,nl,el,Ls,kk⟩:=h
  have dh:=hr.units
  refine ⟨_,(@ax _ _ _ _ _ (@aW _ _ 2 _ _ _ _ (by rfl) (by first | exact .inl rfl | exact .inr rfl | assumption) S.nd rfl (Or.inl rfl) (d_ wz rfl T.iu boot_list (@aj _ _ _ _ _ (by rfl) (pv 1) ao)))
   (@ax _ _ _ _ _ (@aW _ _ 3 _ _ _ _ (by rfl) (by first | exact .inl rfl | exact .inr rfl | assumption) S.nd rfl (Or.inl rfl) (@bZ _ _ _ _ ao))
   (@ax _ _ _ _ _ (@q5 _ _ _ _ _ _ PassesOwn.never (@bT _ _ _ _ _ _ _ _ (pF dh) (pv 2) (@bZ _ _ _ _ ao) (bG _)) (@aC _ _ _ (dq (dO PySem.F.plainAttrs_list PySem.F.slot_list_append PySem.F.type_list_append ei (pv 3) (@aj _ _ _ _ _ (by rfl) (dO PySem.F.plainAttrs_list PySem.F.slot_list_pop PySem.F.type_list_pop B7 (pv 2) (@aj _ _ _ _ _ (by rfl) (bo cV (hr.mono (by decide)) rfl T.eG T.cU.kp T.eF .nil bH (@aj _ _ _ _ _ (by rfl) (pv 0) (@aj _ _ _ _ _ (by rfl) (b3 iS rfl T.ir boot_len (@aj _ _ _ _ _ (by rfl) (pv 2) ao)) ao))) ao)) ao)))))
   (@aC _ _ _ (@bL _ _ _ _ (pv 3)))))),?_⟩
  refine ⟨_,rfl,l,xs,rfl,.inl (.of el),fun l1 n1=>?_⟩
  have s1:ae H (upd H l1 (.lst xs)):=aG n1
  have e1:upd H l1 (.lst xs) l1=some (.lst xs):=aq
  dsimp only [aI]
  generalize upd H l1 (.lst xs)=H1 at s1 e1 ⊢
  refine ⟨by show 0≤sizeLine;decide,fun l2 n2=>?_⟩
  have s2:ae H1 (upd H1 l2 (.lst [])):=aG n2
  have e2:upd H1 l2 (.lst []) l2=some (.lst []):=aq
  dsimp only [aI]
  generalize upd H1 l2 (.lst [])=H2 at s2 e2 ⊢
  have zC:l1≠P0:=pc.ne n1
  have qz:l2≠P0:=(pc.mono s1).ne n2
  have zD:H l2=none:=none_of s1 n2
  have ud:l1≠l2:=fun e=>by rw [e,n2] at e1;cases e1
  refine bD ⟨fun m σ Hc=>∃zs ys:List V,σ=[some (.ref P0),some (.ref l),some (.ref l1),some (.ref l2)]∧m=zs.length∧Hc l1=some (.lst zs)∧Hc l2=some (.lst ys)∧(zs++ys).Perm xs∧av P0 H Hc∧a7 Hc P0 a,⟨_,xs,[],rfl,rfl,s2 _ _ e1,e2,by rw [List.append_nil],av.of (s1.trans s2),(pc.mono s1).mono s2⟩,?_⟩
  rintro m σ Hc ⟨zs,ys,rfl,rfl,ez,ey,pm,sc,p1⟩
  have lz:zs.length≤100:=by
   have:=pm.length_eq
   rw [List.length_append] at this
   omega
  have ly:ys.length≤100:=by
   have:=pm.length_eq
   rw [List.length_append] at this
   omega
  refine ⟨_,rfl,by show 0≤sizeLine;decide,fun le nF=>?_⟩
  have s3:ae Hc (upd Hc le (.lst [])):=aG nF
  have e3:upd Hc le (.lst []) le=some (.lst []):=aq
  generalize upd Hc le (.lst [])=H3 at s3 e3 ⊢
  refine ⟨l1,le,zs,rfl,rfl,.of (s3 _ _ ez),e3,_,rfl,b8 (fun hz=>?_) (fun hz=>?_)⟩
  ·have z0:1≤zs.length:=by
    cases zs with
    | nil=>cases hz
    | cons=>simp
   have gE:=sc.trans (av.of s3)
   refine ⟨_,fun _ _ h=>h,?_⟩
   refine ⟨_,rfl,.inl ⟨rfl,_,.of (s3 _ _ ey)⟩,_,rfl,.inl ⟨rfl,_,.of (s3 _ _ ez)⟩,_,rfl,_,rfl,l1,zs,rfl,.inl (.of (s3 _ _ ez)),P0,a,ns,(zs.length:Int),rfl,p1.mono s3,ae.seq gE hS,by omega,cM.of_lt (by omega) (by omega),fun c H4 c0 c1 s4 p4=>?_⟩
   obtain ⟨k,rfl⟩:=Int.eq_ofNat_of_zero_le c0
   have hk:k<zs.length:=by omega
   have lB:=s4.at zC (s3 _ _ ez)
   have GG:=s4.at qz (s3 _ _ ey)
   have sx:seqIndex? (k:Int) zs.length=some k:=by
    unfold seqIndex?
    simp
    omega
   refine ⟨l1,zs,(k:Int),k,zs[k],rfl,rfl,lB,by omega,by omega,sx,by simp [hk],?_⟩
   have nn:l2≠l1:=fun e=>ud e.symm
   refine ⟨l2,ys,zs[k],rfl,rfl,by rw [aA nn];exact GG,bV (by omega),?_⟩
   refine ⟨_,?_,zs.eraseIdx k,ys++[zs[k]],rfl,rfl,by rw [aA ud,aq],aq,?_,?_,?_⟩
   ·rw [List.length_eraseIdx_of_lt hk]
    omega
   ·refine List.Perm.trans ?_ pm
    rw [←List.append_assoc]
    refine (List.perm_append_comm).trans ?_
    show (zs[k]::(zs.eraseIdx k++ys)).Perm (zs++ys)
    exact (xH zs k hk).append_right ys
   ·exact ((gE.trans s4).but n1).but zD
   ·exact ((p4.upd zC).upd qz)
  ·have z0:zs=[]:=by
    cases zs with
    | nil=>rfl
    | cons=>exact absurd rfl hz
   subst z0
   refine ⟨_,rfl,kk l2 ys H3 (sc.trans (av.of s3)) (p1.mono s3) ?_ qz (s3 _ _ ey) pm⟩
   rw [cG qz]
   exact zD
theorem GH:bP ["_law_pen","_law_way","_law_size","_law_wide","_law_i","_law_j"] ["_law_pen","_law_way","_law_size","_law_wide","_law_i","_law_j"] (bu qa):=⟨rfl,rfl,rfl,by decide +kernel,rfl,by decide +kernel,by decide +kernel⟩
theorem GI(T:Txt K mg t):bA P w K mg base bU 3 t.jt t.ku ["_law_pen","_law_way","_law_size","_law_wide","_law_i","_law_j"] (D9 K):=by
 have S:=GH
 have cV:=lA (P:=P) (w:=w) (base:=base) T
 refine T.kU.ok S (fun vs H Q E h=>?_) (fun aK A outer s H vs Q E hr h=>?_)
 ·obtain ⟨P0,a,ns,way,size,wide,i,j,rfl,_⟩:=h
  rfl
 ·obtain ⟨P0,a,ns,way,size,wide,i,j,rfl,pc,hS,kk⟩:=h
  refine ⟨_,(@ax _ _ _ _ _ (@cm _ _ _ _ _ _ _ _ (@bT _ _ _ _ _ _ _ _ fN (pv 1) ay (bG _)) (@aC _ _ _ (@bL _ _ _ _ (@gg _ _ _ _ _ _ _ _ fN (bo cV (hr.mono (by decide)) rfl T.eG T.cU.kp T.eF .nil bH (@aj _ _ _ _ _ (by rfl) (pv 0) (@aj _ _ _ _ _ (by rfl) ay ao))) ay (bG _)))) cE)
   (@ax _ _ _ _ _ (@cm _ _ _ _ _ _ _ _ (@bT _ _ _ _ _ _ _ _ fN (pv 1) ay (bG _)) (@aC _ _ _ (@bL _ _ _ _ (@gg _ _ _ _ _ _ _ _ fN (bo cV (hr.mono (by decide)) rfl T.eG T.cU.kp T.eF .nil bH (@aj _ _ _ _ _ (by rfl) (pv 0) (@aj _ _ _ _ _ (by rfl) ay ao))) ay (bG _)))) cE)
   (@ax _ _ _ _ _ (@cm _ _ _ _ _ _ _ _ (@bT _ _ _ _ _ _ _ _ fN (pv 1) ay (bG _)) (@aC _ _ _ (@bL _ _ _ _ (@gg _ _ _ _ _ _ _ _ oi (bo cV (hr.mono (by decide)) rfl T.eG T.cU.kp T.eF .nil bH (@aj _ _ _ _ _ (by rfl) (pv 0) (@aj _ _ _ _ _ (by rfl) ay ao))) ay (bG _)))) cE)
   (@ax _ _ _ _ _ (@cm _ _ _ _ _ _ _ _ (@bT _ _ _ _ _ _ _ _ fN (pv 1) ay (bG _)) (@aC _ _ _ (@bL _ _ _ _ (AZ (@gg _ _ _ _ _ _ _ _ fN (@a9 _ _ _ _ _ _ _ _ og (pv 5) (pv 4)) ay (bG _)) (@qW _ _ _ _ _ (@gg _ _ _ _ _ _ _ _ fN (@a9 _ _ _ _ _ _ _ _ og (pv 5) (pv 4)) (@a9 _ _ _ _ _ _ _ _ og (pv 2) ay) (bG _)))))) cE)
   (@aC _ _ _ (@bL _ _ _ _ (@gg _ _ _ _ _ _ _ _ Bp (@a9 _ _ _ _ _ _ _ _ og (pv 5) (pv 4)) (pv 3) (bG _)))))))),?_⟩
  refine ⟨_,rfl,rfl,_,rfl,b8 (fun _=>?_) (fun _=>?_)⟩
  ·exact ⟨_,rfl,P0,a,ns,2,rfl,pc,hS,by decide,cM.of_lt (by decide) (by decide),fun c H1 _ _ s1 p1=>⟨rfl,kk _ H1 s1 p1⟩⟩
  dsimp only [gM]
  refine ⟨_,rfl,rfl,_,rfl,b8 (fun _=>?_) (fun _=>?_)⟩
  ·exact ⟨_,rfl,P0,a,ns,4,rfl,pc,hS,by decide,cM.of_lt (by decide) (by decide),fun c H1 _ _ s1 p1=>⟨rfl,kk _ H1 s1 p1⟩⟩
  dsimp only [gM]
  refine ⟨_,rfl,rfl,_,rfl,b8 (fun _=>?_) (fun _=>?_)⟩
  ·exact ⟨_,rfl,P0,a,ns,4,rfl,pc,hS,by decide,cM.of_lt (by decide) (by decide),fun c H1 _ _ s1 p1=>⟨_,_,rfl,rfl,kk _ H1 s1 p1⟩⟩
  dsimp only [gM]
  refine ⟨_,rfl,rfl,_,rfl,b8 (fun _=>?_) (fun _=>?_)⟩
  ·refine ⟨_,rfl,_,rfl,_,_,rfl,rfl,rfl,_,rfl,b8 (fun _=>?_) (fun _=>?_)⟩
   ·exact kk _ H (av.refl _) pc
   ·exact ⟨_,rfl,_,rfl,_,_,rfl,rfl,_,rfl,_,_,rfl,rfl,rfl,kk _ H (av.refl _) pc⟩
  dsimp only [gM]
  exact ⟨_,rfl,_,rfl,_,_,rfl,rfl,_,rfl,_,_,rfl,rfl,kk _ H (av.refl _) pc⟩
theorem GJ:bP ["_law_size","_law_links","_law_names","_law_found","_law_i","_law_j","_law_one"] ["_law_size","_law_links","_law_names"] (bu qd):=⟨rfl,rfl,rfl,by decide +kernel,rfl,by decide +kernel,by decide +kernel⟩
theorem GK(T:Txt K mg t):bA P w K mg base bU 3 t.jw t.kB ["_law_size","_law_links","_law_names"] Eb:=by
 have S:=GJ
 refine T.kY.ok S (fun vs H Q E h=>?_) (fun aK A outer s H vs Q E hr h=>?_)
 ·obtain ⟨l,r,n,us,ws,L,nm,rfl,_⟩:=h
  rfl
 ·obtain ⟨l,r,n,us,ws,L,nm,rfl,el,hL,ok,nG,nH,lw,hw,N,kk⟩:=h
  refine ⟨_,(@ax _ _ _ _ _ (@aW _ _ 3 _ _ _ _ (by rfl) (by first | exact .inl rfl | exact .inr rfl | assumption) S.nd rfl (Or.inl rfl) (@bZ _ _ _ _ ao))
   (@ax _ _ _ _ _ (cR PassesOwn.never rfl (cZ (pv 1)) (lZ rfl (fL (bR (i:=4) S.nd rfl (Or.inl rfl)) (fL (bR (i:=5) S.nd rfl (Or.inl rfl)) lY)))
    (@ax _ _ _ _ _ (@aW _ _ 6 _ _ _ _ (by rfl) (by first | exact .inl rfl | exact .inr rfl | assumption) S.nd rfl (Or.inl rfl) (b3 (rm rfl) rfl T.qm boot_min (@aj _ _ _ _ _ (by rfl) (@aX _ _ _ _ _ _ _ bC (pv 2) (pv 4) (fun _ _=>rfl)) (@aj _ _ _ _ _ (by rfl) (@aX _ _ _ _ _ _ _ bC (pv 2) (pv 5) (fun _ _=>rfl)) ao))))
   (@aC _ _ _ (dq (dO PySem.F.plainAttrs_list PySem.F.slot_list_append PySem.F.type_list_append ei (pv 3) (@aj _ _ _ _ _ (by rfl) (@gR _ _ _ _ _ (@aj _ _ _ _ _ (by rfl) (pv 6) (@aj _ _ _ _ _ (by rfl) (b3 (rj rfl) rfl T.qo boot_max (@aj _ _ _ _ _ (by rfl) (@aX _ _ _ _ _ _ _ bC (pv 2) (pv 4) (fun _ _=>rfl)) (@aj _ _ _ _ _ (by rfl) (@aX _ _ _ _ _ _ _ bC (pv 2) (pv 5) (fun _ _=>rfl)) ao))) ao))) ao))))))
   (@aC _ _ _ (@bL _ _ _ _ (@gR _ _ _ _ _ (@aj _ _ _ _ _ (by rfl) (pv 0) (@aj _ _ _ _ _ (by rfl) (d_ rA rfl T.ql boot_tuple (@aj _ _ _ _ _ (by rfl) (b3 sR rfl T.lh PyProof.Rows.boot_sorted (@aj _ _ _ _ _ (by rfl) (pv 3) ao)) ao)) ao))))))),?_⟩
  refine ⟨by show 0≤sizeLine;decide,fun fd bY=>?_⟩
  have s0:ae H (upd H fd (.lst [])):=aG bY
  have zE:upd H fd (.lst []) fd=some (.lst []):=aq
  dsimp only [aI]
  generalize upd H fd (.lst [])=H1 at s0 zE ⊢
  refine ⟨_,rfl,l,rfl,⟨_,.of (s0 _ _ el)⟩,?_⟩
  refine gP (K:=K) (a:=l) (xs:=us) (fun k σ Hc=>∃(xs:List V) (v4 v5 v6:Option V),σ=[some (.int (n:Int)),some (.ref l),some (.ref r),some (.ref fd),v4,v5,v6]∧ae H Hc∧Hc fd=some (.lst xs)∧aN Hc xs ((L.take k).map (dI nm))) ⟨[],_,_,_,rfl,s0,zE,aN.nil _⟩ (fun k σ Hc _ ⟨_,_,_,_,_,sc,_⟩=>.of (sc _ _ el)) ?_ ?_
  ·rintro k x σ Hc hx ⟨xs,v4,v5,v6,rfl,sc,ef,hX⟩
   have hk:k<L.length:=by
    rw [←hL.1]
    exact (List.getElem?_eq_some_iff.mp hx).1
   obtain ⟨b,rfl,eb⟩:=(hL.mono sc).2 k x L[k] hx (by simp [hk])
   have pk:=ok.lt L[k] (List.getElem_mem hk)
   have tk:(L.take (k+1)).map (dI nm)=(L.take k).map (dI nm)++[dI nm L[k]]:=by
    rw [List.take_succ,List.getElem?_eq_getElem hk,List.map_append]
    rfl
   have lX:=hX.1
   rw [List.length_map,List.length_take] at lX
   have bQ:L.length≤450:=Nat.le_trans ok.bQ (by
    have:n*n≤30*30:=Nat.mul_le_mul nG nG
    omega)
   generalize L[k]=p at eb pk tk
   obtain ⟨p1,p2⟩:=p
   dsimp only at pk
   obtain ⟨i,rfl⟩:=Int.eq_ofNat_of_zero_le pk.1
   obtain ⟨j,rfl⟩:=Int.eq_ofNat_of_zero_le (show 0≤p2 by omega)
   have zF:dv ws (i:Int)=some (.int (nm i)):=gT (hw i (by omega))
   have at2:dv ws (j:Int)=some (.int (nm j)):=gT (hw j (by omega))
   have qA:=sc _ _ nH
   refine ⟨b,_,rfl,.of eb,rfl,_,_,rfl,_,_,rfl,rfl,?_⟩
   refine ⟨_,rfl,_,rfl,r,ws,_,.int (nm i),rfl,rfl,.of qA,zF,_,rfl,_,rfl,r,ws,_,.int (nm j),rfl,rfl,.of qA,at2,nm i,nm j,rfl,?_⟩
   dsimp only [aI]
   refine ⟨_,rfl,.inl ⟨rfl,_,.of ef⟩,_,rfl,_,rfl,_,rfl,r,ws,_,.int (nm i),rfl,rfl,.of qA,zF,_,rfl,_,rfl,r,ws,_,.int (nm j),rfl,rfl,.of qA,at2,nm i,nm j,rfl,by show 2≤sizeLine;decide,fun tp fG=>?_⟩
   have eq:dI nm ((i:Int),(j:Int))=(if nm j<nm i then nm j else nm i,if nm j>nm i then nm j else nm i):=by
    unfold dI
    simp only [Int.toNat_natCast]
    refine Prod.ext ?_ ?_
    ·show min (nm i) (nm j)=_
     split <;> omega
    ·show max (nm i) (nm j)=_
     split <;> omega
   have st:ae Hc (upd Hc tp (.tup [.int (if nm j<nm i then nm j else nm i),.int (if nm j>nm i then nm j else nm i)])):=aG fG
   have cI:upd Hc tp (.tup [.int (if nm j<nm i then nm j else nm i),.int (if nm j>nm i then nm j else nm i)]) tp=some (.tup [.int (dI nm ((i:Int),(j:Int))).1,.int (dI nm ((i:Int),(j:Int))).2]):=by rw [aq,eq]
   generalize upd Hc tp (.tup [.int (if nm j<nm i then nm j else nm i),.int (if nm j>nm i then nm j else nm i)])=Hd at st cI ⊢
   have cg:=st _ _ ef
   refine ⟨fd,xs,_,rfl,rfl,cg,bV (by omega),xs++[.ref tp],_,_,_,rfl,dA (sc.trans st) bY,aq,?_⟩
   rw [tk]
   exact ((hX.mono st).push cI).aZ cg fun b o nb e=>by rw [aA nb];exact e
  ·rintro σ Hc ⟨xs,v4,v5,v6,rfl,sc,ef,hX⟩
   rw [hL.1,List.take_length] at hX
   have qB:=Ea ok N
   have lX:=hX.1
   have bQ:L.length≤450:=Nat.le_trans ok.bQ (by
    have:n*n≤30*30:=Nat.mul_le_mul nG nG
    omega)
   have lM:(L.map (dI nm)).length=L.length:=List.length_map ..
   have small:∀q∈L.map (dI nm),0≤q.2∧q.2<1000:=fun q hq=>by
    have:=qB.lt q hq
    omega
   generalize hM:L.map (dI nm)=M at hX qB lX lM small kk
   dsimp only
   refine ⟨_,rfl,_,rfl,fd,xs,fun i=>(M.getD i (0,0)).1,fun i=>(M.getD i (0,0)).2,rfl,ef,by omega,fun i v hv=>?_,fun p l' hp hu ik=>?_⟩
   ·have hi:i<M.length:=by
     rw [←lX]
     exact (List.getElem?_eq_some_iff.mp hv).1
    obtain ⟨b,rfl,eb⟩:=hX.2 i v M[i] hv (by simp [hi])
    dsimp only
    rw [getD_at hi]
    exact ⟨⟨b,rfl,eb⟩,small _ (List.getElem_mem hi)⟩
   rw [lX] at hp hu
   obtain ⟨pm,pw⟩:=D_ hp hu qB.nd small
   have sl:ae Hc (upd Hc l' (.lst (p.toList.map fun i=>xs.getD i .aF))):=aG ik
   have hP:aN Hc (p.toList.map fun i=>xs.getD i .aF) (p.toList.map fun i=>M.getD i (0,0)):=hX.pick _ fun i hi=>by
    have:p.toList.Perm (List.range M.length):=Array.perm_iff_toList_perm.mp hp
    exact List.mem_range.mp (this.mem_iff.mp hi)
   generalize (p.toList.map fun i=>xs.getD i .aF)=zs at sl hP ⊢
   refine ⟨l',zs,rfl,.inl ⟨.of aq,fun lt nB=>?_⟩⟩
   have eJ:=sl.trans (aG (o:=.tup zs) nB)
   have elt:upd (upd Hc l' (.lst zs)) lt (.tup zs) lt=some (.tup zs):=aq
   generalize upd (upd Hc l' (.lst zs)) lt (.tup zs)=Hd at eJ elt ⊢
   refine ⟨by show 2≤sizeLine;decide,fun tp fG=>?_⟩
   have st:ae Hd (upd Hd tp (.tup [.int (n:Int),.ref lt])):=aG fG
   have sT:=sc.trans (eJ.trans st)
   exact kk tp _ _ sT (none_of (sc.trans eJ) fG) ⟨lt,zs,aq,st _ _ elt,(hP.mono eJ).mono st⟩ (qB.perm pm) pw pm
theorem GL:bP ["_law_pen","_law_size","_law_ahead","_law_found","_law_j","_law_at","_law_some"] ["_law_pen","_law_size"] (bu qb):=⟨rfl,rfl,rfl,by decide +kernel,rfl,by decide +kernel,by decide +kernel⟩
theorem GN(T:Txt K mg t):bA P w K mg base bU 3 t.ju t.ky ["_law_pen","_law_size"] (Ed K):=by
 have S:=GL
 have cV:=lA (P:=P) (w:=w) (base:=base) T
 refine T.kW.ok S (fun vs H Q E h=>?_) (fun aK A outer s H vs Q E hr h=>?_)
 ·obtain ⟨P0,a,ns,n,rfl,_⟩:=h
  rfl
 ·obtain ⟨P0,a,ns,n,rfl,pc,hS,n1,nG,kk⟩:=h
  refine ⟨_,(@ax _ _ _ _ _ (@aW _ _ 2 _ _ _ _ (by rfl) (by first | exact .inl rfl | exact .inr rfl | assumption) S.nd rfl (Or.inl rfl) (@bZ _ _ _ _ (@aj _ _ _ _ _ (by rfl) (@bZ _ _ _ _ ao) ao)))
   (@ax _ _ _ _ _ (@aW _ _ 3 _ _ _ _ (by rfl) (by first | exact .inl rfl | exact .inr rfl | assumption) S.nd rfl (Or.inl rfl) (@bZ _ _ _ _ ao))
   (@ax _ _ _ _ _ (cR PassesOwn.never rfl (Bg rfl T.e_ (@aj _ _ _ _ _ (by rfl) ay (@aj _ _ _ _ _ (by rfl) (pv 1) ao))) (bR (i:=4) S.nd rfl (Or.inr rfl))
    (@ax _ _ _ _ _ (@aW _ _ 5 _ _ _ _ (by rfl) (by first | exact .inl rfl | exact .inr rfl | assumption) S.nd rfl (Or.inl rfl) (bo cV (hr.mono (by decide)) rfl T.eG T.cU.kp T.eF .nil bH (@aj _ _ _ _ _ (by rfl) (pv 0) (@aj _ _ _ _ _ (by rfl) (pv 4) ao))))
   (@ax _ _ _ _ _ (@aW _ _ 6 _ _ _ _ (by rfl) (by first | exact .inl rfl | exact .inr rfl | assumption) S.nd rfl (Or.inl rfl) (@a9 _ _ _ _ _ _ _ _ rJ (@bZ _ _ _ _ (@aj _ _ _ _ _ (by rfl) (pv 5) ao)) (iX (N:=["_law_i","_law_pen"]) (ρ:=(fun σ=>[σ[0]?.join])) ⟨rfl,rfl,by decide +kernel,by decide +kernel,(List.forall_mem_cons.mpr ⟨rfl,(List.forall_mem_nil _)⟩),fS (by rfl),rfl,by decide +kernel,rfl,(fun σ j v h=>match j,h with | 0,h=>⟨0,_,rfl,rfl,join_some h,Or.inr (Or.inl rfl),.inl rfl,.inl rfl⟩ | j+1,h=>by cases h),(fun _ _=>rfl)⟩ rfl (cZ (@aX _ _ _ _ _ _ _ bC (pv 2) (pv 5) (fun _ _=>rfl))) (fun s₃ H₃ fp=>(.one (@bT _ _ _ _ _ _ _ _ oi (bo cV (hr.mono (by decide)) rfl T.eG T.cU.kp T.eF .nil bH (@aj _ _ _ _ _ (by rfl) (pv 1) (@aj _ _ _ _ _ (by rfl) ay ao))) ay (bG _)))) (fun s₃ H₃ fp=>(pv 0)))))
   (@ax _ _ _ _ _ (@cm _ _ _ _ _ _ _ _ (@bT _ _ _ _ _ _ _ _ fN (bo cV (hr.mono (by decide)) rfl T.eG T.cU.kp T.eF .nil bH (@aj _ _ _ _ _ (by rfl) (pv 0) (@aj _ _ _ _ _ (by rfl) ay ao))) ay (bG _)) (@aC _ _ _ (@aW _ _ 6 _ _ _ _ (by rfl) (by first | exact .inl rfl | exact .inr rfl | assumption) S.nd rfl (Or.inl rfl) (@bZ _ _ _ _ ao))) cE)
   (@ax _ _ _ _ _ (dq (dO PySem.F.plainAttrs_list PySem.F.slot_list_append PySem.F.type_list_append ei (pv 2) (@aj _ _ _ _ _ (by rfl) (pv 6) ao)))
   (@aC _ _ _ (dq (dO PySem.F.plainAttrs_list PySem.F.slot_list_extend PySem.F.type_list_extend wD (pv 3) (@aj _ _ _ _ _ (by rfl) (iX (N:=["_law_i","_law_j"]) (ρ:=(fun σ=>[σ[4]?.join])) ⟨rfl,rfl,by decide +kernel,by decide +kernel,(List.forall_mem_cons.mpr ⟨rfl,(List.forall_mem_nil _)⟩),fS (by rfl),rfl,by decide +kernel,rfl,(fun σ j v h=>match j,h with | 0,h=>⟨4,_,rfl,rfl,join_some h,Or.inr (Or.inl rfl),.inl rfl,.inl rfl⟩ | j+1,h=>by cases h),(fun _ _=>rfl)⟩ rfl (cZ (pv 6)) (fun s₃ H₃ fp=>.nil) (fun s₃ H₃ fp=>(@gR _ _ _ _ _ (@aj _ _ _ _ _ (by rfl) (pv 0) (@aj _ _ _ _ _ (by rfl) (pv 1) ao))))) ao)))))))))
   (@aC _ _ _ (@bL _ _ _ _ (pv 3)))))),?_⟩
  refine ⟨by show 0≤sizeLine;decide,fun l0 iw=>⟨by show 1≤sizeLine;decide,fun la nI=>?_⟩⟩
  have s1:ae H (upd H l0 (.lst [])):=aG iw
  have e0:upd H l0 (.lst []) l0=some (.lst []):=aq
  generalize upd H l0 (.lst [])=H1 at s1 e0 nI ⊢
  have s2:ae H1 (upd H1 la (.lst [.ref l0])):=aG nI
  have ea:upd H1 la (.lst [.ref l0]) la=some (.lst [.ref l0]):=aq
  dsimp only [aI]
  generalize upd H1 la (.lst [.ref l0])=H2 at s2 ea ⊢
  refine ⟨by show 0≤sizeLine;decide,fun fd bY=>?_⟩
  have s3:ae H2 (upd H2 fd (.lst [])):=aG bY
  have ef:upd H2 fd (.lst []) fd=some (.lst []):=aq
  dsimp only [aI]
  generalize upd H2 fd (.lst [])=H3 at s3 ef ⊢
  have cJ:=s1.trans (s2.trans s3)
  have nJ:la≠P0:=(pc.mono s1).ne nI
  have eK:fd≠P0:=((pc.mono s1).mono s2).ne bY
  have GO:l0≠P0:=pc.ne iw
  have GP:H la=none:=none_of s1 nI
  have qC:H fd=none:=none_of (s1.trans s2) bY
  have af:la≠fd:=fun e=>by rw [e,bY] at ea;cases ea
  refine ⟨_,rfl,_,_,rfl,⟨by decide,by decide,by omega,by omega⟩,?_⟩
  rw [show ((n:Int)-1).toNat=n-1 by omega]
  refine l_ (fun k σ Hc=>∃(vs us:List V) (L:List (Int×Int)) (D:Nat→List Nat) (v4 v5 v6:Option V),σ=[some (.ref P0),some (.int (n:Int)),some (.ref la),some (.ref fd),v4,v5,v6]∧av P0 H Hc∧a7 Hc P0 a∧Hc la=some (.lst vs)∧Ee (er P0 Hc) vs (k+1) D∧(∀(i:Nat) (b:Addr),vs[i]?=some (V.ref b)→b≠la∧b≠fd)∧Hc fd=some (.lst us)∧aN (er P0 Hc) us L∧gx (k+1) L) ?_ ?_ ?_
  ·refine ⟨[.ref l0],[],[],fun _=>[],_,_,_,rfl,av.of cJ,pc.mono cJ,s3 _ _ ea,⟨rfl,fun k hk=>⟨cO.nil k,l0,by rw [show k=0 by omega];rfl,?_⟩⟩,fun i b hb=>?_,ef,aN.nil _,gx.nil⟩
   ·rw [cG GO]
    exact s3 _ _ (s2 _ _ e0)
   ·match i,hb with
    | 0,hb=>
     cases hb
     exact ⟨(fun e=>by rw [e,nI] at e0;cases e0),(fun e=>by rw [←e] at bY;rw [s2 _ _ e0] at bY;cases bY)⟩
    | i+1,hb=>simp at hb
  ·rintro k σ Hc hk ⟨vs,us,L,D,v4,v5,v6,rfl,sc,p1,qD,ah,ap,cg,hL,ok⟩
   refine ⟨_,rfl,_,rfl,P0,a,ns,1+(k:Int),rfl,p1,ae.seq sc hS,by omega,cM.of_lt (by omega) (by omega),fun c H4 c0 c1 s4 p4=>?_⟩
   obtain ⟨c,rfl⟩:=Int.eq_ofNat_of_zero_le c0
   have hc:c<k+1:=by omega
   obtain ⟨fc,b,GQ,nK⟩:=ah.2 c hc
   have GR:b≠P0:=fun z=>by
    rw [z] at nK
    unfold er at nK
    rw [if_pos rfl] at nK
    cases nK
   have GS:=ah.1
   have gF:=sc.trans s4
   have GU:=s4.at nJ qD
   have zG:H4 b=some (.lst (cz (D c))):=oW _ _ (s4 _ _ nK)
   dsimp only [aI]
   simp only [List.set_cons_zero,List.set_cons_succ]
   refine ⟨_,rfl,by show 1≤sizeLine;decide,fun lC pC=>?_⟩
   have s5:ae H4 (upd H4 lC (.lst [.int (c:Int)])):=aG pC
   have e5:upd H4 lC (.lst [.int (c:Int)]) lC=some (.lst [.int (c:Int)]):=aq
   have GV:lC≠P0:=p4.ne pC
   generalize upd H4 lC (.lst [.int (c:Int)])=H5 at s5 e5 ⊢
   have lD:(D c).length≤30:=Nat.le_trans fc.len (by omega)
   have lV:(cz (D c)).length≤30:=by unfold cz;rw [List.length_map];exact lD
   have iy:=gF.trans (av.of s5)
   refine Ec (K:=K) (l:=b) (xs:=cz (D c)) (bV (by omega)) GR (s5 _ _ zG) (p4.mono s5) (fun R h=>⟨_,rfl,_,rfl,la,vs,_,.ref b,rfl,rfl,.of (s5 _ _ GU),gT GQ,b,rfl,⟨_,.of (s5 _ _ zG)⟩,h⟩) (fun i x hx Hx R sx px k=>⟨_,rfl,P0,a,ns,3,rfl,px,ae.seq (iy.trans sx) hS,by decide,cM.of_lt (by decide) (by decide),fun c' H' _ _ s' p'=>⟨_,_,rfl,rfl,_,rfl,k _ H' s' p'⟩⟩) (fun x Hx R h=>⟨_,rfl,h⟩) fun D' ys Hx Lu Lv sx px sub GW=>?_
   obtain ⟨e,wK,rfl⟩:=sU sub
   have fe:=(fc.sub wK).put hc
   have Lw:(cz e).length≤30:=Nat.le_trans sub.length_le lV
   refine ⟨lC,D',_,_,rfl,rfl,sx.at GV e5,GW,Nat.le_trans (show _≤900 by simp;omega) (by decide),fun c2 n2=>?_⟩
   have s6:ae Hx (upd Hx c2 (.lst ([.int (c:Int)]++cz e))):=aG n2
   have e6:upd Hx c2 (.lst ([.int (c:Int)]++cz e)) c2=some (.lst (cz (c::e))):=aq
   have zH:=(iy.trans sx).trans (av.of s6)
   have p6:=px.mono s6
   have ue:av P0 H4 (upd Hx c2 (.lst ([.int (c:Int)]++cz e))):=(av.of s5).trans (sx.trans (av.of s6))
   have uf:c2≠P0:=px.ne n2
   have f2:er P0 Hc c2=none:=none_of (s4.trans ((av.of s5).trans sx)) (by rw [cG uf];exact n2)
   dsimp only [aI]
   generalize upd Hx c2 (.lst ([.int (c:Int)]++cz e))=H6 at s6 e6 zH p6 ue ⊢
   simp only [List.set_cons_zero,List.set_cons_succ]
   refine bD (xG (fun σ Hy=>∃(lc:Addr) (d:List Nat),σ=[some (.ref P0),some (.int (n:Int)),some (.ref la),some (.ref fd),some (.int (1+(k:Int))),some (.int (c:Int)),some (.ref lc)]∧av P0 Hc Hy∧a7 Hy P0 a∧Hy lc=some (.lst (cz d))∧cO (k+1) d∧lc≠P0∧er P0 Hc lc=none) ?_ ?_)
   ·rintro σ Hy ⟨lc,d,rfl,sy,py,fZ,ug,lE,qE⟩
    have ly:lc≠la:=fun z=>by rw [z,cG nJ,qD] at qE;cases qE
    have lf:lc≠fd:=fun z=>by rw [z,cG eK,cg] at qE;cases qE
    have uh:=sy.at nJ qD
    have GX:=sy.at eK cg
    have Lx:d.length≤30:=Nat.le_trans ug.len (by omega)
    dsimp only
    refine ⟨_,rfl,.inl ⟨rfl,_,.of uh⟩,_,rfl,la,vs,_,rfl,rfl,uh,bV (by omega),?_⟩
    have e7:upd Hy la (.lst (vs++[.ref lc])) la=some (.lst (vs++[.ref lc])):=aq
    have k7:∀b o,b≠la→Hy b=some o→upd Hy la (.lst (vs++[.ref lc])) b=some o:=fun b o nb e=>by rw [aA nb];exact e
    have p7:=py.upd (o:=.lst (vs++[.ref lc])) nJ
    have r7:=sV (P:=P0) (H:=Hy) (r:=la) (o:=.lst (vs++[.ref lc]))
    have nM:av P0 H (upd Hy la (.lst (vs++[.ref lc]))):=(sc.trans sy).but GP
    generalize upd Hy la (.lst (vs++[.ref lc]))=H7 at e7 k7 p7 r7 nM ⊢
    have uj:=k7 fd _ (fun z=>af z.symm) GX
    have um:=k7 lc _ ly fZ
    have GY:(cz d).length=d.length:=by unfold cz;rw [List.length_map]
    refine ⟨_,rfl,.inl ⟨rfl,_,.of uj⟩,xc (xs:=cz d) (fun R h=>⟨_,rfl,lc,rfl,⟨_,.of um⟩,h _ _ (ae.refl _) (iZ (.of um))⟩) (bV (by omega)) (fun _ i y Hz=>∃(b:Addr) (x:Nat),y=.ref b∧d[i]?=some x∧Hz b=some (.tup [.int (x:Int),.int (1+(k:Int))])) (fun Dd i y Ha Hb ys ⟨b,x,h1,h2,h3⟩ e f=>⟨b,x,h1,h2,f b _ (fun z=>by rw [z,e] at h3;cases h3) h3⟩) ?_ ?_⟩
    ·intro Dd i x hx Hz R sz _ kz
     obtain ⟨y,hy,rfl⟩:=Ef hx
     refine ⟨_,rfl,_,rfl,by show 2≤sizeLine;decide,fun tp fG=>?_⟩
     exact kz _ _ (aG fG) ⟨tp,y,rfl,hy,aq⟩
    ·intro Dd zs H8 Gu s8 GZ G0 uc
     have lL:=hL.1
     have l2:us.length≤450:=by
      have:=ok.bQ
      have:(k+1)*(k+1-1)≤30*30:=Nat.mul_le_mul (by omega) (by omega)
      omega
     refine ⟨fd,Dd,us,zs,rfl,rfl,s8 _ _ uj,uc,Nat.le_trans (show _≤900 by omega) (by decide),?_⟩
     have k9:∀b o,b≠fd→H8 b=some o→upd H8 fd (.lst (us++zs)) b=some o:=fun b o nb e=>by rw [aA nb];exact e
     have p8:=p7.mono s8
     have r9:=sV (P:=P0) (H:=H8) (r:=fd) (o:=.lst (us++zs))
     have zI:er P0 H8 fd=some (.lst us):=by rw [cG eK];exact s8 _ _ uj
     have G1:er P0 Hy la=some (.lst vs):=by rw [cG nJ];exact uh
     refine ⟨vs++[.ref lc],us++zs,L++d.map fun(x:Nat)=>((x:Int),((k+1:Nat):Int)),fun i=>if i=k+1 then d else D i,_,_,_,rfl,(nM.trans (av.of s8)).but qC,p8.upd eK,k9 la _ af (s8 _ _ e7),⟨by simp [GS],fun i hi=>?_⟩,fun i b' nN=>?_,aq,?_,ok.more ug⟩
     ·dsimp only
      by_cases z:i=k+1
      ·subst z
       rw [if_pos rfl]
       refine ⟨ug,lc,by rw [List.getElem?_append_right (by omega),show k+1-vs.length=0 by omega];rfl,?_⟩
       exact r9 _ _ lf (by rw [cG lE];exact s8 _ _ um)
      ·rw [if_neg z]
       obtain ⟨f1,b1,v1,h1⟩:=ah.2 i (by omega)
       obtain ⟨a1,a2⟩:=ap i b1 v1
       refine ⟨f1,b1,by rw [List.getElem?_append_left (by omega)];exact v1,?_⟩
       exact r9 _ _ a2 (oX s8 _ _ (r7 _ _ a1 (sy _ _ h1)))
     ·by_cases z:i<vs.length
      ·rw [List.getElem?_append_left z] at nN
       exact ap i b' nN
      ·have aR:=(List.getElem?_eq_some_iff.mp nN).1
       rw [List.length_append,List.length_singleton] at aR
       rw [List.getElem?_append_right (by omega),show i-vs.length=0 by omega] at nN
       cases nN
       exact ⟨ly,lf⟩
     ·refine aN.cat ?_ ?_
      ·exact (((hL.mono sy).aZ G1 r7).mono (oX s8)).aZ zI r9
      ·refine aN.aZ (H:=er P0 H8) ⟨by rw [GZ,GY,List.length_map],fun i v p h1 h2=>?_⟩ zI r9
       obtain ⟨b',x,rfl,hx,e'⟩:=G0 i v h1
       rw [List.getElem?_map,hx] at h2
       cases h2
       refine ⟨b',rfl,?_⟩
       rw [show (((k+1:Nat):Int))=1+(k:Int) by omega]
       exact mY p8 e'
   ·intro R hR
    refine ⟨_,rfl,P0,a,ns,9,rfl,p6,ae.seq zH hS,by decide,cM.of_lt (by decide) (by decide),fun c' H7 _ _ s7 p7=>⟨rfl,_,rfl,b8 (fun _=>?_) (fun _=>?_)⟩⟩
    ·refine ⟨by show 0≤sizeLine;decide,fun lc lE=>?_⟩
     have nP:=p7.ne lE
     have zJ:=s4.trans (ue.trans s7)
     exact hR _ _ ⟨lc,[],rfl,zJ.trans (av.of (aG lE)),p7.mono (aG lE),aq,cO.nil _,nP,none_of zJ (by rw [cG nP];exact lE)⟩
    ·exact hR _ _ ⟨c2,c::e,rfl,s4.trans (ue.trans s7),p7,s7.at uf e6,fe,uf,f2⟩
  ·rintro σ Hc ⟨vs,us,L,D,v4,v5,v6,rfl,sc,p1,qD,ah,ap,cg,hL,ok⟩
   rw [show n-1+1=n by omega] at ok
   exact ⟨_,rfl,kk fd us L Hc sc p1 (by rw [cG eK];exact qC) eK cg hL ok.ok⟩
theorem G2:bP ["_law_pen","_law_most","_law_size","_law_way","_law_wide","_law_links","_law_j","_law_i"] ["_law_pen","_law_most"] (bu qc):=⟨rfl,rfl,rfl,by decide +kernel,rfl,by decide +kernel,by decide +kernel⟩
theorem G3(T:Txt K mg t):bA P w K mg base bU 4 t.jv t.kA ["_law_pen","_law_most"] (Ei K):=by
 have S:=G2
 have cV:=lA (P:=P) (w:=w) (base:=base) T
 have G4:=GI (P:=P) (w:=w) (base:=base) T
 have G5:=GN (P:=P) (w:=w) (base:=base) T
 have uo:=zB (P:=P) (w:=w) (base:=base) T
 have G6:=GK (P:=P) (w:=w) (base:=base) T
 refine T.kX.ok S (fun vs H Q E h=>?_) (fun aK A outer s H vs Q E hr h=>?_)
 ·obtain ⟨P0,a,ns,most,rfl,_⟩:=h
  rfl
 ·obtain ⟨P0,a,ns,most,rfl,pc,hS,m1,Ly,kk⟩:=h
  refine ⟨_,(@ax _ _ _ _ _ (@aW _ _ 2 _ _ _ _ (by rfl) (by first | exact .inl rfl | exact .inr rfl | assumption) S.nd rfl (Or.inl rfl) (@a9 _ _ _ _ _ _ _ _ fi ay (bo cV (hr.mono (by decide)) rfl T.eG T.cU.kp T.eF .nil bH (@aj _ _ _ _ _ (by rfl) (pv 0) (@aj _ _ _ _ _ (by rfl) (pv 1) ao)))))
   (@ax _ _ _ _ _ (@aW _ _ 3 _ _ _ _ (by rfl) (by first | exact .inl rfl | exact .inr rfl | assumption) S.nd rfl (Or.inl rfl) (bo cV (hr.mono (by decide)) rfl T.eG T.cU.kp T.eF .nil bH (@aj _ _ _ _ _ (by rfl) (pv 0) (@aj _ _ _ _ _ (by rfl) ay ao))))
   (@ax _ _ _ _ _ (@aW _ _ 4 _ _ _ _ (by rfl) (by first | exact .inl rfl | exact .inr rfl | assumption) S.nd rfl (Or.inl rfl) (bo cV (hr.mono (by decide)) rfl T.eG T.cU.kp T.eF .nil bH (@aj _ _ _ _ _ (by rfl) (pv 0) (@aj _ _ _ _ _ (by rfl) (pv 2) ao))))
   (@ax _ _ _ _ _ (@aW _ _ 5 _ _ _ _ (by rfl) (by first | exact .inl rfl | exact .inr rfl | assumption) S.nd rfl (Or.inl rfl) (@bZ _ _ _ _ ao))
   (@ax _ _ _ _ _ (cR PassesOwn.never rfl (jL rfl T.e_ (@aj _ _ _ _ _ (by rfl) (pv 2) ao)) (bR (i:=6) S.nd rfl (Or.inl rfl))
    (@aC _ _ _ (cR PassesOwn.never rfl (jL rfl T.e_ (@aj _ _ _ _ _ (by rfl) (pv 6) ao)) (bR (i:=7) S.nd rfl (Or.inl rfl))
    (@aC _ _ _ (@cm _ _ _ _ _ _ _ _ (lS (bo G4 (hr.mono (by decide)) rfl T.yN T.kU.kp T.yM .nil bH (@aj _ _ _ _ _ (by rfl) (pv 0) (@aj _ _ _ _ _ (by rfl) (pv 3) (@aj _ _ _ _ _ (by rfl) (pv 2) (@aj _ _ _ _ _ (by rfl) (pv 4) (@aj _ _ _ _ _ (by rfl) (pv 7) (@aj _ _ _ _ _ (by rfl) (pv 6) ao)))))))) (@aC _ _ _ (dq (dO PySem.F.plainAttrs_list PySem.F.slot_list_append PySem.F.type_list_append ei (pv 5) (@aj _ _ _ _ _ (by rfl) (@gR _ _ _ _ _ (@aj _ _ _ _ _ (by rfl) (pv 7) (@aj _ _ _ _ _ (by rfl) (pv 6) ao))) ao)))) cE)))))
   (@ax _ _ _ _ _ (@cm _ _ _ _ _ _ _ _ (@bT _ _ _ _ _ _ _ _ fN (pv 3) ay (bG _)) (@aC _ _ _ (@aW _ _ 5 _ _ _ _ (by rfl) (by first | exact .inl rfl | exact .inr rfl | assumption) S.nd rfl (Or.inl rfl) (bo G5 (hr.mono (by decide)) rfl T.yP T.kW.kp T.yO .nil bH (@aj _ _ _ _ _ (by rfl) (pv 0) (@aj _ _ _ _ _ (by rfl) (pv 2) ao))))) cE)
   (@aC _ _ _ (@bL _ _ _ _ (bo G6 (hr.mono (by decide)) rfl T.yT T.kY.kp T.yS .nil bH (@aj _ _ _ _ _ (by rfl) (pv 2) (@aj _ _ _ _ _ (by rfl) (pv 5) (@aj _ _ _ _ _ (by rfl) (bo uo (hr.mono (by decide)) rfl T.tP T.jE.kp T.tO .nil bH (@aj _ _ _ _ _ (by rfl) (pv 0) (@aj _ _ _ _ _ (by rfl) (d_ (oQ rfl) rfl T.iu boot_list (@aj _ _ _ _ _ (by rfl) (d_ oP rfl T.e_ oR (@aj _ _ _ _ _ (by rfl) (pv 2) ao)) ao)) ao))) ao)))))))))))),?_⟩
  refine ⟨_,rfl,_,rfl,P0,a,ns,(most:Int),rfl,pc,hS,by omega,cM.of_lt (by omega) (by omega),fun c H1 c0 c1 s1 p1=>⟨_,_,rfl,rfl,?_⟩⟩
  obtain ⟨c,rfl⟩:=Int.eq_ofNat_of_zero_le c0
  dsimp only [aI]
  rw [show 1+(c:Int)=((c+1:Nat):Int) by omega]
  have n1:1≤c+1:=by omega
  have nm:c+1≤most:=by omega
  generalize c+1=n at n1 nm ⊢
  have iz:aS K (er P0 H1) a (ns.map V.int):=ae.seq s1 hS
  refine ⟨_,rfl,P0,a,ns,6,rfl,p1,iz,by decide,cM.of_lt (by decide) (by decide),fun way H2 _ _ s2 p2=>?_⟩
  have eI:=s1.trans s2
  dsimp only [aI]
  refine ⟨_,rfl,_,rfl,P0,a,ns,(n:Int),rfl,p2,ae.seq eI hS,by omega,cM.of_lt (by omega) (by omega),fun wide H3 _ _ s3 p3=>?_⟩
  have cJ:=eI.trans s3
  dsimp only [aI]
  refine ⟨by show 0≤sizeLine;decide,fun fd bY=>?_⟩
  have s4:ae H3 (upd H3 fd (.lst [])):=aG bY
  have ef:upd H3 fd (.lst []) fd=some (.lst []):=aq
  dsimp only [aI]
  generalize upd H3 fd (.lst [])=H4 at s4 ef ⊢
  have gD:=cJ.trans (av.of s4)
  have p4:=p3.mono s4
  have eK:fd≠P0:=p3.ne bY
  have zK:er P0 H fd=none:=none_of cJ (by rw [cG eK];exact bY)
  have qC:H fd=none:=by rw [cG eK] at zK;exact zK
  refine ⟨_,rfl,(n:Int),rfl,by omega,by omega,?_⟩
  rw [Int.toNat_natCast]
  refine l_ (fun j σ Hc=>∃(us:List V) (L:List (Int×Int)) (v6 v7:Option V),σ=[some (.ref P0),some (.int (most:Int)),some (.int (n:Int)),some (.int way),some (.int wide),some (.ref fd),v6,v7]∧av P0 H Hc∧a7 Hc P0 a∧Hc fd=some (.lst us)∧aN (er P0 Hc) us L∧de j 0 L) ⟨[],[],_,_,rfl,gD,p4,ef,aN.nil _,de.start⟩ ?_ ?_
  ·rintro j σ Hc hj ⟨us,L,v6,v7,rfl,sc,p5,cg,hL,ok⟩
   dsimp only [aI]
   simp only [List.set_cons_zero,List.set_cons_succ]
   refine ⟨_,rfl,(j:Int),by rw [Int.zero_add],by omega,by omega,?_⟩
   rw [Int.toNat_natCast]
   refine l_ (fun i σ Hd=>∃(us:List V) (L:List (Int×Int)) (v7:Option V),σ=[some (.ref P0),some (.int (most:Int)),some (.int (n:Int)),some (.int way),some (.int wide),some (.ref fd),some (.int (0+(j:Int))),v7]∧av P0 H Hd∧a7 Hd P0 a∧Hd fd=some (.lst us)∧aN (er P0 Hd) us L∧de j i L) ⟨us,L,_,rfl,sc,p5,cg,hL,ok⟩ ?_ ?_
   ·rintro i σ Hd hi ⟨us,L,v7,rfl,sd,p6,cg,hL,ok⟩
    refine ⟨_,rfl,_,rfl,_,rfl,_,rfl,_,rfl,_,rfl,P0,a,ns,way,(n:Int),wide,0+(i:Int),0+(j:Int),rfl,p6,ae.seq sd hS,fun b He se pe=>?_⟩
    have ur:=se.at eK cg
    have zL:=hL.mono se
    have lL:=hL.1
    have l2:us.length≤900:=by
     have:=ok.bQ
     have:j*(j-1)≤30*30:=Nat.mul_le_mul (by omega) (by omega)
     omega
    cases b with
    | true=>
     refine ⟨true,rfl,rQ ?_⟩
     refine ⟨_,rfl,.inl ⟨rfl,_,.of ur⟩,_,rfl,_,rfl,by show 2≤sizeLine;decide,fun tp fG=>?_⟩
     have st:ae He (upd He tp (.tup [.int (0+(i:Int)),.int (0+(j:Int))])):=aG fG
     have et:upd He tp (.tup [.int (0+(i:Int)),.int (0+(j:Int))]) tp=some (.tup [.int (i:Int),.int (j:Int)]):=by rw [aq,Int.zero_add,Int.zero_add]
     generalize upd He tp (.tup [.int (0+(i:Int)),.int (0+(j:Int))])=Hf at st et ⊢
     have pf:=pe.mono st
     have zM:=st _ _ ur
     refine ⟨fd,us,_,rfl,rfl,zM,bV (by omega),us++[.ref tp],L++[((i:Int),(j:Int))],_,rfl,((sd.trans se).trans (av.of st)).but qC,pf.upd eK,aq,?_,ok.push hi⟩
     refine aN.aZ (H:=er P0 Hf) ((zL.mono (oX st)).push (mY pf et)) (by rw [cG eK];exact zM) sV
    | false=>
     exact ⟨false,rfl,iV ⟨us,L,_,rfl,sd.trans se,pe,ur,zL,ok.skip⟩⟩
   ·rintro σ Hd ⟨us,L,v7,rfl,sd,p6,cg,hL,ok⟩
    exact ⟨us,L,_,_,rfl,sd,p6,cg,hL,ok.next⟩
  ·rintro σ Hc ⟨us,L,v6,v7,rfl,sc,p5,cg,hL,ok⟩
   dsimp only
   refine bD (xG (fun σ Hy=>∃(lk:Addr) (us:List V) (L:List (Int×Int)),σ=[some (.ref P0),some (.int (most:Int)),some (.int (n:Int)),some (.int way),some (.int wide),some (.ref lk),v6,v7]∧av P0 H Hy∧a7 Hy P0 a∧lk≠P0∧Hy lk=some (.lst us)∧aN (er P0 Hy) us L∧eY n L) ?_ ?_)
   ·rintro σ Hy ⟨lk,us,L,rfl,sy,py,G7,G8,hL,ok⟩
    dsimp only
    refine ⟨_,rfl,_,rfl,_,rfl,_,rfl,(n:Int),rfl,fun pr G9=>?_⟩
    have s6:ae Hy (upd Hy pr (.cX 0 (n:Int))):=aG G9
    refine ⟨pr,n,rfl,aq,by omega,fun l0 n0=>?_⟩
    have s7:=s6.trans (aG (o:=.lst (bK n)) n0)
    have e0:upd (upd Hy pr (.cX 0 (n:Int))) l0 (.lst (bK n)) l0=some (.lst (bK n)):=aq
    have iw:l0≠P0:=(py.mono s6).ne n0
    generalize upd (upd Hy pr (.cX 0 (n:Int))) l0 (.lst (bK n))=Hz at s7 e0 ⊢
    have lu:(bK n).length=n:=by unfold bK;simp
    refine ⟨P0,a,l0,ns,bK n,rfl,py.mono s7,ae.seq (sy.trans (av.of s7)) hS,iw,e0,by omega,fun r ys Hw sw pw fr nr nH pm=>?_⟩
    obtain ⟨G_,ly,hy,NO⟩:=Eh pm
    have qF:=(av.of s7).trans sw
    refine ⟨lk,r,n,us,ys,L,G_,rfl,qF.at G7 G8,(hL.mono qF).mono oW,ok,by omega,nH,ly,hy,NO,fun tt L' Hv sv zN sh uu Hi Lz=>?_⟩
    have nt:tt≠P0:=pw.ne zN
    exact kk tt n L' Hv ((sy.trans qF).trans (av.of sv)) (pw.mono sv) (none_of (sy.trans qF) (by rw [cG nt];exact zN)) nt (sh.er (pw.mono sv)) uu Hi n1 nm
   ·intro R hR
    refine ⟨_,rfl,rfl,_,rfl,b8 (fun _=>?_) (fun _=>?_)⟩
    ·refine ⟨_,rfl,_,rfl,P0,a,ns,n,rfl,p5,ae.seq sc hS,n1,by omega,fun r zO L' Hy sy py fr nr nH Hj uu=>?_⟩
     exact hR _ _ ⟨r,zO,L',rfl,sc.trans sy,py,nr,nH,Hj,uu⟩
    ·exact hR _ _ ⟨fd,us,L,rfl,sc,p5,eK,cg,hL,ok.ok⟩
theorem Hk:bP ["_law_shape","_law_found","_law_i","_law_j"] ["_law_shape"] (bu qe):=⟨rfl,rfl,rfl,by decide +kernel,rfl,by decide +kernel,by decide +kernel⟩
theorem zP(T:Txt K mg t):bA P w K mg base bU 1 t.jx t.kC ["_law_shape"] Fs:=by
 have S:=Hk
 refine T.jF.ok S (fun vs H Q E h=>?_) (fun aK A outer s H vs Q E hr h=>?_)
 ·obtain ⟨tp,n,L,rfl,_⟩:=h
  rfl
 ·obtain ⟨tp,n,L,rfl,⟨lt,us,cI,elt,hL⟩,ok,n9,l2,kk⟩:=h
  have tU:((List.range n).map fun i:Nat=>V.int (0+(i:Int))).length=n:=by rw [List.length_map,List.length_range]
  refine ⟨_,(@ax _ _ _ _ _ (rV (i0:=1) (N:=["_law_k"]) (ρ:=(fun σ=>[])) ⟨rfl,rfl,by decide +kernel,by decide +kernel,(List.forall_mem_nil _),fS (by rfl),rfl,by decide +kernel,rfl,(fun σ j v h=>match j,h with | j,h=>by cases h),(fun _ _=>rfl)⟩ rfl S.nd rfl (Or.inl rfl) (jL rfl T.e_ (@aj _ _ _ _ _ (by rfl) (@aX _ _ _ _ _ _ _ fR (pv 0) ay (fun _ _=>rfl)) ao)) (fun s₃ H₃ fp=>.nil) (fun s₃ H₃ fp=>(@bZ _ _ _ _ ao)))
   (@ax _ _ _ _ _ (cR PassesOwn.never rfl (vF (@aX _ _ _ _ _ _ _ fR (pv 0) ay (fun _ _=>rfl))) (lZ rfl (fL (bR (i:=2) S.nd rfl (Or.inl rfl)) (fL (bR (i:=3) S.nd rfl (Or.inl rfl)) lY)))
    (@ax _ _ _ _ _ (dq (dO PySem.F.plainAttrs_list PySem.F.slot_list_append PySem.F.type_list_append ei (@aX _ _ _ _ _ _ _ bC (pv 1) (pv 2) (fun _ _=>rfl)) (@aj _ _ _ _ _ (by rfl) (pv 3) ao)))
   (@aC _ _ _ (dq (dO PySem.F.plainAttrs_list PySem.F.slot_list_append PySem.F.type_list_append ei (@aX _ _ _ _ _ _ _ bC (pv 1) (pv 3) (fun _ _=>rfl)) (@aj _ _ _ _ _ (by rfl) (pv 2) ao))))))
   (@aC _ _ _ (@bL _ _ _ _ (pv 1))))),?_⟩
  refine bD (g_ (r_ (xs:=(List.range n).map fun i:Nat=>V.int (0+(i:Int))) (n:=n) tU (fun R h=>⟨_,rfl,tp,_,_,_,rfl,rfl,.of cI,rfl,(n:Int),rfl,by omega,by omega,h _ _ (ae.refl _) (by rw [Int.toNat_natCast];exact wZ)⟩) (bV (by omega)) (fun _ i y Hx=>Hx y=some (.lst [])∧H y=none) ?_ ?_ ?_))
  ·intro D i y Ha Hb ys ⟨h1,h2⟩ hy e f
   exact ⟨f y _ hy h1,h2⟩
  ·intro D i x hx Hc R sc _ kc
   exact ⟨Nat.zero_le _,fun p np=>kc p _ (dA (ae.refl _) np) np ⟨_,aq⟩ ⟨aq,none_of sc np⟩⟩
  ·intro D rs H1 nD s1 inj hA eD
   have K0:eE H1 D n rs (fun _=>[]):=⟨eD,inj,fun i hi=>(hA i hi).2,fun i hi=>(hA i hi).1.1⟩
   have fr:∀i,i<n→H (rs i)=none:=fun i hi=>(hA i hi).1.2
   dsimp only [aI]
   refine bD ⟨_,rfl,tp,_,_,_,rfl,rfl,.of (s1 _ _ cI),rfl,lt,rfl,⟨_,.of (s1 _ _ elt)⟩,?_⟩
   refine vJ (K:=K) (a:=lt) (xs:=us) (fun k σ Hc=>∃(g:Nat→List Nat) (v2 v3:Option V),σ=[some (.ref tp),some (.ref D),v2,v3]∧ae H Hc∧eE Hc D n rs g∧df n (L.take k) g∧∀a,(g a).length≤2*k) ⟨_,_,_,rfl,s1,K0,df.nil n,fun _=>Nat.le_refl _⟩ (fun k σ Hc _ ⟨_,_,_,_,sc,_⟩=>.of (sc _ _ elt)) ?_ ?_
   ·rintro k x σ Hc hx ⟨g,v2,v3,rfl,sc,KL,nb,gl⟩
    have hk:k<L.length:=by
     rw [←hL.1]
     exact (List.getElem?_eq_some_iff.mp hx).1
    obtain ⟨b,rfl,eb⟩:=hL.2 k x L[k] hx (by simp [hk])
    have pk:=ok L[k] (List.getElem_mem hk)
    have tk:L.take (k+1)=L.take k++[L[k]]:=by rw [List.take_succ,List.getElem?_eq_getElem hk];rfl
    generalize L[k]=p at eb pk tk
    obtain ⟨p1,p2⟩:=p
    dsimp only at pk eb
    obtain ⟨i,rfl⟩:=Int.eq_ofNat_of_zero_le pk.1
    obtain ⟨j,rfl⟩:=Int.eq_ofNat_of_zero_le pk.2.2.1
    have hi:i<n:=by omega
    have hj:j<n:=by omega
    refine ⟨b,_,rfl,.of (sc _ _ eb),rfl,_,_,rfl,_,_,rfl,rfl,?_⟩
    have off:∀(Hx:Hp) (i:Nat) (o:HO),i<n→ae H Hx→ae H (upd Hx (rs i) o):=fun Hx i o hi sx a u e=>by
     rw [aA (fun z=>by rw [z,fr i hi] at e;cases e)]
     exact sx _ _ e
    have K1:=KL.snoc j hi
    have K2:=K1.snoc i hj
    have g1:=gl i
    have g2:(gB g i j j).length≤2*k+1:=Nat.le_trans tF (by have:=gl j;omega)
    refine ⟨_,rfl,_,rfl,D,_,_,_,rfl,rfl,.of KL.lst,ic hi,.inl ⟨rfl,_,.of (KL.at' i hi)⟩,_,rfl,rs i,_,_,rfl,rfl,KL.at' i hi,bV (by rw [List.length_map];omega),?_⟩
    refine ⟨_,rfl,_,rfl,D,_,_,_,rfl,rfl,.of K1.lst,ic hj,.inl ⟨rfl,_,.of (K1.at' j hj)⟩,_,rfl,rs j,_,_,rfl,rfl,K1.at' j hj,bV (by rw [List.length_map];omega),?_⟩
    exact ⟨_,_,_,rfl,off _ _ _ hj (off _ _ _ hi sc),K2,by rw [tk];exact nb.snoc,fun a=>Nat.le_trans tF (by have:=tF (g:=g) (i:=i) (j:=j) (a:=a);have:=gl a;omega)⟩
   ·rintro σ Hc ⟨g,v2,v3,rfl,sc,KL,nb,gl⟩
    rw [hL.1,List.take_length] at nb
    rw [hL.1] at gl
    exact ⟨_,rfl,kk _ _ _ _ sc nD fr KL nb gl⟩
theorem Hl:bP ["_law_beside_here","_law_through","_law_start","_law_met","_law_row","_law_other"] ["_law_beside_here","_law_through","_law_start"] (bu qf):=⟨rfl,rfl,rfl,by decide +kernel,rfl,by decide +kernel,by decide +kernel⟩
theorem Hm(T:Txt K mg t):bA P w K mg base bU 1 t.jy t.kD ["_law_beside_here","_law_through","_law_start"] Fo:=by
 have S:=Hl
 refine T.kZ.ok S (fun vs H Q E h=>?_) (fun aK A outer s H vs Q E hr h=>?_)
 ·obtain ⟨D,d,n,rs,g,done,p,rfl,_⟩:=h
  rfl
 ·obtain ⟨D,d,n,rs,g,done,p,rfl,KL,gn,ed,ld,pn,Gg,kk⟩:=h
  have hu:=Nat.lt_of_le_of_lt (Nat.add_le_add_left (show 1≤64 by decide) _) hr.units
  have dh:=hr.units
  refine ⟨_,(@ax _ _ _ _ _ (@aW _ _ 3 _ _ _ _ (by rfl) (by first | exact .inl rfl | exact .inr rfl | assumption) S.nd rfl (Or.inl rfl) (EC (EA (pv 2) gb Ez) rfl rfl (fun h=>by cases h) (by decide)))
   (@ax _ _ _ _ _ (@aW _ _ 4 _ _ _ _ (by rfl) (by first | exact .inl rfl | exact .inr rfl | assumption) S.nd rfl (Or.inl rfl) (@bZ _ _ _ _ (@aj _ _ _ _ _ (by rfl) (pv 2) ao)))
   (@ax _ _ _ _ _ (@q5 _ _ _ _ _ _ PassesOwn.never (@bT _ _ _ _ _ _ _ _ (pF dh) (pv 4) (@bZ _ _ _ _ ao) (bG _)) (@aC _ _ _ (cR PassesOwn.never rfl (cZ (@aX _ _ _ _ _ _ _ bC (pv 0) (BX PySem.F.plainAttrs_list PySem.F.slot_list_pop PySem.F.type_list_pop B5 (pv 4)) (fun _ _=>rfl))) (bR (i:=5) S.nd rfl (Or.inl rfl))
    (@aC _ _ _ (@cm _ _ _ _ _ _ _ _ (vy (Ew hu (pv 5) (pv 3)) rfl) (@ax _ _ _ _ _ (pK hu (pv 3) (pv 5) gb rfl)
   (@aC _ _ _ (@cm _ _ _ _ _ _ _ _ (@bT _ _ _ _ _ _ _ _ wy (pv 5) (pv 1) rfl) (@aC _ _ _ (dq (dO PySem.F.plainAttrs_list PySem.F.slot_list_append PySem.F.type_list_append ei (pv 4) (@aj _ _ _ _ _ (by rfl) (pv 5) ao)))) cE))) cE)))))
   (@aC _ _ _ (@bL _ _ _ _ (pv 3)))))),?_⟩
  refine bD (g_ fun mt lF=>⟨_,rfl,aq,[((Sum.inl (p:Int):Key),V.bl true)],rfl,by show 1≤15;decide,?_⟩)
  have s0:∀b o,b≠mt→H b=some o→upd (upd H mt (.dK [])) mt (.dK (hZ [] [((Sum.inl (p:Int):Key),V.bl true)])) b=some o:=fun b o ne e=>by rw [aA ne,aA ne];exact e
  have em:upd (upd H mt (.dK [])) mt (.dK (hZ [] [((Sum.inl (p:Int):Key),V.bl true)])) mt=some (.dK (dk [p])):=by rw [aq];rfl
  generalize upd (upd H mt (.dK [])) mt (.dK (hZ [] [((Sum.inl (p:Int):Key),V.bl true)]))=H1 at s0 em ⊢
  have sm:ae H H1:=fun b o e=>s0 b o (fun z=>by rw [z,lF] at e;cases e) e
  dsimp only [aI]
  refine ⟨_,rfl,by show 1≤sizeLine;decide,fun l nl=>?_⟩
  have sl:ae H1 (upd H1 l (.lst [V.int (p:Int)])):=aG nl
  have el:upd H1 l (.lst [V.int (p:Int)]) l=some (.lst (([p]:List Nat).map fun k:Nat=>V.int (k:Int))):=aq
  generalize upd H1 l (.lst [V.int (p:Int)])=H2 at sl el ⊢
  have iw:H l=none:=none_of sm nl
  have lm:l≠mt:=fun z=>by rw [z,em] at nl;cases nl
  have s2:=sm.trans sl
  dsimp only [aI]
  refine bD ⟨fun m σ Hc=>∃(ks ws:List Nat) (v5:Option V),σ=[some (.ref D),some (.ref d),some (.int (p:Int)),some (.ref mt),some (.ref l),v5]∧m=2*(n-ks.length)+ws.length∧ae H Hc∧Hc mt=some (.dK (dk ks))∧Hc l=some (.lst (ws.map fun k:Nat=>V.int (k:Int)))∧ck n (ig n g) (·∈done) p none (fun _=>True) ks ws∧ws.length≤ks.length,⟨_,[p],[p],_,rfl,rfl,s2,sl _ _ em,el,ck.start pn,Nat.le_refl _⟩,?_⟩
  rintro m' σ Hc ⟨ks,ws,v5,rfl,LA,oc,zQ,fZ,wk,wl⟩
  have Ho:=wk.pl.len
  refine ⟨_,rfl,by show 0≤sizeLine;decide,fun le nF=>?_⟩
  have s3:ae Hc (upd Hc le (.lst [])):=aG nF
  have e3:upd Hc le (.lst []) le=some (.lst []):=aq
  generalize upd Hc le (.lst [])=Hn at s3 e3 ⊢
  refine ⟨l,le,_,rfl,rfl,.of (s3 _ _ fZ),e3,_,rfl,b8 (fun hz=>?_) (fun hz=>?_)⟩
  ·have zR:ws≠[]:=fun z=>by rw [z] at hz;cases hz
   obtain ⟨us,h,rfl⟩:∃us h,ws=us++[h]:=⟨ws.dropLast,ws.getLast zR,(List.dropLast_concat_getLast zR).symm⟩
   have LB:(us++[h]).length=us.length+1:=by simp
   have hh:=wk.wt h (List.mem_append_right _ (List.mem_singleton.mpr rfl))
   have hn:h<n:=wk.pl.2 h hh.1
   have nO:=wk.pop
   refine ⟨_,fun _ _ h=>h,?_⟩
   refine ⟨_,rfl,_,rfl,.inl ⟨rfl,_,.of (s3 _ _ fZ)⟩,l,_,.int (h:Int),rfl,rfl,s3 _ _ fZ,by simp,?_⟩
   rw [List.map_append,List.map_cons,List.map_nil,List.dropLast_concat]
   have sn:=oc.trans s3
   have o1:∀b u,b≠l→Hn b=some u→upd Hn l (.lst (us.map fun k:Nat=>V.int (k:Int))) b=some u:=fun b u ne e=>by rw [aA ne];exact e
   have zS:upd Hn l (.lst (us.map fun k:Nat=>V.int (k:Int))) l=some (.lst (us.map fun k:Nat=>V.int (k:Int))):=aq
   have zT:∀{Hx Hy:Hp},ae H Hx→(∀b u,b≠l→Hx b=some u→Hy b=some u)→ae H Hy:=fun h k b u e=>k b u (fun z=>by rw [z,iw] at e;cases e) (h b u e)
   have Hq:∀{Hx Hy:Hp},ae H Hx→(∀b u,b≠mt→Hx b=some u→Hy b=some u)→ae H Hy:=fun h k b u e=>k b u (fun z=>by rw [z,lF] at e;cases e) (h b u e)
   have qG:=zT sn o1
   have zU:=o1 _ _ (Ne.symm lm) (s3 _ _ zQ)
   generalize upd Hn l (.lst (us.map fun k:Nat=>V.int (k:Int)))=H3 at o1 zS qG zU ⊢
   refine ⟨D,_,_,_,rfl,rfl,.of (qG _ _ KL.lst),ic hn,rs h,rfl,⟨_,.of (qG _ _ (KL.at' h hn))⟩,?_⟩
   refine gP (K:=K) (a:=rs h) (xs:=(g h).map fun k:Nat=>V.int (k:Int)) (fun i σ He=>∃(ks us:List Nat) (v5:Option V),σ=[some (.ref D),some (.ref d),some (.int (p:Int)),some (.ref mt),some (.ref l),v5]∧ae H He∧He mt=some (.dK (dk ks))∧He l=some (.lst (us.map fun k:Nat=>V.int (k:Int)))∧ck n (ig n g) (·∈done) p (some h) (·∈(g h).take i) ks us∧us.length≤ks.length∧h∈ks∧2*(n-ks.length)+us.length<m') ⟨ks,us,_,rfl,qG,zU,zS,⟨nO.pl,nO.st,nO.rc,nO.wt,fun x hx ox=>(nO.cl x hx ox).imp id fun e b hb=>(e b hb).imp id fun z=>⟨z.1,by simp⟩⟩,by omega,hh.1,by omega⟩ (fun i σ He _ ⟨_,_,_,_,e,_⟩=>.of (e _ _ (KL.at' h hn))) ?_ ?_
   ·rintro i x σ He hx ⟨ks,us,v5,rfl,oe,nQ,qH,iA,ul,gG,lt⟩
    obtain ⟨k,hk,rfl⟩:∃k:Nat,(g h)[i]?=some k∧x=.int (k:Int):=by
     rw [List.getElem?_map] at hx
     cases e:(g h)[i]? with
     | none=>rw [e] at hx;cases hx
     | some q=>rw [e] at hx;exact ⟨q,rfl,(Option.some.inj hx).symm⟩
    have km:k∈g h:=List.mem_of_getElem? hk
    have kn:k<n:=gn h hn k km
    have tk:=take_snoc hk
    have LC:=iA.pl.len
    dsimp only [aI]
    refine ⟨_,rfl,_,rfl,mt,_,rfl,.inl ⟨dk ks,Sum.inl (k:Int),.inl nQ,rfl,rfl⟩,_,rfl,?_⟩
    rw [x5]
    by_cases lG:k∈ks
    ·rw [if_pos lG]
     refine iV ⟨ks,us,_,rfl,oe,nQ,qH,?_,ul,gG,lt⟩
     have w2:=iA.old lG
     refine ⟨w2.pl,w2.st,w2.rc,w2.wt,fun x hx ox=>(w2.cl x hx ox).imp id fun e b hb=>(e b hb).imp id fun z=>⟨z.1,fun q=>z.2 ?_⟩⟩
     rw [tk] at q
     exact (List.mem_append.mp q).imp id List.mem_singleton.mp
    ·rw [if_neg lG]
     refine rQ ?_
     have al:=Fl lG
     have o4:∀b u,b≠mt→He b=some u→upd He mt (.dK (dk (bz ks k))) b=some u:=fun b u ne e=>by rw [aA ne];exact e
     refine bD ⟨_,rfl,_,rfl,mt,upd He mt (.dK (dk (bz ks k))),rfl,.inl ⟨dk ks,Sum.inl (k:Int),nQ,rfl,by rw [xZ];exact bV (by omega),by rw [x4]⟩,?_⟩
     have uv:upd He mt (.dK (dk (bz ks k))) mt=some (.dK (dk (bz ks k))):=aq
     have qI:=Hq oe o4
     have qJ:=o4 _ _ lm qH
     generalize upd He mt (.dK (dk (bz ks k)))=H4 at o4 uv qI qJ ⊢
     have conv:∀{vs:List Nat},ck n (ig n g) (·∈done) p (some h) (fun x=>x∈(g h).take i∨x=k) (bz ks k) vs→ck n (ig n g) (·∈done) p (some h) (·∈(g h).take (i+1)) (bz ks k) vs:=fun w2=>⟨w2.pl,w2.st,w2.rc,w2.wt,fun x hx ox=>(w2.cl x hx ox).imp id fun e b hb=>(e b hb).imp id fun z=>⟨z.1,fun q=>z.2 (by
      rw [tk] at q
      exact (List.mem_append.mp q).imp id List.mem_singleton.mp)⟩⟩
     have LD:=(iA.pl.add kn).len
     dsimp only
     refine ⟨_,rfl,_,rfl,d,_,rfl,.inl (.of (qI _ _ ed)),rfl,Fn done,_,rfl,b8 (fun hb=>?_) (fun hb=>?_)⟩
     ·have hb:jS (.int (k:Int)) (done.map fun k:Nat=>V.int (k:Int))=true:=hb
      rw [ye,decide_eq_true_iff] at hb
      refine ⟨_,rfl,.inl ⟨rfl,_,.of qJ⟩,_,rfl,l,_,_,rfl,rfl,qJ,bV (by rw [List.length_map];omega),?_⟩
      have o5:∀b u,b≠l→H4 b=some u→upd H4 l (.lst ((us.map fun k:Nat=>V.int (k:Int))++[V.int (k:Int)])) b=some u:=fun b u ne e=>by rw [aA ne];exact e
      exact ⟨bz ks k,us++[k],_,rfl,zT qI o5,o5 _ _ (Ne.symm lm) uv,by rw [aq,List.map_append];rfl,conv (iA.new lG kn gG hh.2 ⟨hn,km⟩ (.inl ⟨hb,rfl⟩)),by rw [al,List.length_append,List.length_singleton];omega,dX.mpr (.inl gG),by rw [al,List.length_append,List.length_singleton];omega⟩
     ·have hb:¬jS (.int (k:Int)) (done.map fun k:Nat=>V.int (k:Int))=true:=hb
      rw [ye,decide_eq_true_iff] at hb
      exact ⟨bz ks k,us,_,rfl,qI,uv,qJ,conv (iA.new lG kn gG hh.2 ⟨hn,km⟩ (.inr ⟨hb,rfl⟩)),by rw [al];omega,dX.mpr (.inl gG),by rw [al];omega⟩
   ·rintro σ He ⟨ks,us,v5,rfl,oe,nQ,qH,iA,ul,gG,lt⟩
    rw [List.length_map,List.take_length] at iA
    exact ⟨_,lt,ks,us,_,rfl,rfl,oe,nQ,qH,iA.next fun b hb=>hb.2,ul⟩
  ·have w0:ws=[]:=by
    cases ws with
    | nil=>rfl
    | cons x r=>exact absurd rfl hz
   subst w0
   exact ⟨_,rfl,kk _ mt ks (oc.trans s3) lF (s3 _ _ zQ) wk.pl wk.done⟩
theorem Hr:bP ["_law_shape","_law_order","_law_beside_here","_law_found","_law_k","_law_ahead","_law_met","_law_other"] ["_law_shape","_law_order"] (bu qg):=⟨rfl,rfl,rfl,by decide +kernel,rfl,by decide +kernel,by decide +kernel⟩
theorem Hs(T:Txt K mg t):bA P w K mg base bU 3 t.jA t.kF ["_law_shape","_law_order"] FG:=by
 have S:=Hr
 have uw:=zP (P:=P) (w:=w) (base:=base) T
 have Ht:=Hm (P:=P) (w:=w) (base:=base) T
 refine T.k4.ok S (fun vs H Q E h=>?_) (fun aK A outer s H vs Q E hr h=>?_)
 ·obtain ⟨tp,a,n,L,o,rfl,_⟩:=h
  rfl
 ·obtain ⟨tp,a,n,L,o,rfl,iB,dM,Hu,l2,ea,ho,kk⟩:=h
  have hu:=Nat.lt_of_le_of_lt (Nat.add_le_add_left (show 1≤64 by decide) _) hr.units
  have lo:=gA ho
  have nd:=m9 ho
  have lm:(o.map fun k:Nat=>V.int (k:Int)).length=n:=by rw [List.length_map,lo]
  have HA:∀k,k<n→dv (o.map fun k:Nat=>V.int (k:Int)) (k:Int)=some (.int ((o.getD k 0:Nat):Int)):=fun k hk=>by
   refine gT ?_
   rw [List.getElem?_map,List.getElem?_eq_getElem (by omega),List.getD_eq_getElem?_getD,List.getElem?_eq_getElem (by omega)]
   rfl
  have zV:∀k,k<n→o.getD k 0<n∧o.idxOf (o.getD k 0)=k:=fun k hk=>by
   have e:o.getD k 0=o[k]'(by omega):=by simp [List.getD_eq_getElem?_getD,show k<o.length by omega]
   rw [e]
   exact ⟨(eC ho).mp (List.getElem_mem _),m_ nd _⟩
  refine ⟨_,(@ax _ _ _ _ _ (@aW _ _ 2 _ _ _ _ (by rfl) (by first | exact .inl rfl | exact .inr rfl | assumption) S.nd rfl (Or.inl rfl) (bo uw (hr.mono (by decide)) rfl T.tR T.jF.kp T.tQ .nil bH (@aj _ _ _ _ _ (by rfl) (pv 0) ao)))
   (@ax _ _ _ _ _ (@aW _ _ 3 _ _ _ _ (by rfl) (by first | exact .inl rfl | exact .inr rfl | assumption) S.nd rfl (Or.inl rfl) (@bZ _ _ _ _ ao))
   (@ax _ _ _ _ _ (cR PassesOwn.never rfl (jL rfl T.e_ (@aj _ _ _ _ _ (by rfl) (@aX _ _ _ _ _ _ _ fR (pv 0) ay (fun _ _=>rfl)) ao)) (bR (i:=4) S.nd rfl (Or.inl rfl))
    (@ax _ _ _ _ _ (@aW _ _ 5 _ _ _ _ (by rfl) (by first | exact .inl rfl | exact .inr rfl | assumption) S.nd rfl (Or.inl rfl) (@jQ _ _ _ _ _ _ _ _ _ _ jR (pv 1) jO (jP (pv 4))))
   (@ax _ _ _ _ _ (@aW _ _ 6 _ _ _ _ (by rfl) (by first | exact .inl rfl | exact .inr rfl | assumption) S.nd rfl (Or.inl rfl) (bo Ht (hr.mono (by decide)) rfl T.yV T.kZ.kp T.yU .nil bH (@aj _ _ _ _ _ (by rfl) (pv 2) (@aj _ _ _ _ _ (by rfl) (pv 5) (@aj _ _ _ _ _ (by rfl) (@aX _ _ _ _ _ _ _ bC (pv 1) (pv 4) (fun _ _=>rfl)) ao)))))
   (@aC _ _ _ (cR PassesOwn.never rfl (cZ (@jQ _ _ _ _ _ _ _ _ _ _ jR (pv 1) (jP (@a9 _ _ _ _ _ _ _ _ fi (pv 4) ay)) jO)) (bR (i:=7) S.nd rfl (Or.inl rfl))
    (@aC _ _ _ (@cm _ _ _ _ _ _ _ _ (vy (Eu hu (pv 7) (pv 6)) rfl) (@aC _ _ _ (dq (dO PySem.F.plainAttrs_list PySem.F.slot_list_append PySem.F.type_list_append ei (pv 3) (@aj _ _ _ _ _ (by rfl) (@gR _ _ _ _ _ (@aj _ _ _ _ _ (by rfl) (b3 (rm rfl) rfl T.qm boot_min (@aj _ _ _ _ _ (by rfl) (@aX _ _ _ _ _ _ _ bC (pv 1) (pv 4) (fun _ _=>rfl)) (@aj _ _ _ _ _ (by rfl) (pv 7) ao))) (@aj _ _ _ _ _ (by rfl) (b3 (rj rfl) rfl T.qo boot_max (@aj _ _ _ _ _ (by rfl) (@aX _ _ _ _ _ _ _ bC (pv 1) (pv 4) (fun _ _=>rfl)) (@aj _ _ _ _ _ (by rfl) (pv 7) ao))) ao))) ao)))) cE)))))))
   (@aC _ _ _ (@bL _ _ _ _ (@gR _ _ _ _ _ (@aj _ _ _ _ _ (by rfl) (@aX _ _ _ _ _ _ _ fR (pv 0) ay (fun _ _=>rfl)) (@aj _ _ _ _ _ (by rfl) (d_ rA rfl T.ql boot_tuple (@aj _ _ _ _ _ (by rfl) (b3 sR rfl T.lh PyProof.Rows.boot_sorted (@aj _ _ _ _ _ (by rfl) (pv 3) ao)) ao)) ao)))))))),?_⟩
  refine bD ⟨_,rfl,tp,n,L,rfl,iB,dM,by omega,l2,fun H1 D rs g s1 nD qw KL nb zW=>?_⟩
  have gn:∀i,i<n→∀j∈g i,j<n:=fun i hi j hj=>by
   rcases (nb i j hi).mp hj with e | e
   ·have:=dM _ e
    omega
   ·have:=dM _ e
    omega
  dsimp only [aI]
  refine bD ⟨Nat.zero_le _,fun fd bY=>?_⟩
  have s2:ae H1 (upd H1 fd (.lst [])):=aG bY
  have zX:upd H1 fd (.lst []) fd=some (.lst []):=aq
  dsimp only [aI]
  generalize upd H1 fd (.lst [])=H2 at s2 zX ⊢
  have zY:H fd=none:=none_of s1 bY
  have eI:=s1.trans s2
  obtain ⟨lt,LF,cI,elt,iT⟩:=id (iB.mono eI)
  have HB:eE H2 D n rs g:=⟨s2 _ _ KL.lst,KL.inj,KL.ne,fun i hi=>s2 _ _ (KL.at' i hi)⟩
  have Df:D≠fd:=fun z=>by rw [z] at KL;rw [KL.lst] at bY;cases bY
  have rf:∀i,i<n→rs i≠fd:=fun i hi z=>by have:=KL.at' i hi;rw [z,bY] at this;cases this
  refine bD ⟨_,rfl,tp,_,_,_,rfl,rfl,.of cI,rfl,_,rfl,by omega,by omega,?_⟩
  rw [Int.toNat_natCast]
  refine l_ (fun k σ Hc=>∃(us:List V) (M:List (Int×Int)) (v4 v5 v6 v7:Option V),σ=[some (.ref tp),some (.ref a),some (.ref D),some (.ref fd),v4,v5,v6,v7]∧ae H Hc∧eE Hc D n rs g∧Hc fd=some (.lst us)∧aN Hc us M∧cP n L o k 0 M∧M.length≤k*30) ⟨[],[],_,_,_,_,rfl,eI,HB,zX,aN.nil _,cP.start n L o,Nat.zero_le _⟩ ?_ ?_
  ·rintro k σ Hc hk ⟨us,M,v4,v5,v6,v7,rfl,sc,nR,ef,hU,fl,lM⟩
   obtain ⟨pn,ip⟩:=zV k hk
   have qK:=HA k hk
   generalize o.getD k 0=p at pn ip qK
   have qp:=sc _ _ ea
   dsimp only [aI]
   refine bD ⟨_,rfl,_,rfl,_,rfl,a,_,rfl,.of qp,fun ah HC=>?_⟩
   rw [Int.zero_add]
   have cA:c_ (o.map fun k:Nat=>V.int (k:Int)) none (some (k:Int))=(o.take k).map fun k:Nat=>V.int (k:Int):=by rw [rT,List.map_take]
   rw [cA]
   have s3:ae Hc (upd Hc ah (.lst ((o.take k).map fun k:Nat=>V.int (k:Int)))):=aG HC
   have zZ:upd Hc ah (.lst ((o.take k).map fun k:Nat=>V.int (k:Int))) ah=some (.lst ((o.take k).map fun k:Nat=>V.int (k:Int))):=aq
   dsimp only [aI]
   generalize upd Hc ah (.lst ((o.take k).map fun k:Nat=>V.int (k:Int)))=H3 at s3 zZ ⊢
   have gE:=sc.trans s3
   have HD:eE H3 D n rs g:=⟨s3 _ _ nR.lst,KL.inj,KL.ne,fun i hi=>s3 _ _ (nR.at' i hi)⟩
   refine bD ⟨_,rfl,_,rfl,_,rfl,_,rfl,a,_,_,_,rfl,rfl,.of (s3 _ _ qp),qK,D,ah,n,rs,g,o.take k,p,rfl,HD,gn,zZ,by rw [List.length_take];omega,pn,by omega,fun H4 mt ks s4 lF HE Ho gG=>?_⟩
   have gF:=gE.trans s4
   have z5:=s3.trans s4
   dsimp only [aI]
   refine ⟨_,rfl,_,rfl,_,_,rfl,rfl,_,rfl,a,_,rfl,.of (gF _ _ ea),fun bh ux=>?_⟩
   have cB:c_ (o.map fun k:Nat=>V.int (k:Int)) (some ((k:Int)+1)) none=(o.drop (k+1)).map fun k:Nat=>V.int (k:Int):=by
    have:=Fi (o.map fun k:Nat=>V.int (k:Int)) (k+1) (by rw [lm];omega)
    rw [show ((k+1:Nat):Int)=(k:Int)+1 from rfl] at this
    rw [this,List.map_drop]
   rw [cB]
   have s5:ae H4 (upd H4 bh (.lst ((o.drop (k+1)).map fun k:Nat=>V.int (k:Int)))):=aG ux
   have uy:upd H4 bh (.lst ((o.drop (k+1)).map fun k:Nat=>V.int (k:Int))) bh=some (.lst ((o.drop (k+1)).map fun k:Nat=>V.int (k:Int))):=aq
   generalize upd H4 bh (.lst ((o.drop (k+1)).map fun k:Nat=>V.int (k:Int)))=H5 at s5 uy ⊢
   have qL:=z5.trans s5
   have iy:=gF.trans s5
   have qM:=qL _ _ ef
   have z6:eE H5 D n rs g:=⟨qL _ _ nR.lst,KL.inj,KL.ne,fun i hi=>qL _ _ (nR.at' i hi)⟩
   have HF:bh≠fd:=fun z=>by rw [z,z5 _ _ ef] at ux;cases ux
   have HG:mt≠fd:=fun z=>by rw [z,s3 _ _ ef] at lF;cases lF
   refine ⟨bh,rfl,⟨_,.of uy⟩,?_⟩
   refine gP (K:=K) (a:=bh) (xs:=(o.drop (k+1)).map fun k:Nat=>V.int (k:Int)) (fun j σ Hd=>∃(us:List V) (M:List (Int×Int)) (v7:Option V),σ=[some (.ref tp),some (.ref a),some (.ref D),some (.ref fd),some (.int (k:Int)),some (.ref ah),some (.ref mt),v7]∧(∀b u,b≠fd→H5 b=some u→Hd b=some u)∧Hd fd=some (.lst us)∧aN Hd us M∧cP n L o k j M∧M.length≤k*30+j) ⟨us,M,_,rfl,fun _ _ _ e=>e,qM,hU.mono qL,fl,lM⟩ (fun j σ Hd _ ⟨_,_,_,_,e,_⟩=>.of (e _ _ HF uy)) ?_ ?_
   ·rintro j x σ Hd hx ⟨us,M,v7,rfl,od,cg,nS,fld,z7⟩
    have hj:k+1+j<n:=by
     have:=(List.getElem?_eq_some_iff.mp hx).1
     rw [List.length_map,List.length_drop,lo] at this
     omega
    obtain ⟨qn,iq⟩:=zV (k+1+j) hj
    have ex:x=.int ((o.getD (k+1+j) 0:Nat):Int):=by
     rw [List.getElem?_map,List.getElem?_drop,List.getElem?_eq_getElem (by omega)] at hx
     rw [List.getD_eq_getElem?_getD,List.getElem?_eq_getElem (by omega)]
     exact (Option.some.inj hx).symm
    subst ex
    generalize o.getD (k+1+j) 0=q at qn iq ⊢
    have ne:q≠p:=fun e=>by subst e;omega
    have mw:=FH ho nb dM (k:=k) (by omega) ne
    have HH:=od _ _ HG (s5 _ _ HE)
    have z8:Hd a=_:=od _ _ (fun z=>by rw [z,zY] at ea;cases ea) (iy _ _ ea)
    have lU:=nS.1
    dsimp only [aI]
    refine ⟨_,rfl,_,rfl,mt,_,rfl,.inl ⟨dk ks,Sum.inl (q:Int),.inl HH,rfl,rfl⟩,_,rfl,?_⟩
    rw [x5]
    by_cases qk:q∈ks
    ·rw [if_pos qk]
     have wq:=mw.mp ((gG q).mp qk)
     refine rQ ?_
     refine ⟨_,rfl,.inl ⟨rfl,_,.of cg⟩,_,rfl,_,rfl,a,_,_,_,rfl,rfl,.of z8,qK,_,rfl,_,_,rfl,_,rfl,_,rfl,a,_,_,_,rfl,rfl,.of z8,qK,_,rfl,_,_,rfl,by show 2≤sizeLine;decide,fun tq lq=>?_⟩
     have st:ae Hd (upd Hd tq (.tup [.int (b6 p q).1,.int (b6 p q).2])):=aG lq
     have HI:upd Hd tq (.tup [.int (b6 p q).1,.int (b6 p q).2]) tq=some (.tup [.int (b6 p q).1,.int (b6 p q).2]):=aq
     change ∃l xs u,_
     refine ⟨fd,us,_,rfl,rfl,st _ _ cg,bV (by omega),us++[.ref tq],M++[b6 p q],_,rfl,fun b u nb e=>by rw [aA nb];exact st _ _ (od b u nb e),aq,?_,fld.put ho pn qn ip iq wq,by rw [List.length_append];simp;omega⟩
     exact ((nS.mono st).push HI).aZ (st _ _ cg) fun b o nb e=>by rw [aA nb];exact e
    ·rw [if_neg qk]
     have wq:¬Wk (aL n L) (dY n o k) p q:=fun h=>qk ((gG q).mpr (mw.mpr h))
     exact iV ⟨us,M,_,rfl,od,cg,nS,fld.skip ho pn qn ip iq wq,by omega⟩
   ·rintro σ Hd ⟨us,M,v7,rfl,od,cg,nS,fld,z7⟩
    rw [List.length_map,List.length_drop,lo] at fld z7
    exact ⟨us,M,_,_,_,_,rfl,fun b u e=>od b u (fun z=>by rw [z,zY] at e;cases e) (iy _ _ e),⟨od _ _ Df z6.lst,KL.inj,KL.ne,fun i hi=>od _ _ (rf i hi) (z6.at' i hi)⟩,cg,nS,fld.row ho (by omega),by rw [Nat.add_mul];omega⟩
  ·rintro σ Hc ⟨us,M,v4,v5,v6,v7,rfl,sc,nR,ef,hU,fl,lM⟩
   obtain ⟨lt',zO,HJ,LG,LH⟩:=id (iB.mono sc)
   have LI:M.length≤900:=Nat.le_trans lM (by omega)
   dsimp only
   refine ⟨_,rfl,tp,_,_,_,rfl,rfl,.of HJ,rfl,_,rfl,?_⟩
   dsimp only [om]
   refine yg ef hU (by omega) (fl.bd (by omega)) fun l' ws N H3 s3 ik gw hN pN oN=>?_
   refine ⟨l',ws,rfl,.inl ⟨.of gw,fun lt nB=>?_⟩⟩
   have eJ:ae H3 (upd H3 lt (.tup ws)):=aG nB
   have nC:upd H3 lt (.tup ws) lt=some (.tup ws):=aq
   generalize upd H3 lt (.tup ws)=Hd at eJ nC ⊢
   refine ⟨by show 2≤sizeLine;decide,fun tq lq=>?_⟩
   have st:ae Hd (upd Hd tq (.tup [.int (n:Int),.ref lt])):=aG lq
   exact kk _ tq N ((sc.trans s3).trans (eJ.trans st)) ⟨lt,ws,aq,st _ _ nC,(hN.mono eJ).mono st⟩ (fl.done ho pN oN (by omega))
theorem HK:bP ["_law_beside_here","_law_left","_law_found","_law_place","_law_some","_law_bad"] ["_law_beside_here","_law_left"] (bu qh):=⟨rfl,rfl,rfl,by decide +kernel,rfl,by decide +kernel,by decide +kernel⟩
theorem HL(T:Txt K mg t):bA P w K mg base bU 1 t.jB t.kG ["_law_beside_here","_law_left"] FQ:=by
 have S:=HK
 refine T.k6.ok S (fun vs H Q E h=>?_) (fun aK A outer s H vs Q E hr h=>?_)
 ·obtain ⟨D,lf,n,rs,g,xs,rfl,_⟩:=h
  rfl
 ·obtain ⟨D,lf,n,rs,g,xs,rfl,KL,gn,gl,uz,hx,x1,kk⟩:=h
  have dh:=hr.units
  refine ⟨_,(@ax _ _ _ _ _ (@aW _ _ 2 _ _ _ _ (by rfl) (by first | exact .inl rfl | exact .inr rfl | assumption) S.nd rfl (Or.inl rfl) (@bZ _ _ _ _ ao))
   (@ax _ _ _ _ _ (cR PassesOwn.never rfl (cZ (pv 1)) (bR (i:=3) S.nd rfl (Or.inl rfl))
    (@ax _ _ _ _ _ (@aW _ _ 4 _ _ _ _ (by rfl) (by first | exact .inl rfl | exact .inr rfl | assumption) S.nd rfl (Or.inr rfl) (iX (N:=["_law_other","_law_left"]) (ρ:=(fun σ=>[σ[1]?.join])) ⟨rfl,rfl,by decide +kernel,by decide +kernel,(List.forall_mem_cons.mpr ⟨rfl,(List.forall_mem_nil _)⟩),fS (by rfl),rfl,by decide +kernel,rfl,(fun σ j v h=>match j,h with | 0,h=>⟨1,_,rfl,rfl,join_some h,Or.inr (Or.inl rfl),.inl rfl,.inl rfl⟩ | j+1,h=>by cases h),(fun _ _=>rfl)⟩ rfl (cZ (@aX _ _ _ _ _ _ _ bC (pv 0) (pv 3) (fun _ _=>rfl))) (fun s₃ H₃ fp=>(.one (@bT _ _ _ _ _ _ _ _ (Fg (K:=K)) (pv 0) (pv 1) rfl))) (fun s₃ H₃ fp=>(pv 0))))
   (@ax _ _ _ _ _ (Dc (i0:=5) (N:=["_law_one","_law_some","_law_beside_here"]) (ρ:=(fun σ=>[σ[4]?.join,σ[0]?.join])) ⟨rfl,rfl,(fun _=>rfl),(fun _=>rfl),by decide +kernel,(List.forall_mem_cons.mpr ⟨rfl,(List.forall_mem_cons.mpr ⟨rfl,(List.forall_mem_nil _)⟩)⟩),C5 (by rfl),rfl,by decide +kernel,rfl,(fun σ j v h=>match j,h with | 0,h=>⟨4,_,rfl,rfl,join_some h,Or.inr (Or.inl rfl),.inl rfl,.inl rfl⟩ | 1,h=>⟨0,_,rfl,rfl,join_some h,Or.inr (Or.inl rfl),.inl rfl,.inl rfl⟩ | j+2,h=>by cases h),(fun _ _=>rfl)⟩ rfl S.nd rfl (Or.inl rfl) (cZ (pv 4)) (fun s₃ H₃ fp=>(.one (@bT _ _ _ _ _ _ _ _ (FP (K:=K) dh) (iX (N:=["_law_other","_law_one","_law_beside_here"]) (ρ:=(fun σ=>[σ[0]?.join,σ[2]?.join])) ⟨rfl,rfl,by decide +kernel,by decide +kernel,(List.forall_mem_cons.mpr ⟨rfl,(List.forall_mem_cons.mpr ⟨rfl,(List.forall_mem_nil _)⟩)⟩),fS (by rfl),rfl,by decide +kernel,rfl,(fun σ j v h=>match j,h with | 0,h=>⟨0,_,rfl,rfl,join_some h,Or.inr (Or.inl rfl),.inl rfl,.inl rfl⟩ | 1,h=>⟨2,_,rfl,rfl,join_some h,Or.inr (Or.inl rfl),.inl rfl,.inl rfl⟩ | j+2,h=>by cases h),(fun _ _=>rfl)⟩ rfl (Di (K:=K) (pv 1)) (fun s₃ H₃ fp=>(.one (PW.pt (pw_and (@bT _ _ _ _ _ _ _ _ rh (pv 0) (pv 1) (bG _)) (pw_and1 (@bT _ _ _ _ _ _ _ _ (Fm (K:=K)) (pv 0) (@aX _ _ _ _ _ _ _ (rZ (K:=K)) (pv 2) (pv 1) (fun _ _=>rfl)) rfl)))))) (fun s₃ H₃ fp=>(pv 0))) (@bZ _ _ _ _ ao) (bG _)))) (fun s₃ H₃ fp=>(pv 0)))
   (@aC _ _ _ (@cm _ _ _ _ _ _ _ _ (@bT _ _ _ _ _ _ _ _ (x6 dh) (pv 5) (@bZ _ _ _ _ ao) (bG _)) (@aC _ _ _ (dq (dO PySem.F.plainAttrs_list PySem.F.slot_list_append PySem.F.type_list_append ei (pv 2) (@aj _ _ _ _ _ (by rfl) (pv 3) ao)))) cE)))))
   (@aC _ _ _ (@bL _ _ _ _ (pv 2))))),?_⟩
  refine bD ⟨Nat.zero_le _,fun fd bY=>?_⟩
  have s1:ae H (upd H fd (.lst [])):=aG bY
  have z9:upd H fd (.lst []) fd=some (.lst []):=aq
  dsimp only [aI]
  generalize upd H fd (.lst [])=H1 at s1 z9 ⊢
  refine bD ⟨_,rfl,lf,rfl,⟨_,.of (s1 _ _ uz)⟩,?_⟩
  refine gP (K:=K) (a:=lf) (xs:=xs) (fun k σ Hc=>∃(ys:List V) (v3 v4 v5:Option V),σ=[some (.ref D),some (.ref lf),some (.ref fd),v3,v4,v5]∧ae H Hc∧Hc fd=some (.lst ys)∧(∀y∈ys,y∈xs)∧ys.length≤k) ⟨[],_,_,_,rfl,s1,z9,fun y h=>(by cases h),Nat.le_refl _⟩ (fun k σ Hc _ ⟨_,_,_,_,_,sc,_⟩=>.of (sc _ _ uz)) ?_ ?_
  ·rintro k x σ Hc uA ⟨ys,v3,v4,v5,rfl,sc,ef,hy,ly⟩
   have hk:=(List.getElem?_eq_some_iff.mp uA).1
   obtain ⟨p,pn,ep⟩:=hx.at hk
   rw [uA] at ep
   cases ep
   have z_:=sc _ _ (KL.at' p pn)
   dsimp only [aI]
   refine bD (g_ (tK (xs:=(g p).map fun k:Nat=>V.int (k:Int)) (fun R h=>⟨_,rfl,_,rfl,D,_,_,_,rfl,rfl,.of (sc _ _ KL.lst),ic pn,rs p,rfl,⟨_,.of z_⟩,h _ _ (ae.refl _) (iZ (.of z_))⟩) (bV (by rw [List.length_map];have:=gl p pn;omega)) ?_ (fun x Hx R h=>⟨_,rfl,h⟩) fun l zs H2 nl s2 lz hz el=>?_))
   ·intro x uB Hd R sd kR
    obtain ⟨j,hj,rfl⟩:=List.mem_map.mp uB
    exact ⟨_,rfl,_,rfl,lf,xs,rfl,.inl (.of (sd _ _ (sc _ _ uz))),rfl,hx.flat,_,rfl,kR _ _ (ae.refl _)⟩
   have lH:dJ n zs:=(gn p pn).sub hz
   have LJ:zs.length≤400:=by rw [List.length_map] at lz;have:=gl p pn;omega
   dsimp only [aI]
   refine bD (g_ (tK (xs:=zs) (fun R h=>⟨_,rfl,l,rfl,⟨_,.of el⟩,h _ _ (ae.refl _) (iZ (.of el))⟩) (bV (by omega)) ?_ (fun x Hx R h=>⟨_,rfl,h⟩) fun l' LK H3 ik s3 LL HM gw=>?_))
   ·intro x uB Hd R sd kR
    obtain ⟨q,hq⟩:=List.getElem?_of_mem uB
    obtain ⟨j,jn,ej⟩:=lH.at (i:=q) (List.getElem?_eq_some_iff.mp hq).1
    rw [hq] at ej
    cases ej
    have HN:=(sc.trans s2).trans sd
    dsimp only [vU,ma]
    refine tK (xs:=zs) (fun R h=>⟨_,rfl,l,rfl,⟨_,.of (sd _ _ el)⟩,h _ _ (ae.refl _) (iZ (.of (sd _ _ el)))⟩) (bV (by omega)) ?_ (fun x Hx R h=>⟨_,rfl,h⟩) fun l3 ws H7 LM s7 lw hw nz=>?_
    ·intro y HP He R se kR
     obtain ⟨q',iY⟩:=List.getElem?_of_mem HP
     obtain ⟨j',_,Aa⟩:=lH.at (i:=q') (List.getElem?_eq_some_iff.mp iY).1
     rw [iY] at Aa
     cases Aa
     have Ab:=HN.trans se
     refine ⟨_,rfl,_,rfl,rfl,_,rfl,b8 (fun _=>?_) (fun _=>kR _ _ (ae.refl _))⟩
     exact ⟨_,rfl,_,rfl,_,rfl,D,_,_,_,rfl,rfl,.of (Ab _ _ KL.lst),ic jn,rs j,_,rfl,.inl (.of (Ab _ _ (KL.at' j jn))),rfl,(gn j jn).flat,_,rfl,kR _ _ (ae.refl _)⟩
    ·exact ⟨Nat.zero_le _,fun p np=>⟨l3,p,ws,rfl,rfl,.of (aG np _ _ nz),aq,_,rfl,kR _ _ (s7.trans (aG np))⟩⟩
   have gE:=sc.trans (s2.trans s3)
   have HQ:=(s2.trans s3) _ _ ef
   obtain ⟨zi,HR,_⟩:=(lH.sub HM).ints
   subst HR
   dsimp only [aI]
   refine ⟨_,rfl,Nat.zero_le _,fun e ne=>?_⟩
   have se:ae H3 (upd H3 e (.lst [])):=aG ne
   have ee:upd H3 e (.lst []) e=some (.lst ([]:List V)):=aq
   generalize upd H3 e (.lst [])=H4 at se ee ⊢
   have lI:=se _ _ HQ
   refine ⟨l',e,zi,[],rfl,rfl,.of (se _ _ gw),.of ee,_,rfl,b8 (fun _=>?_) (fun _=>?_)⟩
   ·refine ⟨_,rfl,.inl ⟨rfl,_,.of lI⟩,_,rfl,fd,ys,_,rfl,rfl,lI,bV (by omega),ys++[.int (p:Int)],_,_,_,rfl,dA (gE.trans se) bY,aq,fun y rH=>?_,by rw [List.length_append];simp;omega⟩
    rcases List.mem_append.mp rH with h | h
    ·exact hy y h
    ·rw [List.mem_singleton.mp h]
     exact List.mem_of_getElem? uA
   ·exact ⟨ys,_,_,_,rfl,gE.trans se,lI,hy,by omega⟩
  ·rintro σ Hc ⟨ys,v3,v4,v5,rfl,sc,ef,hy,ly⟩
   exact ⟨_,rfl,kk _ _ _ sc bY ef hy ly⟩
theorem HS:bP ["_law_pen","_law_shape","_law_beside_here","_law_left","_law_found","_law_some"] ["_law_pen","_law_shape"] (bu qi):=⟨rfl,rfl,rfl,by decide +kernel,rfl,by decide +kernel,by decide +kernel⟩
theorem HU(T:Txt K mg t):bA P w K mg base bU 3 t.jC t.kH ["_law_pen","_law_shape"] (FR K):=by
 have S:=HS
 have cV:=lA (P:=P) (w:=w) (base:=base) T
 have uw:=zP (P:=P) (w:=w) (base:=base) T
 have HV:=HL (P:=P) (w:=w) (base:=base) T
 refine T.k8.ok S (fun vs H Q E h=>?_) (fun aK A outer s H vs Q E hr h=>?_)
 ·obtain ⟨P0,a,tp,ns,n,L,rfl,_⟩:=h
  rfl
 ·obtain ⟨P0,a,tp,ns,n,L,rfl,pc,hS,Ac,iB,dM,n1,Hu,HW,kk⟩:=h
  have dh:=hr.units
  refine ⟨_,(@ax _ _ _ _ _ (@aW _ _ 2 _ _ _ _ (by rfl) (by first | exact .inl rfl | exact .inr rfl | assumption) S.nd rfl (Or.inl rfl) (bo uw (hr.mono (by decide)) rfl T.tR T.jF.kp T.tQ .nil bH (@aj _ _ _ _ _ (by rfl) (pv 1) ao)))
   (@ax _ _ _ _ _ (@aW _ _ 3 _ _ _ _ (by rfl) (by first | exact .inl rfl | exact .inr rfl | assumption) S.nd rfl (Or.inl rfl) (d_ (oQ rfl) rfl T.iu boot_list (@aj _ _ _ _ _ (by rfl) (d_ oP rfl T.e_ oR (@aj _ _ _ _ _ (by rfl) (@aX _ _ _ _ _ _ _ fR (pv 1) ay (fun _ _=>rfl)) ao)) ao)))
   (@ax _ _ _ _ _ (@aW _ _ 4 _ _ _ _ (by rfl) (by first | exact .inl rfl | exact .inr rfl | assumption) S.nd rfl (Or.inl rfl) (@bZ _ _ _ _ ao))
   (@ax _ _ _ _ _ (@q5 _ _ _ _ _ _ PassesOwn.never (@bT _ _ _ _ _ _ _ _ (pF dh) (pv 3) (@bZ _ _ _ _ ao) (bG _)) (@ax _ _ _ _ _ (@aW _ _ 5 _ _ _ _ (by rfl) (by first | exact .inl rfl | exact .inr rfl | assumption) S.nd rfl (Or.inl rfl) (FJ (bo HV (hr.mono (by decide)) rfl T.yZ T.k6.kp T.yY .nil bH (@aj _ _ _ _ _ (by rfl) (pv 2) (@aj _ _ _ _ _ (by rfl) (pv 3) ao))) (@qW _ _ _ _ _ (pv 3))))
   (@ax _ _ _ _ _ (dq (dO PySem.F.plainAttrs_list PySem.F.slot_list_append PySem.F.type_list_append ei (pv 4) (@aj _ _ _ _ _ (by rfl) (@aX _ _ _ _ _ _ _ bC (pv 5) (bo cV (hr.mono (by decide)) rfl T.eG T.cU.kp T.eF .nil bH (@aj _ _ _ _ _ (by rfl) (pv 0) (@aj _ _ _ _ _ (by rfl) (b3 iS rfl T.ir boot_len (@aj _ _ _ _ _ (by rfl) (pv 5) ao)) ao))) (fun _ _=>rfl)) ao)))
   (@aC _ _ _ (dq (dO PySem.F.plainAttrs_list PySem.F.slot_list_remove PySem.F.type_list_remove FL (pv 3) (@aj _ _ _ _ _ (by rfl) (@aX _ _ _ _ _ _ _ bC (pv 4) (@vK _ _ _ _ _ _ vM ay) (fun _ _=>rfl)) ao)))))))
   (@aC _ _ _ (@bL _ _ _ _ (pv 4))))))),?_⟩
  refine bD ⟨_,rfl,tp,n,L,rfl,iB,dM,by omega,HW,fun H1 D rs g s1 nD qw KL nb zW=>?_⟩
  have gn:∀i,i<n→dJ n ((g i).map fun k:Nat=>V.int (k:Int)):=fun i hi=>⟨g i,rfl,fun j hj=>by
   rcases (nb i j hi).mp hj with e | e
   ·have:=dM _ e
    omega
   ·have:=dM _ e
    omega⟩
  have gl:∀i,i<n→(g i).length≤400:=fun i _=>Nat.le_trans (zW i) (by omega)
  have p1:=pc.mono s1
  have DP:D≠P0:=pc.ne nD
  have rP:∀i,i<n→rs i≠P0:=fun i hi=>pc.ne (qw i hi)
  have iz:aS K (er P0 H1) a (ns.map V.int):=ae.seq (av.of s1) hS
  obtain ⟨lt,us,cI,elt,iT⟩:=id (iB.mono s1)
  dsimp only [aI]
  refine bD ⟨_,rfl,tp,_,_,_,rfl,rfl,.of cI,rfl,(n:Int),rfl,fun q1 nU=>⟨q1,n,rfl,aq,by omega,fun l1 Ad=>?_⟩⟩
  have s2:ae H1 (upd (upd H1 q1 (.cX 0 (n:Int))) l1 (.lst (bK n))):=(aG nU).trans (aG Ad)
  have e1:upd (upd H1 q1 (.cX 0 (n:Int))) l1 (.lst (bK n)) l1=some (.lst ((List.range n).map fun k:Nat=>V.int (k:Int))):=by rw [aq];rfl
  have Ae:H1 l1=none:=none_of (aG nU) Ad
  dsimp only [aI]
  generalize upd (upd H1 q1 (.cX 0 (n:Int))) l1 (.lst (bK n))=H2 at s2 e1 ⊢
  refine bD ⟨Nat.zero_le _,fun l2 uC=>?_⟩
  have s3:ae H2 (upd H2 l2 (.lst [])):=aG uC
  have e2:upd H2 l2 (.lst []) l2=some (.lst (([]:List Nat).map fun k:Nat=>V.int (k:Int))):=aq
  have uD:H1 l2=none:=none_of s2 uC
  have HX:H l2=none:=none_of s1 uD
  have uE:l1≠P0:=p1.ne Ae
  have uF:l2≠P0:=p1.ne uD
  have Af:l1≠l2:=fun z=>by rw [z,uC] at e1;cases e1
  dsimp only [aI]
  generalize upd H2 l2 (.lst [])=H3 at s3 e2 ⊢
  have cJ:=s2.trans s3
  refine bD ⟨fun m σ Hc=>∃(zs fs:List Nat) (v5:Option V),σ=[some (.ref P0),some (.ref tp),some (.ref D),some (.ref l1),some (.ref l2),v5]∧m=zs.length∧Hc l1=some (.lst (zs.map fun k:Nat=>V.int (k:Int)))∧Hc l2=some (.lst (fs.map fun k:Nat=>V.int (k:Int)))∧(zs++fs).Perm (List.range n)∧av P0 H1 Hc∧a7 Hc P0 a,⟨_,List.range n,[],_,rfl,rfl,s3 _ _ e1,e2,by rw [List.append_nil],av.of cJ,p1.mono cJ⟩,?_⟩
  rintro m σ Hc ⟨zs,fs,v5,rfl,rfl,ez,ef,pm,sc,p3⟩
  have ll:=pm.length_eq
  rw [List.length_append,List.length_range] at ll
  have zn:∀z∈zs,z<n:=fun z hz=>List.mem_range.mp (pm.mem_iff.mp (List.mem_append_left _ hz))
  have lH:dJ n (zs.map fun k:Nat=>V.int (k:Int)):=⟨zs,rfl,zn⟩
  have LN:(zs.map fun k:Nat=>V.int (k:Int)).length=zs.length:=List.length_map ..
  refine ⟨_,rfl,Nat.zero_le _,fun le nF=>?_⟩
  have s4:ae Hc (upd Hc le (.lst [])):=aG nF
  have e4:upd Hc le (.lst []) le=some (.lst []):=aq
  generalize upd Hc le (.lst [])=H4 at s4 e4 ⊢
  have gF:=sc.trans (av.of s4)
  have p4:=p3.mono s4
  have lB:=s4 _ _ ez
  have lI:=s4 _ _ ef
  refine ⟨l1,le,_,rfl,rfl,.of lB,e4,_,rfl,b8 (fun hz=>?_) (fun hz=>?_)⟩
  ·have z0:1≤zs.length:=by
    cases zs with
    | nil=>cases hz
    | cons=>simp
   have HY:eE H4 D n rs g:=⟨gF.at DP KL.lst,KL.inj,KL.ne,fun i hi=>gF.at (rP i hi) (KL.at' i hi)⟩
   refine ⟨_,fun _ _ h=>h,?_⟩
   refine bD (g_ (El (fun x Hx=>∃(q:Addr) (ws:List V),x=.ref q∧ae H4 Hx∧Hx q=some (.lst ws)∧q≠P0∧1≤ws.length∧ws.length≤100∧∀y∈ws,y∈zs.map fun k:Nat=>V.int (k:Int)) (fun R hR=>?_) ?_))
   ·refine ⟨_,rfl,_,rfl,D,l1,n,rs,g,_,rfl,HY,gn,gl,lB,lH,by omega,fun H5 r ys s5 nr er hy ly=>⟨r,ys,rfl,.of er,b8 (fun he=>?_) (fun he=>?_)⟩⟩
    ·exact ⟨_,rfl,hR _ _ ⟨l1,_,rfl,s5,s5 _ _ lB,uE,by omega,by omega,fun y h=>h⟩⟩
    ·refine hR _ _ ⟨r,ys,rfl,s5,er,p4.ne nr,?_,by omega,hy⟩
     cases ys with
     | nil=>exact absurd rfl he
     | cons=>simp
   ·rintro x H5 ⟨q,ws,rfl,s5,eq,qP,w1,w2,hw⟩
    have HZ:dJ n ws:=lH.sub hw
    have iy:=gF.trans (av.of s5)
    have p5:=p4.mono s5
    have H_:=s5 _ _ lB
    have qM:=s5 _ _ lI
    dsimp only [aI]
    refine bD ⟨_,rfl,.inl ⟨rfl,_,.of qM⟩,_,rfl,_,rfl,_,rfl,q,_,rfl,.inl (.of eq),P0,a,ns,(ws.length:Int),rfl,p5,ae.seq iy iz,by omega,cM.of_lt (by omega) (by omega),fun c H6 c0 c1 s6 p6=>?_⟩
    obtain ⟨i,rfl⟩:=Int.eq_ofNat_of_zero_le c0
    obtain ⟨j,jn,ej⟩:=HZ.at (i:=i) (by omega)
    have jz:j∈zs:=by
     obtain ⟨k,hk,e⟩:=List.mem_map.mp (hw _ (List.mem_of_getElem? ej))
     have:k=j:=by
      have:=V.int.inj e
      omega
     exact this▸hk
    have Ia:=s6.at uE H_
    have Ib:=s6.at uF qM
    refine ⟨q,ws,_,.int (j:Int),rfl,rfl,.of (s6.at qP eq),gT ej,?_⟩
    refine ⟨l2,_,_,rfl,rfl,Ib,bV (by rw [List.length_map];omega),?_⟩
    have Ic:(fs.map fun k:Nat=>V.int (k:Int))++[V.int (j:Int)]=(fs++[j]).map fun k:Nat=>V.int (k:Int):=by rw [List.map_append];rfl
    rw [Ic]
    have nM:av P0 H1 (upd H6 l2 (.lst ((fs++[j]).map fun k:Nat=>V.int (k:Int)))):=(iy.trans s6).but uD
    have p7:a7 (upd H6 l2 (.lst ((fs++[j]).map fun k:Nat=>V.int (k:Int)))) P0 a:=p6.upd uF
    have uG:upd H6 l2 (.lst ((fs++[j]).map fun k:Nat=>V.int (k:Int))) l2=some (.lst ((fs++[j]).map fun k:Nat=>V.int (k:Int))):=aq
    have uH:upd H6 l2 (.lst ((fs++[j]).map fun k:Nat=>V.int (k:Int))) l1=_:=(aA Af).trans Ia
    generalize upd H6 l2 (.lst ((fs++[j]).map fun k:Nat=>V.int (k:Int)))=H7 at nM p7 uG uH ⊢
    have last:dv ((fs++[j]).map fun k:Nat=>V.int (k:Int)) (-1)=some (.int (j:Int)):=Ft (by simp) (by simp)
    have ix:zs.idxOf j<zs.length:=List.idxOf_lt_length_of_mem jz
    refine ⟨_,rfl,.inl ⟨rfl,_,.of uH⟩,_,rfl,1,rfl,l2,_,_,.int (j:Int),rfl,rfl,.of uG,last,l1,zs.map fun k:Nat=>(k:Int),zs.idxOf j,(j:Int),rfl,rfl,by rw [uH,List.map_map];rfl,?_,fun m' cL e=>?_,?_⟩
    ·rw [List.getElem?_map,List.getElem?_eq_getElem ix,List.getElem_idxOf]
     rfl
    ·have Ag:m'<zs.length:=by omega
     rw [List.getElem?_map,List.getElem?_eq_getElem Ag] at e
     have e':((zs[m']:Nat):Int)=(j:Int):=Option.some.inj e
     have:=ym cL
     rw [List.getElem?_eq_getElem Ag] at this
     exact this (congrArg some (by omega))
    ·have Ie:((zs.map fun k:Nat=>(k:Int)).map V.int).eraseIdx (zs.idxOf j)=(zs.erase j).map fun k:Nat=>V.int (k:Int):=by
      rw [List.map_map,yn,List.erase_eq_eraseIdx_of_idxOf rfl]
      rfl
     rw [Ie]
     refine ⟨(zs.erase j).length,?_,zs.erase j,fs++[j],_,rfl,rfl,aq,(aA (Ne.symm Af)).trans uG,?_,nM.but Ae,p7.upd uE⟩
     ·rw [List.length_erase_of_mem jz]
      omega
     ·refine List.Perm.trans ?_ pm
      have h1:=List.perm_cons_erase jz
      have h2:(zs.erase j++(fs++[j])).Perm ((j::zs.erase j)++fs):=by
       rw [←List.append_assoc]
       exact List.perm_append_comm
      exact h2.trans (h1.symm.append_right fs)
  ·have z0:zs=[]:=by
    cases zs with
    | nil=>rfl
    | cons=>exact absurd rfl hz
   subst z0
   rw [List.nil_append] at pm
   exact ⟨_,rfl,kk _ _ _ ((av.of s1).trans gF) p4 uF HX lI pm⟩
theorem Ig:bP ["script","_law_pen","_law_k","_law_shape","_law_far_here","_law_at","_law_other","_law_order","_law_handed","_law_found"] ["script"] (bu qj):=⟨rfl,rfl,rfl,by decide +kernel,rfl,by decide +kernel,by decide +kernel⟩
theorem Ih(T:Txt K mg t):bA P w K mg base bU 9 t.il t.jD ["script"] (oT K):=by
 have S:=Ig
 have cV:=lA (P:=P) (w:=w) (base:=base) T
 have Ii:=G3 (P:=P) (w:=w) (base:=base) T
 have uo:=zB (P:=P) (w:=w) (base:=base) T
 have Ij:=HU (P:=P) (w:=w) (base:=base) T
 have Ik:=Hs (P:=P) (w:=w) (base:=base) T
 have Il:=Gw (P:=P) (w:=w) (base:=base) T
 refine T.k_.ok S (fun vs H Q E h=>?_) (fun aK A outer s H vs Q E hr h=>?_)
 ·obtain ⟨a,ns,rfl,_⟩:=h
  rfl
 ·obtain ⟨a,ns,rfl,hS,hlen,kQ⟩:=h
  have dh:=hr.units
  have hu:=hr.Bv
  refine ⟨_,(@ax _ _ _ _ _ (@aW _ _ 1 _ _ _ _ (by rfl) (by first | exact .inl rfl | exact .inr rfl | assumption) S.nd rfl (Or.inl rfl) (@bZ _ _ _ _ (@aj _ _ _ _ _ (by rfl) (pv 0) (@aj _ _ _ _ _ (by rfl) ay (@aj _ _ _ _ _ (by rfl) ay ao)))))
   (@ax _ _ _ _ _ (cR PassesOwn.never rfl (jL rfl T.e_ (@aj _ _ _ _ _ (by rfl) ay ao)) (bR (i:=2) S.nd rfl (Or.inl rfl))
    (@ax _ _ _ _ _ (@aW _ _ 3 _ _ _ _ (by rfl) (by first | exact .inl rfl | exact .inr rfl | assumption) S.nd rfl (Or.inl rfl) (bo Ii (hr.mono (by decide)) rfl T.yR T.kX.kp T.yQ .nil bH (@aj _ _ _ _ _ (by rfl) (pv 1) (@aj _ _ _ _ _ (by rfl) ay ao))))
   (@ax _ _ _ _ _ (@aW _ _ 4 _ _ _ _ (by rfl) (by first | exact .inl rfl | exact .inr rfl | assumption) S.nd rfl (Or.inl rfl) (bo Ij (hr.mono (by decide)) rfl T.y4 T.k8.kp T.y3 .nil bH (@aj _ _ _ _ _ (by rfl) (pv 1) (@aj _ _ _ _ _ (by rfl) (pv 3) ao))))
   (@ax _ _ _ _ _ (@aW _ _ 5 _ _ _ _ (by rfl) (by first | exact .inl rfl | exact .inr rfl | assumption) S.nd rfl (Or.inl rfl) (bo cV (hr.mono (by decide)) rfl T.eG T.cU.kp T.eF .nil bH (@aj _ _ _ _ _ (by rfl) (pv 1) (@aj _ _ _ _ _ (by rfl) (b3 iS rfl T.ir boot_len (@aj _ _ _ _ _ (by rfl) (pv 4) ao)) ao))))
   (@ax _ _ _ _ _ (@aW _ _ 6 _ _ _ _ (by rfl) (by first | exact .inl rfl | exact .inr rfl | assumption) S.nd rfl (Or.inl rfl) (@a9 _ _ _ _ _ _ _ _ rJ (@a9 _ _ _ _ _ _ _ _ rJ (@jQ _ _ _ _ _ _ _ _ _ _ jR (pv 4) jO (jP (pv 5))) (Ds (@jQ _ _ _ _ _ _ _ _ _ _ jR (@jQ _ _ _ _ _ _ _ _ _ _ jR (pv 4) (jP (pv 5)) jO) jO (jP ay)) (@vK _ _ _ _ _ _ vM ay))) (@jQ _ _ _ _ _ _ _ _ _ _ jR (pv 4) (jP (@a9 _ _ _ _ _ _ _ _ fi (pv 5) ay)) jO)))
   (@aC _ _ _ (cR PassesOwn.never rfl (cZ (@bZ _ _ _ _ (@aj _ _ _ _ _ (by rfl) (bo uo (hr.mono (by decide)) rfl T.tP T.jE.kp T.tO .nil bH (@aj _ _ _ _ _ (by rfl) (pv 1) (@aj _ _ _ _ _ (by rfl) (d_ (oQ rfl) rfl T.iu boot_list (@aj _ _ _ _ _ (by rfl) (d_ oP rfl T.e_ oR (@aj _ _ _ _ _ (by rfl) (@aX _ _ _ _ _ _ _ fR (pv 3) ay (fun _ _=>rfl)) ao)) ao)) ao))) (@aj _ _ _ _ _ (by rfl) (pv 4) (@aj _ _ _ _ _ (by rfl) (pv 6) ao))))) (bR (i:=7) S.nd rfl (Or.inl rfl))
    (@ax _ _ _ _ _ (@aW _ _ 8 _ _ _ _ (by rfl) (by first | exact .inl rfl | exact .inr rfl | assumption) S.nd rfl (Or.inl rfl) (d_ wz rfl T.iu boot_list (@aj _ _ _ _ _ (by rfl) (pv 7) ao)))
   (@ax _ _ _ _ _ (@aW _ _ 9 _ _ _ _ (by rfl) (by first | exact .inl rfl | exact .inr rfl | assumption) S.nd rfl (Or.inl rfl) (bo Il (hr.mono (by decide)) rfl T.yJ T.kS.kp T.yI .nil Ct (@aj _ _ _ _ _ (by rfl) (pv 3) (@aj _ _ _ _ _ (by rfl) (pv 8) ao))))
   (@ax _ _ _ _ _ (@cm _ _ _ _ _ _ _ _ (PW.pt (@pw_or _ _ _ _ _ _ _ (@nZ _ _ _ _ (lS (b3 (oJ (K:=K)) rfl T.nk boot_isinstance (@aj _ _ _ _ _ (by rfl) (pv 9) (@aj _ _ _ _ _ (by rfl) (nY (v:=.ty "bool") rfl T.tS boot_bool rfl) ao))))) (@pw_or1 _ _ _ _ (@bT _ _ _ _ _ _ _ _ (C_ (n:=0) dh) (pv 8) (pv 7) (bG _))))) (@aC _ _ _ (@bL _ _ _ _ gb)) cE)
   (@aC _ _ _ (@cm _ _ _ _ _ _ _ _ (@bT _ _ _ _ _ _ _ _ rh (pv 9) (@gg _ _ _ _ _ _ _ _ (yk dh) (bo Ik (hr.mono (by decide)) rfl T.yX T.k4.kp T.yW .nil bH (@aj _ _ _ _ _ (by rfl) (pv 3) (@aj _ _ _ _ _ (by rfl) (pv 7) ao))) (pv 3) (bG _)) (bG _)) (@aC _ _ _ (@bL _ _ _ _ gb)) cE))))))))))))
   (@aC _ _ _ (@bL _ _ _ _ gb)))),?_⟩
  refine ⟨_,rfl,by show 3≤sizeLine;decide,fun P0 nP=>?_⟩
  have p0:a7 (upd H P0 (.lst [.ref a,.int 0,.int 0])) P0 a:=⟨0,0,aq,by decide,by decide⟩
  have Ah:aS K (er P0 (upd H P0 (.lst [.ref a,.int 0,.int 0]))) a (ns.map V.int):=by
   rw [xg]
   exact ae.seq (fun b o e=>r6 (fI e nP) e) hS
  generalize upd H P0 (.lst [.ref a,.int 0,.int 0])=H0 at p0 Ah ⊢
  refine ⟨4,rfl,by decide,by decide,?_⟩
  refine l_ (fun i σ Hc=>∃(v2 v3 v4 v5 v6 v7 v8 v9:Option V),σ=[some (.ref a),some (.ref P0),v2,v3,v4,v5,v6,v7,v8,v9]∧av P0 H0 Hc∧a7 Hc P0 a) ⟨_,_,_,_,_,_,_,_,rfl,av.refl _,p0⟩ ?_ ?_
  ·rintro i σ Hc hi ⟨v2,v3,v4,v5,v6,v7,v8,v9,rfl,sT,pc⟩
   have iz:aS K (er P0 Hc) a (ns.map V.int):=ae.seq sT Ah
   dsimp only [aI]
   refine ⟨_,rfl,P0,a,ns,12,rfl,pc,iz,by decide,by decide,fun tp n L H1 s1 p1 fG Ac iB ok pw n1 ud=>?_⟩
   dsimp only [aI]
   have dM:gz n L:=fun p hp=>by
    have:=ok.lt p hp
    exact ⟨this.1,by omega,by omega,this.2.2⟩
   have Im:ni L:=fun p hp=>by
    have:=ok.lt p hp
    omega
   have bQ:L.length≤200:=Nat.le_trans ok.bQ (by
    have:n*n≤12*12:=Nat.mul_le_mul (by omega) (by omega)
    omega)
   have uI:∀{Hx:Hp},av P0 H1 Hx→cy Hx tp n L:=fun sx=>(iB.mono sx).mono oW
   refine ⟨_,rfl,_,rfl,P0,a,tp,ns,n,L,rfl,p1,ae.seq s1 iz,Ac,uI (av.refl _),dM,n1,by omega,bQ,fun fr o H2 s2 p2 Ai LO Aj ho=>?_⟩
   have lo:=gA ho
   have LP:(o.map fun k:Nat=>V.int (k:Int)).length=n:=by rw [List.length_map,lo]
   dsimp only [aI]
   refine ⟨_,rfl,_,rfl,fr,_,rfl,.inl (.of Aj),P0,a,ns,_,rfl,p2,ae.seq (s1.trans s2) iz,by omega,cM.of_lt (by omega) (by omega),fun c H3 c0 c1 s3 p3=>?_⟩
   obtain ⟨at',rfl⟩:=Int.eq_ofNat_of_zero_le c0
   have qN:=s3.at Ai Aj
   dsimp only [aI]
   refine ⟨_,rfl,_,rfl,_,rfl,fr,_,rfl,.of qN,fun u1 m1=>?_⟩
   rw [rT,←List.map_take]
   have t1:ae H3 (upd H3 u1 (.lst ((o.take at').map fun k:Nat=>V.int (k:Int)))):=aG m1
   have g1:upd H3 u1 (.lst ((o.take at').map fun k:Nat=>V.int (k:Int))) u1=some (.lst ((o.take at').map fun k:Nat=>V.int (k:Int))):=aq
   generalize upd H3 u1 (.lst ((o.take at').map fun k:Nat=>V.int (k:Int)))=H4 at t1 g1 ⊢
   refine ⟨_,rfl,_,rfl,_,rfl,fr,_,rfl,.of (t1 _ _ qN),fun u2 m2=>?_⟩
   rw [yo,←List.map_drop]
   have t2:ae H4 (upd H4 u2 (.lst ((o.drop at').map fun k:Nat=>V.int (k:Int)))):=aG m2
   have g2:upd H4 u2 (.lst ((o.drop at').map fun k:Nat=>V.int (k:Int))) u2=some (.lst ((o.drop at').map fun k:Nat=>V.int (k:Int))):=aq
   generalize upd H4 u2 (.lst ((o.drop at').map fun k:Nat=>V.int (k:Int)))=H5 at t2 g2 ⊢
   refine ⟨2,rfl,u2,_,rfl,.of g2,fun u3 m3=>?_⟩
   rw [show c_ ((o.drop at').map fun k:Nat=>V.int (k:Int)) none (some 2)=((o.drop at').take 2).map fun k:Nat=>V.int (k:Int) from (rT _ 2).trans (List.map_take ..).symm]
   have t3:ae H5 (upd H5 u3 (.lst (((o.drop at').take 2).map fun k:Nat=>V.int (k:Int)))):=aG m3
   have g3:upd H5 u3 (.lst (((o.drop at').take 2).map fun k:Nat=>V.int (k:Int))) u3=some (.lst (((o.drop at').take 2).map fun k:Nat=>V.int (k:Int))):=aq
   generalize upd H5 u3 (.lst (((o.drop at').take 2).map fun k:Nat=>V.int (k:Int)))=H6 at t3 g3 ⊢
   refine ⟨1,rfl,rfl,u3,_,rfl,.of g3,fun u4 m4=>?_⟩
   rw [←List.map_reverse]
   have t4:ae H6 (upd H6 u4 (.lst (((o.drop at').take 2).reverse.map fun k:Nat=>V.int (k:Int)))):=aG m4
   have g4:upd H6 u4 (.lst (((o.drop at').take 2).reverse.map fun k:Nat=>V.int (k:Int))) u4=some (.lst (((o.drop at').take 2).reverse.map fun k:Nat=>V.int (k:Int))):=aq
   generalize upd H6 u4 (.lst (((o.drop at').take 2).reverse.map fun k:Nat=>V.int (k:Int)))=H7 at t4 g4 ⊢
   refine ⟨u1,u4,_,_,rfl,rfl,(t2.trans (t3.trans t4)) _ _ g1,g4,Nat.le_of_lt (bV (by simp;omega)),fun u5 m5=>?_⟩
   rw [←List.map_append]
   have t5:ae H7 (upd H7 u5 (.lst ((o.take at'++((o.drop at').take 2).reverse).map fun k:Nat=>V.int (k:Int)))):=aG m5
   have g5:upd H7 u5 (.lst ((o.take at'++((o.drop at').take 2).reverse).map fun k:Nat=>V.int (k:Int))) u5=some (.lst ((o.take at'++((o.drop at').take 2).reverse).map fun k:Nat=>V.int (k:Int))):=aq
   generalize upd H7 u5 (.lst ((o.take at'++((o.drop at').take 2).reverse).map fun k:Nat=>V.int (k:Int)))=H8 at t5 g5 ⊢
   have uJ:=t1.trans (t2.trans (t3.trans (t4.trans t5)))
   refine ⟨_,rfl,_,rfl,_,_,rfl,rfl,_,rfl,fr,_,rfl,.of (uJ _ _ qN),fun u6 m6=>?_⟩
   rw [show c_ (o.map fun k:Nat=>V.int (k:Int)) (some ((at':Int)+2)) none=(o.drop (at'+2)).map fun k:Nat=>V.int (k:Int) from (yo _ (at'+2)).trans (List.map_drop ..).symm]
   have t6:ae H8 (upd H8 u6 (.lst ((o.drop (at'+2)).map fun k:Nat=>V.int (k:Int)))):=aG m6
   have g6:upd H8 u6 (.lst ((o.drop (at'+2)).map fun k:Nat=>V.int (k:Int))) u6=some (.lst ((o.drop (at'+2)).map fun k:Nat=>V.int (k:Int))):=aq
   generalize upd H8 u6 (.lst ((o.drop (at'+2)).map fun k:Nat=>V.int (k:Int)))=H9 at t6 g6 ⊢
   refine ⟨u5,u6,_,_,rfl,rfl,t6 _ _ g5,g6,Nat.le_of_lt (bV (by simp;omega)),fun ot m7=>?_⟩
   rw [←List.map_append]
   have po:(o.take at'++((o.drop at').take 2).reverse++o.drop (at'+2)).Perm (List.range n):=(swap_perm o at').trans ho
   have t7:ae H9 (upd H9 ot (.lst ((o.take at'++((o.drop at').take 2).reverse++o.drop (at'+2)).map fun k:Nat=>V.int (k:Int)))):=aG m7
   have uK:upd H9 ot (.lst ((o.take at'++((o.drop at').take 2).reverse++o.drop (at'+2)).map fun k:Nat=>V.int (k:Int))) ot=some (.lst ((o.take at'++((o.drop at').take 2).reverse++o.drop (at'+2)).map fun k:Nat=>V.int (k:Int))):=aq
   dsimp only [aI]
   generalize upd H9 ot (.lst ((o.take at'++((o.drop at').take 2).reverse++o.drop (at'+2)).map fun k:Nat=>V.int (k:Int)))=qO at t7 uK ⊢
   generalize o.take at'++((o.drop at').take 2).reverse++o.drop (at'+2)=o2 at po uK ⊢
   have uL:=(uJ.trans t6).trans t7
   have Ak:=p3.mono uL
   have Io:ot≠P0:=(p3.mono (uJ.trans t6)).ne m7
   have Al:=(s2.trans s3).trans (av.of uL)
   have Ip:=uL _ _ qN
   obtain ⟨lt,us,cI,elt,iT⟩:=id (uI Al)
   refine ⟨_,rfl,_,rfl,tp,_,_,_,rfl,rfl,.of cI,rfl,(n:Int),rfl,fun q1 nU=>⟨q1,n,rfl,aq,by omega,fun l nl=>?_⟩⟩
   have sl:ae qO (upd (upd qO q1 (.cX 0 (n:Int))) l (.lst (bK n))):=(aG nU).trans (aG nl)
   have el:upd (upd qO q1 (.cX 0 (n:Int))) l (.lst (bK n)) l=some (.lst (bK n)):=aq
   have lP:l≠P0:=Ak.ne (none_of (aG nU) nl)
   generalize upd (upd qO q1 (.cX 0 (n:Int))) l (.lst (bK n))=LQ at sl el ⊢
   have Am:=Al.trans (av.of sl)
   have Iq:=Ak.mono sl
   have lu:(bK n).length=n:=by unfold bK;simp
   refine ⟨P0,a,l,ns,bK n,rfl,Iq,ae.seq (s1.trans Am) iz,lP,el,by omega,fun r ys nV eI Ir nr rP Iu pm=>?_⟩
   obtain ⟨o3,rfl,Iv⟩:=Fh pm
   have Iw:=Am.trans eI
   have Iy:=((av.of sl).trans eI).at Ai Ip
   have Iz:=((av.of sl).trans eI).at Io uK
   refine ⟨_,rfl,_,rfl,by show 3≤sizeLine;decide,fun fl IA=>?_⟩
   have cJ:ae nV (upd nV fl (.lst [V.ref r,.ref fr,.ref ot])):=aG IA
   have qQ:upd nV fl (.lst [V.ref r,.ref fr,.ref ot]) fl=some (.lst [V.ref r,.ref fr,.ref ot]):=aq
   have all:∀v∈[V.ref r,.ref fr,.ref ot],∃ρ oo,v=.ref ρ∧nV ρ=some (.lst ((oo:List Nat).map fun k:Nat=>V.int (k:Int)))∧oo.Perm (List.range n):=by
    intro v hv
    simp only [List.mem_cons,List.not_mem_nil,or_false] at hv
    rcases hv with rfl | rfl | rfl
    ·exact ⟨r,o3,rfl,Iu,Iv⟩
    ·exact ⟨fr,o,rfl,Iy,ho⟩
    ·exact ⟨ot,o2,rfl,Iz,po⟩
   generalize [V.ref r,.ref fr,.ref ot]=ls at all cJ qQ ⊢
   generalize upd nV fl (.lst ls)=IC at cJ qQ ⊢
   have An:=Iw.trans (av.of cJ)
   have ID:=Ir.mono cJ
   have uM:=uI An
   refine ⟨fl,rfl,⟨_,.of qQ⟩,?_⟩
   refine gP (K:=K) (a:=fl) (xs:=ls) (fun j σ He=>∃(v7 v8 v9:Option V),σ=[some (.ref a),some (.ref P0),some (.int (0+(i:Int))),some (.ref tp),some (.ref fr),some (.int (at':Int)),some (.ref ot),v7,v8,v9]∧ae IC He) ⟨_,_,_,rfl,ae.refl _⟩ (fun j σ He _ ⟨_,_,_,_,se⟩=>.of (se _ _ qQ)) ?_ ?_
   ·rintro j x σ He IE ⟨v7,v8,v9,rfl,se⟩
    obtain ⟨ρ,oo,rfl,eρ,uN⟩:=all x (List.mem_of_getElem? IE)
    have LR:=gA uN
    have uO:=(cJ.trans se) _ _ eρ
    dsimp only [aI]
    refine ⟨_,rfl,ρ,_,rfl,.inl (.of uO),fun hd IF=>?_⟩
    have gD:ae He (upd He hd (.lst (oo.map fun k:Nat=>V.int (k:Int)))):=aG IF
    have uP:upd He hd (.lst (oo.map fun k:Nat=>V.int (k:Int))) hd=some (.lst (oo.map fun k:Nat=>V.int (k:Int))):=aq
    generalize upd He hd (.lst (oo.map fun k:Nat=>V.int (k:Int)))=LS at gD uP ⊢
    have Ao:=se.trans gD
    dsimp only [aI]
    refine ⟨_,rfl,_,rfl,tp,hd,n,L,oo.map iN,rfl,uM.mono Ao,dM,Im,by omega,by rw [uP,List.map_map];rfl,by rw [List.length_map];omega,fun no=>absurd (uN.map iN) no,fun o' e' gI IG M qR fs=>?_⟩
    have eo:o'=oo:=by
     have:=congrArg (List.map Int.toNat) e'
     rw [List.map_map,List.map_map] at this
     have Ap:∀l:List Nat,l.map (Int.toNat ∘ iN)=l:=fun l=>by
      conv=>rhs;rw [←List.map_id l]
      exact List.map_congr_left fun k _=>Int.toNat_natCast k
     rw [Ap,Ap] at this
     exact this.symm
    subst eo
    have uQ:=Ao.trans qR
    dsimp only [aI]
    obtain ⟨Ty,ty,k1,k2,_⟩:=(Any.bl (H:=IG) (decide (M=L))).oI (K:=K)
    refine bD ⟨_,rfl,_,_,_,_,rfl,rfl,ty,k2,true,rfl,iV ?_⟩
    refine ⟨_,rfl,_,rfl,hd,ρ,_,_,rfl,rfl,.of (qR _ _ uP),.of ((gD.trans qR) _ _ uO),rfl,(fun j x y hx hy=>?_),false,rfl,iV ?_⟩
    ·rw [hx] at hy
     cases hy
     refine ⟨rfl,?_⟩
     obtain ⟨z,_,rfl⟩:=List.mem_map.mp (List.mem_of_getElem? hx)
     rfl
    dsimp only [gM]
    refine ⟨_,rfl,_,rfl,_,rfl,tp,ρ,n,L,o',rfl,uM.mono uQ,dM,by omega,bQ,(gD.trans qR) _ _ uO,uN,fun LU IH M' Aq II lK=>?_⟩
    have eM:M'=M:=lK.uniq fs
    subst eM
    refine ⟨_,rfl,IH,tp,n,M',L,rfl,rfl,II,uM.mono (uQ.trans Aq),rfl,_,rfl,b8 (fun hb=>?_) (fun _=>?_)⟩
    ·rw [decide_eq_true rfl] at hb
     cases hb
    ·exact ⟨_,_,_,rfl,uQ.trans Aq⟩
   ·rintro σ He ⟨v7,v8,v9,rfl,se⟩
    exact ⟨_,_,_,_,_,_,_,_,rfl,sT.trans (s1.trans (An.trans (av.of se))),ID.mono se⟩
  ·rintro σ Hc ⟨v2,v3,v4,v5,v6,v7,v8,v9,rfl,sT,pc⟩
   exact kQ _
theorem IJ{l:PySem.W.OpenLaw}(T:Txt K mg t):∃fd:FuncData,(∀(s:Shared) (v:Value),BindsTo s fd ⟨[v],[]⟩ [("script",v)])∧∀base:Heap,K.In base→base.Ns mainGlobals mg→bA l.prog w K mg base bU 9 t.il fd ["script"] (oT K):=by
 obtain ⟨oc,od,kV,doc,pm,an,aK,ct,fP,e,lk,dN⟩:=T.k_.ex
 refine ⟨t.jD,fun s v=>?_,fun base _ _=>Ih T⟩
 rw [e]
 exact .of_eq rfl
end
theorem walk{l:PySem.W.OpenLaw}{q:Program}{loose:List Str}{XP:(Str→Option Value)→Heap→Prop}{YP:World→Heap→Prop}{d:DefRec}{K:Params→PySem.W.Frag}(hn:l.most=some 63)(mz:d.params.defaults=[])
  (hY:∀(w:World) (h:Heap),YP w h→(K w.params).In h)
  (F:∀(w:World) (mg:Str→Option Value) (fa:Addr) (h:Heap),(K w.params).In h→h.Ns mainGlobals mg→mg d.name=some (.ref fa)→
   ∃fd:FuncData,(∀(s:Shared) (u:Value),BindsTo s fd ⟨[u],[]⟩ [("script",u)])∧∀base:Heap,(K w.params).In base→base.Ns mainGlobals mg→bA l.prog w (K w.params) mg base bU 9 fa fd ["script"] (oT (K w.params))) :
  PySem.W.WalkO q loose XP YP l.row.toRowW d [] (fun f vs=>PySem.call f vs):=
 L2.Cp (n:=63) (k:=9) (x:="script") (CX:=fun _=>bU) (sp:=fun w=>oT (K w.params)) hn (by decide) mz ⟨rfl,by decide,by decide⟩ hY F (fun _ _ a ns hl _ hS=>⟨a,ns,rfl,hS,hl,fun _=>rfl⟩) fun _ _ _ _ _ z=>z
theorem IK{K:PySem.W.Frag}{h:Heap}{mg:Str→Option Value}(X:K.In h)(G:h.Ns mainGlobals mg)
  {fY:Addr}
  {je jf jg jh ji jj jk jl jm jo jq jr jt ju jv jw jx jy jA jB jC il:Addr} {j9 j_ kd ke kf kg kh ki kj ko kq kr ku ky kA kB kC kD kF kG kH jD:FuncData}
  (uR:PySem.W.nsIn K mainGlobals "NoOrder" = some (some (.ref fY)))
  (IL:mg "is_whole" = some (.ref je))
  (kI:aP K "is_whole" "is_whole" pP je j9)
  (IM:mg "neighbours" = some (.ref jf))
  (kJ:aP K "neighbours" "neighbours" pQ jf j_)
  (IP:mg "is_order" = some (.ref jg))
  (kK:aP K "is_order" "is_order" pR jg kd)
  (IQ:mg "check_order" = some (.ref jh))
  (kL:aP K "check_order" "check_order" pS jh ke)
  (IS:mg "turns_of" = some (.ref ji))
  (kM:aP K "turns_of" "turns_of" pU ji kf)
  (IT:mg "link_all" = some (.ref jj))
  (kN:aP K "link_all" "link_all" pV jj kg)
  (IU:mg "later" = some (.ref jk))
  (kO:aP K "later" "later" pW jk kh)
  (IV:mg "filled" = some (.ref jl))
  (kP:aP K "filled" "filled" pX jl ki)
  (IW:mg "is_perfect" = some (.ref jm))
  (kS:aP K "is_perfect" "is_perfect" pY jm kj)
  (IY:mg "_law_fill" = some (.ref jo))
  (kT:aP K "_law_fill" "_law_fill" pZ jo ko)
  (IZ:mg "_law_next" = some (.ref jq))
  (cU:aP K "_law_next" "_law_next" p9 jq kq)
  (I0:mg "_law_turned" = some (.ref jr))
  (jE:aP K "_law_turned" "_law_turned" p_ jr kr)
  (I_:mg "_law_tied_by" = some (.ref jt))
  (kU:aP K "_law_tied_by" "_law_tied_by" qa jt ku)
  (Ja:mg "_law_grown_links" = some (.ref ju))
  (kW:aP K "_law_grown_links" "_law_grown_links" qb ju ky)
  (Jb:mg "_law_drawn" = some (.ref jv))
  (kX:aP K "_law_drawn" "_law_drawn" qc jv kA)
  (Jc:mg "_law_named" = some (.ref jw))
  (kY:aP K "_law_named" "_law_named" qd jw kB)
  (Jd:mg "_law_beside" = some (.ref jx))
  (jF:aP K "_law_beside" "_law_beside" qe jx kC)
  (Je:mg "_law_walks" = some (.ref jy))
  (kZ:aP K "_law_walks" "_law_walks" qf jy kD)
  (Jf:mg "_law_filled" = some (.ref jA))
  (k4:aP K "_law_filled" "_law_filled" qg jA kF)
  (Jg:mg "_law_free" = some (.ref jB))
  (k6:aP K "_law_free" "_law_free" qh jB kG)
  (Jh:mg "_law_far" = some (.ref jC))
  (k8:aP K "_law_far" "_law_far" qi jC kH)
  (Ji:mg "law" = some (.ref il))
  (k_:aP K "law" "law" qj il jD)
  (uS:PySem.W.nsIn K mainGlobals "len" = some none)
  (uT:PySem.W.nsIn K mainGlobals "isinstance" = some none)
  (uU:PySem.W.nsIn K mainGlobals "int" = some none)
  (uV:PySem.W.nsIn K mainGlobals "bool" = some none)
  (uW:PySem.W.nsIn K mainGlobals "tuple" = some none)
  (uX:PySem.W.nsIn K mainGlobals "list" = some none)
  (uY:PySem.W.nsIn K mainGlobals "range" = some none)
  (uZ:PySem.W.nsIn K mainGlobals "all" = some none)
  (u0:PySem.W.nsIn K mainGlobals "enumerate" = some none)
  (u7:PySem.W.nsIn K mainGlobals "min" = some none)
  (u9:PySem.W.nsIn K mainGlobals "max" = some none)
  (u_:PySem.W.nsIn K mainGlobals "sorted" = some none)
  (va:PySem.W.nsIn K mainGlobals "ValueError" = some none)
  (vb:PySem.W.excIn K fY [.type "ValueError",.type "Exception",.type "BaseException",.type "object"] "ValueError.__new__" = true)
  : ∃t:tN,Txt K mg t:=by
 refine ⟨⟨je,j9,jf,j_,jg,kd,jh,ke,ji,kf,jj,kg,jk,kh,jl,ki,jm,kj,jo,ko,jq,kq,jr,kr,jt,ku,ju,ky,jv,kA,jw,kB,jx,kC,jy,kD,jA,kF,jB,kG,jC,kH,il,jD,fY⟩,?_⟩
 exact {
  kI:=kI
  yp:=kI.binds (ps:=["thing"]) fun _ _ _ _ _ _ us hl=>match us,hl with | [_],_=>rfl
  yq:=IL
  kJ:=kJ
  yr:=kJ.binds (ps:=["shape"]) fun _ _ _ _ _ _ us hl=>match us,hl with | [_],_=>rfl
  yt:=IM
  kK:=kK
  yu:=kK.binds (ps:=["thing","n"]) fun _ _ _ _ _ _ us hl=>match us,hl with | [_,_],_=>rfl
  yv:=IP
  kL:=kL
  yw:=kL.binds (ps:=["order","n"]) fun _ _ _ _ _ _ us hl=>match us,hl with | [_,_],_=>rfl
  yy:=IQ
  kM:=kM
  yz:=kM.binds (ps:=["order"]) fun _ _ _ _ _ _ us hl=>match us,hl with | [_],_=>rfl
  yA:=IS
  kN:=kN
  yB:=kN.binds (ps:=["linked","places"]) fun _ _ _ _ _ _ us hl=>match us,hl with | [_,_],_=>rfl
  yC:=IT
  kO:=kO
  yE:=kO.binds (ps:=["shape","order"]) fun _ _ _ _ _ _ us hl=>match us,hl with | [_,_],_=>rfl
  yF:=IU
  kP:=kP
  yG:=kP.binds (ps:=["shape","order"]) fun _ _ _ _ _ _ us hl=>match us,hl with | [_,_],_=>rfl
  yH:=IV
  kS:=kS
  yI:=kS.binds (ps:=["shape","order"]) fun _ _ _ _ _ _ us hl=>match us,hl with | [_,_],_=>rfl
  yJ:=IW
  kT:=kT
  yK:=kT.binds (ps:=["_law_cell","_law_at"]) fun _ _ _ _ _ _ us hl=>match us,hl with | [_,_],_=>rfl
  yL:=IY
  cU:=cU
  eF:=cU.binds (ps:=["_law_pen","_law_many"]) fun _ _ _ _ _ _ us hl=>match us,hl with | [_,_],_=>rfl
  eG:=IZ
  jE:=jE
  tO:=jE.binds (ps:=["_law_pen","_law_some"]) fun _ _ _ _ _ _ us hl=>match us,hl with | [_,_],_=>rfl
  tP:=I0
  kU:=kU
  yM:=kU.binds (ps:=["_law_pen","_law_way","_law_size","_law_wide","_law_i","_law_j"]) fun _ _ _ _ _ _ us hl=>match us,hl with | [_,_,_,_,_,_],_=>rfl
  yN:=I_
  kW:=kW
  yO:=kW.binds (ps:=["_law_pen","_law_size"]) fun _ _ _ _ _ _ us hl=>match us,hl with | [_,_],_=>rfl
  yP:=Ja
  kX:=kX
  yQ:=kX.binds (ps:=["_law_pen","_law_most"]) fun _ _ _ _ _ _ us hl=>match us,hl with | [_,_],_=>rfl
  yR:=Jb
  kY:=kY
  yS:=kY.binds (ps:=["_law_size","_law_links","_law_names"]) fun _ _ _ _ _ _ us hl=>match us,hl with | [_,_,_],_=>rfl
  yT:=Jc
  jF:=jF
  tQ:=jF.binds (ps:=["_law_shape"]) fun _ _ _ _ _ _ us hl=>match us,hl with | [_],_=>rfl
  tR:=Jd
  kZ:=kZ
  yU:=kZ.binds (ps:=["_law_beside_here","_law_through","_law_start"]) fun _ _ _ _ _ _ us hl=>match us,hl with | [_,_,_],_=>rfl
  yV:=Je
  k4:=k4
  yW:=k4.binds (ps:=["_law_shape","_law_order"]) fun _ _ _ _ _ _ us hl=>match us,hl with | [_,_],_=>rfl
  yX:=Jf
  k6:=k6
  yY:=k6.binds (ps:=["_law_beside_here","_law_left"]) fun _ _ _ _ _ _ us hl=>match us,hl with | [_,_],_=>rfl
  yZ:=Jg
  k8:=k8
  y3:=k8.binds (ps:=["_law_pen","_law_shape"]) fun _ _ _ _ _ _ us hl=>match us,hl with | [_,_],_=>rfl
  y4:=Jh
  k_:=k_
  FT:=k_.binds (ps:=["script"]) fun _ _ _ _ _ _ us hl=>match us,hl with | [_],_=>rfl
  y6:=Ji
  y7:=PySem.W.mg_of X G uR
  ir:=PySem.W.mg_none_of X G uS
  nk:=PySem.W.mg_none_of X G uT
  y8:=PySem.W.mg_none_of X G uU
  tS:=PySem.W.mg_none_of X G uV
  ql:=PySem.W.mg_none_of X G uW
  iu:=PySem.W.mg_none_of X G uX
  e_:=PySem.W.mg_none_of X G uY
  y9:=PySem.W.mg_none_of X G uZ
  tT:=PySem.W.mg_none_of X G u0
  qm:=PySem.W.mg_none_of X G u7
  qo:=PySem.W.mg_none_of X G u9
  lh:=PySem.W.mg_none_of X G u_
  FU:=PySem.W.mg_none_of X G va
  y_:=vb
 }
end My
def PySem.W.Fast.tw11767594935756824293:Unit:=()
def PySem.W.Fast.tw7096240680045761093:Unit:=()
def PySem.W.Fast.tw3076424994221000771:Unit:=()
def PySem.W.Fast.tw14300740270064083494:Unit:=()
def PySem.W.Fast.tw4642083864638504212:Unit:=()
def PySem.W.Fast.tw18163845624384033813:Unit:=()
def PySem.W.Fast.tw16343316360871771762:Unit:=()
def PySem.W.Fast.tw17572377785082827057:Unit:=()
def PySem.W.Fast.tw18303192260195431802:Unit:=()
def PySem.W.Fast.tw11645977349931767368:Unit:=()
def PySem.W.Fast.tw12528721744391357788:Unit:=()
def PySem.W.Fast.tw37790263087214997:Unit:=()
def PySem.W.Fast.tw11037537756173154794:Unit:=()
def PySem.W.Fast.tw11054826341461277443:Unit:=()
def PySem.W.Fast.tw3865647406560154641:Unit:=()
def PySem.W.Fast.tw16530493587768418208:Unit:=()
def PySem.W.Fast.tw11641904697118092950:Unit:=()
def PySem.W.Fast.tw13314358963844941985:Unit:=()
open PySem PySem.W PyProof.Rows
set_option maxRecDepth 100000 in
set_option maxHeartbeats 0 in
theorem PySem.Challenge.cw_bandwright_k21_orders_looked_at_holds : PySem.Challenge.rw_bandwright_k21_orders_looked_at.Holds := by
 w_on;o_law;k_head;(case hw=>w_witness2)
 k_fill
 refine My.walk (l:=PySem.Challenge.rw_bandwright_k21_orders_looked_at) rfl rfl (fun w h Y=>PySem.W.kIn_of Y) ?F
 case F=>
  intro w mg fa h KX G mB
  have T:∃t,My.Txt (L2.wJ KX) mg t:=by
   dsimp only [L2.wJ]
   refine' My.IK KX G ?uR (PySem.W.mg_of KX G ?Jj) (L2.b7 (st:=My.pP) ?Jk ?Jl ?Jm) (PySem.W.mg_of KX G ?Jn) (L2.b7 (st:=My.pQ) ?Jo ?Jp ?Jq) (PySem.W.mg_of KX G ?Jr) (L2.b7 (st:=My.pR) ?Js ?Jt ?Ju) (PySem.W.mg_of KX G ?Jv) (L2.b7 (st:=My.pS) ?Jw ?Jx ?Jy) (PySem.W.mg_of KX G ?Jz) (L2.b7 (st:=My.pU) ?JA ?JB ?JD) (PySem.W.mg_of KX G ?JE) (L2.b7 (st:=My.pV) ?JF ?JG ?JH) (PySem.W.mg_of KX G ?JI) (L2.b7 (st:=My.pW) ?JJ ?JK ?JL) (PySem.W.mg_of KX G ?JM) (L2.b7 (st:=My.pX) ?JN ?JO ?JP) (PySem.W.mg_of KX G ?JQ) (L2.b7 (st:=My.pY) ?JR ?JS ?JT) (PySem.W.mg_of KX G ?JU) (L2.b7 (st:=My.pZ) ?JV ?JW ?JX) (PySem.W.mg_of KX G ?JY) (L2.b7 (st:=My.p9) ?JZ ?J0 ?J1) (PySem.W.mg_of KX G ?J2) (L2.b7 (st:=My.p_) ?J3 ?J4 ?J5) (PySem.W.mg_of KX G ?J6) (L2.b7 (st:=My.qa) ?J7 ?J8 ?J9) (PySem.W.mg_of KX G ?J_) (L2.b7 (st:=My.qb) ?Ka ?Kb ?Ke) (PySem.W.mg_of KX G ?Ki) (L2.b7 (st:=My.qc) ?Kj ?Kk ?Kl) (PySem.W.mg_of KX G ?Km) (L2.b7 (st:=My.qd) ?Kn ?Ko ?Kp) (PySem.W.mg_of KX G ?Kq) (L2.b7 (st:=My.qe) ?Kr ?Ks ?Kt) (PySem.W.mg_of KX G ?Ku) (L2.b7 (st:=My.qf) ?Kv ?Kw ?Kx) (PySem.W.mg_of KX G ?Ky) (L2.b7 (st:=My.qg) ?Kz ?KA ?KC) (PySem.W.mg_of KX G ?KD) (L2.b7 (st:=My.qh) ?KG ?KH ?KI) (PySem.W.mg_of KX G ?KJ) (L2.b7 (st:=My.qi) ?KN ?KO ?KP) (PySem.W.mg_of KX G ?KQ) (L2.b7 (st:=My.qj) ?KR ?KS ?KU) ?uS ?uT ?uU ?uV ?uW ?uX ?uY ?uZ ?u0 ?u7 ?u9 ?u_ ?va ?vb
   (case uR=>k_is)
   (case Jj=>k_is)
   (case Jk=>k_is)
   (case Jl=>k_is)
   (case Jm=>k_is)
   (case Jn=>k_is)
   (case Jo=>k_is)
   (case Jp=>k_is)
   (case Jq=>k_is)
   (case Jr=>k_is)
   (case Js=>k_is)
   (case Jt=>k_is)
   (case Ju=>k_is)
   (case Jv=>k_is)
   (case Jw=>k_is)
   (case Jx=>k_is)
   (case Jy=>k_is)
   (case Jz=>k_is)
   (case JA=>k_is)
   (case JB=>k_is)
   (case JD=>k_is)
   (case JE=>k_is)
   (case JF=>k_is)
   (case JG=>k_is)
   (case JH=>k_is)
   (case JI=>k_is)
   (case JJ=>k_is)
   (case JK=>k_is)
   (case JL=>k_is)
   (case JM=>k_is)
   (case JN=>k_is)
   (case JO=>k_is)
   (case JP=>k_is)
   (case JQ=>k_is)
   (case JR=>k_is)
   (case JS=>k_is)
   (case JT=>k_is)
   (case JU=>k_is)
   (case JV=>k_is)
   (case JW=>k_is)
   (case JX=>k_is)
   (case JY=>k_is)
   (case JZ=>k_is)
   (case J0=>k_is)
   (case J1=>k_is)
   (case J2=>k_is)
   (case J3=>k_is)
   (case J4=>k_is)
   (case J5=>k_is)
   (case J6=>k_is)
   (case J7=>k_is)
   (case J8=>k_is)
   (case J9=>k_is)
   (case J_=>k_is)
   (case Ka=>k_is)
   (case Kb=>k_is)
   (case Ke=>k_is)
   (case Ki=>k_is)
   (case Kj=>k_is)
   (case Kk=>k_is)
   (case Kl=>k_is)
   (case Km=>k_is)
   (case Kn=>k_is)
   (case Ko=>k_is)
   (case Kp=>k_is)
   (case Kq=>k_is)
   (case Kr=>k_is)
   (case Ks=>k_is)
   (case Kt=>k_is)
   (case Ku=>k_is)
   (case Kv=>k_is)
   (case Kw=>k_is)
   (case Kx=>k_is)
   (case Ky=>k_is)
   (case Kz=>k_is)
   (case KA=>k_is)
   (case KC=>k_is)
   (case KD=>k_is)
   (case KG=>k_is)
   (case KH=>k_is)
   (case KI=>k_is)
   (case KJ=>k_is)
   (case KN=>k_is)
   (case KO=>k_is)
   (case KP=>k_is)
   (case KQ=>k_is)
   (case KR=>k_is)
   (case KS=>k_is)
   (case KU=>k_is)
   (case uS=>k_is)
   (case uT=>k_is)
   (case uU=>k_is)
   (case uV=>k_is)
   (case uW=>k_is)
   (case uX=>k_is)
   (case uY=>k_is)
   (case uZ=>k_is)
   (case u0=>k_is)
   (case u7=>k_is)
   (case u9=>k_is)
   (case u_=>k_is)
   (case va=>k_is)
   (case vb=>k_exc)
  obtain ⟨t,T⟩:=T
  have e0:=mB.symm.trans T.y6
  cases e0
  exact My.IJ T
#print axioms PySem.Challenge.cw_bandwright_k21_orders_looked_at_holds
