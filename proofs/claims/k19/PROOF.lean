import PyProof.Rows.All
import Wide.All
import OpenK.AllK
import Wide.FinOn
import Lean
import PyProof.EqAt
import PyProof.EqKinds
import PyProof.TupleCall
import PySem.Challenge.RW_bandwright_k19_no_orders
set_option Elab.async false
set_option linter.all false
set_option maxRecDepth 100000
namespace L2
open PySem PySem.Spec PyProof.Rows
abbrev Key:=Sum Int Str
def fw:Key→Value→Bool
 | .inl k,v=>Value.isInt k v
 | .inr x,v=>Value.isStrOf x v
def xN(w:World):Key→Int
 | .inl k=>hashInt k
 | .inr x=>hashStr w x
theorem dF:∀{k:Key} {v:Value},fw k v=true→(∃i t,k=Sum.inl i∧v=Value.int i t)∨(∃x t,k=Sum.inr x∧v=Value.str x t)
 | .inl i,v,h=>by
  obtain ⟨t,e⟩:=Value.isInt_shape (k:=i) (v:=v) h
  exact .inl ⟨i,t,rfl,e⟩
 | .inr x,v,h=>by
  obtain ⟨t,e⟩:=Value.isStrOf_shape (x:=x) (v:=v) h
  exact .inr ⟨x,t,rfl,e⟩
theorem xO(i:Int)(t:Tok):fw (.inl i) (.int i t)=true:=by simp [fw,Value.isInt]
theorem xP(x:Str)(t:Tok):fw (.inr x) (.str x t)=true:=by simp [fw,Value.isStrOf]
theorem xQ(a b:Int):decide ((Sum.inl a:Key)=Sum.inl b)=(a == b):=by
 by_cases e:a=b
 ·subst e;simp
 ·have h:¬(Sum.inl a:Key)=Sum.inl b:=fun q=>e (Sum.inl.inj q)
  rw [decide_eq_false h]
  exact (beq_eq_false_iff_ne.mpr e).symm
theorem xR(a b:Str):decide ((Sum.inr a:Key)=Sum.inr b)=decide (a=b):=by
 by_cases e:a=b
 ·subst e;simp
 ·have h:¬(Sum.inr a:Key)=Sum.inr b:=fun q=>e (Sum.inr.inj q)
  rw [decide_eq_false h,decide_eq_false e]
theorem xS(a:Int)(b:Str):decide ((Sum.inl a:Key)=Sum.inr b)=false:=decide_eq_false (fun q=>nomatch q)
theorem xT(a:Str)(b:Int):decide ((Sum.inr a:Key)=Sum.inl b)=false:=decide_eq_false (fun q=>nomatch q)
def cg(prog:Program)(w:World):PySem.KeyKind prog w Key where
 is:=fw
 hash:=xN w
 inj:=fun v a b ha hb=>by
  rcases dF ha with ⟨i,t,rfl,rfl⟩ | ⟨x,t,rfl,rfl⟩
  ·rcases dF hb with ⟨j,u,rfl,e⟩ | ⟨y,u,rfl,e⟩
   ·injection e with e1 _;rw [e1]
   ·exact nomatch e
  ·rcases dF hb with ⟨j,u,rfl,e⟩ | ⟨y,u,rfl,e⟩
   ·exact nomatch e
   ·injection e with e1 _;rw [e1]
 byValue:=fun k v h=>by
  rcases dF h with ⟨i,t,rfl,rfl⟩ | ⟨x,t,rfl,rfl⟩ <;> rfl
 pyHash:=fun hv h=>by
  rcases dF hv with ⟨i,t,rfl,rfl⟩ | ⟨x,t,rfl,rfl⟩
  ·exact wpAny_pyHash_int h
  ·exact wpAny_pyHash_str h
 eqBool:=fun hu hv h=>by
  rcases dF hu with ⟨i,t,rfl,rfl⟩ | ⟨x,t,rfl,rfl⟩
  ·rcases dF hv with ⟨j,u,rfl,rfl⟩ | ⟨y,u,rfl,rfl⟩
   ·rw [xQ] at h;exact wpAny_eqBool_int h
   ·rw [xS] at h;exact SeqAt.EqAt.int_str i t y u _ _ _ _ h
  ·rcases dF hv with ⟨j,u,rfl,rfl⟩ | ⟨y,u,rfl,rfl⟩
   ·rw [xT] at h;exact SeqAt.EqAt.str_int x t j u _ _ _ _ h
   ·rw [xR] at h;exact wpAny_eqBool_str h
 «strs»:=fun k x t v h=>by
  rcases dF h with ⟨i,u,rfl,e⟩ | ⟨y,u,rfl,e⟩
  ·exact nomatch e
  ·injection e with e1 _
   subst e1
   cases v <;> rfl
theorem xU(prog:Program)(w:World)(i:Int)(t:Tok):(cg prog w).is (.inl i) (.int i t)=true:=xO i t
theorem xV(prog:Program)(w:World)(x:Str)(t:Tok):(cg prog w).is (.inr x) (.str x t)=true:=xP x t
inductive V where
 | az | bl (b:Bool) | int (i:Int) | str (x:Str) | dg (b:Array UInt8) | gQ (b:UInt64) | ref (a:Addr) | ty (n:String)
 deriving DecidableEq
def RelV:V→Value→Prop
 | .az,u=>u=Value.none
 | .bl b,u=>u=Value.bool b
 | .int i,u=>∃t,u=Value.int i t
 | .str x,u=>∃t,u=Value.str x t
 | .dg b,u=>∃t,u=Value.bytes b t
 | .gQ b,u=>∃t,u=Value.float b t
 | .ref a,u=>u=Value.ref a
 | .ty n,u=>u=Value.type n
abbrev Vals:List V→List Value→Prop:=Paired RelV
theorem Vals.length{xs:List V}{us:List Value}(r:Vals xs us):xs.length=us.length:=Paired.length r
theorem Vals.get:∀{xs:List V} {us:List Value} {i:Nat} {x:V},Vals xs us→xs[i]?=some x→∃u,us[i]?=some u∧RelV x u
 | _,_,_,_,.nil,e=>by simp at e
 | _,_,0,_,.cons r _,e=>by simp at e;subst e;exact ⟨_,rfl,r⟩
 | _,_,i+1,x,.cons _ t,e=>by
  obtain ⟨u,h1,h2⟩:=Vals.get (i:=i) (x:=x) t (by simpa using e)
  exact ⟨u,by simpa using h1,h2⟩
theorem Vals.set{x:V}{u:Value}(r:RelV x u):∀{xs:List V} {us:List Value} (i:Nat),Vals xs us→Vals (xs.set i x) (us.set i u)
 | _,_,_,.nil=>.nil
 | _,_,0,.cons _ t=>.cons r t
 | _,_,i+1,.cons q t=>.cons q (Vals.set r i t)
theorem Vals.append:∀{xs ys:List V} {us ws:List Value},Vals xs us→Vals ys ws→Vals (xs++ys) (us++ws)
 | _,_,_,_,.nil,s=>s
 | _,_,_,_,.cons r t,s=>.cons r (Vals.append t s)
theorem Vals.take:∀{xs:List V} {us:List Value} (n:Nat),Vals xs us→Vals (xs.take n) (us.take n)
 | _,_,0,_=>.nil
 | _,_,_+1,.nil=>.nil
 | _,_,n+1,.cons r t=>.cons r (Vals.take n t)
theorem Vals.drop:∀{xs:List V} {us:List Value} (n:Nat),Vals xs us→Vals (xs.drop n) (us.drop n)
 | _,_,0,r=>r
 | _,_,_+1,.nil=>.nil
 | _,_,n+1,.cons _ t=>Vals.drop n t
theorem Vals.none_of:∀{xs:List V} {us:List Value} {i:Nat},Vals xs us→xs[i]?=none→us[i]?=none:=fun{xs us i} r e=>by
 have h1:=r.length
 have h2:xs.length≤i:=List.getElem?_eq_none_iff.mp e
 exact List.getElem?_eq_none_iff.mpr (by omega)
def gR:Option V→Option Value→Prop
 | some v,some u=>RelV v u
 | none,none=>True
 | _,_=>False
def KV{κ:Type}:List (κ×V)→List (κ×Value)→Prop:=Paired fun(p:κ×V) (q:κ×Value)=>p.1=q.1∧RelV p.2 q.2
def kV:Key→V
 | .inl i=>.int i
 | .inr x=>.str x
inductive HO where
 | lst (xs:List V)
 | tup (xs:List V)
 | dK (ai:List (Key×V)) | dT (ai:List (List Key×V))
 | set (S:Int→Bool) (n:Nat)
 | ins (C dx:Addr) (fs:List (Str×V))
 | own (x:Addr)
 | xd (fs:List (Str×V))
 | met (f x:Addr)
 | cj (lo hi:Int)
 | aM (o:Obj) (u:HO)
 | dG (ps:Array Value)
 | ext (φ:Heap→Prop)
abbrev Hp:=Addr→Option HO
def upd(H:Hp)(a:Addr)(o:HO):Hp:=fun b=>if b=a then some o else H b
theorem ak{H:Hp}{a:Addr}{o:HO}:upd H a o a=some o:=by unfold upd;rw [if_pos rfl]
theorem ay{H:Hp}{a b:Addr}{o:HO}(h:b≠a):upd H a o b=H b:=by unfold upd;rw [if_neg h]
theorem xW{H:Hp}{a b:Addr}{o u:HO}(h:H a=some o)(h':H b=some u)(d:o≠u):a≠b:=by
 intro e;subst e;rw [h] at h';exact d (Option.some.inj h')
theorem b4{H:Hp}{a b:Addr}{o:HO}(h:H a=some o)(h':H b=none):a≠b:=by
 intro e;subst e;rw [h] at h';cases h'
section
variable (P:Program) (w:World)
def aI(H:Hp)(h:Heap)(a:Addr):HO→Prop
 | .lst xs=>xs.length≤sizeLine∧∃(ae:List Value) (n:Nat),Vals xs ae∧h.get? a=some {cls:=.type "list",data:=.seq ae.toArray n}
 | .tup xs=>xs.length≤sizeLine∧∃ae:List Value,Vals xs ae∧IsTup h a ae.toArray
 | .dK ai=>ai.length≤sizeLine∧(a == sysModules)=false∧∃vs,KV ai vs∧h.DictOf (cg P w) a vs
 | .dT ai=>ai.length≤sizeLine∧(a == sysModules)=false∧∃xs:List (List Key×Addr×Value),
   Paired (fun(p:List Key×V) (q:List Key×Addr×Value)=>p.1=q.1∧H q.2.1=some (.tup (p.1.map kV))∧RelV p.2 q.2.2) ai xs ∧
   ∃o es ep,h.get? a=some o∧o.ExactDict∧o.data=.dict es ep∧es.toList=xs.map (entryOfKey (tupleKind (cg P w)))∧(xs.map (·.1)).Nodup
 | .set S n=>h.SetOf (intKind P w) a S n
 | .ins C dx fs=>H dx=some (.own a)∧fs.length≤1000∧dx≠a∧h.get? a=some (PySem.W.instObj C dx) ∧
   ∃mA,h.Ns1 dx mA∧(∀f,gR (fs.lookup f) (mA f))∧PySem.Within mA (fs.map (·.1))
 | .own _=>∃o,h.get? a=some o
 | .xd fs=>∃mA,h.Ns1 a mA∧∀f,gR (fs.lookup f) (mA f)
 | .cj lo hi=>∃t u v,h.get? a=some {cls:=.type "range",data:=.fields #[.int lo t,.int hi u,.int 1 v]}
 | .aM o u=>h.get? a=some o∧aI H h a u
 | .dG ps=>h.get? a=some {cls:=.none,data:=.fields ps}
 | .met f x=>h.get? a=some (PySem.W.methodObj (.ref f) (.ref x))
 | .ext φ=>φ h∧(∃o,h.get? a=some o)∧∀h1 h2:Heap,φ h1→(∀o,h1.get? a=some o→h2.get? a=some o)→φ h2
def aJ(H:Hp)(h:Heap):Prop:=∀a o,H a=some o→aI P w H h a o
end
section
variable {P:Program} {w:World} {H H':Hp} {h h':Heap} {a:Addr} {o:HO}
theorem aI.lt(x:aI P w H h a o):a<h.objs.size:=by
 cases o with
 | lst xs=>obtain ⟨_,_,_,_,e⟩:=x;exact Heap.lt_size e
 | tup xs=>obtain ⟨_,_,_,p⟩:=x;exact p.lt
 | dK ai=>obtain ⟨_,_,_,_,o,_,_,e,_⟩:=x;exact Heap.lt_size e
 | dT ai=>obtain ⟨_,_,_,_,o,_,_,e,_⟩:=x;exact Heap.lt_size e
 | set S n=>obtain ⟨o,_,_,_,e,_⟩:=x;exact Heap.lt_size e
 | ins C dx fs=>obtain ⟨_,_,_,e,_⟩:=x;exact Heap.lt_size e
 | own y=>obtain ⟨_,e⟩:=x;exact Heap.lt_size e
 | xd fs=>obtain ⟨_,⟨_,_,_,e,_⟩,_⟩:=x;exact Heap.lt_size e
 | cj lo hi=>obtain ⟨_,_,_,e⟩:=x;exact Heap.lt_size e
 | aM ob u=>obtain ⟨e,_⟩:=x;exact Heap.lt_size e
 | dG ps=>exact Heap.lt_size (show h.get? a=some _ from x)
 | met f y=>exact Heap.lt_size (show h.get? a=some _ from x)
 | ext φ=>obtain ⟨_,⟨_,e⟩,_⟩:=x;exact Heap.lt_size e
theorem Paired.mX{α β:Type}{F G:α→β→Prop}:∀{l₁:List α} {l₂:List β},Paired F l₁ l₂→(∀a b,F a b→G a b)→Paired G l₁ l₂
 | _,_,.nil,_=>.nil
 | _,_,.cons r t,f=>.cons (f _ _ r) (Paired.mX t f)
theorem aI.cQ(x:aI P w H h a o)(k:∀b u,(b=a∨H b=some (.own a))→h.get? b=some u→h'.get? b=some u)
  (ho:∀b,H b=some (.own a)→H' b=some (.own a)) (ht:∀b xs,H b=some (.tup xs)→H' b=some (.tup xs)):aI P w H' h' a o:=by
 induction o with
 | lst xs=>obtain ⟨z,ae,n,r,e⟩:=x;exact ⟨z,ae,n,r,k _ _ (.inl rfl) e⟩
 | tup xs=>obtain ⟨z,ae,r,ob,e,c⟩:=x;exact ⟨z,ae,r,ob,k _ _ (.inl rfl) e,c⟩
 | dK ai=>obtain ⟨z,y,vs,r,ob,es,ep,e,c⟩:=x;exact ⟨z,y,vs,r,ob,es,ep,k _ _ (.inl rfl) e,c⟩
 | dT ai=>
  obtain ⟨z,y,xs,r,ob,es,ep,e,c⟩:=x
  exact ⟨z,y,xs,Paired.mX r fun p q z=>⟨z.1,ht _ _ z.2.1,z.2.2⟩,ob,es,ep,k _ _ (.inl rfl) e,c⟩
 | set S n=>obtain ⟨ob,es,ep,t,e,c⟩:=x;exact ⟨ob,es,ep,t,k _ _ (.inl rfl) e,c⟩
 | ins C dx fs=>
  obtain ⟨d,z,ne,e,mA,⟨od,es,ep,e2,c⟩,r⟩:=x
  exact ⟨ho _ d,z,ne,k _ _ (.inl rfl) e,mA,⟨od,es,ep,k _ _ (.inr d) e2,c⟩,r⟩
 | own y=>obtain ⟨ob,e⟩:=x;exact ⟨ob,k _ _ (.inl rfl) e⟩
 | xd fs=>obtain ⟨mA,⟨od,es,ep,e,c⟩,r⟩:=x;exact ⟨mA,⟨od,es,ep,k _ _ (.inl rfl) e,c⟩,r⟩
 | cj lo hi=>obtain ⟨t,u,v,e⟩:=x;exact ⟨t,u,v,k _ _ (.inl rfl) e⟩
 | aM ob u ih=>obtain ⟨e,q⟩:=x;exact ⟨k _ _ (.inl rfl) e,ih q⟩
 | dG ps=>
  have e:h.get? a=some {cls:=.none,data:=.fields ps}:=x
  show h'.get? a=some {cls:=.none,data:=.fields ps}
  exact k a _ (.inl rfl) e
 | met f y=>
  have e:h.get? a=some (PySem.W.methodObj (.ref f) (.ref y)):=x
  show h'.get? a=some (PySem.W.methodObj (.ref f) (.ref y))
  exact k a _ (.inl rfl) e
 | ext φ=>obtain ⟨p,⟨o,e⟩,st⟩:=x;exact ⟨st _ _ p fun o q=>k _ _ (.inl rfl) q,⟨o,k _ _ (.inl rfl) e⟩,st⟩
theorem aJ.lt(x:aJ P w H h)(e:H a=some o):a<h.objs.size:=(x a o e).lt
theorem aJ.fresh(x:aJ P w H h)(e:h.objs.size≤a):H a=none:=by
 cases q:H a with
 | none=>rfl
 | some u=>exact absurd (Nat.lt_of_lt_of_le (x.lt q) e) (Nat.lt_irrefl _)
theorem aJ.kept(x:aJ P w H h)(k:∀b u,h.get? b=some u→h'.get? b=some u):aJ P w H h':=fun a o e=>
 (x a o e).cQ (fun b u _ q=>k b u q) (fun _ q=>q) fun _ _ q=>q
theorem aJ.laid(x:aJ P w H h)(k:∀b u,h.get? b=some u→h'.get? b=some u)(hp:h.objs.size≤a)(new:aI P w (upd H a o) h' a o):aJ P w (upd H a o) h':=fun b u e=>by
 have hn:=x.fresh hp
 by_cases hb:b=a
 ·subst hb;rw [ak] at e;cases e;exact new
 ·rw [ay hb] at e
  exact (x b u e).cQ (fun c v _ q=>k c v q) (fun c q=>by rw [ay (b4 q hn)];exact q) fun c xs q=>by rw [ay (b4 q hn)];exact q
end
def Rd(H:Hp)(a:Addr)(u:HO):Prop:=H a=some u∨∃o,H a=some (.aM o u)
theorem Rd.ok{P:Program}{w:World}{H:Hp}{h:Heap}{a:Addr}{u:HO}(r:Rd H a u)(x:aJ P w H h):aI P w H h a u:=by
 rcases r with r | ⟨o,r⟩
 ·exact x a u r
 ·obtain ⟨_,q⟩:=x a _ r
  exact q
def je:Option HO→Prop
 | some (.lst _)=>True
 | some (.dK _)=>True
 | some (.dT _)=>True
 | some (.set _ _)=>True
 | some (.ins _ _ _)=>True
 | some (.ext _)=>True
 | _=>False
section
variable {P:Program} {w:World} {H:Hp} {h h':Heap} {x e:Addr} {o':HO}
theorem aJ.write(ok:aJ P w H h)(mu:je (H x))(he:e=x∨H e=some (.own x))(k:∀b u,b≠e→h.get? b=some u→h'.get? b=some u)(gS:∃u,h'.get? e=some u)
  (new:aI P w (upd H x o') h' x o'):aJ P w (upd H x o') h':=fun b u q=>by
 have qV:∀c y,H c=some (.own y)→c≠x:=fun c y r z=>by subst z;rw [r] at mu;exact mu
 have xX:∀c xs,H c=some (.tup xs)→c≠x:=fun c xs r z=>by subst z;rw [r] at mu;exact mu
 by_cases hb:b=x
 ·subst hb;rw [ak] at q;cases q;exact new
 ·rw [ay hb] at q
  by_cases fz:b=e
  ·have q':H b=some (.own x):=by
    rcases he with z | z
    ·exact absurd (fz.trans z) hb
    ·rw [fz];exact z
   rw [q] at q';cases q'
   obtain ⟨v,hv⟩:=gS
   exact ⟨v,by rw [fz];exact hv⟩
  ·refine (ok b u q).cQ (fun c v hc r=>k c v ?_ r) (fun c r=>by rw [ay (qV c b r)];exact r) fun c xs r=>by rw [ay (xX c xs r)];exact r
   rcases hc with rfl | hc
   ·exact fz
   ·rintro rfl
    rcases he with z | z
    ·exact qV c b hc z
    ·rw [hc] at z;cases z;exact hb rfl
end
structure Un (fs ex:List Addr) (H H':Hp) (h h':Heap):Prop where
 keep:∀b o,h.get? b=some o→H b=none→b∉fs→b∉ex→h'.get? b=some o
 slot:∀b o,h.get? b=some o→H b=none→b∈fs→b∉ex→∃sl,h'.get? b=some {o with slots:=sl}
 free:∀b o,h.get? b=some o→H b=none→b∉ex→H' b=none
 there:∀b o,h.get? b=some o→b∉ex→∃o',h'.get? b=some o'
 bI:∀b xs,H b=some (.tup xs)→H' b=some (.tup xs)
 bF:∀b o u,H b=some (.aM o u)→H' b=some (.aM o u)
 bJ:∀b ps,H b=some (.dG ps)→∃more,H' b=some (.dG (ps++more))
section
variable {fs mY ex jf:List Addr} {H H1 H2:Hp} {h h1 h2 h':Heap} {a x e:Addr} {o:HO}
theorem Un.any(u:Un fs ex H H1 h h1){b:Addr}{ob:Obj}(q:h.get? b=some ob)(n:H b=none)(hx:b∉ex):∃sl,h1.get? b=some {ob with slots:=sl}:=by
 by_cases hb:b∈fs
 ·exact u.slot b ob q n hb hx
 ·exact ⟨ob.slots,u.keep b ob q n hb hx⟩
theorem Un.kept(k:∀b u,h.get? b=some u→h'.get? b=some u):Un fs ex H H h h':=
 ⟨fun b ob q _ _ _=>k b ob q,fun b ob q _ _ _=>⟨ob.slots,k b ob q⟩,fun _ _ _ n _=>n,fun b ob q _=>⟨ob,k b ob q⟩,fun _ _ q=>q,fun _ _ _ q=>q,fun _ ps q=>⟨#[],by rw [q];simp⟩⟩
theorem Un.refl:Un fs ex H H h h:=Un.kept fun _ _ q=>q
theorem Un.laid(k:∀b u,h.get? b=some u→h'.get? b=some u)(hp:h.objs.size≤a)(hn:H a=none):Un fs ex H (upd H a o) h h' where
 keep:=fun b u q _ _ _=>k b u q
 slot:=fun b u q _ _ _=>⟨u.slots,k b u q⟩
 free:=fun b u q n _=>by rw [ay (Nat.ne_of_lt (Nat.lt_of_lt_of_le (Heap.lt_size q) hp))];exact n
 there:=fun b u q _=>⟨u,k b u q⟩
 bI:=fun b xs q=>by rw [ay (b4 q hn)];exact q
 bF:=fun b u xs q=>by rw [ay (b4 q hn)];exact q
 bJ:=fun b ps q=>⟨#[],by rw [ay (b4 q hn),q];simp⟩
theorem Un.write(mu:je (H x))(he:e=x∨H e=some (.own x))(k:∀b u,b≠e→h.get? b=some u→h'.get? b=some u)(gS:∃u,h'.get? e=some u):Un fs ex H (upd H x o) h h':=by
 have hx:∀b,H b=none→b≠x:=fun b n z=>by subst z;rw [n] at mu;exact mu
 have hb:∀b,H b=none→b≠e:=fun b n z=>by
  subst z
  rcases he with r | r
  ·exact hx b n r
  ·rw [n] at r;cases r
 have hm:∀b u,H b=some u→¬je (some u)→b≠x:=fun b u q nm z=>by subst z;rw [q] at mu;exact nm mu
 refine ⟨fun b u q n _ _=>k b u (hb b n) q,fun b u q n _ _=>⟨u.slots,k b u (hb b n) q⟩,fun b u q n _=>by rw [ay (hx b n)];exact n,fun b u q _=>?_,
  fun b xs q=>by rw [ay (hm b _ q fun z=>z)];exact q,fun b u xs q=>by rw [ay (hm b _ q fun z=>z)];exact q,fun b ps q=>⟨#[],by rw [ay (hm b _ q fun z=>z),q];simp⟩⟩
 by_cases fz:b=e
 ·subst fz;exact gS
 ·exact ⟨u,k b u fz q⟩
end
def km(h:Heap)(H:Hp):List Addr:=(List.range h.objs.size).filter fun a=>(H a).isSome
def d6(h:Heap)(H:Hp):Heap:=PySem.W.hideAll h (km h H)
theorem xY(h:Heap)(H:Hp):(d6 h H).objs.size=h.objs.size:=PySem.W.hideAll_size _ _
theorem xZ{h:Heap}{H:Hp}{b:Addr}{o:Obj}(e:h.get? b=some o)(n:H b=none):(d6 h H).get? b=some o:=
 PySem.W.hideAll_get _ e fun hm=>by
  have q:(H b).isSome=true:=(List.mem_filter.mp hm).2
  rw [n] at q;simp at q
theorem x4{h:Heap}{H:Hp}{b:Addr}{o:Obj}(e:(d6 h H).get? b=some o):h.get? b=some o∧H b=none:=by
 have e':h.get? b=some o:=PySem.W.of_hideAll (km h H) e
 refine ⟨e',?_⟩
 cases q:H b with
 | none=>rfl
 | some x=>
  have hm:b∈km h H:=List.mem_filter.mpr ⟨List.mem_range.mpr (Heap.lt_size e'),by simp [q]⟩
  have z:(d6 h H).get? b=none:=PySem.W.hideAll_none (km h H) hm
  rw [z] at e;cases e
structure Mod (K:PySem.W.Frag) (mg:Str→Option Value) (base:Heap):Prop where
 aU:K.In base
 glob:base.Ns mainGlobals mg
 blt:∃mb,base.Ns builtinsNs mb∧∀x:Str,x ≠ "__name__"→mb x=bootBuiltins x
 nolimit:base.NoLimit
structure Cx where
 prog:Program
 w:World
 K:PySem.W.Frag
 mg:Str→Option Value
 base:Heap
 A:Around
 N:List Str
 s₀:Shared
 H₀:Hp
 env:Env
 outer:List Env
 stack:List Env
 ex:List Addr
 fn:Str→Bool
 calm:Bool
 pn:List (Addr×Obj)
 xe:Value→Shared→Prop
def aQ(l:List Env):List Addr:=l.filterMap (·.frame)
abbrev Cx.fs (X:Cx):List Addr:=aQ X.outer
def kn(sc:Scope)(x:Str):Prop:=sc.names.lookup x=some .local∨sc.names.lookup x=some .cell∨sc.names.lookup x=some .free
def Loc(sc:Scope)(x:Str):Prop:=sc.names.lookup x=some .local∨sc.names.lookup x=some .cell
def Look(env:Env)(h:Heap)(m:Str→Option Value)(x:Str)(u:Value):Prop:=
 (env.kindOf x=some .local∧m x=some u)∨((env.kindOf x=some .cell∨env.kindOf x=some .free)∧∃c,env.cells.lookup x=some c∧h.IsCell c (some u))
structure Cx.Ok (X:Cx):Prop where
 mod:Mod X.K X.mg X.base
 kind:X.env.scope.kind=.function
 glob:X.env.globals=mainGlobals
 blt:X.env.builtins=builtinsNs
 above:X.s₀.heap.objs.size≤X.env.locals
 inj:∀x y c,X.env.cells.lookup x=some c→X.env.cells.lookup y=some c→x=y
 has:∀x,(X.env.kindOf x=some .cell∨X.env.kindOf x=some .free)→∃c,X.env.cells.lookup x=some c
 gT:∀x c,X.fn x=true→X.env.cells.lookup x=some c→X.s₀.heap.objs.size≤c
 hd:X.calm=true→X.A.handled=none
 frames:X.A.frames=some X.stack
 ck:X.stack=X.outer∨(X.stack=X.env::X.outer∧X.env.frame=some X.env.locals)
 mZ:∀b∈X.ex,b≠X.env.locals∧∀x c,X.env.cells.lookup x=some c→c≠b
 bs:∀b o,X.base.get? b=some o→X.s₀.heap.get? b=some o∧X.H₀ b=none
 dh:X.base.objs.size≤X.s₀.heap.objs.size
 fA:∀b o,X.base.get? b=some o→b∉X.ex
 fB:∀b∈X.ex,b∉X.fs
 cR:X.s₀.heap.FunFrames X.base X.outer
 d7:∀b∈X.fs,X.H₀ b=none
structure Inv (X:Cx) (pins:List (Addr×Obj)) (σ:List (Option V)) (H:Hp) (s:Shared):Prop where
 ok:X.Ok
 os:s.os=X.s₀.os
 bare:AllBare s.gens
 base:Un X.fs X.ex X.H₀ H X.s₀.heap s.heap
 loc:∃m,s.heap.Ns X.env.locals m∧∀(i:Nat) (x:Str) (v:V),X.N[i]?=some x→σ[i]?=some (some v)→kn X.env.scope x→∃u,RelV v u∧Look X.env s.heap m x u
 cell:∀x c,X.env.cells.lookup x=some c→∃v,s.heap.IsCell c v
 free:H X.env.locals=none
 cm:∀x c,X.env.cells.lookup x=some c→H c=none
 pin:∀p∈X.pn++pins,s.heap.get? p.1=some p.2∧H p.1=none∧p.1≠X.env.locals∧p.1∉X.fs∧∀v,p.2.data≠.cell v
 ao:aJ X.prog X.w H s.heap
 len:σ.length=X.N.length
section
variable {X:Cx} {pins:List (Addr×Obj)} {σ:List (Option V)} {H H':Hp} {s:Shared} {h':Heap}
theorem Cx.Ok.x5(ok:X.Ok){b:Addr}{o:Obj}(e:X.base.get? b=some o):b∉X.fs:=fun hb=>by
 have:=(ok.cR.mem hb).1
 rw [e] at this;cases this
theorem Inv.bs(I:Inv X pins σ H s):∀b o,X.base.get? b=some o→s.heap.get? b=some o∧H b=none:=fun b o e=>
 ⟨I.base.keep b o (I.ok.bs b o e).1 (I.ok.bs b o e).2 (I.ok.x5 e) (I.ok.fA b o e),I.base.free b o (I.ok.bs b o e).1 (I.ok.bs b o e).2 (I.ok.fA b o e)⟩
theorem Inv.bk(I:Inv X pins σ H s):∀b o,X.base.get? b=some o→s.heap.get? b=some o:=fun b o e=>(I.bs b o e).1
theorem Inv.mod(I:Inv X pins σ H s):Mod X.K X.mg X.base:=I.ok.mod
theorem Inv.bf(I:Inv X pins σ H s):X.K.In s.heap:=I.ok.mod.aU.keeps I.bk
theorem Inv.lt(I:Inv X pins σ H s):X.env.locals<s.heap.objs.size:=let ⟨_,hn,_⟩:=I.loc;hn.lt
theorem Inv.sz(I:Inv X pins σ H s):X.s₀.heap.objs.size≤s.heap.objs.size:=Nat.le_trans I.ok.above (Nat.le_of_lt I.lt)
theorem Inv.x6(I:Inv X pins σ H s){a:Addr}(h:s.heap.objs.size≤a):a∉X.fs:=fun hb=>by
 obtain ⟨_,o,ho,_⟩:=I.ok.cR.mem hb
 exact absurd (Nat.lt_of_lt_of_le (Heap.lt_size ho) (Nat.le_trans I.sz h)) (Nat.lt_irrefl _)
theorem Inv.di(I:Inv X pins σ H s):∀x c,X.env.cells.lookup x=some c→c≠X.env.locals:=fun x c e z=>by
 obtain ⟨v,o,ho,hd⟩:=I.cell x c e
 obtain ⟨m,⟨o',es,ep,fC,x8,_⟩,_⟩:=I.loc
 rw [z,fC] at ho;cases ho;rw [x8] at hd;cases hd
theorem Inv.cR(I:Inv X pins σ H s):s.heap.FunFrames X.base X.outer:=by
 have all:∀(l:List Env),(∀b∈aQ l,b∈X.fs)→X.s₀.heap.FunFrames X.base l→s.heap.FunFrames X.base l:=by
  intro l
  induction l with
  | nil=>intro _ _;trivial
  | cons env r ih=>
   intro hs hl
   obtain ⟨hk,⟨L,o,hf,hn,ho,hd⟩,hr⟩:=hl
   have hL:L∈X.fs:=hs L (by unfold aQ;rw [List.filterMap_cons,hf];exact List.mem_cons_self)
   obtain ⟨sl,e⟩:=I.base.slot L o ho (I.ok.d7 L hL) hL fun z=>I.ok.fB L z hL
   exact ⟨hk,⟨L,_,hf,hn,e,hd⟩,ih (fun b hb=>hs b (by unfold aQ;rw [List.filterMap_cons,hf];exact List.mem_cons_of_mem _ hb)) hr⟩
 exact all X.outer (fun _ hb=>hb) I.ok.cR
theorem Inv.stack(I:Inv X pins σ H s):s.heap.FunFrames X.base X.stack:=by
 rcases I.ok.ck with e | ⟨e,hf⟩
 ·rw [e];exact I.cR
 ·rw [e]
  obtain ⟨m,hn,_⟩:=I.loc
  refine .cons (by rw [I.ok.kind];decide) hf hn ?_ I.cR
  exact Heap.get?_none_of_le (Nat.le_trans I.ok.dh I.ok.above)
theorem Inv.ko(I:Inv X pins σ H s):∀b∈aQ X.stack,b∈X.env.locals::X.fs:=fun b hb=>by
 rcases I.ok.ck with e | ⟨e,hf⟩
 ·rw [e] at hb;exact List.mem_cons_of_mem _ hb
 ·rw [e] at hb
  unfold aQ at hb
  rw [List.filterMap_cons,hf] at hb
  exact hb
theorem Inv.kq(I:Inv X pins σ H s):∀b∈aQ X.stack,H b=none:=fun b hb=>by
 rcases List.mem_cons.mp (I.ko b hb) with e | hb
 ·rw [e];exact I.free
 ·obtain ⟨_,o,ho,_⟩:=I.ok.cR.mem hb
  exact I.base.free b o ho (I.ok.d7 b hb) fun z=>I.ok.fB b z hb
theorem Inv.step{g':Array GenState}{t':Nat}{d':Drawn}{ch:List Addr}(I:Inv X pins σ H s)
  (dH:∀b∈ch,(b∈X.ex∨X.s₀.heap.objs.size≤b)∧b≠X.env.locals∧(∀x c,X.env.cells.lookup x=some c→c≠b)∧∀p∈X.pn++pins,p.1≠b)
  (keep:∀b o,b≠X.env.locals→b∉X.fs→b∉ch→s.heap.get? b=some o→H b=none→h'.get? b=some o)
  (slot:∀b o,b≠X.env.locals→b∈X.fs→b∉ch→s.heap.get? b=some o→H b=none→∃sl,h'.get? b=some {o with slots:=sl}) (free:∀b o,b∉ch→s.heap.get? b=some o→H b=none→H' b=none)
  (there:∀b o,b∉ch→s.heap.get? b=some o→∃o',h'.get? b=some o')
  (bI:∀b xs,H b=some (.tup xs)→H' b=some (.tup xs)) (bF:∀b o u,H b=some (.aM o u)→H' b=some (.aM o u)) (bJ:∀b ps,H b=some (.dG ps)→∃more,H' b=some (.dG (ps++more)))
  (ns:∀m,s.heap.Ns X.env.locals m→h'.Ns X.env.locals m) (ao:aJ X.prog X.w H' h') (hg:AllBare g') :
  Inv X pins σ H' {s with heap:=h',gens:=g',drawn:=d',toks:=t'}:=by
 have qW:∀b o,X.s₀.heap.get? b=some o→b≠X.env.locals:=fun b o e=>Nat.ne_of_lt (Nat.lt_of_lt_of_le (Heap.lt_size e) I.ok.above)
 have kr:∀b o,X.s₀.heap.get? b=some o→b∉X.ex→b∉ch:=fun b o e hx hb=>by
  rcases (dH b hb).1 with z | z
  ·exact hx z
  ·exact absurd (Nat.lt_of_lt_of_le (Heap.lt_size e) z) (Nat.lt_irrefl _)
 have cellK:∀x c,X.env.cells.lookup x=some c→∀v,s.heap.IsCell c v→h'.IsCell c v:=fun x c e v ⟨o,ho,hd⟩=>by
  have jg:c∉ch:=fun z=>(dH c z).2.2.1 x c e rfl
  by_cases hc:c∈X.fs
  ·obtain ⟨sl,q⟩:=slot c o (I.di x c e) hc jg ho (I.cm x c e)
   exact ⟨_,q,hd⟩
  ·exact ⟨o,keep c o (I.di x c e) hc jg ho (I.cm x c e),hd⟩
 refine ⟨I.ok,I.os,hg,⟨fun b o e n hb hx=>?_,fun b o e n hb hx=>?_,fun b o e n hx=>?_,fun b o e hx=>?_,fun b xs e=>bI b xs (I.base.bI b xs e),fun b o xs e=>bF b o xs (I.base.bF b o xs e),fun b ps e=>?_⟩,?_,fun x c e=>?_,?_,fun x c e=>?_,fun p hp=>?_,ao,I.len⟩
 ·exact keep b o (qW b o e) hb (kr b o e hx) (I.base.keep b o e n hb hx) (I.base.free b o e n hx)
 ·obtain ⟨sl,e1⟩:=I.base.slot b o e n hb hx
  obtain ⟨x9,e2⟩:=slot b _ (qW b o e) hb (kr b o e hx) e1 (I.base.free b o e n hx)
  exact ⟨x9,e2⟩
 ·obtain ⟨o',e1⟩:=I.base.there b o e hx
  exact free b o' (kr b o e hx) e1 (I.base.free b o e n hx)
 ·obtain ⟨o',e1⟩:=I.base.there b o e hx
  exact there b o' (kr b o e hx) e1
 ·obtain ⟨m1,e1⟩:=I.base.bJ b ps e
  obtain ⟨m2,e2⟩:=bJ b _ e1
  exact ⟨m1++m2,by rw [e2,Array.append_assoc]⟩
 ·obtain ⟨m,hn,hl⟩:=I.loc
  refine ⟨m,ns m hn,fun i x v e1 e2 e3=>?_⟩
  obtain ⟨u,r,l⟩:=hl i x v e1 e2 e3
  refine ⟨u,r,?_⟩
  rcases l with l | ⟨k,c,e,z⟩
  ·exact .inl l
  ·exact .inr ⟨k,c,e,cellK x c e _ z⟩
 ·obtain ⟨v,z⟩:=I.cell x c e
  exact ⟨v,cellK x c e v z⟩
 ·obtain ⟨m,⟨o,_,_,ho,_⟩,_⟩:=I.loc
  exact free _ o (fun z=>(dH _ z).2.1 rfl) ho I.free
 ·obtain ⟨v,o,ho,hd⟩:=I.cell x c e
  exact free c o (fun z=>(dH c z).2.2.1 x c e rfl) ho (I.cm x c e)
 ·obtain ⟨e,n,ne,nf,d⟩:=I.pin p hp
  have jg:p.1∉ch:=fun z=>(dH p.1 z).2.2.2 p hp rfl
  exact ⟨keep p.1 p.2 ne nf jg e n,free p.1 p.2 jg e n,ne,nf,d⟩
theorem Inv.un{t':Nat}(I:Inv X pins σ H s)(u:Un X.fs [] H H' s.heap h')(ao:aJ X.prog X.w H' h'):Inv X pins σ H' {s with heap:=h',toks:=t'}:=by
 obtain ⟨m,⟨o,es,ep,ho,r⟩,_⟩:=id I.loc
 obtain ⟨sl,hL⟩:=u.any ho I.free (by simp)
 exact I.step (g':=s.gens) (d':=s.drawn) (ch:=[]) (fun _ z=>nomatch z) (fun b o _ hb _ e n=>u.keep b o e n hb (by simp)) (fun b o _ hb _ e n=>u.slot b o e n hb (by simp)) (fun b o _ e n=>u.free b o e n (by simp)) (fun b o _ e=>u.there b o e (by simp)) u.bI u.bF u.bJ (fun m' hm=>by
  obtain ⟨o',m4,m5,fC,r'⟩:=hm
  rw [ho] at fC;cases fC
  exact ⟨_,m4,m5,hL,r'⟩) ao I.bare
theorem Inv.call{g':Array GenState}{t':Nat}{d':Drawn}{ch:List Addr}(I:Inv X pins σ H s)(u:Un (aQ X.stack) ch H H' s.heap h')(ao:aJ X.prog X.w H' h')(hg:AllBare g')
  (dH:∀b∈ch,(b∈X.ex∨X.s₀.heap.objs.size≤b)∧b≠X.env.locals∧(∀x c,X.env.cells.lookup x=some c→c≠b)∧∀p∈X.pn++pins,p.1≠b) :
  Inv X pins σ H' {s with heap:=h',gens:=g',drawn:=d',toks:=t'}:=by
 obtain ⟨m,⟨o,es,ep,ho,r⟩,_⟩:=id I.loc
 obtain ⟨sl,hL⟩:=u.any ho I.free fun z=>(dH _ z).2.1 rfl
 exact I.step (ch:=ch) dH (fun b o hL hb hc e n=>u.keep b o e n (fun z=>(List.mem_cons.mp (I.ko b z)).elim hL hb) hc) (fun b o _ _ hc e n=>u.any e n hc) (fun b o hc e n=>u.free b o e n hc) (fun b o hc e=>u.there b o e hc) u.bI u.bF u.bJ (fun m' hm=>by
  obtain ⟨o',m4,m5,fC,r'⟩:=hm
  rw [ho] at fC;cases fC
  exact ⟨_,m4,m5,hL,r'⟩) ao hg
theorem Inv.turned{t':Nat}{it:Addr}(I:Inv X pins σ H s)(k:∀b o,b≠it→s.heap.get? b=some o→h'.get? b=some o)(hn:H it=none)(hL:it≠X.env.locals)
  (h1:it∈X.ex∨X.s₀.heap.objs.size≤it) (h2:∀x c,X.env.cells.lookup x=some c→c≠it) (h3:∀p∈X.pn++pins,p.1≠it):Inv X pins σ H {s with heap:=h',toks:=t'}:=by
 have qX:∀b u,H b=some u→b≠it:=fun b u e z=>by rw [z,hn] at e;cases e
 refine I.step (g':=s.gens) (d':=s.drawn) (ch:=[it]) (fun b hb=>?_) (fun b o _ _ hc e _=>k b o (fun z=>hc (by simp [z])) e) (fun b o _ _ hc e _=>⟨o.slots,k b o (fun z=>hc (by simp [z])) e⟩) (fun _ _ _ _ n=>n)
  (fun b o hc e=>⟨o,k b o (fun z=>hc (by simp [z])) e⟩) (fun _ _ e=>e) (fun _ _ _ e=>e) (fun b ps e=>⟨#[],by rw [e];simp⟩) (fun m hm=>?_) (fun b u e=>?_) I.bare
 ·have e:b=it:=by simpa using hb
  subst e
  exact ⟨h1,hL,h2,h3⟩
 ·obtain ⟨o,es,ep,ho,r⟩:=hm
  exact ⟨o,es,ep,k _ o (Ne.symm hL) ho,r⟩
 ·refine (I.ao b u e).cQ (fun c v hc q=>k c v ?_ q) (fun _ q=>q) fun _ _ q=>q
  rcases hc with z | z
  ·rw [z];exact qX b u e
  ·exact qX c _ z
theorem Inv.tok(I:Inv X pins σ H s)(t:Nat):Inv X pins σ H {s with toks:=t}:=I.un (h':=s.heap) (t':=t) Un.refl I.ao
theorem Inv.kept{t':Nat}(I:Inv X pins σ H s)(k:∀b u,s.heap.get? b=some u→h'.get? b=some u):Inv X pins σ H {s with heap:=h',toks:=t'}:=I.un (Un.kept k) (I.ao.kept k)
theorem Inv.laid{a:Addr}{o:HO}{t':Nat}(I:Inv X pins σ H s)(k:∀b u,s.heap.get? b=some u→h'.get? b=some u)(hp:s.heap.objs.size≤a)(new:aI X.prog X.w (upd H a o) h' a o) :
  Inv X pins σ (upd H a o) {s with heap:=h',toks:=t'}:=I.un (Un.laid k hp (I.ao.fresh hp)) (I.ao.laid k hp new)
theorem Inv.write{x e:Addr}{o:HO}{t':Nat}(I:Inv X pins σ H s)(mu:je (H x))(he:e=x∨H e=some (.own x))(k:∀b u,b≠e→s.heap.get? b=some u→h'.get? b=some u)(gS:∃u,h'.get? e=some u)
  (new:aI X.prog X.w (upd H x o) h' x o):Inv X pins σ (upd H x o) {s with heap:=h',toks:=t'}:=I.un (Un.write mu he k gS) (I.ao.write mu he k gS new)
theorem Inv.qY{qZ:List (Addr×Obj)}(I:Inv X pins σ H s)(h:∀p∈qZ,s.heap.get? p.1=some p.2∧H p.1=none∧p.1≠X.env.locals∧p.1∉X.fs∧∀v,p.2.data≠.cell v):Inv X qZ σ H s:=
 ⟨I.ok,I.os,I.bare,I.base,I.loc,I.cell,I.free,I.cm,fun p hp=>(List.mem_append.mp hp).elim (fun z=>I.pin p (List.mem_append_left _ z)) (h p),I.ao,I.len⟩
theorem m6{N:List Str}(hN:N.Nodup){i j:Nat}{x:Str}(a:N[i]?=some x)(b:N[j]?=some x):i=j:=by
 obtain ⟨h1,e1⟩:=List.getElem?_eq_some_iff.mp a
 obtain ⟨h2,e2⟩:=List.getElem?_eq_some_iff.mp b
 exact (List.getElem_inj hN).mp (e1.trans e2.symm)
theorem q5{M:Model}{A:Around}{E:Value→Shared→Prop}{i:Nat}{x:Str}{v:V}{u:Value}{Q:Unit→Shared→Prop}(I:Inv X pins σ H s)(hN:X.N.Nodup)(hi:X.N[i]?=some x)(hx:Loc X.env.scope x)(r:RelV v u)
  (h:∀s',Inv X pins (σ.set i (some v)) H s'→(∃a,Heap.SameBut a s.heap s'.heap∧(a=X.env.locals∨X.env.cells.lookup x=some a))→Q () s') (hf:X.fn x=true∨X.env.scope.names.lookup x=some .local:=by first | exact .inl rfl | exact .inr rfl | assumption):wpAny M A (storeName X.env x u) Q E s:=by
 obtain ⟨m,hn,hl⟩:=id I.loc
 have m7:(X.env.scope.kind == .class || (X.env.scope.kind == .module && X.env.locals != X.env.globals))=false:=by rw [I.ok.kind];rfl
 have ku:i<σ.length:=by rw [I.len];exact (List.getElem?_eq_some_iff.mp hi).1
 have di:=I.di
 have tracked:∀{a:Addr} {h':Heap},(∃o,s.heap.get? a=some o∧H a=none)→Heap.SameBut a s.heap h'→aJ X.prog X.w H h':=fun{a h'} ha hs b ob e=>by
  obtain ⟨_,_,q8⟩:=ha
  refine (I.ao b ob e).cQ (fun c w' hc q=>(hs.2 c ?_).trans q) (fun _ q=>q) fun _ _ q=>q
  rintro rfl
  rcases hc with rfl | hc
  ·rw [q8] at e;cases e
  ·rw [q8] at hc;cases hc
 rcases hx with hk | hk
 ·refine wpAny_storeName_local hk hn (fun h' m8 hs=>?_) m7
  obtain ⟨oL,_,_,x_,_⟩:=id hn
  refine h _ ⟨I.ok,I.os,I.bare,⟨fun b o e n hb hx=>?_,fun b o e n hb hx=>?_,I.base.free,fun b o e hx=>?_,I.base.bI,I.base.bF,I.base.bJ⟩,⟨_,m8,fun j y v' e1 e2 e3=>?_⟩,fun y c e=>?_,I.free,I.cm,fun p hp=>?_,tracked ⟨oL,x_,I.free⟩ hs,by simpa using I.len⟩ ⟨_,hs,.inl rfl⟩
  ·exact (hs.2 b (Nat.ne_of_lt (Nat.lt_of_lt_of_le (Heap.lt_size e) I.ok.above))).trans (I.base.keep b o e n hb hx)
  ·obtain ⟨sl,e1⟩:=I.base.slot b o e n hb hx
   exact ⟨sl,(hs.2 b (Nat.ne_of_lt (Nat.lt_of_lt_of_le (Heap.lt_size e) I.ok.above))).trans e1⟩
  ·obtain ⟨o',e1⟩:=I.base.there b o e hx
   exact ⟨o',(hs.2 b (Nat.ne_of_lt (Nat.lt_of_lt_of_le (Heap.lt_size e) I.ok.above))).trans e1⟩
  ·by_cases hj:j=i
   ·subst hj
    rw [hi] at e1;cases e1
    rw [List.getElem?_set_self ku] at e2
    cases e2
    exact ⟨u,r,.inl ⟨hk,by simp⟩⟩
   ·rw [List.getElem?_set_ne (Ne.symm hj)] at e2
    obtain ⟨u',r',q⟩:=hl j y v' e1 e2 e3
    refine ⟨u',r',?_⟩
    rcases q with ⟨k,e⟩ | ⟨k,c,e,z⟩
    ·refine .inl ⟨k,?_⟩
     have:y≠x:=fun e=>hj (m6 hN e1 (e▸hi))
     simp [this,e]
    ·exact .inr ⟨k,c,e,z.sameBut hs (di y c e)⟩
  ·obtain ⟨w',z⟩:=I.cell y c e
   exact ⟨w',z.sameBut hs (di y c e)⟩
  ·obtain ⟨e,n,ne,nf,d⟩:=I.pin p hp
   exact ⟨(hs.2 p.1 ne).trans e,n,ne,nf,d⟩
 ·have m9:X.fn x=true:=by
   rcases hf with z | z
   ·exact z
   ·rw [z] at hk;cases hk
  obtain ⟨c,hc⟩:=I.ok.has x (.inl hk)
  obtain ⟨w',z⟩:=I.cell x c hc
  refine wpAny_storeName_cell I.ok.kind hk hc z (fun h' cS hs=>?_)
  obtain ⟨oc,q_,ya⟩:=id z
  refine h {s with heap:=h'} ⟨I.ok,I.os,I.bare,⟨fun b o e n hb hx=>?_,fun b o e n hb hx=>?_,I.base.free,fun b o e hx=>?_,I.base.bI,I.base.bF,I.base.bJ⟩,⟨m,hn.sameBut hs (Ne.symm (di x c hc)),fun j y v' e1 e2 e3=>?_⟩,fun y c' e=>?_,I.free,I.cm,fun p hp=>?_,tracked ⟨oc,q_,I.cm x c hc⟩ hs,by simpa using I.len⟩ ⟨c,hs,.inr hc⟩
  ·exact (hs.2 b (Nat.ne_of_lt (Nat.lt_of_lt_of_le (Heap.lt_size e) (I.ok.gT x c m9 hc)))).trans (I.base.keep b o e n hb hx)
  ·obtain ⟨sl,e1⟩:=I.base.slot b o e n hb hx
   exact ⟨sl,(hs.2 b (Nat.ne_of_lt (Nat.lt_of_lt_of_le (Heap.lt_size e) (I.ok.gT x c m9 hc)))).trans e1⟩
  ·obtain ⟨o',e1⟩:=I.base.there b o e hx
   exact ⟨o',(hs.2 b (Nat.ne_of_lt (Nat.lt_of_lt_of_le (Heap.lt_size e) (I.ok.gT x c m9 hc)))).trans e1⟩
  ·by_cases hj:j=i
   ·subst hj
    rw [hi] at e1;cases e1
    rw [List.getElem?_set_self ku] at e2
    cases e2
    exact ⟨u,r,.inr ⟨.inl hk,c,hc,cS⟩⟩
   ·rw [List.getElem?_set_ne (Ne.symm hj)] at e2
    obtain ⟨u',r',q⟩:=hl j y v' e1 e2 e3
    refine ⟨u',r',?_⟩
    rcases q with q | ⟨k,c',e,z'⟩
    ·exact .inl q
    ·refine .inr ⟨k,c',e,z'.sameBut hs ?_⟩
     rintro rfl
     exact hj (m6 hN e1 (I.ok.inj _ _ _ e hc▸hi))
  ·by_cases rd:c'=c
   ·subst rd;exact ⟨_,cS⟩
   ·obtain ⟨w2,z2⟩:=I.cell y c' e
    exact ⟨w2,z2.sameBut hs rd⟩
  ·obtain ⟨e,n,ne,nf,d⟩:=I.pin p hp
   refine ⟨(hs.2 p.1 ?_).trans e,n,ne,nf,d⟩
   intro q
   rw [q,q_] at e
   have q':oc=p.2:=Option.some.inj e
   exact d w' (by rw [←q'];exact ya)
theorem jh{M:Model}{A:Around}{E:Value→Shared→Prop}{i:Nat}{x:Str}{v:V}{u:Value}{Q:Unit→Shared→Prop}(I:Inv X pins σ H s)(hN:X.N.Nodup)(hi:X.N[i]?=some x)(hx:Loc X.env.scope x)(r:RelV v u)
  (h:∀s',Inv X pins (σ.set i (some v)) H s'→Q () s') (hf:X.fn x=true∨X.env.scope.names.lookup x=some .local:=by first | exact .inl rfl | exact .inr rfl | assumption):wpAny M A (storeName X.env x u) Q E s:=
 q5 I hN hi hx r (fun s' I' _=>h s' I') hf
theorem Inv.fD{s':Shared}{ch:List Addr}(I:Inv X pins σ H s)(ho:s'.os=s.os)(u:Un (aQ X.stack) ch H H' s.heap s'.heap)(ao:aJ X.prog X.w H' s'.heap)(hg:AllBare s'.gens)
  (dH:∀b∈ch,(b∈X.ex∨X.s₀.heap.objs.size≤b)∧b≠X.env.locals∧(∀x c,X.env.cells.lookup x=some c→c≠b)∧∀p∈X.pn++pins,p.1≠b):Inv X pins σ H' s':=by
 obtain ⟨h',g',d',t',o'⟩:=s'
 have e:o'=s.os:=ho
 subst e
 exact I.call (g':=g') (t':=t') (d':=d') u ao hg dH
end
abbrev XK:=Value→Option Addr→Hp→Prop
abbrev St:=List (Option V)
abbrev VK:=V→Hp→Prop
abbrev TE:=St→Hp→VK→Prop
abbrev TT:=St→Hp→(Bool→Hp→Prop)→Prop
abbrev TA:=St→Hp→(List V→Hp→Prop)→Prop
structure Ends where
 nx:St→Hp→Prop
 rt:VK
 bk:St→Hp→Prop:=fun _ _=>False
 ct:St→Hp→Prop:=fun _ _=>False
abbrev TS:=Ends→St→Hp→Prop
def EP(X:Cx)(pins:List (Addr×Obj))(σ:St)(Q:VK)(u:Value)(s':Shared):Prop:=∃v H',Inv X pins σ H' s'∧RelV v u∧Q v H'
def TP(X:Cx)(pins:List (Addr×Obj))(σ:St)(Q:Bool→Hp→Prop)(b:Bool)(s':Shared):Prop:=∃H',Inv X pins σ H' s'∧Q b H'
def AP(X:Cx)(pins:List (Addr×Obj))(σ:St)(Q:List V→Hp→Prop)(us:List Value)(s':Shared):Prop:=∃vs H',Inv X pins σ H' s'∧Vals vs us∧Q vs H'
def SP(X:Cx)(pins:List (Addr×Obj))(D:Ends)(f:Flow)(s':Shared):Prop:=
 match f with
 | .next=>∃σ' H',Inv X pins σ' H' s'∧D.nx σ' H'
 | .brk=>∃σ' H',Inv X pins σ' H' s'∧D.bk σ' H'
 | .cont=>∃σ' H',Inv X pins σ' H' s'∧D.ct σ' H'
 | .ret u=>∃v σ' H',Inv X pins σ' H' s'∧RelV v u∧D.rt v H'
def PE(X:Cx)(e:Expr)(t:TE):Prop:=
 ∀(pins:List (Addr×Obj)) (s:Shared) (σ:St) (H:Hp) (Q:VK),Inv X pins σ H s→t σ H Q→wpAny (model X.prog X.w) X.A (eval e X.env) (EP X pins σ Q) X.xe s
def PT(X:Cx)(e:Expr)(t:TT):Prop:=
 ∀(pins:List (Addr×Obj)) (s:Shared) (σ:St) (H:Hp) (Q:Bool→Hp→Prop),Inv X pins σ H s→t σ H Q→wpAny (model X.prog X.w) X.A (isTrue e X.env (eval e X.env)) (TP X pins σ Q) X.xe s
def PW(X:Cx)(e:Expr)(t:TT):Prop:=
 ∀(whole:Sem Value) (pins:List (Addr×Obj)) (s:Shared) (σ:St) (H:Hp) (Q:Bool→Hp→Prop),Inv X pins σ H s→t σ H Q→wpAny (model X.prog X.w) X.A (isTrue e X.env whole) (TP X pins σ Q) X.xe s
theorem PW.pt{X:Cx}{e:Expr}{t:TT}(h:PW X e t):PT X e t:=h _
def PA(X:Cx)(es:List Expr)(t:TA):Prop:=
 ∀(pos:Pos) (pins:List (Addr×Obj)) (s:Shared) (σ:St) (H:Hp) (Q:List V→Hp→Prop),Inv X pins σ H s→t σ H Q→wpAny (model X.prog X.w) X.A (spliced (backTo pos (starEach es X.env))) (AP X pins σ Q) X.xe s
def PS(X:Cx)(st:Stmt)(t:TS):Prop:=
 ∀(pins:List (Addr×Obj)) (s:Shared) (σ:St) (H:Hp) (D:Ends),Inv X pins σ H s→t D σ H→wpAny (model X.prog X.w) X.A (exec st X.env) (SP X pins D) X.xe s
def bV(X:Cx)(st:List Stmt)(t:TS):Prop:=
 ∀(pins:List (Addr×Obj)) (s:Shared) (σ:St) (H:Hp) (D:Ends),Inv X pins σ H s→t D σ H→wpAny (model X.prog X.w) X.A (execs st X.env) (SP X pins D) X.xe s
theorem av{α:Type}{t:Sem α}{Q Q':α→Shared→Prop}{M:Model}{A:Around}{E:Value→Shared→Prop}{s:Shared}(h:wpAny M A t Q E s)(hQ:∀a s,Q a s→Q' a s):wpAny M A t Q' E s:=wpAny_mono h hQ fun _ _ x=>x
section
variable {X:Cx}
theorem bin{a b:Expr}{ta tb:TE}(ha:PE X a ta)(hb:PE X b tb){pins:List (Addr×Obj)}{s:Shared}{σ:St}{H:Hp}{R:V→V→Hp→Prop}(I:Inv X pins σ H s)(h:ta σ H fun x H1=>tb σ H1 fun y H2=>R x y H2)
  {α:Type} {Q:α→Shared→Prop} {f:Value→Value→Sem α}
  (hf:∀v u s2 x y H2,Inv X pins σ H2 s2→RelV x v→RelV y u→R x y H2→wpAny (model X.prog X.w) X.A (f v u) Q X.xe s2) :
  wpAny (model X.prog X.w) X.A (eval a X.env) (fun v s₁=>wpAny (model X.prog X.w) X.A (eval b X.env) (fun u s₂=>wpAny (model X.prog X.w) X.A (f v u) Q X.xe s₂) X.xe s₁) X.xe s:=by
 refine av (ha pins s σ H _ I h) fun v s1 ⟨x,H1,I1,r1,q1⟩=>?_
 refine av (hb pins s1 σ H1 _ I1 q1) fun u s2 ⟨y,H2,I2,r2,q2⟩=>?_
 exact hf v u s2 x y H2 I2 r1 r2 q2
def rf(i:Nat):TE:=fun σ H Q=>∃v,σ[i]?=some (some v)∧Q v H
def tC(v:V):TE:=fun _ H Q=>Q v H
theorem yb{i:Nat}{x:Str}{pos:Pos}(hN:X.N[i]?=some x)(hv:kn X.env.scope x)(hd:(x == ("__debug__":Str))=false:=by decide)(cn:(x == ("__classdict__":Str))=false:=by decide):PE X (.Name x pos) (rf i):=by
 intro pins s σ H Q I h
 obtain ⟨v,e,h⟩:=h
 obtain ⟨m,hn,hl⟩:=I.loc
 obtain ⟨u,r,l⟩:=hl i x v hN e hv
 have fin:EP X pins σ Q u s:=⟨v,H,I,r,h⟩
 rcases l with ⟨hk,hm⟩ | ⟨hk,c,hc,rg⟩
 ·exact wpAny_Name (wpAny_loadName_local I.ok.kind hk hn hm fin) hd
 ·rcases hk with hk | hk
  ·exact wpAny_Name (wpAny_loadName_cell I.ok.kind hk hc rg fin) hd
  ·exact wpAny_Name (wpAny_loadName_free I.ok.kind hk hc rg fin cn) hd
theorem aq{i j pos}:PE X (.Constant (.int i) j pos) (tC (.int i)):=fun _ _ _ H _ I h=>wpAny_Constant_int ⟨.int i,H,I.tok _,⟨_,rfl⟩,h⟩
theorem d8{b j pos}:PE X (.Constant (.bool b) j pos) (tC (.bl b)):=fun _ _ _ H _ I h=>Constant_bool ⟨.bl b,H,I,rfl,h⟩
theorem rh{x j pos}:PE X (.Constant (.str x) j pos) (tC (.str x)):=fun _ _ _ H _ I h=>Calls.Constant_str ⟨.str x,H,I.tok _,⟨_,rfl⟩,h⟩
def Gl(X:Cx)(x:Str):Prop:=X.env.kindOf x=some .globalImplicit
theorem ji{E:Value→Shared→Prop}{pins:List (Addr×Obj)}{s:Shared}{σ:St}{H:Hp}{x:Str}{u:Value}{pos:Pos}{Q:Value→Shared→Prop}(I:Inv X pins σ H s)(hg:Gl X x)(hm:X.mg x=some u)(h:Q u s)
  (hd:(x == ("__debug__":Str))=false:=by decide):wpAny (model X.prog X.w) X.A (eval (.Name x pos) X.env) Q E s:=
 Calls.Name_function_global I.ok.kind hg (Calls.loadGlobal_global (by rw [I.ok.glob];exact I.mod.glob.keeps I.bk) hm h) hd
theorem gU{E:Value→Shared→Prop}{pins:List (Addr×Obj)}{s:Shared}{σ:St}{H:Hp}{x:Str}{u:Value}{pos:Pos}{Q:Value→Shared→Prop}(I:Inv X pins σ H s)(hg:Gl X x)(hm:X.mg x=none)(hv:bootBuiltins x=some u)(h:Q u s)
  (hn:x ≠ "__name__":=by decide) (hd:(x == ("__debug__":Str))=false:=by decide):wpAny (model X.prog X.w) X.A (eval (.Name x pos) X.env) Q E s:=by
 obtain ⟨mb,h1,h2⟩:=I.mod.blt
 exact Calls.Name_function_global I.ok.kind hg (Calls.loadGlobal_builtin (by rw [I.ok.glob];exact I.mod.glob.keeps I.bk) hm (by rw [I.ok.blt];exact h1.keeps I.bk) ((h2 x hn).trans hv) h) hd
theorem d9{x:Str}{v:V}{u:Value}{pos:Pos}(hg:Gl X x)(hm:X.mg x=some u)(r:RelV v u)(hd:(x == ("__debug__":Str))=false:=by decide):PE X (.Name x pos) (tC v):=
 fun _ _ _ H _ I h=>ji I hg hm ⟨v,H,I,r,h⟩ hd
theorem kx{x:Str}{v:V}{u:Value}{pos:Pos}(hg:Gl X x)(hm:X.mg x=none)(hv:bootBuiltins x=some u)(r:RelV v u)(hn:x ≠ "__name__":=by decide)(hd:(x == ("__debug__":Str))=false:=by decide):PE X (.Name x pos) (tC v):=
 fun _ _ _ H _ I h=>gU I hg hm hv ⟨v,H,I,r,h⟩ hn hd
variable {a b:Expr} {ta tb:TE} {pos:Pos}
def PC(X:Cx)(op:CmpOp)(a b:Expr)(t:TE):Prop:=
 ∀(pins:List (Addr×Obj)) (s:Shared) (σ:St) (H:Hp) (Q:VK),Inv X pins σ H s→t σ H Q→
  wpAny (model X.prog X.w) X.A (eval a X.env) (fun v s₁=>wpAny (model X.prog X.w) X.A (eval b X.env) (fun u s₂=>wpAny (model X.prog X.w) X.A (compareOp op v u) (EP X pins σ Q) X.xe s₂) X.xe s₁) X.xe s
def tB(t:TE):TT:=fun σ H Q=>t σ H fun x H1=>∃c,x=.bl c∧Q c H1
theorem HH{op:CmpOp}{t:TE}(h:PC X op a b t)(h1:behindInMarks op b=false:=by first | exact HI _ (by decide) (by decide) | rfl):PT X (.Compare a [op] [b] pos) (tB t):=by
 intro pins s σ H Q I hw
 refine wpAny_isTrue_Compare1 (av (h pins s σ H _ I hw) fun v s1 h1=>av h1 fun u s2 h2=>av h2 fun c s3 ⟨x,H1,I1,r1,q1⟩=>?_) h1
 obtain ⟨d,rfl,q⟩:=q1
 cases r1
 exact wpAny_truthy_bool ⟨H1,I1,q⟩
theorem gW{e:Expr}{t:TE}(h:PE X e t)(he:∀whole,isTrue e X.env whole=(do let v ←whole;standAt e.pos;holding [v] (truthy v)):=by intro _;rfl):PT X e (tB t):=by
 intro pins s σ H Q I hw
 refine isTrue_plain (av (h pins s σ H _ I hw) fun v s1 ⟨x,H1,I1,r1,q1⟩=>?_) (he _)
 obtain ⟨d,rfl,q⟩:=q1
 cases r1
 exact wpAny_truthy_bool ⟨H1,I1,q⟩
variable {tA m_:TT} {rest:List Expr}
def yc(t u:TT):TT:=fun σ H Q=>t σ H fun c H1=>if c=true then Q true H1 else u σ H1 Q
def rj(t:TT):TT:=fun σ H Q=>t σ H fun c H1=>Q (!c) H1
theorem pw_or1(ha:PT X a tA):PW X (.BoolOp .Or [a] pos) tA:=by
 intro wh pins s σ H Q I h
 refine isTrue_or (av (ha pins s σ H Q I h) fun c s1 e=>?_)
 cases c with
 | false=>exact isTrue_or_nil e
 | true=>exact e
theorem pw_or(ha:PT X a tA)(hb:PW X (.BoolOp .Or (b::rest) pos) m_):PW X (.BoolOp .Or (a::b::rest) pos) (yc tA m_):=by
 intro wh pins s σ H Q I h
 refine isTrue_or (av (ha pins s σ H _ I h) fun c s1 ⟨H1,I1,q1⟩=>?_)
 cases c with
 | true=>exact ⟨H1,I1,q1⟩
 | false=>exact hb wh pins s1 σ H1 Q I1 q1
theorem jj(ha:PT X a tA):PT X (.UnaryOp .Not a pos) (rj tA):=by
 intro pins s σ H Q I h
 exact isTrue_not (ha pins s σ H (fun c H1=>Q (!c) H1) I h)
def yd(ta tb:TE):TE:=fun σ H Q=>ta σ H fun x H1=>∃c,x=.bl c∧if c=true then tb σ H1 Q else Q (.bl false) H1
def ye(ta tb:TE):TE:=fun σ H Q=>ta σ H fun x H1=>∃c,x=.bl c∧if c=true then Q (.bl true) H1 else tb σ H1 Q
def yf(ta:TE):TE:=fun σ H Q=>ta σ H fun x H1=>∃c,x=.bl c∧Q (.bl (!c)) H1
theorem ky{op}{t:TE}(h:PE X a t):PE X (.BoolOp op [a] pos) t:=fun pins s σ H Q I hw=>BoolOp_one (h pins s σ H Q I hw)
theorem kA(ha:PE X a ta)(hb:PE X (.BoolOp .And (b::rest) pos) tb):PE X (.BoolOp .And (a::b::rest) pos) (yd ta tb):=by
 intro pins s σ H Q I h
 refine BoolOp_and (av (ha pins s σ H _ I h) fun v s1 ⟨x,H1,I1,r1,q1⟩=>?_)
 obtain ⟨c,rfl,q1⟩:=q1
 cases r1
 refine wpAny_truthy_bool ?_
 cases c with
 | true=>exact hb pins s1 σ H1 Q I1 q1
 | false=>exact ⟨.bl false,H1,I1,rfl,q1⟩
theorem yg(ha:PE X a ta)(hb:PE X (.BoolOp .Or (b::rest) pos) tb):PE X (.BoolOp .Or (a::b::rest) pos) (ye ta tb):=by
 intro pins s σ H Q I h
 refine BoolOp_or (av (ha pins s σ H _ I h) fun v s1 ⟨x,H1,I1,r1,q1⟩=>?_)
 obtain ⟨c,rfl,q1⟩:=q1
 cases r1
 refine wpAny_truthy_bool ?_
 cases c with
 | false=>exact hb pins s1 σ H1 Q I1 q1
 | true=>exact ⟨.bl true,H1,I1,rfl,q1⟩
theorem rk(ha:PE X a ta):PE X (.UnaryOp .Not a pos) (yf ta):=by
 intro pins s σ H Q I h
 refine UnaryOp_ (av (ha pins s σ H _ I h) fun v s1 ⟨x,H1,I1,r1,q1⟩=>?_)
 obtain ⟨c,rfl,q1⟩:=q1
 cases r1
 exact not_of (wpAny_truthy_bool ⟨.bl (!c),H1,I1,rfl,q1⟩)
end
def aF(K:PySem.W.Frag)(H:Hp)(a:Addr)(xs:List V):Prop:=
 Rd H a (.lst xs) ∨
  ∃(o:Obj) (ae:Array Value) (n:Nat),K.lookup a=some o∧o.cls=.type "list"∧o.dict=none∧o.data=.seq ae n∧ae.size≤sizeLine∧Vals xs ae.toList
def bo(K:PySem.W.Frag)(H:Hp)(a:Addr)(xs:List V):Prop:=
 Rd H a (.tup xs) ∨
  ∃(o:Obj) (ae:Array Value) (n:Nat),K.lookup a=some o∧o.cls=.type "tuple"∧o.data=.seq ae n∧ae.size≤sizeLine∧Vals xs ae.toList
def yh:Value→Option V
 | .none=>some .az
 | .bool b=>some (.bl b)
 | .int i _=>some (.int i)
 | .str x _=>some (.str x)
 | .bytes b _=>some (.dg b)
 | .float b _=>some (.gQ b)
 | .ref a=>some (.ref a)
 | .type n=>some (.ty n)
 | _=>none
theorem RelV.abs{x:V}{u:Value}(r:RelV x u):yh u=some x:=by
 cases x with
 | az=>cases r;rfl
 | bl _=>cases r;rfl
 | int _=>obtain ⟨t,rfl⟩:=r;rfl
 | str _=>obtain ⟨t,rfl⟩:=r;rfl
 | dg _=>obtain ⟨t,rfl⟩:=r;rfl
 | gQ _=>obtain ⟨t,rfl⟩:=r;rfl
 | ref _=>cases r;rfl
 | ty _=>cases r;rfl
theorem RelV.inj{x y:V}{u:Value}(r:RelV x u)(q:RelV y u):x=y:=Option.some.inj (r.abs.symm.trans q.abs)
theorem Vals.inj:∀{xs ys:List V} {us:List Value},Vals xs us→Vals ys us→xs=ys
 | _,_,_,.nil,.nil=>rfl
 | _,_,_,.cons r t,.cons r' t'=>by rw [r.inj r',Vals.inj t t']
section
variable {X:Cx} {pins:List (Addr×Obj)} {σ:St} {H:Hp} {s:Shared} {a:Addr} {xs ys:List V}
theorem aF.of{K:PySem.W.Frag}(h:H a=some (.lst xs)):aF K H a xs:=.inl (.inl h)
theorem bo.of{K:PySem.W.Frag}(h:H a=some (.tup xs)):bo K H a xs:=.inl (.inl h)
theorem Inv.list(I:Inv X pins σ H s)(h:aF X.K H a xs):∃ae:List Value,Vals xs ae∧PlainL s.heap a ae.toArray∧xs.length≤sizeLine:=by
 rcases h with h | ⟨o,ae,n,hk,hc,hd,hs,hz,r⟩
 ·obtain ⟨z,ae,n,r,e⟩:=h.ok I.ao
  exact ⟨ae,r,⟨_,n,e,rfl,rfl,rfl⟩,z⟩
 ·refine ⟨ae.toList,r,⟨o,n,I.bf a o hk,hc,hd,by simpa using hs⟩,?_⟩
  have e:=r.length
  simp only [Array.length_toList] at e
  omega
theorem Inv.tuple(I:Inv X pins σ H s)(h:bo X.K H a xs):∃ae:List Value,Vals xs ae∧IsTup s.heap a ae.toArray∧xs.length≤sizeLine:=by
 rcases h with h | ⟨o,ae,n,hk,hc,hs,hz,r⟩
 ·obtain ⟨z,ae,r,p⟩:=h.ok I.ao
  exact ⟨ae,r,p,z⟩
 ·refine ⟨ae.toList,r,⟨o,I.bf a o hk,hc,n,by simpa using hs⟩,?_⟩
  have e:=r.length
  simp only [Array.length_toList] at e
  omega
theorem Inv.rl(I:Inv X pins σ H s)(h:aF X.K H a xs)(h':aF X.K H a ys):xs=ys:=by
 obtain ⟨ae,r,⟨o,n,e,_,_,d⟩,_⟩:=I.list h
 obtain ⟨its',r',⟨o',n',e',_,_,d'⟩,_⟩:=I.list h'
 rw [e] at e';cases e'
 rw [d] at d'
 injection d' with d1 _
 have:ae=its':=by simpa using congrArg Array.toList d1
 subst this
 exact r.inj r'
theorem Inv.yi(I:Inv X pins σ H s)(h:bo X.K H a xs)(h':bo X.K H a ys):xs=ys:=by
 obtain ⟨ae,r,⟨o,e,_,n,d⟩,_⟩:=I.tuple h
 obtain ⟨its',r',⟨o',e',_,n',d'⟩,_⟩:=I.tuple h'
 rw [e] at e';cases e'
 rw [d] at d'
 injection d' with d1 _
 have:ae=its':=by simpa using congrArg Array.toList d1
 subst this
 exact r.inj r'
end
abbrev Cx.dj (X:Cx) (E:Value→Shared→Prop):Cx:={X with xe:=E}
abbrev Cx.gX (X:Cx):Cx:=X.dj fun _ _=>False
theorem Cx.Ok.dj{X:Cx}(ok:X.Ok)(E:Value→Shared→Prop):(X.dj E).Ok:=
 ⟨ok.mod,ok.kind,ok.glob,ok.blt,ok.above,ok.inj,ok.has,ok.gT,ok.hd,ok.frames,ok.ck,ok.mZ,ok.bs,ok.dh,ok.fA,ok.fB,ok.cR,ok.d7⟩
theorem Cx.Ok.d_{X:Cx}{E:Value→Shared→Prop}(ok:(X.dj E).Ok):X.Ok:=
 ⟨ok.mod,ok.kind,ok.glob,ok.blt,ok.above,ok.inj,ok.has,ok.gT,ok.hd,ok.frames,ok.ck,ok.mZ,ok.bs,ok.dh,ok.fA,ok.fB,ok.cR,ok.d7⟩
section
variable {X:Cx} {pins:List (Addr×Obj)} {σ:St} {H:Hp} {s:Shared} {E:Value→Shared→Prop}
theorem Inv.dj(I:Inv X pins σ H s)(E:Value→Shared→Prop):Inv (X.dj E) pins σ H s:=⟨I.ok.dj E,I.os,I.bare,I.base,I.loc,I.cell,I.free,I.cm,I.pin,I.ao,I.len⟩
theorem Inv.d_(I:Inv (X.dj E) pins σ H s):Inv X pins σ H s:=⟨I.ok.d_,I.os,I.bare,I.base,I.loc,I.cell,I.free,I.cm,I.pin,I.ao,I.len⟩
theorem SP.d_{D:Ends}{f:Flow}{s':Shared}(h:SP (X.dj E) pins D f s'):SP X pins D f s':=by
 cases f with
 | next=>obtain ⟨σ',H',I,q⟩:=h;exact ⟨σ',H',I.d_,q⟩
 | brk=>obtain ⟨σ',H',I,q⟩:=h;exact ⟨σ',H',I.d_,q⟩
 | cont=>obtain ⟨σ',H',I,q⟩:=h;exact ⟨σ',H',I.d_,q⟩
 | ret u=>obtain ⟨v,σ',H',I,r,q⟩:=h;exact ⟨v,σ',H',I.d_,r,q⟩
theorem bV.gX{st:List Stmt}{t:TS}(h:bV X.gX st t):bV X st t:=fun pins s σ H D I hw=>
 wpAny_mono (h pins s σ H D (I.dj _) hw) (fun _ _ q=>q.d_) fun _ _ z=>False.elim z
end
section
variable {X:Cx} {st:Stmt} {rest:List Stmt} {t u:TS} {e:Expr} {te:TE} {pos:Pos}
def fE:TS:=fun D σ H=>D.nx σ H
def rm(t u:TS):TS:=fun D σ H=>t {D with nx:=u D} σ H
theorem bz:bV X [] fE:=fun _ _ σ H _ I h=>wpAny_execs_nil ⟨σ,H,I,h⟩
theorem ar(h1:PS X st t)(h2:bV X rest u):bV X (st::rest) (rm t u):=by
 intro pins s σ H D I h
 refine wpAny_execs_cons (av (h1 pins s σ H {D with nx:=u D} I h) fun f s1 q=>?_)
 cases f with
 | next=>
  obtain ⟨σ',H',I',q⟩:=q
  exact h2 pins s1 σ' H' D I' q
 | ret v=>exact q
 | brk=>exact q
 | cont=>exact q
theorem ax(h1:PS X st t):bV X [st] t:=by
 intro pins s σ H D I h
 refine wpAny_execs_cons (av (h1 pins s σ H D I h) fun f s1 q=>?_)
 cases f with
 | next=>exact wpAny_execs_nil q
 | ret v=>exact q
 | brk=>exact q
 | cont=>exact q
theorem Inv.quiet{pins:List (Addr×Obj)}{σ:St}{H:Hp}{s:Shared}(I:Inv X pins σ H s):interactive X.env=false:=by simp [interactive,I.ok.kind]
def yj(te:TE):TS:=fun D σ H=>te σ H fun _ H1=>D.nx σ H1
theorem dm(he:PE X e te)(hs:swapsWith e none pos.line X.env=pure false:=by rfl):PS X (.Expr e pos) (yj te):=by
 intro pins s σ H D I h
 exact wpAny_Expr_any (av (he pins s σ H _ I h) fun v s1 ⟨x,H1,I1,r1,q1⟩=>⟨σ,H1,I1,q1⟩) I.quiet hs
def rn(te:TE):TS:=fun D σ H=>te σ H D.rt
theorem aR(he:PE X e te):PS X (.Return (some e) pos) (rn te):=by
 intro pins s σ H D I h
 exact wpAny_Return_some (av (he pins s σ H _ I h) fun v s1 ⟨x,H1,I1,r1,q1⟩=>⟨x,σ,H1,I1,r1,q1⟩)
def ng(c:TT)(t u:TS):TS:=fun D σ H=>c σ H fun b H1=>if b=true then t D σ H1 else u D σ H1
theorem bp{c:Expr}{a b:List Stmt}{tc:TT}(hc:PT X c tc)(ha:bV X a t)(hb:bV X b u):PS X (.If c a b pos) (ng tc t u):=by
 intro pins s σ H D I h
 refine wpAny_If (av (hc pins s σ H _ I h) fun d s1 ⟨H1,I1,q1⟩=>?_)
 cases d with
 | true=>exact ha pins s1 σ H1 D I1 q1
 | false=>exact hb pins s1 σ H1 D I1 q1
end
abbrev TG:=V→St→Hp→(St→Hp→Prop)→Prop
abbrev fF:=List V→St→Hp→(St→Hp→Prop)→Prop
def PG(X:Cx)(target:Expr)(t:TG):Prop:=
 ∀(pins:List (Addr×Obj)) (s:Shared) (σ:St) (H:Hp) (v:V) (u:Value) (Q:St→Hp→Prop),Inv X pins σ H s→RelV v u→t v σ H Q→
  wpAny (model X.prog X.w) X.A (assign target X.env u) (fun _ s'=>∃σ' H',Inv X pins σ' H' s'∧Q σ' H') X.xe s
def kB(X:Cx)(ts:List Expr)(t:fF):Prop:=
 ∀(pins:List (Addr×Obj)) (s:Shared) (σ:St) (H:Hp) (vs:List V) (us:List Value) (Q:St→Hp→Prop),Inv X pins σ H s→Vals vs us→t vs σ H Q→
  wpAny (model X.prog X.w) X.A (assignInOrder ((assignEach ts X.env).map (·.2)) us) (fun _ s'=>∃σ' H',Inv X pins σ' H' s'∧Q σ' H') X.xe s
abbrev nh:=V→V→V→Hp→(Hp→Prop)→Prop
def rp(X:Cx)(t:nh):Prop:=
 ∀(pins:List (Addr×Obj)) (s:Shared) (σ:St) (H:Hp) (o i v:V) (ov iv u:Value) (Q:Hp→Prop),Inv X pins σ H s→RelV o ov→RelV i iv→RelV v u→t o i v H Q→
  wpAny (model X.prog X.w) X.A (setItem ov iv u) (fun _ s'=>∃H',Inv X pins σ H' s'∧Q H') X.xe s
section
variable {X:Cx} {pos:Pos}
def aG(i:Nat):TG:=fun v σ H Q=>Q (σ.set i (some v)) H
theorem bD{i:Nat}{x:Str}(hN:X.N.Nodup)(hi:X.N[i]?=some x)(hx:Loc X.env.scope x)(hf:X.fn x=true∨X.env.scope.names.lookup x=some .local:=by first | exact .inl rfl | exact .inr rfl | assumption):PG X (.Name x pos) (aG i):=by
 intro pins s σ H v u Q I r h
 exact wpAny_assign_Name (jh I hN hi hx r (fun s' I'=>⟨_,H,I',h⟩) hf)
def yk:fF:=fun vs σ H Q=>vs=[]∧Q σ H
def yl(t:TG)(u:fF):fF:=fun vs σ H Q=>∃v r,vs=v::r∧t v σ H fun σ' H'=>u r σ' H' Q
theorem kC:kB X [] yk:=by
 intro pins s σ H vs us Q I r h
 obtain ⟨e,h⟩:=h
 subst e
 cases r
 exact assignInOrder_nil ⟨σ,H,I,h⟩
theorem eR{e:Expr}{es:List Expr}{t:TG}{u:fF}(h1:PG X e t)(h2:kB X es u)
  (hs:(assignEach (e::es) X.env).map (·.2)=assign e X.env::(assignEach es X.env).map (·.2):=by rfl):kB X (e::es) (yl t u):=by
 intro pins s σ H vs us Q I r h
 obtain ⟨v,vr,e1,h⟩:=h
 subst e1
 cases r with
 | cons r rr=>
  rw [hs]
  refine assignInOrder_cons (av (h1 pins s σ H _ _ _ I r h) fun _ s1 ⟨σ1,H1,I1,q1⟩=>?_)
  exact h2 pins s1 σ1 H1 _ _ Q I1 rr q1
def ym(K:PySem.W.Frag)(n:Nat)(t:fF):TG:=fun v σ H Q=>∃a xs,v=.ref a∧bo K H a xs∧xs.length=n∧t xs σ H Q
theorem kD{es:List Expr}{k:Nat}{t:fF}{n:Nat}(hc:X.calm=true)(h:kB X es t)
  (hn:(assignEach es X.env).length=n:=by rfl) (yn:(assignEach es X.env).findIdx? (·.1)=none:=by rfl):PG X (.Tuple es k pos) (ym X.K n t):=by
 intro pins s σ H v u Q I r hw
 obtain ⟨a,xs,e1,hq,hl,hw⟩:=hw
 subst e1
 cases r
 obtain ⟨ae,rv,ht,hz⟩:=I.tuple hq
 refine assign_Tuple_tuple (I.ok.hd hc) ht (by simp [hn,←hl,rv.length]) yn fun h' hx=>?_
 have I1:Inv X pins σ H {s with heap:=h'}:=I.kept (t':=s.toks) fun b o e=>hx b o (Nat.ne_of_lt (Heap.lt_size e)) e
 exact h pins _ σ H xs _ Q I1 (by simpa using rv) hw
def yo(to ti:TE)(t:nh):TG:=fun v σ H Q=>to σ H fun o H1=>ti σ H1 fun i H2=>t o i v H2 fun H3=>Q σ H3
theorem jk{o i:Expr}{to ti:TE}{t:nh}(ho:PE X o to)(hi:PE X i ti)(hs:rp X t)
  (ha:∀v,assign (.Subscript o i pos) X.env v=(do
   let ov ←holding [v] (eval o X.env)
   let iv ←holding [v,ov] (eval i X.env)
   standAt pos
   holding [v,ov,iv] (setItem ov iv v)
   release [v,ov,iv] []):=by intro _;rfl):PG X (.Subscript o i pos) (yo to ti t):=by
 intro pins s σ H v u Q I r h
 rw [ha]
 refine wpAny_bind (wpAny_holding (av (ho pins s σ H _ I h) fun ov s1 ⟨x,H1,I1,r1,q1⟩=>?_))
 refine wpAny_bind (wpAny_holding (av (hi pins s1 σ H1 _ I1 q1) fun iv s2 ⟨y,H2,I2,r2,q2⟩=>?_))
 refine wpAny_bind (wpAny_standAt (wpAny_bind (wpAny_holding (av (hs pins s2 σ H2 x y v ov iv u _ I2 r1 r2 r q2) fun _ s3 ⟨H3,I3,q3⟩=>?_))))
 exact wpAny_release ⟨σ,H3,I3,q3⟩
def jl(te:TE)(g:TG):TS:=fun D σ H=>te σ H fun x H1=>g x σ H1 D.nx
theorem jm{tg e:Expr}{te:TE}{g:TG}(he:PE X e te)(hg:PG X tg g)(hs:swapsWithSole [tg] e pos.line X.env=pure false:=by rfl)(hw:swappedStores [tg] e X.env=pure none:=by rfl)
  (h1:(assignEach [tg] X.env).map (·.2)=[assign tg X.env]:=by rfl):PS X (.Assign [tg] e pos) (jl te g):=by
 intro pins s σ H D I h
 refine wpAny_Assign_stores (av (he pins s σ H _ I h) fun v s1 ⟨x,H1,I1,r1,q1⟩=>?_) hs hw
 rw [h1]
 exact av (hg pins s1 σ H1 x v _ I1 r1 q1) fun _ s2 q=>q
theorem yp{i:Nat}{x:Str}{e:Expr}{te:TE}{pos':Pos}(hN:X.N.Nodup)(hi:X.N[i]?=some x)(hx:Loc X.env.scope x)(he:PE X e te)(hs:swapsWith e (some (.Name x pos')) pos.line X.env=pure false:=by rfl)(hf:X.fn x=true∨X.env.scope.names.lookup x=some .local:=by first | exact .inl rfl | exact .inr rfl | assumption) :
  PS X (.Assign [.Name x pos'] e pos) (jl te (aG i)):=by
 intro pins s σ H D I h
 refine wpAny_Assign_Name (av (he pins s σ H _ I h) fun v s1 ⟨y,H1,I1,r1,q1⟩=>?_) hs
 exact jh I1 hN hi hx r1 (fun s2 I2=>⟨_,H1,I2,q1⟩) hf
def yq(i j:Nat)(ta:TA):TS:=fun D σ H=>ta σ H fun vs H1=>∃v w,vs=[v,w]∧D.nx ((σ.set i (some v)).set j (some w)) H1
theorem yr{i j:Nat}{x y:Str}{a b:Expr}{ta:TA}{px py pt:Pos}{kt k2 ni}(hc:X.calm=true)(hN:X.N.Nodup)(hi:X.N[i]?=some x)(hj:X.N[j]?=some y)(rq:i≠j)
  (hx:X.env.scope.names.lookup x=some .local) (hy:X.env.scope.names.lookup y=some .local) (ha:PA X [a,b] ta)
  (hw:swappedStores [.Tuple [.Name x px,.Name y py] kt pt] (.Tuple [a,b] k2 ni) X.env=pure (some [x,y]))
  (hs:swapsWithSole [.Tuple [.Name x px,.Name y py] kt pt] (.Tuple [a,b] k2 ni) pos.line X.env=pure false:=by rfl) :
  PS X (.Assign [.Tuple [.Name x px,.Name y py] kt pt] (.Tuple [a,b] k2 ni) pos) (yq i j ta):=by
 intro pins s σ H D I h
 rw [exec_Assign_arm]
 refine wpAny_bind (wpAny_standAt ?_)
 rw [hs]
 refine wpAny_bind (wpAny_pure ?_)
 rw [if_neg (by decide)]
 refine wpAny_bind (Tuple_ (av (ha _ pins s σ H _ I h) fun us s1 ⟨vs,H1,I1,r1,q1⟩=>?_))
 obtain ⟨v,w,e1,q1⟩:=q1
 subst e1
 obtain ⟨u1,u2,rfl,rv,fG⟩:∃u1 u2,us=[u1,u2]∧RelV v u1∧RelV w u2:=by
  cases r1 with
  | cons p q=>
   cases q with
   | cons p' q'=>
    cases q'
    exact ⟨_,_,rfl,p,p'⟩
 refine wpAny_newObj_type ?_ (by show 2≤sizeLine;decide)
 have I2:Inv X pins σ H1 {s1 with heap:=s1.heap.push {cls:=.type "tuple",data:=.seq [u1,u2].toArray}}:=I1.kept (t':=s1.toks) fun b o e=>Heap.get?_push_of_some _ e
 rw [hw]
 refine wpAny_bind (wpAny_pure ?_)
 show wpAny (model X.prog X.w) X.A (do rule "assign.swapped-stores";let items ←unpackItems (.ref s1.heap.objs.size) 2 none;assignInOrder [fun v=>bindName X.env y v,fun v=>bindName X.env x v] items.reverse;pure Flow.next) _ _ _
 refine wpAny_bind (wpAny_rule (wpAny_bind (unpackItems_tuple (items:=#[u1,u2]) (I.ok.hd hc) (IsTup.new s1.heap _) fun h' yt=>?_)))
 have I3:=I2.kept (h':=h') (t':=s1.toks) fun b o e=>yt b o (Nat.ne_of_lt (Heap.lt_size e)) e
 show wpAny _ _ (assignInOrder [fun v=>bindName X.env y v,fun v=>bindName X.env x v] [u2,u1] >>= fun _=>pure Flow.next) _ _ _
 refine wpAny_bind (assignInOrder_cons (wpAny_bindName (jh I3 hN hj (.inl hy) fG (fun s2 I4=>?_) (.inr hy))))
 refine assignInOrder_cons (wpAny_bindName (jh I4 hN hi (.inl hx) rv (fun s3 I5=>assignInOrder_nil (wpAny_pure ?_)) (.inr hx)))
 rw [List.set_comm _ _ (Ne.symm rq)] at I5
 exact ⟨_,H1,I5,q1⟩
end
section
variable {X:Cx} {pos:Pos}
def yu(c:TT)(tb:TS):TS:=fun D σ H=>∃W:Nat→St→Hp→Prop,(∃m,W m σ H)∧∀m σ H,W m σ H→
 c σ H fun b H1=>if b=true then ∃N:St→Hp→Prop,(∀σ' H',N σ' H'→∃m',m'<m∧W m' σ' H')∧tb {D with nx:=N,ct:=N,bk:=D.nx} σ H1 else D.nx σ H1
theorem yv{c:Expr}{body:List Stmt}{tc:TT}{tb:TS}(hp:PassesOwn (model X.prog X.w) X.A X.env X.xe)(hc:PT X c tc)(hb:bV X body tb):PS X (.While c body [] pos) (yu tc tb):=by
 intro pins s σ H D I h
 obtain ⟨W,⟨m0,w0⟩,turn⟩:=h
 refine wpAny_While (codeAny_whileLoop (fun n s'=>∃σ' H',Inv X pins σ' H' s'∧W n σ' H') ?_ m0 ⟨σ,H,I,w0⟩)
 rintro n s1 ⟨σ1,H1,I1,w1⟩
 refine wpAny_passesOwn hp (av (hc pins s1 σ1 H1 _ I1 (turn n σ1 H1 w1)) fun b s2 ⟨H2,I2,q2⟩=>?_)
 cases b with
 | true=>
  obtain ⟨N,hN,q2⟩:=q2
  rw [if_pos rfl]
  refine wpAny_passesOwn hp (av (hb pins s2 σ1 H2 _ I2 q2) fun f s3 q3=>?_)
  cases f with
  | next=>
   obtain ⟨σ3,H3,I3,n3⟩:=q3
   obtain ⟨m',hm,w3⟩:=hN σ3 H3 n3
   exact ⟨m',hm,σ3,H3,I3,w3⟩
  | cont=>
   obtain ⟨σ3,H3,I3,n3⟩:=q3
   obtain ⟨m',hm,w3⟩:=hN σ3 H3 n3
   exact ⟨m',hm,σ3,H3,I3,w3⟩
  | brk=>exact q3
  | ret v=>exact q3
 | false=>
  rw [if_neg Bool.false_ne_true]
  exact wpAny_execs_nil ⟨σ1,H2,I2,q2⟩
end
structure It where
 go:Nat→Hp→Prop
 bW:Nat→Hp→V→Hp→Prop
 stop:Nat→Hp→Prop
def eS(X:Cx)(pins:List (Addr×Obj))(H:Hp)(b:Addr):Prop:=
 H b=none∧b≠X.env.locals∧b∉X.fs∧(b∈X.ex∨X.s₀.heap.objs.size≤b)∧(∀x c,X.env.cells.lookup x=some c→c≠b)∧∀p∈X.pn++pins,p.1≠b
theorem Inv.jo{X:Cx}{pins:List (Addr×Obj)}{σ:St}{H H':Hp}{s:Shared}{b:Addr}(I:Inv X pins σ H s)(hb:s.heap.objs.size≤b)(hn:H' b=none):eS X pins H' b:=by
 refine ⟨hn,Nat.ne_of_gt (Nat.lt_of_lt_of_le I.lt hb),I.x6 hb,.inr (Nat.le_trans I.sz hb),fun x c e z=>?_,fun p hp z=>?_⟩
 ·obtain ⟨v,q⟩:=I.cell x c e
  exact absurd (Nat.lt_of_lt_of_le q.lt (by rw [z];exact hb)) (Nat.lt_irrefl _)
 ·exact absurd (Nat.lt_of_lt_of_le (Heap.lt_size (I.pin p hp).1) (by rw [z];exact hb)) (Nat.lt_irrefl _)
structure Turn (P:Program) (w:World) (K:PySem.W.Frag) (tg:Expr) (J:It) (fp:List Addr) (it:Addr) (tn:Nat→Heap→Prop):Prop where
 mem:it∈fp
 obj:∀i h,tn i h→∀b∈fp,∃o,h.get? b=some o∧∀v,o.data≠.cell v
 keep:∀i h h',tn i h→(∀b∈fp,∀o,h.get? b=some o→h'.get? b=some o)→tn i h'
 item:∀(X:Cx),X.prog=P→X.w=w→X.K=K→X.calm=true→∀(i:Nat) (pins:List (Addr×Obj)) (s:Shared) (σ:St) (H:Hp) (E:Value→Shared→Prop),Inv X pins σ H s→(∀b∈fp,eS X pins H b)→tn i s.heap→J.go i H→
  wpAny (model P w) X.A (pyNext (.ref it)) (fun r s1=>∃u,r=some u ∧
   wpAny (model P w) X.A (letOwnedTupleGo tg (.ref it) u) (fun _ s2=>∃x H',Inv X pins σ H' s2∧RelV x u∧J.bW i H x H'∧tn (i+1) s2.heap∧∀b∈fp,H' b=none) E s1) E s
 done:∀(X:Cx),X.prog=P→X.w=w→X.K=K→X.calm=true→∀(i:Nat) (pins:List (Addr×Obj)) (s:Shared) (σ:St) (H:Hp) (E:Value→Shared→Prop),Inv X pins σ H s→(∀b∈fp,eS X pins H b)→tn i s.heap→J.stop i H→
  wpAny (model P w) X.A (pyNext (.ref it)) (fun r s1=>r=none∧Inv X pins σ H s1) E s
 self:∀(A:Around) (i:Nat) (s:Shared) (Q:Value→Shared→Prop) (E:Value→Shared→Prop),tn i s.heap→Q (.ref it) s→wpAny (model P w) A (pyIter (.ref it)) Q E s
abbrev TI:=St→Hp→(It→Hp→Prop)→Prop
def nj(X:Cx)(pins:List (Addr×Obj))(σ:St)(tg:Expr)(R:It→Hp→Prop)(kF:Value)(s2:Shared):Prop:=
 ∃(it:Addr) (fp:List Addr) (tn:Nat→Heap→Prop) (J:It) (H':Hp),kF=.ref it∧Inv X pins σ H' s2∧Turn X.prog X.w X.K tg J fp it tn∧tn 0 s2.heap∧(∀b∈fp,eS X pins H' b)∧R J H'
def PI(X:Cx)(tg iter:Expr)(wi:TI):Prop:=
 ∀(pins:List (Addr×Obj)) (s:Shared) (σ:St) (H:Hp) (R:It→Hp→Prop),Inv X pins σ H s→wi σ H R→
  wpAny (model X.prog X.w) X.A (eval iter X.env) (fun v s1=>wpAny (model X.prog X.w) X.A (pyIter v) (nj X pins σ tg R) X.xe s1) X.xe s
theorem kG{M:Model}{A:Around}{E:Value→Shared→Prop}{s:Shared}{tg:Expr}{it:Addr}{u:Value}{o:Obj}{n:String}{vs:Array Value}{Q:Unit→Shared→Prop}(ho:s.heap.get? it=some o)(hc:o.cls=.type n)(hd:o.data=.fields vs)
    (hn:["enumerate","zip","dict_itemiterator","dict_reverseitemiterator","odict_iterator","itertools.zip_longest","itertools.pairwise"].contains n=false) (hQ:Q () s):wpAny M A (letOwnedTupleGo tg (.ref it) u) Q E s:=by
  unfold letOwnedTupleGo
  cases tg <;> first
    | exact wpAny_pure hQ
    | (cases u <;> first
        | exact wpAny_pure hQ
        | (refine wpAny_bind (wpAny_load ho ?_)
           rw [hc,hd]
           show wpAny M A (if (["enumerate","zip","dict_itemiterator","dict_reverseitemiterator","odict_iterator","itertools.zip_longest","itertools.pairwise"].contains n && vs[0]? == some (rawInt _))=true then _ else _) Q E s
           rw [if_neg (by intro h;rw [hn,Bool.false_and] at h;cases h)]
           exact wpAny_pure hQ))
def fH(K:PySem.W.Frag)(a:Addr):It:=
 ⟨fun i H=>∃xs x,aF K H a xs∧xs[i]?=some x,fun i H x H'=>H'=H∧∀xs,aF K H a xs→xs[i]?=some x,fun i H=>∃xs,aF K H a xs∧xs.length≤i⟩
def jq(K:PySem.W.Frag)(a:Addr):It:=
 ⟨fun i H=>∃xs x,bo K H a xs∧xs[i]?=some x,fun i H x H'=>H'=H∧∀xs,bo K H a xs→xs[i]?=some x,fun i H=>∃xs,bo K H a xs∧xs.length≤i⟩
def eU(lo:Int)(n:Nat):It:=⟨fun i _=>i<n,fun i H x H'=>H'=H∧x=.int (lo+i),fun i _=>n≤i⟩
theorem yw{P:Program}{w:World}{K:PySem.W.Frag}{tg:Expr}(a it:Addr):Turn P w K tg (fH K a) [it] it (fun i h=>h.IsListIter it a i) where
 mem:=by simp
 obj:=fun i h st b hb=>by
  have e:b=it:=by simpa using hb
  subst e
  obtain ⟨o,e,c,d⟩:=st
  exact ⟨o,e,fun v z=>by rw [d] at z;cases z⟩
 keep:=fun i h h' st k=>st.at fun o e=>k it (by simp) o e
 item:=by
  intro X hP hw hK hc i pins s σ H E I hf st hg
  subst hP hw hK
  obtain ⟨xs,x,hq,hx⟩:=hg
  obtain ⟨ae,rv,p,hz⟩:=I.list hq
  obtain ⟨u,hu,ru⟩:=rv.get hx
  obtain ⟨f0,f1,f2,f3,f4,f5⟩:=hf it (by simp)
  refine wpAny_pyNext_list_item st p.isList (x:=u) (by simpa using hu) fun h' cT sb=>?_
  have I1:Inv X pins σ H {s with heap:=h'}:=I.turned (t':=s.toks) (fun b o hb e=>(sb.2 b hb).trans e) f0 f1 f3 f4 f5
  obtain ⟨o,e,c,d⟩:=id cT
  exact ⟨u,rfl,kG (s:={s with heap:=h'}) e c d (by decide) ⟨x,H,I1,ru,⟨rfl,fun ys hy=>by rw [I.rl hy hq];exact hx⟩,cT,fun b hb=>(hf b hb).1⟩⟩
 done:=by
  intro X hP hw hK hc i pins s σ H E I hf st hg
  subst hP hw hK
  obtain ⟨xs,hq,hx⟩:=hg
  obtain ⟨ae,rv,p,hz⟩:=I.list hq
  obtain ⟨f0,f1,f2,f3,f4,f5⟩:=hf it (by simp)
  have hl:=rv.length
  exact wpAny_pyNext_list_end (I.ok.hd hc) st p.isList (by simp;omega) fun h' eb=>⟨rfl,I.turned (t':=s.toks) (fun b o hb e=>eb b o hb e) f0 f1 f3 f4 f5⟩
 self:=fun _ _ _ _ _ st h=>wpAny_pyIter_listiter st h
theorem yx{P:Program}{w:World}{K:PySem.W.Frag}{tg:Expr}(a it:Addr):Turn P w K tg (jq K a) [it] it (fun i h=>h.IsTupleIter it a i) where
 mem:=by simp
 obj:=fun i h st b hb=>by
  have e:b=it:=by simpa using hb
  subst e
  obtain ⟨o,e,c,d⟩:=st
  exact ⟨o,e,fun v z=>by rw [d] at z;cases z⟩
 keep:=fun i h h' st k=>st.at fun o e=>k it (by simp) o e
 item:=by
  intro X hP hw hK hc i pins s σ H E I hf st hg
  subst hP hw hK
  obtain ⟨xs,x,hq,hx⟩:=hg
  obtain ⟨ae,rv,p,hz⟩:=I.tuple hq
  obtain ⟨u,hu,ru⟩:=rv.get hx
  obtain ⟨f0,f1,f2,f3,f4,f5⟩:=hf it (by simp)
  refine wpAny_pyNext_tuple_item st (show s.heap.IsTuple a ae.toArray from p) (x:=u) (by simpa using hu) fun h' cT sb=>?_
  have I1:Inv X pins σ H {s with heap:=h'}:=I.turned (t':=s.toks) (fun b o hb e=>(sb.2 b hb).trans e) f0 f1 f3 f4 f5
  obtain ⟨o,e,c,d⟩:=id cT
  exact ⟨u,rfl,kG (s:={s with heap:=h'}) e c d (by decide) ⟨x,H,I1,ru,⟨rfl,fun ys hy=>by rw [I.yi hy hq];exact hx⟩,cT,fun b hb=>(hf b hb).1⟩⟩
 done:=by
  intro X hP hw hK hc i pins s σ H E I hf st hg
  subst hP hw hK
  obtain ⟨xs,hq,hx⟩:=hg
  obtain ⟨ae,rv,p,hz⟩:=I.tuple hq
  obtain ⟨f0,f1,f2,f3,f4,f5⟩:=hf it (by simp)
  have hl:=rv.length
  exact wpAny_pyNext_tuple_end (I.ok.hd hc) st (show s.heap.IsTuple a ae.toArray from p) (by simp;omega) fun h' eb=>⟨rfl,I.turned (t':=s.toks) (fun b o hb e=>eb b o hb e) f0 f1 f3 f4 f5⟩
 self:=fun _ _ _ _ _ st h=>wpAny_pyIter_tupleiter st h
theorem yy{P:Program}{w:World}{K:PySem.W.Frag}{tg:Expr}(it:Addr)(lo:Int)(n:Nat):Turn P w K tg (eU lo n) [it] it (fun i h=>IsRangeIter h it (lo+(i:Nat)*1) ((n:Int)-(i:Nat)) 1) where
 mem:=by simp
 obj:=fun i h st b hb=>by
  have e:b=it:=by simpa using hb
  subst e
  exact ⟨_,st,fun v z=>by
   have z':Data.fields _=Data.cell v:=z
   cases z'⟩
 keep:=fun i h h' st k=>k it (by simp) _ st
 item:=by
  intro X hP hw hK hc i pins s σ H E I hf st hg
  subst hP hw hK
  obtain ⟨f0,f1,f2,f3,f4,f5⟩:=hf it (by simp)
  have W:=Walks.range (prog:=X.prog) (w:=X.w) (I.ok.hd hc) it lo 1 n
  refine W.item i s _ _ hg st fun v h' tk hv cT kk=>?_
  obtain ⟨t,rfl⟩:=hv
  have I1:Inv X pins σ H {s with heap:=h',toks:=tk}:=I.turned (fun b o hb e=>kk b o (by simpa using hb) e) f0 f1 f3 f4 f5
  refine ⟨_,rfl,kG (s:={s with heap:=h',toks:=tk}) (n:="range_iterator") cT rfl rfl (by decide) ⟨.int (lo+i),H,I1,⟨t,?_⟩,⟨rfl,rfl⟩,cT,fun b hb=>(hf b hb).1⟩⟩
  rw [Int.mul_one]
 done:=by
  intro X hP hw hK hc i pins s σ H E I hf st hg
  subst hP hw hK
  obtain ⟨f0,f1,f2,f3,f4,f5⟩:=hf it (by simp)
  exact wpAny_pyNext_range_end (I.ok.hd hc) st (by have:n≤i:=hg;omega) fun h' eb=>⟨rfl,I.turned (t':=s.toks) (fun b o hb e=>eb b o hb e) f0 f1 f3 f4 f5⟩
 self:=fun _ _ _ _ _ st h=>wpAny_pyIter_rangeiter st h
section
variable {X:Cx} {tg:Expr}
def yz(K:PySem.W.Frag)(tl:TE):TI:=fun σ H R=>tl σ H fun x H1=>∃a,x=.ref a∧(∃xs,aF K H1 a xs)∧R (fH K a) H1
def yA(K:PySem.W.Frag)(tl:TE):TI:=fun σ H R=>tl σ H fun x H1=>∃a,x=.ref a∧(∃xs,bo K H1 a xs)∧R (jq K a) H1
theorem cp{l:Expr}{tl:TE}(hl:PE X l tl):PI X tg l (yz X.K tl):=by
 intro pins s σ H R I h
 refine av (hl pins s σ H _ I h) fun v s1 ⟨x,H1,I1,r1,q1⟩=>?_
 obtain ⟨a,e,⟨xs,hq⟩,q⟩:=q1
 subst e
 cases r1
 obtain ⟨ae,rv,p,hz⟩:=I1.list hq
 refine wpAny_pyIter_list p.isList ?_
 refine ⟨s1.heap.objs.size,[s1.heap.objs.size],_,_,H1,rfl,I1.kept (t':=s1.toks) fun b o e=>Heap.get?_push_of_some _ e,yw a _,⟨_,Heap.get?_push_size _ rfl,rfl,rfl⟩,fun b hb=>?_,q⟩
 have e:b=s1.heap.objs.size:=by simpa using hb
 subst e
 exact I1.jo (Nat.le_refl _) (I1.ao.fresh (Nat.le_refl _))
theorem yB{l:Expr}{tl:TE}(hl:PE X l tl):PI X tg l (yA X.K tl):=by
 intro pins s σ H R I h
 refine av (hl pins s σ H _ I h) fun v s1 ⟨x,H1,I1,r1,q1⟩=>?_
 obtain ⟨a,e,⟨xs,hq⟩,q⟩:=q1
 subst e
 cases r1
 obtain ⟨ae,rv,p,hz⟩:=I1.tuple hq
 refine wpAny_pyIter_tuple (show s1.heap.IsTuple a ae.toArray from p) ?_
 refine ⟨s1.heap.objs.size,[s1.heap.objs.size],_,_,H1,rfl,I1.kept (t':=s1.toks) fun b o e=>Heap.get?_push_of_some _ e,yx a _,⟨_,Heap.get?_push_size _ rfl,rfl,rfl⟩,fun b hb=>?_,q⟩
 have e:b=s1.heap.objs.size:=by simpa using hb
 subst e
 exact I1.jo (Nat.le_refl _) (I1.ao.fresh (Nat.le_refl _))
theorem rz{pins:List (Addr×Obj)}{σ:St}{H:Hp}{s:Shared}{R:It→Hp→Prop}{E:Value→Shared→Prop}{lo hi:Int}{t u v:Tok}{tk:Nat}(I:Inv X pins σ H s)(h1:-(2 ^ 62)≤lo)(h2:lo<2 ^ 62)(h3:-(2 ^ 62)≤hi)(h4:hi<2 ^ 62)
  (q:R (eU lo (hi-lo).toNat) H):wpAny (model X.prog X.w) X.A (pyIter (.ref s.heap.objs.size)) (nj X pins σ tg R) E {s with heap:=s.heap.push {cls:=.type "range",data:=.fields #[.int lo t,.int hi u,.int 1 v]},toks:=tk}:=by
 refine wpAny_pyIter_range (IsRange.new ..) (small_one h1 h2 h3 h4) ?_
 have I1:Inv X pins σ H {s with heap:=s.heap.push {cls:=.type "range",data:=.fields #[.int lo t,.int hi u,.int 1 v]},toks:=tk}:=I.kept fun b o e=>Heap.get?_push_of_some _ e
 refine ⟨(s.heap.push {cls:=.type "range",data:=.fields #[.int lo t,.int hi u,.int 1 v]}).objs.size,[(s.heap.push {cls:=.type "range",data:=.fields #[.int lo t,.int hi u,.int 1 v]}).objs.size],_,_,H,rfl,
  I1.kept (t':=tk) fun b o e=>Heap.get?_push_of_some _ e,yy _ lo (hi-lo).toNat,?_,fun b hb=>?_,q⟩
 ·have e1:lo+((0:Nat):Int)*1=lo:=by simp
  have e2:(((hi-lo).toNat:Nat):Int)-((0:Nat):Int)=Builtin.Range.rangeSize lo hi 1:=by rw [rangeSize_one];split <;> omega
  show IsRangeIter _ _ (lo+((0:Nat):Int)*1) ((((hi-lo).toNat:Nat):Int)-((0:Nat):Int)) 1
  rw [e1,e2]
  exact Heap.get?_push_size _ rfl
 ·have e:b=(s.heap.push {cls:=.type "range",data:=.fields #[.int lo t,.int hi u,.int 1 v]}).objs.size:=by simpa using hb
  subst e
  exact I1.jo (Nat.le_refl _) (I1.ao.fresh (Nat.le_refl _))
def yC(ta:TA):TI:=fun σ H R=>ta σ H fun vs H1=>∃j:Int,vs=[.int j]∧-(2 ^ 62)≤j∧j<2 ^ 62∧R (eU 0 j.toNat) H1
def yE(ta:TA):TI:=fun σ H R=>ta σ H fun vs H1=>∃i j:Int,vs=[.int i,.int j]∧(-(2 ^ 62)≤i∧i<2 ^ 62∧-(2 ^ 62)≤j∧j<2 ^ 62)∧R (eU i (j-i).toNat) H1
theorem fI{a:Expr}{ta:TA}{p pos:Pos}(hg:Gl X "range")(hm:X.mg "range" = none)(ha:PA X [a] ta)(hs:starEach [a] X.env=[(false,eval a X.env)]:=by rfl):PI X tg (.Call (.Name "range" p) [a] [] pos) (yC ta):=by
 intro pins s σ H R I h
 refine Call_ (gU I hg hm boot_range (PyProof.Rows.callWith_type1 (av (ha pos pins s σ H _ I h) fun us s1 ⟨vs,H1,I1,r1,q1⟩=>?_) hs rfl))
 obtain ⟨j,e,q1,q2,q⟩:=q1
 subst e
 cases r1 with
 | cons r rr=>
  cases rr
  obtain ⟨t,rfl⟩:=r
  exact call_range_1 (rz I1 (by omega) (by omega) q1 q2 (by simpa using q))
theorem yF{a b:Expr}{ta:TA}{p pos:Pos}(hg:Gl X "range")(hm:X.mg "range" = none)(ha:PA X [a,b] ta)(hs:starEach [a,b] X.env=[(false,eval a X.env),(false,eval b X.env)]:=by rfl)(kH:starEach [b] X.env=[(false,eval b X.env)]:=by rfl) :
  PI X tg (.Call (.Name "range" p) [a,b] [] pos) (yE ta):=by
 intro pins s σ H R I h
 refine Call_ (gU I hg hm boot_range (PyProof.Rows.callWith_type1 (av (ha pos pins s σ H _ I h) fun us s1 ⟨vs,H1,I1,r1,q1⟩=>?_) (by rw [hs,kH]) (by rw [kH];rfl)))
 obtain ⟨i,j,e,⟨q1,q2,q3,q4⟩,q⟩:=q1
 subst e
 cases r1 with
 | cons r rr=>
  cases rr with
  | cons r' rr=>
   cases rr
   obtain ⟨t,rfl⟩:=r
   obtain ⟨t',rfl⟩:=r'
   exact call_range_2 (rz I1 q1 q2 q3 q4 q)
def yG(wi:TI)(g:TG)(tb:TS):TS:=fun D σ H=>wi σ H fun J H1=>∃W:Nat→Nat→St→Hp→Prop,(∃m,W 0 m σ H1)∧∀i m σ H,W i m σ H→
 (J.stop i H∧D.nx σ H)∨(J.go i H∧∃N:St→Hp→Prop,(∀σ' H',N σ' H'→∃m',m'<m∧W (i+1) m' σ' H')∧∀x H',J.bW i H x H'→g x σ H' fun σ2 H2=>tb {D with nx:=N,ct:=N,bk:=D.nx} σ2 H2)
def eV(fp:List Addr)(h:Heap):List (Addr×Obj):=fp.filterMap fun b=>(h.get? b).map fun o=>(b,o)
theorem gY{fp:List Addr}{h:Heap}{b:Addr}{o:Obj}(hb:b∈fp)(e:h.get? b=some o):(b,o)∈eV fp h:=List.mem_filterMap.mpr ⟨b,hb,by rw [e];rfl⟩
theorem yH{fp:List Addr}{h:Heap}{p:Addr×Obj}(hp:p∈eV fp h):p.1∈fp∧h.get? p.1=some p.2:=by
 obtain ⟨b,hb,e⟩:=List.mem_filterMap.mp hp
 cases q:h.get? b with
 | none=>rw [q] at e;cases e
 | some o=>
  rw [q] at e
  have e':(b,o)=p:=Option.some.inj e
  subst e'
  exact ⟨hb,q⟩
theorem Inv.pinned{pins:List (Addr×Obj)}{σ:St}{H:Hp}{s:Shared}{fp:List Addr}(I:Inv X pins σ H s)(hf:∀b∈fp,eS X pins H b)(ho:∀b∈fp,∃o,s.heap.get? b=some o∧∀v,o.data≠.cell v):Inv X (pins++eV fp s.heap) σ H s:=
 I.qY fun p hp=>(List.mem_append.mp hp).elim (fun z=>I.pin p (List.mem_append_right _ z)) fun z=>by
  obtain ⟨hb,e⟩:=yH z
  obtain ⟨f0,f1,f2,_⟩:=hf p.1 hb
  obtain ⟨o,e',d⟩:=ho p.1 hb
  rw [e] at e';cases e'
  exact ⟨e,f0,f1,f2,d⟩
theorem Inv.jr{pins pl:List (Addr×Obj)}{σ:St}{H:Hp}{s:Shared}(I:Inv X (pins++pl) σ H s):Inv X pins σ H s:=I.qY fun p hp=>I.pin p (List.mem_append_right _ (List.mem_append_left _ hp))
theorem b5{iter:Expr}{body:List Stmt}{wi:TI}{g:TG}{tb:TS}{pos:Pos}(hp:PassesOwn (model X.prog X.w) X.A X.env X.xe)(hc:X.calm=true)(hi:PI X tg iter wi)(hg:PG X tg g)(hb:bV X body tb)
  (hs:∀x,foldedSetIterable iter X.env x=pure x:=by intro _;rfl):PS X (.For tg iter body [] pos) (yG wi g tb):=by
 intro pins s σ H D I h
 refine wpAny_For (av (hi pins s σ H _ I h) fun v s1 h1=>av h1 fun kF s2 h2=>?_) hs
 obtain ⟨it,fp,tn,J,H2,e,I2,T,ed,f2,W,⟨m0,w0⟩,turn⟩:=h2
 subst e
 have dn:∀{H':Hp},(∀b∈fp,H' b=none)→∀b∈fp,eS X pins H' b:=fun hn b hb=>⟨hn b hb,(f2 b hb).2⟩
 refine codeAny_forLoop_any (fun n s'=>∃i σ' H',Inv X pins σ' H' s'∧tn i s'.heap∧(∀b∈fp,H' b=none)∧W i n σ' H') ?_ m0 ⟨0,σ,H2,I2,ed,fun b hb=>(f2 b hb).1,w0⟩
 rintro n s3 ⟨i,σ3,H3,I3,rA,rB,w3⟩
 rcases turn i n σ3 H3 w3 with ⟨stop,qn⟩ | ⟨go,N,hN,step⟩
 ·refine wpAny_passesOwn hp (av (T.done X rfl rfl rfl hc i pins s3 σ3 H3 X.xe I3 (dn rB) rA stop) fun r s4 ⟨hr,I4⟩=>?_)
  subst hr
  exact wpAny_execs_nil ⟨σ3,H3,I4,qn⟩
 ·refine wpAny_passesOwn hp (av (T.item X rfl rfl rfl hc i pins s3 σ3 H3 X.xe I3 (dn rB) rA go) fun r s4 ⟨u,hr,h4⟩=>?_)
  subst hr
  refine wpAny_passesOwn hp (av h4 fun _ s5 ⟨x,H5,I5,r5,y5,dq,jt⟩=>?_)
  have ju:=I5.pinned (dn jt) (T.obj _ _ dq)
  refine wpAny_passesOwn hp (av (hg _ s5 σ3 H5 x u _ ju r5 (step x H5 y5)) fun _ s6 ⟨σ6,H6,I6,q6⟩=>?_)
  refine wpAny_passesOwn hp (av (hb _ s6 σ6 H6 _ I6 q6) fun f s7 q7=>?_)
  have again:∀{σ7:St} {H7:Hp},Inv X (pins++eV fp s5.heap) σ7 H7 s7→N σ7 H7→∃m,m<n∧∃i σ' H',Inv X pins σ' H' s7∧tn i s7.heap∧(∀b∈fp,H' b=none)∧W i m σ' H':=fun{σ7 H7} I7 n7=>by
   obtain ⟨m',hm,w7⟩:=hN σ7 H7 n7
   refine ⟨m',hm,i+1,σ7,H7,I7.jr,T.keep _ _ _ dq fun b hb o e=>(I7.pin (b,o) (List.mem_append_right _ (List.mem_append_right _ (gY hb e)))).1,fun b hb=>?_,w7⟩
   obtain ⟨o,e,d⟩:=T.obj _ _ dq b hb
   exact (I7.pin (b,o) (List.mem_append_right _ (List.mem_append_right _ (gY hb e)))).2.1
  cases f with
  | next=>obtain ⟨σ7,H7,I7,n7⟩:=q7;exact again I7 n7
  | cont=>obtain ⟨σ7,H7,I7,n7⟩:=q7;exact again I7 n7
  | brk=>obtain ⟨σ7,H7,I7,q7⟩:=q7;exact ⟨σ7,H7,I7.jr,q7⟩
  | ret v=>obtain ⟨x7,σ7,H7,I7,r7,q7⟩:=q7;exact ⟨x7,σ7,H7,I7.jr,r7,q7⟩
end
theorem jv{K:PySem.W.Frag}{a:Addr}{xs:List V}{g:TG}{tb:TS}{D:Ends}{σ:St}{H:Hp}(Pv:Nat→St→Hp→Prop)(h0:Pv 0 σ H)(hl:∀i σ H,i≤xs.length→Pv i σ H→aF K H a xs)
  (hs:∀i x σ H,xs[i]?=some x→Pv i σ H→g x σ H fun σ2 H2=>tb {D with nx:=Pv (i+1),ct:=Pv (i+1),bk:=D.nx} σ2 H2) (hd:∀σ H,Pv xs.length σ H→D.nx σ H) :
  ∃W:Nat→Nat→St→Hp→Prop,(∃m,W 0 m σ H)∧∀i m σ H,W i m σ H→
   ((fH K a).stop i H∧D.nx σ H)∨((fH K a).go i H∧∃N:St→Hp→Prop,(∀σ' H',N σ' H'→∃m',m'<m∧W (i+1) m' σ' H')∧∀x H',(fH K a).bW i H x H'→g x σ H' fun σ2 H2=>tb {D with nx:=N,ct:=N,bk:=D.nx} σ2 H2):=by
 refine ⟨fun i m σ H=>m=xs.length-i∧i≤xs.length∧Pv i σ H,⟨xs.length,by simp,Nat.zero_le _,h0⟩,?_⟩
 rintro i m σ H ⟨rfl,hi,p⟩
 have q:=hl i σ H hi p
 by_cases aV:i<xs.length
 ·refine .inr ⟨⟨xs,xs[i],q,by simp [aV]⟩,Pv (i+1),fun σ' H' p'=>⟨xs.length-(i+1),by omega,rfl,aV,p'⟩,fun x H' y=>?_⟩
  obtain ⟨e,y⟩:=y
  subst e
  exact hs i x σ _ (y xs q) p
 ·have e:i=xs.length:=by omega
  subst e
  exact .inl ⟨⟨xs,q,Nat.le_refl _⟩,hd σ H p⟩
theorem yI{K:PySem.W.Frag}{a:Addr}{xs:List V}{g:TG}{tb:TS}{D:Ends}{σ:St}{H:Hp}(Pv:Nat→St→Hp→Prop)(h0:Pv 0 σ H)(hl:∀i σ H,i≤xs.length→Pv i σ H→bo K H a xs)
  (hs:∀i x σ H,xs[i]?=some x→Pv i σ H→g x σ H fun σ2 H2=>tb {D with nx:=Pv (i+1),ct:=Pv (i+1),bk:=D.nx} σ2 H2) (hd:∀σ H,Pv xs.length σ H→D.nx σ H) :
  ∃W:Nat→Nat→St→Hp→Prop,(∃m,W 0 m σ H)∧∀i m σ H,W i m σ H→
   ((jq K a).stop i H∧D.nx σ H)∨((jq K a).go i H∧∃N:St→Hp→Prop,(∀σ' H',N σ' H'→∃m',m'<m∧W (i+1) m' σ' H')∧∀x H',(jq K a).bW i H x H'→g x σ H' fun σ2 H2=>tb {D with nx:=N,ct:=N,bk:=D.nx} σ2 H2):=by
 refine ⟨fun i m σ H=>m=xs.length-i∧i≤xs.length∧Pv i σ H,⟨xs.length,by simp,Nat.zero_le _,h0⟩,?_⟩
 rintro i m σ H ⟨rfl,hi,p⟩
 have q:=hl i σ H hi p
 by_cases aV:i<xs.length
 ·refine .inr ⟨⟨xs,xs[i],q,by simp [aV]⟩,Pv (i+1),fun σ' H' p'=>⟨xs.length-(i+1),by omega,rfl,aV,p'⟩,fun x H' y=>?_⟩
  obtain ⟨e,y⟩:=y
  subst e
  exact hs i x σ _ (y xs q) p
 ·have e:i=xs.length:=by omega
  subst e
  exact .inl ⟨⟨xs,q,Nat.le_refl _⟩,hd σ H p⟩
theorem fJ{lo:Int}{n:Nat}{g:TG}{tb:TS}{D:Ends}{σ:St}{H:Hp}(Pv:Nat→St→Hp→Prop)(h0:Pv 0 σ H)
  (hs:∀i σ H,i<n→Pv i σ H→g (.int (lo+i)) σ H fun σ2 H2=>tb {D with nx:=Pv (i+1),ct:=Pv (i+1),bk:=D.nx} σ2 H2) (hd:∀σ H,Pv n σ H→D.nx σ H) :
  ∃W:Nat→Nat→St→Hp→Prop,(∃m,W 0 m σ H)∧∀i m σ H,W i m σ H→
   ((eU lo n).stop i H∧D.nx σ H)∨((eU lo n).go i H∧∃N:St→Hp→Prop,(∀σ' H',N σ' H'→∃m',m'<m∧W (i+1) m' σ' H')∧∀x H',(eU lo n).bW i H x H'→g x σ H' fun σ2 H2=>tb {D with nx:=N,ct:=N,bk:=D.nx} σ2 H2):=by
 refine ⟨fun i m σ H=>m=n-i∧i≤n∧Pv i σ H,⟨n,by simp,Nat.zero_le _,h0⟩,?_⟩
 rintro i m σ H ⟨rfl,hi,p⟩
 by_cases aV:i<n
 ·refine .inr ⟨aV,Pv (i+1),fun σ' H' p'=>⟨n-(i+1),by omega,rfl,aV,p'⟩,fun x H' y=>?_⟩
  obtain ⟨e,y⟩:=y
  subst e y
  exact hs i σ _ aV p
 ·have e:i=n:=by omega
  subst e
  exact .inl ⟨Nat.le_refl _,hd σ H p⟩
abbrev R2:=V→V→Hp→VK→Prop
def aZ(X:Cx)(f:Value→Value→Sem Value)(r:R2):Prop:=
 ∀(pins:List (Addr×Obj)) (s:Shared) (σ:St) (H:Hp) (x y:V) (v u:Value) (Q:VK),Inv X pins σ H s→RelV x v→RelV y u→r x y H Q→
  wpAny (model X.prog X.w) X.A (f v u) (EP X pins σ Q) X.xe s
def nk(X:Cx)(f:Value→Sem Value)(r:V→Hp→VK→Prop):Prop:=
 ∀(pins:List (Addr×Obj)) (s:Shared) (σ:St) (H:Hp) (x:V) (v:Value) (Q:VK),Inv X pins σ H s→RelV x v→r x H Q→
  wpAny (model X.prog X.w) X.A (f v) (EP X pins σ Q) X.xe s
def bR(X:Cx)(f:Value)(r:List V→Hp→VK→Prop):Prop:=
 ∀(pins:List (Addr×Obj)) (s:Shared) (σ:St) (H:Hp) (xs:List V) (us:List Value) (Q:VK),Inv X pins σ H s→Vals xs us→r xs H Q→
  wpAny (model X.prog X.w) X.A (call f us) (EP X pins σ Q) X.xe s
def kI(r:R2)(ta tb:TE):TE:=fun σ H Q=>ta σ H fun x H1=>tb σ H1 fun y H2=>r x y H2 Q
def yJ(r:V→Hp→VK→Prop)(ta:TE):TE:=fun σ H Q=>ta σ H fun x H1=>r x H1 Q
def rI(C:Int→Int→Prop)(g:Int→Int→V):R2:=fun x y H Q=>∃i j,x=.int i∧y=.int j∧C i j∧Q (g i j) H
def eW(g:Int→Int→V):R2:=fun x y H Q=>∃i j,x=.int i∧y=.int j∧Q (g i j) H
def rU(g:Int→V):V→Hp→VK→Prop:=fun x H Q=>∃i,x=.int i∧Q (g i) H
section
variable {X:Cx} {a b c:Expr} {ta tb tc:TE} {pos:Pos}
theorem nu(ha:PE X a ta)(hb:PE X b tb){pins:List (Addr×Obj)}{s:Shared}{σ:St}{H:Hp}{R:V→V→Hp→Prop}(I:Inv X pins σ H s)
  (h:ta σ H fun x H1=>tb σ H1 fun y H2=>R x y H2) {Q:Value→Shared→Prop} {f:Value→Value→Sem Value}
  (hf:∀v u s2 x y H2,Inv X pins σ H2 s2→RelV x v→RelV y u→R x y H2→wpAny (model X.prog X.w) X.A (f v u) Q X.xe s2) :
  wpAny (model X.prog X.w) X.A (eval a X.env) (fun v s₁=>wpAny (model X.prog X.w) X.A (eval b X.env) (fun u s₂=>wpAny (model X.prog X.w) X.A (f v u) Q X.xe s₂) X.xe s₁) X.xe s:=by
 refine av (ha pins s σ H _ I h) fun v s1 ⟨x,H1,I1,r1,q1⟩=>?_
 refine av (hb pins s1 σ H1 _ I1 q1) fun u s2 ⟨y,H2,I2,r2,q2⟩=>?_
 exact hf v u s2 x y H2 I2 r1 r2 q2
theorem aD{op:Operator}{r:R2}(ho:aZ X (binaryOp op) r)(ha:PE X a ta)(hb:PE X b tb):PE X (.BinOp a op b pos) (kI r ta tb):=by
 intro pins s σ H Q I h
 exact wpAny_BinOp (nu ha hb I h fun v u s2 x y H2 I2 rx ry q=>ho pins s2 σ H2 x y v u Q I2 rx ry q)
theorem yK{op:UnaryOp}{r:V→Hp→VK→Prop}(ho:nk X (unaryOp op) r)(ha:PE X a ta):PE X (.UnaryOp op a pos) (yJ r ta):=by
 intro pins s σ H Q I h
 exact UnaryOp_ (av (ha pins s σ H _ I h) fun v s1 ⟨x,H1,I1,r1,q1⟩=>ho pins s1 σ H1 x v Q I1 r1 q1)
theorem kJ{f:Value→Value→Sem Value}{C:Int→Int→Prop}{g:Int→Int→Int}
  (rule:∀(i j:Int) (t u:Tok) (s:Shared) (Q:Value→Shared→Prop) (E:Value→Shared→Prop),C i j→Q (.int (g i j) s.toks) {s with toks:=s.toks+1}→wpAny (model X.prog X.w) X.A (f (.int i t) (.int j u)) Q E s) :
  aZ X f (rI C fun i j=>.int (g i j)):=by
 intro pins s σ H x y v u Q I rx ry h
 obtain ⟨i,j,rfl,rfl,hc,q⟩:=h
 obtain ⟨t,rfl⟩:=rx
 obtain ⟨t',rfl⟩:=ry
 exact rule i j t t' s _ _ hc ⟨.int (g i j),H,I.tok _,⟨_,rfl⟩,q⟩
theorem rC{f:Value→Value→Sem Value}{g:Int→Int→Int}
  (rule:∀(i j:Int) (t u:Tok) (s:Shared) (Q:Value→Shared→Prop) (E:Value→Shared→Prop),Q (.int (g i j) s.toks) {s with toks:=s.toks+1}→wpAny (model X.prog X.w) X.A (f (.int i t) (.int j u)) Q E s) :
  aZ X f (eW fun i j=>.int (g i j)):=by
 intro pins s σ H x y v u Q I rx ry h
 obtain ⟨i,j,rfl,rfl,q⟩:=h
 obtain ⟨t,rfl⟩:=rx
 obtain ⟨t',rfl⟩:=ry
 exact rule i j t t' s _ _ ⟨.int (g i j),H,I.tok _,⟨_,rfl⟩,q⟩
theorem kK{f:Value→Value→Sem Value}{g:Int→Int→Bool}
  (rule:∀(i j:Int) (t u:Tok) (s:Shared) (Q:Value→Shared→Prop) (E:Value→Shared→Prop),Q (.bool (g i j)) s→wpAny (model X.prog X.w) X.A (f (.int i t) (.int j u)) Q E s) :
  aZ X f (eW fun i j=>.bl (g i j)):=by
 intro pins s σ H x y v u Q I rx ry h
 obtain ⟨i,j,rfl,rfl,q⟩:=h
 obtain ⟨t,rfl⟩:=rx
 obtain ⟨t',rfl⟩:=ry
 exact rule i j t t' s _ _ ⟨.bl (g i j),H,I,rfl,q⟩
def yL(i j:Int):Prop:=0≤j∧j≤1000000∧i.natAbs<2 ^ 64
def nz(i j:Int):Prop:=(-(2 ^ 64)<i∧i<2 ^ 64)∨(-(2 ^ 64)<j∧j<2 ^ 64)
theorem nz.ok{i j:Int}(h:nz i j):IntMulOk i j:=by
 rcases h with ⟨h1,h2⟩ | ⟨h1,h2⟩
 ·exact .of_left (intBits_le_64 h1 h2)
 ·exact .of_right (intBits_le_64 h1 h2)
theorem cU:aZ X (binaryOp .Add) (eW fun i j=>.int (i+j)):=rC fun _ _ _ _ _ _ _ q=>add_int q
theorem jw:aZ X (binaryOp .Sub) (eW fun i j=>.int (i-j)):=rC fun _ _ _ _ _ _ _ q=>sub_int q
theorem dr:aZ X (binaryOp .Mult) (rI nz fun i j=>.int (i*j)):=kJ fun _ _ _ _ _ _ _ hc q=>mul_int q hc.ok
theorem fK:aZ X (binaryOp .Mod) (rI (fun _ j=>0<j) fun i j=>.int (i % j)):=kJ fun i j _ _ _ _ _ hc q=>by
 have h1:(0:Int)<j:=hc
 exact mod_int' (by omega) (by rw [Int.fmod_eq_emod_of_nonneg i (by omega)];exact q)
theorem yM:aZ X (binaryOp .Pow) (rI yL fun i j=>.int (i ^ j.toNat)):=kJ fun _ _ _ _ _ _ _ hc q=>pow_int_small hc.1 hc.2.1 hc.2.2 q
theorem yN{f:Value→Sem Value}{g:Int→Int}
  (rule:∀(i:Int) (t:Tok) (s:Shared) (Q:Value→Shared→Prop) (E:Value→Shared→Prop),Q (.int (g i) s.toks) {s with toks:=s.toks+1}→wpAny (model X.prog X.w) X.A (f (.int i t)) Q E s) :
  nk X f (rU fun i=>.int (g i)):=by
 intro pins s σ H x v Q I rx h
 obtain ⟨i,rfl,q⟩:=h
 obtain ⟨t,rfl⟩:=rx
 exact rule i t s _ _ ⟨.int (g i),H,I.tok _,⟨_,rfl⟩,q⟩
theorem yO:nk X (unaryOp .USub) (rU fun i=>.int (-i)):=yN fun _ _ _ _ _ q=>neg_int q
end
def rD:V→V→Bool
 | .az,.az=>true | .az,.int _=>true | .int _,.az=>true | .az,.bl _=>true | .bl _,.az=>true | .az,.str _=>true | .str _,.az=>true
 | .int _,.int _=>true | .bl _,.bl _=>true | .str _,.str _=>true | .dg _,.dg _=>true
 | .int _,.str _=>true | .str _,.int _=>true | .bl _,.str _=>true | .str _,.bl _=>true
 | _,_=>false
def yP:R2:=fun x y H Q=>rD x y=true∧Q (.bl (decide (x=y))) H
def yQ:R2:=fun x y H Q=>rD x y=true∧Q (.bl (!decide (x=y))) H
theorem rE{i j:Int}:decide (V.int i=V.int j)=(i == j):=by
 rw [Bool.eq_iff_iff]
 simp
theorem rF{i j:Bool}:decide (V.bl i=V.bl j)=(i == j):=by
 rw [Bool.eq_iff_iff]
 simp
theorem rG{i j:Str}:decide (V.str i=V.str j)=(i == j):=by
 rw [Bool.eq_iff_iff]
 simp
theorem rH{i j:Array UInt8}:decide (V.dg i=V.dg j)=(i.toList == j.toList):=by
 rw [Bool.eq_iff_iff]
 cases i
 cases j
 simp
section
variable {X:Cx} {a b c:Expr} {ta tb tc:TE} {pos:Pos}
theorem aW{pins:List (Addr×Obj)}{σ:St}{H:Hp}{s:Shared}{Q:VK}{k k':Bool}(I:Inv X pins σ H s)(q:Q (.bl k) H)(e:k=k'):EP X pins σ Q (.bool k') s:=by
 subst e
 exact ⟨.bl k,H,I,rfl,q⟩
theorem cq:aZ X (compareOp .Eq) yP:=by
 intro pins s σ H x y v u Q I rx ry h
 obtain ⟨hs,q⟩:=h
 cases x with
 | az=>
  cases rx
  cases y with
  | az=>cases ry;exact PySem.EqNone.eq_none_none (aW I q (by simp))
  | bl j=>cases ry;exact PySem.EqNone.eq_none_bool (aW I q (by simp))
  | int j=>obtain ⟨t',rfl⟩:=ry;exact PySem.EqNone.eq_none_int (aW I q (by simp))
  | str j=>obtain ⟨t',rfl⟩:=ry;exact PySem.EqNone.eq_none_str (aW I q (by simp))
  | _=>exact absurd (show false=true from hs) Bool.false_ne_true
 | bl i=>
  cases rx
  cases y with
  | az=>cases ry;exact PySem.EqNone.eq_bool_none (aW I q (by simp))
  | bl j=>cases ry;exact eq_bool (aW I q rF)
  | str j=>obtain ⟨t',rfl⟩:=ry;exact PySem.EqMixed.eq_bool_str (aW I q (by simp))
  | _=>exact absurd (show false=true from hs) Bool.false_ne_true
 | int i=>
  obtain ⟨t,rfl⟩:=rx
  cases y with
  | az=>cases ry;exact PySem.EqNone.eq_int_none (aW I q (by simp))
  | int j=>obtain ⟨t',rfl⟩:=ry;exact eq_int (aW I q rE)
  | str j=>obtain ⟨t',rfl⟩:=ry;exact PySem.EqMixed.eq_int_str (aW I q (by simp))
  | _=>exact absurd (show false=true from hs) Bool.false_ne_true
 | str i=>
  obtain ⟨t,rfl⟩:=rx
  cases y with
  | az=>cases ry;exact PySem.EqNone.eq_str_none (aW I q (by simp))
  | bl j=>cases ry;exact PySem.EqMixed.eq_str_bool (aW I q (by simp))
  | int j=>obtain ⟨t',rfl⟩:=ry;exact PySem.EqMixed.eq_str_int (aW I q (by simp))
  | str j=>obtain ⟨t',rfl⟩:=ry;exact eq_str (aW I q rG)
  | _=>exact absurd (show false=true from hs) Bool.false_ne_true
 | dg i=>
  obtain ⟨t,rfl⟩:=rx
  cases y with
  | dg j=>obtain ⟨t',rfl⟩:=ry;exact PySem.W.eq_bytes (aW I q rH)
  | _=>exact absurd (show false=true from hs) Bool.false_ne_true
 | _=>cases y <;> exact absurd (show false=true from hs) Bool.false_ne_true
theorem nB:aZ X (compareOp .NotEq) yQ:=by
 intro pins s σ H x y v u Q I rx ry h
 obtain ⟨hs,q⟩:=h
 cases x with
 | az=>
  cases rx
  cases y with
  | az=>cases ry;exact PySem.EqNone.ne_none_none (aW I q (by simp))
  | bl j=>cases ry;exact PySem.EqNone.ne_none_bool (aW I q (by simp))
  | int j=>obtain ⟨t',rfl⟩:=ry;exact PySem.EqNone.ne_none_int (aW I q (by simp))
  | str j=>obtain ⟨t',rfl⟩:=ry;exact PySem.EqNone.ne_none_str (aW I q (by simp))
  | _=>exact absurd (show false=true from hs) Bool.false_ne_true
 | bl i=>
  cases rx
  cases y with
  | az=>cases ry;exact PySem.EqNone.ne_bool_none (aW I q (by simp))
  | bl j=>cases ry;exact ne_bool (aW I q (congrArg not rF))
  | str j=>obtain ⟨t',rfl⟩:=ry;exact PySem.EqMixed.ne_bool_str (aW I q (by simp))
  | _=>exact absurd (show false=true from hs) Bool.false_ne_true
 | int i=>
  obtain ⟨t,rfl⟩:=rx
  cases y with
  | az=>cases ry;exact PySem.EqNone.ne_int_none (aW I q (by simp))
  | int j=>obtain ⟨t',rfl⟩:=ry;exact ne_int (aW I q (congrArg not rE))
  | str j=>obtain ⟨t',rfl⟩:=ry;exact PySem.EqMixed.ne_int_str (aW I q (by simp))
  | _=>exact absurd (show false=true from hs) Bool.false_ne_true
 | str i=>
  obtain ⟨t,rfl⟩:=rx
  cases y with
  | az=>cases ry;exact PySem.EqNone.ne_str_none (aW I q (by simp))
  | bl j=>cases ry;exact PySem.EqMixed.ne_str_bool (aW I q (by simp))
  | int j=>obtain ⟨t',rfl⟩:=ry;exact PySem.EqMixed.ne_str_int (aW I q (by simp))
  | str j=>obtain ⟨t',rfl⟩:=ry;exact ne_str (aW I q (congrArg not rG))
  | _=>exact absurd (show false=true from hs) Bool.false_ne_true
 | dg i=>
  obtain ⟨t,rfl⟩:=rx
  cases y with
  | dg j=>obtain ⟨t',rfl⟩:=ry;exact PySem.W.ne_bytes (aW I q (congrArg not rH))
  | _=>exact absurd (show false=true from hs) Bool.false_ne_true
 | _=>cases y <;> exact absurd (show false=true from hs) Bool.false_ne_true
theorem rJ:aZ X (compareOp .Lt) (eW fun i j=>.bl (decide (i<j))):=kK fun _ _ _ _ _ _ _ q=>lt_int q
theorem yR:aZ X (compareOp .LtE) (eW fun i j=>.bl (decide (i≤j))):=kK fun _ _ _ _ _ _ _ q=>le_int q
theorem fL:aZ X (compareOp .Gt) (eW fun i j=>.bl (decide (j<i))):=kK fun _ _ _ _ _ _ _ q=>gt_int q
theorem yS:aZ X (compareOp .GtE) (eW fun i j=>.bl (decide (j≤i))):=kK fun _ _ _ _ _ _ _ q=>ge_int q
theorem aS(b:Expr){op:CmpOp}(h:op≠.In:=by decide)(h2:op≠.NotIn:=by decide):behindInMarks op b=false:=by
 have e1:(op == CmpOp.In)=false:=by cases op <;> first | rfl | exact absurd rfl h
 have e2:(op == CmpOp.NotIn)=false:=by cases op <;> first | rfl | exact absurd rfl h2
 cases b <;> simp [behindInMarks,e1,e2]
theorem dI{op:CmpOp}{r:R2}(ho:aZ X (compareOp op) r)(ha:PE X a ta)(hb:PE X b tb)(hm:behindInMarks op b=false):PE X (.Compare a [op] [b] pos) (kI r ta tb):=by
 intro pins s σ H Q I h
 exact wpAny_Compare1 (nu ha hb I h fun v u s2 x y H2 I2 rx ry q=>ho pins s2 σ H2 x y v u Q I2 rx ry q) hm
def yT(t:TE):TT:=fun σ H Q=>t σ H fun x H'=>∃k,x=.bl k∧Q k H'
theorem br{op:CmpOp}{r:R2}(ho:aZ X (compareOp op) r)(ha:PE X a ta)(hb:PE X b tb)(hm:behindInMarks op b=false):PT X (.Compare a [op] [b] pos) (yT (kI r ta tb)):=by
 intro pins s σ H Q I h
 refine wpAny_isTrue_Compare1 (av (ha pins s σ H _ I h) fun v s1 ⟨x,H1,I1,r1,q1⟩=>av (hb pins s1 σ H1 _ I1 q1) fun u s2 ⟨y,H2,I2,r2,q2⟩=>
  av (ho pins s2 σ H2 x y v u _ I2 r1 r2 q2) fun c s3 ⟨z,H3,I3,r3,k,e,q3⟩=>?_) hm
 subst e
 cases r3
 exact wpAny_truthy_bool ⟨H3,I3,q3⟩
theorem kL:(sizeLine:Nat)<2 ^ 63:=by rw [sizeLine_eq];decide
theorem vals1{x:V}{us:List Value}(r:Vals [x] us):∃u,us=[u]∧RelV x u:=by
 cases r with
 | cons r1 r2=>cases r2;exact ⟨_,rfl,r1⟩
theorem vals2{x y:V}{us:List Value}(r:Vals [x,y] us):∃u w',us=[u,w']∧RelV x u∧RelV y w':=by
 cases r with
 | cons r1 r2=>
  cases r2 with
  | cons r3 r4=>cases r4;exact ⟨_,_,rfl,r1,r3⟩
theorem rK(hc:X.calm=true):bR X (.builtin "max") (fun xs H Q=>∃i j,xs=[.int i,.int j]∧Q (.int (if j>i then j else i)) H):=by
 intro pins s σ H xs us Q I r h
 obtain ⟨i,j,rfl,q⟩:=h
 obtain ⟨u,w',rfl,⟨t,rfl⟩,⟨t',rfl⟩⟩:=vals2 r
 refine max_two_ints (I.ok.hd hc) fun h' tk k=>⟨_,H,I.kept k,?_,q⟩
 by_cases hj:j>i
 ·rw [if_pos hj,if_pos hj];exact ⟨_,rfl⟩
 ·rw [if_neg hj,if_neg hj];exact ⟨_,rfl⟩
theorem rL(hc:X.calm=true):bR X (.builtin "min") (fun xs H Q=>∃i j,xs=[.int i,.int j]∧Q (.int (if j<i then j else i)) H):=by
 intro pins s σ H xs us Q I r h
 obtain ⟨i,j,rfl,q⟩:=h
 obtain ⟨u,w',rfl,⟨t,rfl⟩,⟨t',rfl⟩⟩:=vals2 r
 refine min_two_ints (I.ok.hd hc) fun h' tk k=>⟨_,H,I.kept k,?_,q⟩
 by_cases hj:j<i
 ·rw [if_pos hj,if_pos hj];exact ⟨_,rfl⟩
 ·rw [if_neg hj,if_neg hj];exact ⟨_,rfl⟩
end
structure nC (h:Heap) (x dx C:Addr) (mA:Str→Option Value):Prop where
 obj:h.get? x=some (PySem.W.instObj C dx)
 ns:h.Ns1 dx mA
 ne:dx≠x
theorem yU{h:Heap}{dx:Addr}{mA:Str→Option Value}(n:h.Ns1 dx mA):∃od,h.get? dx=some od∧∀name,PySem.W.lookIn name od=some (mA name):=by
 obtain ⟨o,es,ep,ho,hd,hk,_,hm⟩:=n
 refine ⟨o,ho,fun name=>?_⟩
 have e:=hm name
 unfold nsFind findBy at e
 rw [←Array.find?_toList] at e
 unfold PySem.W.lookIn
 rw [hd]
 dsimp only
 split
 ·rename_i y q
  rw [q] at e
  exact congrArg some e
 ·rename_i q
  rw [q] at e
  have a:es.toList.any (·.refKey)=false:=by
   rw [List.any_eq_false]
   intro y hy
   obtain ⟨z,t,yV⟩:=hk y (Array.mem_toList_iff.mp hy)
   simp [DictEntry.refKey,yV]
  have a':¬es.toList.any (·.refKey)=true:=by rw [a];exact Bool.false_ne_true
  rw [if_neg a']
  exact congrArg some e
theorem nC.look{h:Heap}{x dx C:Addr}{mA:Str→Option Value}(I:nC h x dx C mA):∃od,PySem.W.InstAt h x (PySem.W.instObj C dx) C (some od)∧∀name,PySem.W.lookIn name od=some (mA name):=
 let ⟨od,ho,hl⟩:=yU I.ns
 ⟨od,⟨I.obj,rfl,rfl,ho⟩,hl⟩
section
variable {prog:Program} {w:World} {A:Around} {E:Value→Shared→Prop} {s:Shared} {K:PySem.W.Frag} {x dx C f:Addr} {mA:Str→Option Value} {name:Str} {v:Value}
end
section
variable {P:Program} {w:World} {H H':Hp} {h h':Heap} {a C dx:Addr} {fs mY:List (Str×V)}
theorem yW(ao:aJ P w H h)(e:H a=some (.ins C dx fs)):∃mA,nC h a dx C mA∧(∀f,gR (fs.lookup f) (mA f))∧PySem.Within mA (fs.map (·.1))∧fs.length≤1000∧H dx=some (.own a):=by
 obtain ⟨d,z,ne,ob,mA,n,r,q⟩:=(show aI P w H h a (.ins C dx fs) from ao a _ e)
 exact ⟨mA,⟨ob,n,ne⟩,r,q,z,d⟩
end
structure nE (K:PySem.W.Frag) (C:Addr):Prop where
 pg:PySem.W.plainGet K C Str.empty=true
 hd:PySem.W.hasDictIn K C=true
 po:PySem.W.plainOver K C=true
 sa:PySem.W.findIn K (.ref C) "__setattr__" = some (some (.builtin "object.__setattr__"))
theorem nE.get{K:PySem.W.Frag}{C:Addr}(c:nE K C)(f:Str):PySem.W.plainGet K C f=true:=c.pg
section
variable {X:Cx} {pins:List (Addr×Obj)} {σ:St} {H:Hp} {s:Shared} {a C dx:Addr} {fs:List (Str×V)} {f:Str} {v:V} {A:Around} {E:Value→Shared→Prop}
end
section
variable {X:Cx} {o e value:Expr} {f:Str} {pos pos' kM:Pos} {ta tv:TE}
end
section
variable {X:Cx} {pins:List (Addr×Obj)} {σ:St} {H:Hp} {s:Shared} {A:Around} {E:Value→Shared→Prop} {Q:Value→Shared→Prop} {c:Value} {b:Bool}
inductive cG (K:PySem.W.Frag) (H:Hp):V→Value→Prop where
 | az:cG K H .az (.type "NoneType")
 | bl (x:Bool):cG K H (.bl x) (.type "bool")
 | int (i:Int):cG K H (.int i) (.type "int")
 | str (x:Str):cG K H (.str x) (.type "str")
 | gQ (x:UInt64):cG K H (.gQ x) (.type "float")
 | lst {a:Addr} {xs:List V} (e:H a=some (.lst xs)):cG K H (.ref a) (.type "list")
 | aM {a:Addr} {o:Obj} {xs:List V} (e:H a=some (.aM o (.lst xs))):cG K H (.ref a) (.type "list")
 | tup {a:Addr} {xs:List V} (e:H a=some (.tup xs)):cG K H (.ref a) (.type "tuple")
 | dK {a:Addr} {ai:List (Key×V)} (e:H a=some (.dK ai)):cG K H (.ref a) (.type "dict")
 | dT {a:Addr} {ai:List (List Key×V)} (e:H a=some (.dT ai)):cG K H (.ref a) (.type "dict")
 | ins {a C dx:Addr} {fs:List (Str×V)} (e:H a=some (.ins C dx fs)) (cl:nE K C) (ha:PySem.W.findIn K (.ref C) "__class__" = some (some (.builtin "object.__class__")))
   (hn:PySem.W.specialIn K (.builtin "object.__class__") "__get__" = some (some (.builtin "getset_descriptor.__get__"))) (rN:PySem.W.takesIn K (.builtin "object.__class__")=some true)
   (hm:PySem.W.mroIn K C (.type "object")=some true):cG K H (.ref a) (.ref C)
theorem yX{x:V}{u t:Value}(I:Inv X pins σ H s)(rx:RelV x u)(ty:cG X.K H x t)(e:PySem.W.kitOne X.K t c=some b)(h:∀tk,Q (.bool b) {s with toks:=tk}) :
  wpAny (model X.prog X.w) A (call (.builtin "isinstance") [u,c]) Q E s:=by
 cases ty with
 | az=>cases (show u=Value.none from rx);exact PySem.W.kia_one PySem.W.kitx_none I.bf True.intro e (fun z=>nomatch z) h
 | bl y=>cases (show u=Value.bool y from rx);exact PySem.W.kia_one PySem.W.kitx_bool I.bf True.intro e (fun z=>nomatch z) h
 | int i=>obtain ⟨t,q⟩:=(show ∃t,u=Value.int i t from rx);cases q;exact PySem.W.kia_one PySem.W.kitx_int I.bf True.intro e (fun z=>nomatch z) h
 | str y=>obtain ⟨t,q⟩:=(show ∃t,u=Value.str y t from rx);cases q;exact PySem.W.kia_one PySem.W.kitx_str I.bf True.intro e (fun z=>nomatch z) h
 | gQ y=>obtain ⟨t,q⟩:=(show ∃t,u=Value.float y t from rx);cases q;exact PySem.W.kia_one PySem.W.kitx_float I.bf True.intro e (fun z=>nomatch z) h
 | @lst a xs ea=>
  cases (show u=Value.ref a from rx)
  obtain ⟨_,_,n,_,h1⟩:=(show aI X.prog X.w H s.heap a (.lst xs) from I.ao a _ ea)
  exact PySem.W.kia_one PySem.W.kitx_list I.bf ⟨_,h1,rfl⟩ e (fun z=>nomatch z) h
 | @aM a ob xs ea=>
  cases (show u=Value.ref a from rx)
  obtain ⟨_,_,_,n,_,h1⟩:=(show aI X.prog X.w H s.heap a (.aM ob (.lst xs)) from I.ao a _ ea)
  exact PySem.W.kia_one PySem.W.kitx_list I.bf ⟨_,h1,rfl⟩ e (fun z=>nomatch z) h
 | @tup a xs ea=>
  cases (show u=Value.ref a from rx)
  obtain ⟨_,_,_,p⟩:=(show aI X.prog X.w H s.heap a (.tup xs) from I.ao a _ ea)
  obtain ⟨o,h1,h2,_⟩:=p
  exact PySem.W.kia_one PySem.W.kitx_tuple I.bf ⟨o,h1,h2⟩ e (fun z=>nomatch z) h
 | @dK a ai ea=>
  cases (show u=Value.ref a from rx)
  obtain ⟨_,_,vs,_,p⟩:=(show aI X.prog X.w H s.heap a (.dK ai) from I.ao a _ ea)
  obtain ⟨o,es,ep,h1,h2,_⟩:=p
  exact PySem.W.kia_one PySem.W.kitx_dict I.bf ⟨o,h1,h2.1⟩ e (fun z=>nomatch z) h
 | @dT a ai ea=>
  cases (show u=Value.ref a from rx)
  obtain ⟨_,_,xs,_,o,es,ep,h1,h2,_⟩:=(show aI X.prog X.w H s.heap a (.dT ai) from I.ao a _ ea)
  exact PySem.W.kia_one PySem.W.kitx_dict I.bf ⟨o,h1,h2.1⟩ e (fun z=>nomatch z) h
 | @ins a C dx fs ea cl ha hn rN hm=>
  cases (show u=Value.ref a from rx)
  obtain ⟨mA,O,_⟩:=yW I.ao ea
  obtain ⟨od,J,_⟩:=O.look
  exact PySem.W.kia_one (PySem.W.kitx_own (cl.get _) cl.hd ha hn rN hm) I.bf J e (fun z=>nomatch z) h
end
structure bA (k:Nat) (A:Around):Prop where
 hd:A.handled=none
 dp:A.depth+3*k+5<recursionLimit
 un:A.units+16*k+200<cLine
theorem bA.mono{j k:Nat}{A:Around}(r:bA k A)(h:j≤k):bA j A:=⟨r.hd,by have:=r.dp;omega,by have:=r.un;omega⟩
theorem bA.deeper{k:Nat}{A:Around}(r:bA (k+1) A)(env:Env):bA k (A.deeper env):=
 ⟨r.hd,by have:=r.dp;show A.depth+1+3*k+5<_;omega,by have:=r.un;show A.units+3+16*k+200<_;omega⟩
theorem bA.depth{k:Nat}{A:Around}(r:bA k A):A.depth<recursionLimit:=by have:=r.dp;omega
theorem bA.units{k:Nat}{A:Around}(r:bA k A):A.units+64<cLine:=by have:=r.un;omega
theorem bA.yY{k:Nat}{A:Around}(r:bA k A):A.units<cLine:=by have:=r.un;omega
def rO:TA:=fun _ H Q=>Q [] H
def nF(ta:TE)(tr:TA):TA:=fun σ H Q=>ta σ H fun x H1=>tr σ H1 fun xs H2=>Q (x::xs) H2
section
variable {X:Cx} {e:Expr} {es:List Expr} {te:TE} {t:TA} {pos:Pos}
theorem aj:PA X [] rO:=fun _ _ _ _ H Q I h=>Calls.spliced_nil ⟨[],H,I,.nil,h⟩
theorem yZ(ha:PE X e te)(hr:PA X es t)(hs:starEach (e::es) X.env=(false,eval e X.env)::starEach es X.env:=by rfl):PA X (e::es) (nF te t):=by
 intro pos pins s σ H Q I h
 rw [hs]
 show wpAny _ _ (spliced ((false,eval e X.env)::backTo pos (starEach es X.env))) _ _ s
 refine Calls.spliced_cons (av (ha pins s σ H _ I h) fun u s1 ⟨x,H1,I1,r1,q1⟩=>?_)
 exact av (hr pos pins s1 σ H1 _ I1 q1) fun us s2 ⟨xs,H2,I2,r2,q2⟩=>⟨x::xs,H2,I2,.cons r1 r2,q2⟩
def y4(t:TA):TE:=fun σ H Q=>t σ H fun xs H1=>xs.length≤sizeLine∧∀p,H1 p=none→Q (.ref p) (upd H1 p (.tup xs))
def y6(t:TA):TE:=fun σ H Q=>t σ H fun xs H1=>xs.length≤sizeLine∧∀p,H1 p=none→Q (.ref p) (upd H1 p (.lst xs))
theorem dJ{x1}(h:PA X es t):PE X (.Tuple es x1 pos) (y4 t):=by
 intro pins s σ H Q I hq
 refine wpAny_Tuple_spliced (av (h pos pins s σ H _ I hq) fun us s1 ⟨xs,H1,I1,r,z,q⟩=>⟨by rw [←r.length];exact z,?_⟩)
 have hf:H1 s1.heap.objs.size=none:=I1.ao.fresh (Nat.le_refl _)
 refine ⟨.ref s1.heap.objs.size,upd H1 s1.heap.objs.size (.tup xs),I1.laid (t':=s1.toks) (fun b u e=>Heap.get?_push_of_some _ e) (Nat.le_refl _) ?_,rfl,q _ hf⟩
 exact ⟨z,us,r,⟨_,Heap.get?_push_size _ rfl,rfl,_,rfl⟩⟩
theorem bE(h:PA X es t):PE X (.List es pos) (y6 t):=by
 intro pins s σ H Q I hq
 refine wpAny_List_spliced (av (h pos pins s σ H _ I hq) fun us s1 ⟨xs,H1,I1,r,z,q⟩=>⟨by rw [←r.length];exact z,?_⟩)
 have hf:H1 s1.heap.objs.size=none:=I1.ao.fresh (Nat.le_refl _)
 refine ⟨.ref s1.heap.objs.size,upd H1 s1.heap.objs.size (.lst xs),I1.laid (t':=s1.toks) (fun b u e=>Heap.get?_push_of_some _ e) (Nat.le_refl _) ?_,rfl,q _ hf⟩
 exact ⟨z,us,0,r,Heap.get?_push_size _ rfl⟩
end
abbrev Sp:=List V→Hp→VK→XK→Prop
abbrev b6:=List Env→Hp→Shared→XK→Value→Shared→Prop
structure kN (P:Program) (w:World) (K:PySem.W.Frag) (mg:Str→Option Value) (base:Heap) (A:Around) (outer:List Env) (s:Shared) (H:Hp):Prop where
 frames:A.frames=some outer
 mod:Mod K mg base
 bs:∀b o,base.get? b=some o→s.heap.get? b=some o∧H b=none
 dh:base.objs.size≤s.heap.objs.size
 cR:s.heap.FunFrames base outer
 d7:∀b∈aQ outer,H b=none
 ao:aJ P w H s.heap
 bare:AllBare s.gens
def CE(outer:List Env)(P:Program)(w:World)(H:Hp)(s:Shared)(Q:VK)(u:Value)(s':Shared):Prop:=
 ∃v H',s'.os=s.os∧AllBare s'.gens∧Un (aQ outer) [] H H' s.heap s'.heap∧aJ P w H' s'.heap∧RelV v u∧Q v H'
def CR(CX:b6)(outer:List Env)(P:Program)(w:World)(H:Hp)(s:Shared)(Q:VK)(E:XK)(r:Result)(s':Shared):Prop:=
 match r with
 | .ok (.ret u)=>CE outer P w H s Q u s'
 | .ok _=>False
 | .error e=>CX outer H s E e s'
structure aN (P:Program) (w:World) (K:PySem.W.Frag) (mg:Str→Option Value) (base:Heap) (CX:b6) (k:Nat) (f:Addr) (fd:FuncData) (ps:List Str) (sp:Sp):Prop where
 len:∀vs H Q E,sp vs H Q E→vs.length=ps.length
 run:∀(A:Around) (outer:List Env) (s:Shared) (H:Hp) (args:Args) (us:List Value) (vs:List V) (Q:VK) (E:XK),bA k A→kN P w K mg base A outer s H→BindsTo s fd args (ps.zip us)→Vals vs us→sp vs H Q E→
  codeAny (model P w) A (.call (.ref f) args) (CR CX outer P w H s Q E) s
section
variable {X:Cx} {pins:List (Addr×Obj)} {σ:St} {H:Hp} {s s':Shared}
theorem Inv.rQ(I:Inv X pins σ H s):kN X.prog X.w X.K X.mg X.base X.A X.stack s H:=
 ⟨I.ok.frames,I.ok.mod,I.bs,Nat.le_trans I.ok.dh I.sz,I.stack,I.kq,I.ao,I.bare⟩
theorem Inv.after{Q:VK}{u:Value}(I:Inv X pins σ H s)(h:CE X.stack X.prog X.w H s Q u s'):EP X pins σ Q u s':=by
 obtain ⟨v,H',os,bare,un,ao,r,q⟩:=h
 obtain ⟨hh,g,d,t,y7⟩:=s'
 obtain rfl:y7=s.os:=os
 exact ⟨v,H',I.call (h':=hh) (g':=g) (d':=d) (t':=t) (ch:=[]) un ao bare (fun b z=>absurd z (by simp)),r,q⟩
end
def y8(sp:Sp)(bN:List V)(E:XK)(t:TA):TE:=fun σ H Q=>t σ H fun vs H1=>sp (vs++bN) H1 Q E
def Binds(K:PySem.W.Frag)(fd:FuncData)(ps:List Str)(ds:List Value):Prop:=
 ∀(s:Shared) (us:List Value),K.In s.heap→(us++ds).length=ps.length→BindsTo s fd ⟨us,[]⟩ (ps.zip (us++ds))
theorem Binds.all{K:PySem.W.Frag}{fd:FuncData}{ps:List Str}(h:∀us:List Value,us.length=ps.length→bindArgs fd ⟨us,[]⟩=pure (ps.zip us)):Binds K fd ps []:=fun s us _ hl=>by
 rw [List.append_nil] at hl ⊢
 exact .of_eq (h us hl)
def Passes(CX:b6)(X:Cx)(E:XK):Prop:=∀(pins:List (Addr×Obj)) (σ:St) (H:Hp) (s:Shared) (e:Value) (s':Shared),Inv X pins σ H s→CX X.stack H s E e s'→X.xe e s'
section
variable {X:Cx} {CX:b6} {k:Nat} {f C:Addr} {fd:FuncData} {ps:List Str} {sp:Sp} {bN:List V} {ds:List Value} {E:XK} {x m:Str} {p pos apos:Pos} {e o:Expr} {es:List Expr} {ta:TE} {t:TA}
theorem y9{pins:List (Addr×Obj)}{σ:St}{H:Hp}{s:Shared}{Q:VK}{us:List Value}{vs:List V}(F:aN X.prog X.w X.K X.mg X.base CX k f fd ps sp)(hr:bA k X.A)(hb:Binds X.K fd ps ds)(hd:Vals bN ds)(hx:Passes CX X E)
  (I:Inv X pins σ H s) (r:Vals vs us) (h:sp (vs++bN) H Q E):wpAny (model X.prog X.w) X.A (call (.ref f) us) (EP X pins σ Q) X.xe s:=by
 have r2:Vals (vs++bN) (us++ds):=r.append hd
 have hl:(us++ds).length=ps.length:=by rw [←r2.length];exact F.len _ _ _ _ h
 refine wpAny_call (codeAny_mono (F.run X.A X.stack s H ⟨us,[]⟩ (us++ds) (vs++bN) Q E hr I.rQ (hb s us I.bf hl) r2 h) fun r s' hq=>?_)
 cases r with
 | error e=>exact hx pins σ H s e s' I hq
 | ok fl=>
  cases fl with
  | ret u=>exact I.after hq
  | next=>exact False.elim hq
  | brk=>exact False.elim hq
  | cont=>exact False.elim hq
theorem aH(F:aN X.prog X.w X.K X.mg X.base CX k f fd ps sp)(hr:bA k X.A)(hg:Gl X x)(hm:X.mg x=some (.ref f))(hk:PySem.W.keepIn X.K (.ref f)=true)(hb:Binds X.K fd ps ds)(hd:Vals bN ds)(hx:Passes CX X E)
  (ha:PA X (e::es) t) (fM:(x == ("__debug__":Str))=false:=by decide) (he:starEach (e::es) X.env=(false,eval e X.env)::starEach es X.env:=by rfl) (eX:(backTo pos (starEach es X.env)).any (·.1)=false:=by rfl) :
  PE X (.Call (.Name x p) (e::es) [] pos) (y8 sp bN E t):=by
 intro pins s σ H Q I h
 refine wpAny_Call_Name_kw (ji I hg hm ?_ fM)
 refine PySem.W.callWith_K (h₀:=X.base) I.ok.mod.aU hk (av (ha pos pins s σ H _ I h) fun us s1 ⟨vs,H1,I1,r,q⟩=>⟨I1.bf,?_⟩) he eX
 exact y9 F hr hb hd hx I1 r q
end
section
variable {X:Cx} {CX:b6} {k:Nat} {f C:Addr} {fd:FuncData} {ps ks:List Str} {sp:Sp} {E:XK} {x m:Str} {p pos apos rR:Pos} {e o:Expr} {es:List Expr} {y_:List Keyword} {te ta:TE} {t tk:TA} {nm:Option Str}
variable {g:List Value→List Value→List Value} {gV:List V→List V→List V}
end
structure aY (N P:List Str) (sc:Scope):Prop where
 kind:sc.kind=.function
 co:sc.isCoroutine=false
 gen:sc.isGenerator=false
 nd:N.Nodup
 pre:N.take P.length=P
 par:∀x∈P,sc.names.lookup x=some .local∨sc.names.lookup x=some .cell
 za:∀y∈sc.names,y.2≠.free
theorem rS{kindOf:Str→Option NameKind}{x:Str}:∀{binds:List (Str×Value)} {m:Str→Option Value},(∀v,(x,v)∉binds)→bindL kindOf binds m x=m x
 | [],_,_=>rfl
 | (n,v)::r,m,h=>by
  unfold bindL
  rw [rS fun w hw=>h w (List.mem_cons_of_mem _ hw)]
  split
  ·have:x≠n:=by rintro rfl;exact h v List.mem_cons_self
   simp [this]
  ·rfl
theorem rT{kindOf:Str→Option NameKind}{x:Str}:∀{binds:List (Str×Value)} {m:Str→Option Value},(∀v,(x,v)∉binds)→bindC kindOf binds m x=m x
 | [],_,_=>rfl
 | (n,v)::r,m,h=>by
  unfold bindC
  rw [rT fun w hw=>h w (List.mem_cons_of_mem _ hw)]
  split
  ·rfl
  ·have:x≠n:=by rintro rfl;exact h v List.mem_cons_self
   simp [this]
theorem rV{kindOf:Str→Option NameKind}{x:Str}{v:Value}:∀{P:List Str} {vs:List Value} {i:Nat} {m:Str→Option Value},P.Nodup→P[i]?=some x→vs[i]?=some v→kindOf x=some .local→
  bindL kindOf (P.zip vs) m x=some v
 | [],_,_,_,_,h,_,_=>by simp at h
 | _::_,[],_,_,_,_,h,_=>by simp at h
 | p::P,w::vs,0,m,nd,h1,h2,hk=>by
  simp at h1 h2;subst h1;subst h2
  show bindL kindOf ((p,w)::P.zip vs) m p=_
  unfold bindL
  rw [rS fun v hv=>(List.nodup_cons.mp nd).1 (List.of_mem_zip hv).1,if_pos hk]
  simp
 | p::P,w::vs,i+1,m,nd,h1,h2,hk=>by
  show bindL kindOf ((p,w)::P.zip vs) m x=_
  unfold bindL
  exact rV (i:=i) (List.nodup_cons.mp nd).2 (by simpa using h1) (by simpa using h2) hk
theorem rW{kindOf:Str→Option NameKind}{x:Str}{v:Value}:∀{P:List Str} {vs:List Value} {i:Nat} {m:Str→Option Value},P.Nodup→P[i]?=some x→vs[i]?=some v→kindOf x≠some .local→
  bindC kindOf (P.zip vs) m x=some v
 | [],_,_,_,_,h,_,_=>by simp at h
 | _::_,[],_,_,_,_,h,_=>by simp at h
 | p::P,w::vs,0,m,nd,h1,h2,hk=>by
  simp at h1 h2;subst h1;subst h2
  show bindC kindOf ((p,w)::P.zip vs) m p=_
  unfold bindC
  rw [rT fun v hv=>(List.nodup_cons.mp nd).1 (List.of_mem_zip hv).1,if_neg hk]
  simp
 | p::P,w::vs,i+1,m,nd,h1,h2,hk=>by
  show bindC kindOf ((p,w)::P.zip vs) m x=_
  unfold bindC
  exact rW (i:=i) (List.nodup_cons.mp nd).2 (by simpa using h1) (by simpa using h2) hk
def start(N:List Str)(vs:List V):St:=vs.map some++List.replicate (N.length-vs.length) none
def eY(CX:b6)(P:Program)(w:World)(K:PySem.W.Frag)(mg:Str→Option Value)(base:Heap)(N:List Str)(qual:Str)(scope:Scope)(f:Addr)(cd:Value)(A:Around)(outer:List Env)(s:Shared)(H:Hp)(E:XK):Cx where
 prog:=P
 w:=w
 K:=K
 mg:=mg
 base:=base
 A:=A.deeper (envOfC qual scope s.heap.objs.size f cd)
 N:=N
 s₀:=s
 H₀:=H
 env:=envOfC qual scope s.heap.objs.size f cd
 outer:=outer
 stack:=envOfC qual scope s.heap.objs.size f cd::outer
 ex:=[]
 calm:=true
 fn:=fun _=>true
 pn:=[]
 xe:=fun e s'=>wpAny (model P w) (A.deeper (envOfC qual scope s.heap.objs.size f cd)) (leaving (envOfC qual scope s.heap.objs.size f cd) e) (fun _ dM=>CX outer H s E e dM) (fun e' dM=>CX outer H s E e' dM) s'
theorem rX{sc:Scope}{n:Nat}{x:Str}(h:sc.names.lookup x=some .cell):∃c,(cellsFrom n sc.names []).lookup x=some c:=by
 have q:=PySem.W.cellsFrom_some sc.names n [] (.inl h)
 exact Option.isSome_iff_exists.mp q
theorem zb{CX:b6}{P:Program}{w:World}{K:PySem.W.Frag}{mg:Str→Option Value}{base:Heap}{N ps:List Str}{qual:Str}{scope:Scope}{f:Addr}{cd:Value}{A:Around}{outer:List Env}{s s1:Shared}{H:Hp}{E:XK}{us:List Value}{vs:List V}
  (S:aY N ps scope) (hd:A.handled=none) (e0:kN P w K mg base A outer s H) (hl:vs.length=ps.length) (r:Vals vs us)
  (x:InCallC s s.heap.objs.size (bindL (envOfC qual scope s.heap.objs.size f cd).kindOf (ps.zip us) fun _=>none) (cellsFrom (s.heap.objs.size+1) scope.names []) (bindC (envOfC qual scope s.heap.objs.size f cd).kindOf (ps.zip us) fun _=>none) s1) :
  Inv (eY CX P w K mg base N qual scope f cd A outer s H E) [] (start N vs) H s1:=by
 have eX:ps.length≤N.length:=by have:=congrArg List.length S.pre;rw [List.length_take] at this;omega
 obtain ⟨h1,tk,rfl,hk⟩:=x.done
 have jx:∀b:Addr,b∉(eY CX P w K mg base N qual scope f cd A outer s H E).ex:=fun b z=>absurd (show b∈([]:List Addr) from z) (by simp)
 refine ⟨⟨e0.mod,S.kind,rfl,rfl,Nat.le_refl _,fun y z c h1 h2=>?_,fun y hy=>?_,fun y c _ h=>?_,fun _=>hd,Around.frames_deeper e0.frames,.inr ⟨rfl,rfl⟩,fun b z=>absurd z (jx b),e0.bs,e0.dh,fun b _ _=>jx b,fun b z=>absurd z (jx b),e0.cR,e0.d7⟩,
  rfl,e0.bare,Un.kept hk,⟨_,x.toInCall.ns,fun i y v h1 h2 h3=>?_⟩,fun y c h=>⟨_,x.cell y c h⟩,e0.ao.fresh (Nat.le_refl _),fun y c h=>?_,fun p hp=>absurd (show p∈([]:List (Addr×Obj)) from hp) (by simp),e0.ao.kept hk,?_⟩
 ·exact name_of_addr x.apart (PySem.mem_of_lookup h1) (PySem.mem_of_lookup h2)
 ·have hy:scope.names.lookup y=some .cell∨scope.names.lookup y=some .free:=hy
  rcases hy with hy | hy
  ·exact rX hy
  ·exact absurd rfl (S.za _ (PySem.mem_of_lookup hy))
 ·exact Nat.le_of_lt (x.above y c (PySem.mem_of_lookup h))
 ·have hi:i<vs.length:=by
   unfold start at h2
   by_cases hi:i<vs.length
   ·exact hi
   ·rw [List.getElem?_append_right (by simpa using hi)] at h2
    rw [List.getElem?_replicate] at h2
    split at h2 <;> cases h2
  have ha:vs[i]?=some v:=by
   unfold start at h2
   rw [List.getElem?_append_left (by simpa using hi),List.getElem?_map] at h2
   cases e:vs[i]? with
   | none=>rw [e] at h2;cases h2
   | some a=>rw [e] at h2;cases h2;rfl
  obtain ⟨u,hu,rv⟩:=r.get ha
  have hp:ps[i]?=some y:=by
   rw [←S.pre,List.getElem?_take_of_lt (by omega)];exact h1
  have rY:ps.Nodup:=by rw [←S.pre];exact S.nd.sublist (List.take_sublist _ _)
  refine ⟨u,rv,?_⟩
  rcases S.par y (List.mem_of_getElem? hp) with k | k
  ·exact .inl ⟨k,rV rY hp hu k⟩
  ·obtain ⟨c,e⟩:=rX (n:=s.heap.objs.size+1) k
   refine .inr ⟨.inl k,c,e,?_⟩
   have q:=x.cell y c e
   rw [rW rY hp hu (by show scope.names.lookup y≠_;rw [k];decide)] at q
   exact q
 ·exact e0.ao.fresh (Nat.le_of_lt (x.above y c (PySem.mem_of_lookup h)))
 ·unfold start
  show _=N.length
  rw [List.length_append,List.length_map,List.length_replicate]
  omega
theorem rZ{CX:b6}{P:Program}{w:World}{K:PySem.W.Frag}{mg:Str→Option Value}{base:Heap}{k:Nat}{f:Addr}{name qual:Str}{params:Arguments}{body:List Stmt}{scope:Scope}{dV kV doc pm aC ct oc:Value}{an od:Option Addr}
  {dN:Array (Option Value)} {N ps:List Str} {sp:Sp} (lk:K.lookup f=some ⟨oc,od,.func (PySem.W.fnOf name qual params body scope dV kV doc pm an aC ct),dN⟩) (cn:PySem.W.codeIn K aC qual=true) (S:aY N ps scope)
  (len:∀vs H Q E,sp vs H Q E→vs.length=ps.length)
  (jy:∀(A:Around) (outer:List Env) (s:Shared) (H:Hp) (vs:List V) (Q:VK) (E:XK),bA k (A.deeper (envOfC qual scope s.heap.objs.size f aC))→sp vs H Q E→
   ∃t,bV (eY CX P w K mg base N qual scope f aC A outer s H E) body t∧t {nx:=fun _ H'=>Q .az H',rt:=Q} (start N vs) H) :
  aN P w K mg base CX (k+1) f (PySem.W.fnOf name qual params body scope dV kV doc pm an aC ct) ps sp:=by
 refine ⟨len,fun A outer s H args us vs Q E hr e0 hb r dO=>?_⟩
 have hl:=len _ _ _ _ dO
 have KX:K.In s.heap:=e0.mod.aU.keeps fun b o e=>(e0.bs b o e).1
 have lim:s.heap.NoLimit:=e0.mod.nolimit.keeps fun b o e=>(e0.bs b o e).1
 have zc:∀y∈ps.zip us,scope.names.lookup y.1=some .local∨(scope.names.lookup y.1=some .cell∧((cellsFrom (s.heap.objs.size+1) scope.names []).lookup y.1).isSome=true):=fun⟨n,v⟩ hy=>by
  rcases S.par n (List.of_mem_zip hy).1 with q | q
  ·exact .inl q
  ·exact .inr ⟨q,PySem.W.cellsFrom_some _ _ _ (.inl q)⟩
 refine codeAny_call_function hr.depth (KX _ _ lk) rfl S.co S.gen rfl (PySem.W.codeRec_of KX cn) (hb _ _ _ _ ?_)
 refine wpAny_newFunctionEnv_cells S.kind zc fun env he s1 x=>?_
 subst he
 refine ⟨lim.keeps x.toInCall.keep,codeAny_func ?_⟩
 obtain ⟨t,ht,hq⟩:=jy A outer s H vs Q E (hr.deeper _) dO
 have I:Inv (eY CX P w K mg base N qual scope f aC A outer s H E) [] (start N vs) H s1:=zb S hr.hd e0 hl r x
 refine wpAny_mono (ht [] s1 (start N vs) H _ I hq) (fun fl s' hs=>?_) fun e s' hs=>hs
 have fin:∀{σ':St} {H':Hp} {v:V} {u:Value},Inv (eY CX P w K mg base N qual scope f aC A outer s H E) [] σ' H' s'→RelV v u→Q v H'→CE outer P w H s Q u s':=
  fun{σ' H' v u} J rv q=>⟨v,H',J.os,J.bare,J.base,J.ao,rv,q⟩
 cases fl with
 | ret u=>
  obtain ⟨v,σ',H',J,rv,q⟩:=hs
  exact fin J rv q
 | next=>
  obtain ⟨σ',H',J,q⟩:=hs
  exact fin (v:=V.az) (u:=Value.none) J rfl q
 | brk=>
  obtain ⟨_,_,_,q⟩:=hs
  exact False.elim q
 | cont=>
  obtain ⟨_,_,_,q⟩:=hs
  exact False.elim q
section
variable {X:Cx} {x:Str} {p pos:Pos} {e:Expr} {es:List Expr} {t:TA} {id T:String} {r:List V→Hp→VK→Prop}
def nG(r:List V→Hp→VK→Prop)(t:TA):TE:=fun σ H Q=>t σ H fun vs H1=>r vs H1 Q
theorem a7(hc:bR X (.builtin id) r)(hg:Gl X x)(hm:X.mg x=none)(hv:bootBuiltins x=some (.builtin id))(ha:PA X (e::es) t)(hn:x ≠ "__name__":=by decide)(fM:(x == ("__debug__":Str))=false:=by decide)
  (he:starEach (e::es) X.env=(false,eval e X.env)::starEach es X.env:=by rfl) (eX:(backTo pos (starEach es X.env)).any (·.1)=false:=by rfl):PE X (.Call (.Name x p) (e::es) [] pos) (nG r t):=by
 intro pins s σ H Q I h
 refine wpAny_Call_Name_kw (gU I hg hm hv ?_ hn fM)
 exact PyProof.Rows.callWith_builtin1 (av (ha pos pins s σ H _ I h) fun us s1 ⟨vs,H1,I1,r1,q1⟩=>hc pins s1 σ H1 vs us Q I1 r1 q1) he eX
theorem cH(hc:bR X (.type T) r)(hg:Gl X x)(hm:X.mg x=none)(hv:bootBuiltins x=some (.type T))(ha:PA X (e::es) t)(hn:x ≠ "__name__":=by decide)(fM:(x == ("__debug__":Str))=false:=by decide)
  (he:starEach (e::es) X.env=(false,eval e X.env)::starEach es X.env:=by rfl) (eX:(backTo pos (starEach es X.env)).any (·.1)=false:=by rfl):PE X (.Call (.Name x p) (e::es) [] pos) (nG r t):=by
 intro pins s σ H Q I h
 refine wpAny_Call_Name_kw (gU I hg hm hv ?_ hn fM)
 exact PyProof.Rows.callWith_type1 (av (ha pos pins s σ H _ I h) fun us s1 ⟨vs,H1,I1,r1,q1⟩=>hc pins s1 σ H1 vs us Q I1 r1 q1) he eX
end
end L2
namespace HT
open PySem PyProof.Rows
section
open PySem.SeqAt
open PySem.AutoSeq1 (wpAny_loadPart')
open PySem.MeetsSeq PySem.MeetsSeq2 PySem.MeetsSeq3
end
section
variable {prog:Program} {w:World} {A:Around} {E:Value→Shared→Prop} {s:Shared}
theorem zd{t b:Addr}{vs ws:List Value}{Q:Value→Shared→Prop}(ht:IsTup s.heap t vs.toArray)(hb:IsTup s.heap b ws.toArray)(hv:vs≠[])
  (h1:ws=[]→Q (.ref t) s) (h2:ws≠[]→Q (.ref s.heap.objs.size) {s with heap:=s.heap.push {cls:=.type "tuple",data:=.seq (vs++ws).toArray}})
  (hsz:vs.length+ws.length≤sizeLine):wpAny (model prog w) A (binaryOp .Add (.ref t) (.ref b)) Q E s:=by
 obtain ⟨⟨cls,dd,data,sl⟩,ho,hc,n,hd⟩:=id ht
 obtain ⟨⟨ze,du,data2,cI⟩,fN,jz,n2,hd2⟩:=id hb
 simp only at hc hd jz hd2
 subst hc hd jz hd2
 have e:vs.toArray++ws.toArray=(vs++ws).toArray:=by simp
 by_cases hw:ws=[]
 ·exact concat_meets ⟨_,ho,rfl⟩ ⟨_,fN,rfl⟩ noFill_tuple_add seq_tuple_add PySem.F.slot_tuple_add PySem.F.entry_tuple_add (PySem.F.args_tuple_add_2 _ _)
   (tuple_addW1 t b vs.toArray ws.toArray n n2 dd du sl cI (by simpa using hv) (by simp [hw])) ⟨ho,fN,h1 hw⟩
 ·refine concat_meets ⟨_,ho,rfl⟩ ⟨_,fN,rfl⟩ noFill_tuple_add seq_tuple_add PySem.F.slot_tuple_add PySem.F.entry_tuple_add (PySem.F.args_tuple_add_2 _ _)
   (tuple_addW2 t b vs.toArray ws.toArray n n2 dd du sl cI (by simpa using hv) (by simpa using hw) (by rw [List.size_toArray,List.size_toArray];exact hsz)) ⟨ho,fN,?_⟩
  rw [e]
  exact h2 hw
def bS(n d:Nat):Option Int→Nat
 | none=>d
 | some v=>if v<0 then (v+(n:Int)).toNat else min v.toNat n
end
end HT
namespace L2
open PySem PySem.Spec PyProof.Rows
abbrev TO:=St→Hp→(Option Int→Hp→Prop)→Prop
def PO(X:Cx)(e:Option Expr)(t:TO):Prop:=
 ∀(pins:List (Addr×Obj)) (s:Shared) (σ:St) (H:Hp) (Q:Option Int→Hp→Prop),Inv X pins σ H s→t σ H Q→
  wpAny (model X.prog X.w) X.A (evalPart e X.env) (fun u s'=>∃o H',Inv X pins σ H' s'∧IsPart u o∧Q o H') X.xe s
def zf:TO:=fun _ H Q=>Q none H
def zg(t:TE):TO:=fun σ H Q=>t σ H fun x H1=>∃i,x=.int i∧Q (some i) H1
theorem intsAre_of{ns:List Int}:∀{us:List Value},Vals (ns.map V.int) us→IntsAre us ns:=by
 induction ns with
 | nil=>intro us r;rw [List.map_nil] at r;cases r;exact .nil
 | cons n ns ih=>
  intro us r
  rw [List.map_cons] at r
  cases r with
  | cons r1 r2=>
   obtain ⟨t,e⟩:=r1
   subst e
   exact .cons n t (ih r2)
section
variable {X:Cx} {e:Expr} {te:TE} {lo hi:Option Expr} {tl th:TO} {pos p2:Pos}
theorem r0:PO X none zf:=by
 intro pins s σ H Q I h
 rw [evalPart_none]
 exact wpAny_pure ⟨none,H,I,.none,h⟩
theorem r6(h:PE X e te):PO X (some e) (zg te):=by
 intro pins s σ H Q I hw
 rw [evalPart_some]
 refine av (h pins s σ H _ I hw) fun u s1 ⟨x,H1,I1,r1,q1⟩=>?_
 obtain ⟨i,rfl,q⟩:=q1
 obtain ⟨t,rfl⟩:=r1
 exact ⟨some i,H1,I1,.int i t,q⟩
def r_(X:Cx)(r:V→Option Int→Option Int→Hp→VK→Prop):Prop:=
 ∀(pins:List (Addr×Obj)) (s:Shared) (σ:St) (H:Hp) (x:V) (v vl vu:Value) (lo hi:Option Int) (sl:Addr) (Q:VK),Inv X pins σ H s→RelV x v→s.heap.IsSliceOf sl vl vu .none→IsPart vl lo→IsPart vu hi→r x lo hi H Q→
  ∃T id,typeLookup (.type T) "__getitem__" = pure (some (.builtin id))∧s.TypeIs v T∧wpAny (model X.prog X.w) X.A (getItem v (.ref sl)) (EP X pins σ Q) X.xe s
def zh(r:V→Option Int→Option Int→Hp→VK→Prop)(te:TE)(tl th:TO):TE:=fun σ H Q=>te σ H fun x H1=>tl σ H1 fun l H2=>th σ H2 fun u H3=>r x l u H3 Q
theorem sg{r:V→Option Int→Option Int→Hp→VK→Prop}(hr:r_ X r)(he:PE X e te)(hl:PO X lo tl)(hu:PO X hi th):PE X (.Subscript e (.Slice lo hi none p2) pos) (zh r te tl th):=by
 intro pins s σ H Q I h
 refine Subscript_ (av (he pins s σ H _ I h) fun v s1 ⟨x,H1,I1,r1,q1⟩=>?_)
 refine wpAny_Slice (av (hl pins s1 σ H1 _ I1 q1) fun vl s2 ⟨l,H2,I2,pl,q2⟩=>av (hu pins s2 σ H2 _ I2 q2) fun vu s3 ⟨u,H3,I3,pu,q3⟩=>?_)
 rw [evalPart_none]
 refine wpAny_pure ?_
 have I4:Inv X pins σ H3 {s3 with heap:=s3.heap.push {cls:=.type "slice",data:=.fields #[vl,vu,.none]}}:=I3.kept (t':=s3.toks) fun b ob q=>Heap.get?_push_of_some _ q
 obtain ⟨T,id,hT,ht,hg⟩:=hr pins {s3 with heap:=s3.heap.push {cls:=.type "slice",data:=.fields #[vl,vu,.none]}} σ H3 x v vl vu l u s3.heap.objs.size Q I4 r1 (Heap.IsSliceOf.new ..) pl pu q3
 show wpAny (model X.prog X.w) X.A (subscriptTail e (.Slice lo hi none p2) v (.ref s3.heap.objs.size)) (EP X pins σ Q) X.xe {s3 with heap:=s3.heap.push {cls:=.type "slice",data:=.fields #[vl,vu,.none]}}
 exact tail_any (ops:=[.ref s3.heap.objs.size,v]) ht hT hg (by with_unfolding_all rfl)
def eZ(xs:List V)(lo hi:Option Int):List V:=(xs.drop (HT.bS xs.length 0 lo)).take (HT.bS xs.length xs.length hi-HT.bS xs.length 0 lo)
theorem zi(xs:List V)(lo hi:Option Int):(eZ xs lo hi).length≤xs.length:=by
 unfold eZ
 rw [List.length_take,List.length_drop]
 omega
def zj(K:PySem.W.Frag):R2:=fun x y H Q=>∃a b xs ys,x=.ref a∧y=.ref b∧bo K H a xs∧bo K H b ys∧xs≠[]∧xs.length+ys.length≤sizeLine ∧
 (ys=[]→Q (.ref a) H)∧(ys≠[]→∀p,H p=none→Q (.ref p) (upd H p (.tup (xs++ys))))
theorem Vals.kO{xs:List V}{us:List Value}(r:Vals xs us):us=[]↔xs=[]:=by
 cases r with
 | nil=>simp
 | cons _ _=>simp
theorem zk:aZ X (binaryOp .Add) (zj X.K):=by
 intro pins s σ H x y v u Q I rx ry h
 obtain ⟨a,b,xs,ys,rfl,rfl,ha,hb,hx,hz,q1,q2⟩:=h
 cases rx
 cases ry
 obtain ⟨ae,r1,p1,_⟩:=I.tuple ha
 obtain ⟨dv,r2,p2,_⟩:=I.tuple hb
 refine HT.zd p1 p2 (fun z=>hx (r1.kO.mp z)) (fun z=>⟨.ref a,H,I,rfl,q1 (r2.kO.mp z)⟩) (fun z=>?_) (by rw [←r1.length,←r2.length];exact hz)
 refine ⟨.ref s.heap.objs.size,_,I.laid (t':=s.toks) (o:=.tup (xs++ys)) (fun b ob q=>Heap.get?_push_of_some _ q) (Nat.le_refl _) ?_,rfl,q2 (fun w=>z (r2.kO.mpr w)) _ (I.ao.fresh (Nat.le_refl _))⟩
 exact ⟨by rw [List.length_append];exact hz,_,r1.append r2,IsTup.new _ _⟩
end
def dP(n:Nat)(i:Int):Option Nat:=if 0≤i then (if i<n then some i.toNat else none) else if -(n:Int)≤i then some (i+n).toNat else none
def cJ{α:Type}(xs:List α)(i:Int):Option α:=(dP xs.length i).bind fun j=>xs[j]?
theorem si{n:Nat}{i:Int}{j:Nat}(h:dP n i=some j):seqIndex? i n=some j∧j<n∧-(n:Int)≤i∧i<n:=by
 unfold dP at h
 by_cases h0:0≤i
 ·rw [if_pos h0] at h
  by_cases h1:i<n
  ·rw [if_pos h1] at h
   have e:i.toNat=j:=Option.some.inj h
   exact ⟨by rw [seqIndex_of h0 h1,e],by omega,by omega,h1⟩
  ·rw [if_neg h1] at h;cases h
 ·rw [if_neg h0] at h
  by_cases h1:-(n:Int)≤i
  ·rw [if_pos h1] at h
   have e:(i+n).toNat=j:=Option.some.inj h
   exact ⟨by rw [seqIndex_neg (by omega) h1,e],by omega,h1,by omega⟩
  ·rw [if_neg h1] at h;cases h
theorem sj{α:Type}{xs:List α}{i:Int}{v:α}(h:cJ xs i=some v):∃j,seqIndex? i xs.length=some j∧xs[j]?=some v∧j<xs.length∧-(xs.length:Int)≤i∧i<xs.length:=by
 unfold cJ at h
 cases e:dP xs.length i with
 | none=>rw [e] at h;cases h
 | some j=>
  rw [e] at h
  obtain ⟨h1,h2,h3,h4⟩:=si e
  exact ⟨j,h1,h,h2,h3,h4⟩
theorem e_{α:Type}{xs:List α}{j:Nat}{v:α}(h:xs[j]?=some v):cJ xs (j:Int)=some v:=by
 have hj:j<xs.length:=(List.getElem?_eq_some_iff.mp h).1
 have e:dP xs.length (j:Int)=some j:=by
  unfold dP
  rw [if_pos (by omega),if_pos (by omega)];simp
 unfold cJ;rw [e];exact h
def zl(b:Expr):Prop:=∀o i,subscripted b false o i=operate [o,i] (getItem o i)
def kP(X:Cx)(r:R2):Prop:=
 ∀(value slice:Expr) (pins:List (Addr×Obj)) (s:Shared) (σ:St) (H:Hp) (x y:V) (v u:Value) (Q:VK),Inv X pins σ H s→RelV x v→RelV y u→r x y H Q→
  subscripted slice false v u=operate [v,u] (getItem v u)→wpAny (model X.prog X.w) X.A (subscriptTail value slice v u) (EP X pins σ Q) X.xe s
def zm(X:Cx)(id:String)(r:V→List V→Hp→VK→Prop):Prop:=
 ∀(pins:List (Addr×Obj)) (s:Shared) (σ:St) (H:Hp) (x:V) (xs:List V) (v:Value) (us:List Value) (Q:VK),Inv X pins σ H s→RelV x v→Vals xs us→r x xs H Q→
  wpAny (model X.prog X.w) X.A (call (.builtin id) (v::us)) (EP X pins σ Q) X.xe s
section
variable {X:Cx} {a b:Expr} {ta tb:TE} {pos:Pos}
theorem aL{r:R2}(hr:kP X r)(ha:PE X a ta)(hb:PE X b tb)(hs:zl b):PE X (.Subscript a b pos) (kI r ta tb):=by
 intro pins s σ H Q I h
 exact Subscript_ (nu ha hb I h fun v u s2 x y H2 I2 rx ry q=>hr a b pins s2 σ H2 x y v u Q I2 rx ry q (hs _ _))
def sk(K:PySem.W.Frag):R2:=fun x y H Q=>∃p xs i v,x=.ref p∧y=.int i∧aF K H p xs∧cJ xs i=some v∧Q v H
def zo(K:PySem.W.Frag):R2:=fun x y H Q=>∃p xs i v,x=.ref p∧y=.int i∧bo K H p xs∧cJ xs i=some v∧Q v H
theorem a_:kP X (sk X.K):=by
 intro value slice pins s σ H x y v u Q I rx ry h hs
 obtain ⟨p,xs,i,z,rfl,rfl,hq,he,q⟩:=h
 cases rx
 obtain ⟨t,rfl⟩:=ry
 obtain ⟨ae,r,pl,hz⟩:=I.list hq
 obtain ⟨j,h1,h2,h3,h4,h5⟩:=sj he
 obtain ⟨w,ew,fG⟩:=r.get h2
 have hl:=r.length
 have hn:=kL
 have fin:EP X pins σ Q w s:=⟨z,H,I,fG,q⟩
 by_cases h0:0≤i
 ·have hj:i.toNat=j:=by
   rw [seqIndex_of h0 h5] at h1
   exact Option.some.inj h1
  exact item_listR pl.isList h0 (by omega) (by rw [hj];simpa using ew) fin hs
 ·have hj:(i+(ae.toArray.size:Int)).toNat=j:=by
   rw [seqIndex_neg (by omega) h4] at h1
   rw [List.size_toArray,←hl]
   exact Option.some.inj h1
  exact subscriptTail_builtinR (x:=w) pl.isList.typeIs slot_list_getitem.lookup
   (wpAny_getItem_list_neg (Q:=fun r s'=>r=w∧EP X pins σ Q r s') pl.isList (by omega) (by rw [List.size_toArray] <;> omega) (by omega) (by rw [hj];simpa using ew) ⟨rfl,fin⟩) hs
theorem dQ:kP X (zo X.K):=by
 intro value slice pins s σ H x y v u Q I rx ry h hs
 obtain ⟨p,xs,i,z,rfl,rfl,hq,he,q⟩:=h
 cases rx
 obtain ⟨t,rfl⟩:=ry
 obtain ⟨ae,r,pl,hz⟩:=I.tuple hq
 obtain ⟨j,h1,h2,h3,h4,h5⟩:=sj he
 obtain ⟨w,ew,fG⟩:=r.get h2
 have hl:=r.length
 have hn:=kL
 have fin:EP X pins σ Q w s:=⟨z,H,I,fG,q⟩
 exact subscriptTail_builtinR (x:=w) pl.typeIs slot_tuple_getitem.lookup
  (getItem_tuple (j:=j) (Q:=fun r s'=>r=w∧EP X pins σ Q r s') pl (by omega) (by omega) (by rw [List.size_toArray,←hl];exact h1) (by simpa using ew) ⟨rfl,fin⟩) hs
theorem zp(ae:List Value)(n j:Nat)(u:Value):Obj.mapSeq (·.setIfInBounds j u) {cls:=.type "list",data:=.seq ae.toArray n}={cls:=.type "list",data:=.seq (ae.set j u).toArray n}:=by
 simp [Obj.mapSeq]
theorem Inv.lst{pins:List (Addr×Obj)}{σ:St}{H:Hp}{s:Shared}{p:Addr}{xs:List V}(I:Inv X pins σ H s)(h:H p=some (.lst xs)) :
  ∃(ae:List Value) (n:Nat),Vals xs ae∧s.heap.get? p=some {cls:=.type "list",data:=.seq ae.toArray n}∧xs.length≤sizeLine:=by
 obtain ⟨z,ae,n,r,e⟩:=I.ao p _ h
 exact ⟨ae,n,r,e,z⟩
theorem Inv.zq{pins:List (Addr×Obj)}{σ:St}{H:Hp}{s:Shared}{p:Addr}{xs ys:List V}{ae its':List Value}{n n':Nat}{f:Obj→Obj}(I:Inv X pins σ H s)(h:H p=some (.lst xs))
  (ho:s.heap.get? p=some {cls:=.type "list",data:=.seq ae.toArray n}) (hf:f {cls:=.type "list",data:=.seq ae.toArray n}={cls:=.type "list",data:=.seq its'.toArray n'}) (r:Vals ys its') (hz:ys.length≤sizeLine) (t:Nat) :
  Inv X pins σ (upd H p (.lst ys)) {s with heap:=s.heap.update p f,toks:=t}:=by
 have e:(s.heap.update p f).get? p=some {cls:=.type "list",data:=.seq its'.toArray n'}:=by
  rw [Heap.get?_update_self f ho (by rw [hf] <;> rfl),hf]
 refine I.write (x:=p) (e:=p) (by rw [h];trivial) (.inl rfl) (fun b u hb q=>(Heap.get?_update_other _ _ (Ne.symm hb)).trans q) ⟨_,e⟩ ?_
 exact ⟨hz,its',n',r,e⟩
def zr:V→V→V→Hp→(Hp→Prop)→Prop:=fun o i v H Q=>∃p xs k j,o=.ref p∧i=.int k∧H p=some (.lst xs)∧dP xs.length k=some j∧Q (upd H p (.lst (xs.set j v)))
theorem set_list:rp X zr:=by
 intro pins s σ H o i v ov iv u Q I ro ri rv h
 obtain ⟨p,xs,k,j,rfl,rfl,hp,hj,q⟩:=h
 cases ro
 obtain ⟨t,rfl⟩:=ri
 obtain ⟨ae,n,r,ho,hz⟩:=I.lst hp
 obtain ⟨h1,h2,h3,h4⟩:=si hj
 have hl:=r.length
 have hn:=kL
 have I':Inv X pins σ (upd H p (.lst (xs.set j v))) {s with heap:=s.heap.update p (Obj.mapSeq (·.setIfInBounds j u))}:=
  I.zq hp ho (zp ae n j u) (r.set rv j) (by rw [List.length_set];exact hz) s.toks
 by_cases h0:0≤k
 ·have hk:k.toNat=j:=by
   rw [seqIndex_of h0 h4] at h1
   exact Option.some.inj h1
  exact PySem.W.ki_setAt ho h0 (by omega) (by rw [List.size_toArray,←hl];exact h4) (by rw [hk];exact ⟨_,I',q⟩)
 ·have hk:(k+(ae.toArray.size:Int)).toNat=j:=by
   rw [seqIndex_neg (by omega) h3] at h1
   rw [List.size_toArray,←hl]
   exact Option.some.inj h1
  exact PySem.W.ki_setBack ho (by omega) (by rw [List.size_toArray,←hl];exact h3) (by omega) (by rw [hk];exact ⟨_,I',q⟩)
theorem zt(lo hi:Option Int)(n:Nat):(sliceBounds lo hi none n).1=((HT.bS n 0 lo:Nat):Int)∧(sliceBounds lo hi none n).2.1=((HT.bS n n hi:Nat):Int)∧(sliceBounds lo hi none n).2.2=1:=by
 refine ⟨?_,?_,rfl⟩
 ·cases lo with
  | none=>simp [sliceBounds,HT.bS]
  | some i=>
   simp only [sliceBounds,HT.bS,Option.getD_none,show (1:Int)>0 by decide,if_true]
   by_cases h:i<0
   ·simp only [h,if_true] <;> omega
   ·simp only [h,if_false] <;> omega
 ·cases hi with
  | none=>simp [sliceBounds,HT.bS]
  | some i=>
   simp only [sliceBounds,HT.bS,Option.getD_none,show (1:Int)>0 by decide,if_true]
   by_cases h:i<0
   ·simp only [h,if_true] <;> omega
   ·simp only [h,if_false] <;> omega
theorem zu(ae:List Value)(lo hi:Option Int):slicePick ae.toArray lo hi none=((ae.drop (HT.bS ae.length 0 lo)).take (HT.bS ae.length ae.length hi-HT.bS ae.length 0 lo)).toArray:=by
 obtain ⟨h1,h2,h3⟩:=zt lo hi ae.toArray.size
 unfold slicePick
 rw [h1,h2,h3]
 simp only [sliceRange_one,pick_run,List.size_toArray] <;> rfl
def zv(K:PySem.W.Frag):V→Option Int→Option Int→Hp→VK→Prop:=fun x lo hi H Q=>∃a xs,x=.ref a∧aF K H a xs∧∀p,H p=none→Q (.ref p) (upd H p (.lst (eZ xs lo hi)))
theorem sm:r_ X (zv X.K):=by
 intro pins s σ H x v vl vu lo hi sl Q I rx hs pl pu h
 obtain ⟨a,xs,rfl,hx,q⟩:=h
 cases rx
 obtain ⟨ae,r,ht,hz⟩:=I.list hx
 have hlen:=r.length
 refine ⟨"list",_,slot_list_getitem.lookup,ht.isList.typeIs,?_⟩
 refine wpAny_getItem_list_slice ht.isList hs pl pu .none (by simp) ?_ (by rw [List.size_toArray] <;> omega)
 rw [zu,←hlen]
 refine ⟨.ref s.heap.objs.size,_,I.laid (t':=s.toks) (o:=.lst (eZ xs lo hi)) (fun b ob q=>Heap.get?_push_of_some _ q) (Nat.le_refl _) ?_,rfl,q _ (I.ao.fresh (Nat.le_refl _))⟩
 exact ⟨Nat.le_trans (zi xs lo hi) hz,_,0,(r.drop (HT.bS xs.length 0 lo)).take (HT.bS xs.length xs.length hi-HT.bS xs.length 0 lo),Heap.get?_push_size _ rfl⟩
def ee:V→Bool
 | .az=>true
 | .bl _=>true
 | .int _=>true
 | .str _=>true
 | _=>false
def cV:V→V→Bool
 | .az,.az=>true
 | .bl a,.bl b=>a == b
 | .bl a,.int b=>(if a then 1 else 0) == b
 | .int a,.bl b=>a == (if b then 1 else 0)
 | .int a,.int b=>a == b
 | .str a,.str b=>a == b
 | _,_=>false
theorem nH{A:Around}{s:Shared}{y x:V}{u v:Value}(ry:RelV y u)(rx:RelV x v)(fy:ee y=true)(fx:ee x=true):SeqAt.EqAt A s u v (cV y x):=by
 cases y with
 | az=>
  cases ry
  cases x with
  | az=>cases rx;exact SeqAt.EqAt.same _
  | bl b=>cases rx;exact SeqAt.EqAt.none_bool b
  | int b=>obtain ⟨t,rfl⟩:=rx;exact SeqAt.EqAt.none_int b t
  | str b=>obtain ⟨t,rfl⟩:=rx;exact SeqAt.EqAt.none_str b t
  | _=>exact absurd (show false=true from fx) Bool.false_ne_true
 | bl a=>
  cases ry
  cases x with
  | az=>cases rx;exact SeqAt.EqAt.bool_none a
  | bl b=>cases rx;exact SeqAt.EqAt.bool_bool a b
  | int b=>obtain ⟨t,rfl⟩:=rx;exact SeqAt.EqAt.bool_int a b t
  | str b=>obtain ⟨t,rfl⟩:=rx;exact SeqAt.EqAt.bool_str a b t
  | _=>exact absurd (show false=true from fx) Bool.false_ne_true
 | int a=>
  obtain ⟨t',rfl⟩:=ry
  cases x with
  | az=>cases rx;exact SeqAt.EqAt.int_none a t'
  | bl b=>cases rx;exact SeqAt.EqAt.int_bool a t' b
  | int b=>obtain ⟨t,rfl⟩:=rx;exact SeqAt.EqAt.int_int a t' b t
  | str b=>obtain ⟨t,rfl⟩:=rx;exact SeqAt.EqAt.int_str a t' b t
  | _=>exact absurd (show false=true from fx) Bool.false_ne_true
 | str a=>
  obtain ⟨t',rfl⟩:=ry
  cases x with
  | az=>cases rx;exact SeqAt.EqAt.str_none a t'
  | bl b=>cases rx;exact SeqAt.EqAt.str_bool a t' b
  | int b=>obtain ⟨t,rfl⟩:=rx;exact SeqAt.EqAt.str_int a t' b t
  | str b=>obtain ⟨t,rfl⟩:=rx;exact SeqAt.EqAt.str_str a t' b t
  | _=>exact absurd (show false=true from fx) Bool.false_ne_true
 | _=>exact absurd (show false=true from fy) Bool.false_ne_true
def eg(x:V)(u:Value):Bool:=match u with
 | .none=>cV .az x
 | .bool b=>cV (.bl b) x
 | .int i _=>cV (.int i) x
 | .str z _=>cV (.str z) x
 | _=>false
theorem sr{x y:V}{u:Value}(r:RelV y u)(f:ee y=true):eg x u=cV y x:=by
 cases y with
 | az=>cases r;rfl
 | bl b=>cases r;rfl
 | int i=>obtain ⟨t,rfl⟩:=r;rfl
 | str z=>obtain ⟨t,rfl⟩:=r;rfl
 | _=>exact absurd (show false=true from f) Bool.false_ne_true
theorem nI{x:V}:∀{xs:List V} {us:List Value},Vals xs us→xs.all ee=true→us.any (eg x)=xs.any fun y=>cV y x
 | _,_,.nil,_=>rfl
 | y::xs,u::us,.cons r t,f=>by
  rw [List.all_cons,Bool.and_eq_true] at f
  rw [List.any_cons,List.any_cons,sr r f.1,nI t f.2]
theorem nJ{A:Around}{s:Shared}{x:V}{v:Value}(rx:RelV x v)(fx:ee x=true):∀{xs:List V} {us:List Value},Vals xs us→xs.all ee=true→∀u∈us,SeqAt.EqAt A s u v (eg x u)
 | _,_,.nil,_=>fun u hu=>by cases hu
 | y::xs,u::us,.cons r t,f=>fun u' hu=>by
  rw [List.all_cons,Bool.and_eq_true] at f
  rcases List.mem_cons.mp hu with rfl | hu
  ·rw [sr r f.1];exact nH r rx f.1 fx
  ·exact nJ rx fx t f.2 u' hu
def su(x:V)(xs:List V):Bool:=xs.any fun y=>cV y x
def sA(K:PySem.W.Frag)(neg:Bool):R2:=fun x y H Q=>∃p xs,y=.ref p∧(aF K H p xs∨bo K H p xs)∧ee x=true∧xs.all ee=true∧Q (.bl (if neg then !su x xs else su x xs)) H
theorem zw:aZ X (compareOp .In) (sA X.K false):=by
 intro pins s σ H x y v u Q I rx ry h
 obtain ⟨p,xs,rfl,hq,fx,fs,q⟩:=h
 cases ry
 rcases hq with hq | hq
 ·obtain ⟨ae,r,pl,hz⟩:=I.list hq
  refine SeqAt.in_listAt (eg x) pl.isList (fun w hw=>nJ rx fx r fs w (by simpa using hw)) ⟨.bl _,H,I,rfl,?_⟩
  rw [show ae.toArray.any (eg x)=ae.any (eg x) by simp,nI r fs]
  exact q
 ·obtain ⟨ae,r,pl,hz⟩:=I.tuple hq
  refine SeqAt.in_tupleAt (eg x) pl (fun w hw=>nJ rx fx r fs w (by simpa using hw)) ⟨.bl _,H,I,rfl,?_⟩
  rw [show ae.toArray.any (eg x)=ae.any (eg x) by simp,nI r fs]
  exact q
theorem en:bR X (.builtin "len") (fun xs H Q=>∃p ys,xs=[.ref p]∧(aF X.K H p ys∨bo X.K H p ys)∧Q (.int ys.length) H):=by
 intro pins s σ H xs us Q I r h
 obtain ⟨p,ys,rfl,hq,q⟩:=h
 obtain ⟨u,rfl,rx⟩:=vals1 r
 cases rx
 have hn:=kL
 rcases hq with hq | hq
 ·obtain ⟨ae,r',pl,hz⟩:=I.list hq
  have hlen:=r'.length
  exact Calls.call_len_list pl.isList (by simp only [List.size_toArray] <;> omega) ⟨.int ys.length,H,I.tok _,⟨s.toks+1,by rw [List.size_toArray,hlen]⟩,q⟩
 ·obtain ⟨ae,r',pl,hz⟩:=I.tuple hq
  have hlen:=r'.length
  exact len_tuple pl (by simp only [List.size_toArray] <;> omega) ⟨.int ys.length,H,I.tok _,⟨s.toks+1,by rw [List.size_toArray,hlen]⟩,q⟩
theorem nK:bR X (.type "list") (fun xs H Q=>∃p ys,xs=[.ref p]∧(aF X.K H p ys∨bo X.K H p ys)∧∀l,H l=none→Q (.ref l) (upd H l (.lst ys))):=by
 intro pins s σ H xs us Q I r h
 obtain ⟨p,ys,rfl,hq,q⟩:=h
 obtain ⟨u,rfl,rx⟩:=vals1 r
 cases rx
 have fin:∀(ae:List Value),Vals ys ae→ys.length≤sizeLine→∀(h':Heap) (c':Nat),(∀b o',s.heap.get? b=some o'→h'.get? b=some o')→
   h'.get? s.heap.objs.size=some {cls:=.type "list",dict:=none,data:=.seq ae.toArray c',slots:=#[]}→EP X pins σ Q (.ref s.heap.objs.size) {s with heap:=h'}:=fun ae r' hz h' c' kp e=>
  ⟨.ref s.heap.objs.size,_,I.laid (t':=s.toks) kp (Nat.le_refl _) (show aI X.prog X.w _ h' _ (.lst ys) from ⟨hz,ae,c',r',e⟩),rfl,q _ (I.ao.fresh (Nat.le_refl _))⟩
 rcases hq with hq | hq
 ·obtain ⟨ae,r',pl,hz⟩:=I.list hq
  have hlen:=r'.length
  obtain ⟨o,ho,hc,n,hd⟩:=pl.isList
  exact call_list_seq p (.inl rfl) ho hc hd (fun h' c' kp e=>fin ae r' hz h' c' kp e) (by simp only [List.size_toArray] <;> omega)
 ·obtain ⟨ae,r',pl,hz⟩:=I.tuple hq
  have hlen:=r'.length
  obtain ⟨o,ho,hc,n,hd⟩:=pl
  exact call_list_seq p (.inr rfl) ho hc hd (fun h' c' kp e=>fin ae r' hz h' c' kp e) (by simp only [List.size_toArray] <;> omega)
theorem nM:bR X (.type "tuple") (fun xs H Q=>∃p ys,xs=[.ref p]∧((aF X.K H p ys∧∀l,H l=none→Q (.ref l) (upd H l (.tup ys)))∨(bo X.K H p ys∧Q (.ref p) H))):=by
 intro pins s σ H xs us Q I r h
 obtain ⟨p,ys,rfl,h⟩:=h
 obtain ⟨u,rfl,rx⟩:=vals1 r
 cases rx
 rcases h with ⟨hq,q⟩ | ⟨hq,q⟩
 ·obtain ⟨ae,r',pl,hz⟩:=I.list hq
  have hlen:=r'.length
  refine call_tuple_list pl.isList (fun h' kp=>?_) (by simp only [List.size_toArray] <;> omega)
  have I1:Inv X pins σ H {s with heap:=h'}:=I.kept (t':=s.toks) kp
  have I2:Inv X pins σ (upd H h'.objs.size (.tup ys)) {s with heap:=h'.push {cls:=.type "tuple",data:=.seq ae.toArray}}:=
   I1.laid (t':=s.toks) (fun b o e=>Heap.get?_push_of_some _ e) (Nat.le_refl _) (show aI X.prog X.w _ _ _ (.tup ys) from ⟨hz,ae,r',IsTup.new _ _⟩)
  exact ⟨.ref h'.objs.size,_,I2,rfl,q _ (I1.ao.fresh (Nat.le_refl _))⟩
 ·obtain ⟨ae,r',pl,hz⟩:=I.tuple hq
  exact call_tuple_same pl ⟨.ref p,H,I,rfl,q⟩
def sC(K:PySem.W.Frag)(T:String)(x:V)(H:Hp):Prop:=match x with
 | .str _=>T = "str"
 | .int _=>T = "int"
 | .ref p=>(T = "list"∧∃xs,aF K H p xs)∨(T = "tuple"∧∃o,K.lookup p=some o∧o.cls=.type "tuple"∧o.dict=none) ∨
   (T = "dict"∧((∃ai,H p=some (.dK ai))∨∃ai,H p=some (.dT ai)))∨(T = "set"∧∃S n,H p=some (.set S n))
 | _=>False
theorem zx{pins:List (Addr×Obj)}{σ:St}{H:Hp}{s:Shared}{T:String}{x:V}{v:Value}(I:Inv X pins σ H s)(r:RelV x v)(ty:sC X.K T x H) :
  s.TypeIs v T∧∀a,v=.ref a→∃ob,s.heap.get? a=some ob∧ob.dict=none:=by
 cases x with
 | str z=>
  obtain ⟨t,rfl⟩:=r
  cases (show T = "str" from ty)
  exact ⟨typeIs_str s z t,fun _ e=>nomatch e⟩
 | int i=>
  obtain ⟨t,rfl⟩:=r
  cases (show T = "int" from ty)
  exact ⟨typeIs_int s i t,fun _ e=>nomatch e⟩
 | ref p=>
  cases r
  rcases ty with ⟨rfl,xs,hq⟩ | ⟨rfl,o,hk,hc,hd⟩ | ⟨rfl,hk⟩ | ⟨rfl,S,n,hk⟩
  ·obtain ⟨ae,_,pl,_⟩:=I.list hq
   refine ⟨pl.isList.typeIs,fun a e=>?_⟩
   cases e
   obtain ⟨o,n,e,c,hd,_⟩:=pl
   exact ⟨o,e,hd⟩
  ·refine ⟨⟨o,I.bf p o hk,hc⟩,fun a e=>?_⟩
   cases e
   exact ⟨o,I.bf _ o hk,hd⟩
  ·have z:∃o,s.heap.get? p=some o∧o.ExactDict:=by
    rcases hk with ⟨ai,hk⟩ | ⟨ai,hk⟩
    ·obtain ⟨_,_,_,_,o,_,_,e,ex,_⟩:=I.ao p _ hk
     exact ⟨o,e,ex⟩
    ·obtain ⟨_,_,_,_,o,_,_,e,ex,_⟩:=I.ao p _ hk
     exact ⟨o,e,ex⟩
   obtain ⟨o,e,ex⟩:=z
   refine ⟨⟨o,e,ex.1⟩,fun a e2=>?_⟩
   cases e2
   exact ⟨o,e,ex.2.1⟩
  ·obtain ⟨o,_,_,_,e,ex,_⟩:=I.ao p _ hk
   refine ⟨⟨o,e,ex.1⟩,fun a e2=>?_⟩
   cases e2
   exact ⟨o,e,ex.2.1⟩
 | _=>exact False.elim ty
def zy(K:PySem.W.Frag)(T:String)(r:V→List V→Hp→VK→Prop)(to:TE)(t:TA):TE:=fun σ H Q=>to σ H fun x H1=>sC K T x H1∧t σ H1 fun xs H2=>r x xs H2 Q
variable {o e:Expr} {es:List Expr} {to:TE} {t:TA} {name:Str} {apos cK:Pos} {T id:String} {r:V→List V→Hp→VK→Prop}
theorem fb(pa:PlainAttrs T)(slot:Slot T name id)(zA:typeOf (.builtin id)=pure (.type "method_descriptor"))(hm:zm X id r)(ho:PE X o to)(ha:PA X (e::es) t)
  (jA:attributeBase o name X.env (eval o X.env)=eval o X.env:=by rfl)
  (zB:((backTo cK (starEach (e::es) X.env)).all (fun x=>!x.1) && (backToKw cK (keywordEach [] X.env)).all (fun x=>x.1.isSome)
   && decide ((e::es).length+([]:List Keyword).length+(if ([]:List Keyword).isEmpty then 0 else 1)<30))=true:=by rfl)
  (zC:(apos.endLine == cK.line)=true:=by rfl) (hs:starEach (e::es) X.env=(false,eval e X.env)::starEach es X.env:=by rfl) (zD:(backTo cK (starEach es X.env)).any (·.1)=false:=by rfl) :
  PE X (.Call (.Attribute o name apos) (e::es) [] cK) (zy X.K T r to t):=by
 intro pins s σ H Q I h
 refine wpAny_Call_method_late jA zB zC rfl (av (ho pins s σ H _ I h) fun v s1 ⟨x,H1,I1,r1,ty,q1⟩=>?_)
 obtain ⟨h1,h2⟩:=zx I1 r1 ty
 refine ⟨T,id,pa,slot,zA,h1,h2,?_⟩
 have hA:=ha cK pins s1 σ H1 _ I1 q1
 rw [hs] at hA ⊢
 refine Calls.callWith_builtin (by show (false || (backTo cK (starEach es X.env)).any (·.1))=false;rw [zD] <;> rfl) (Calls.evalArgs_plain ?_)
 exact av hA fun us s2 ⟨vs,H2,I2,r2,q2⟩=>hm pins s2 σ H2 x vs v us Q I2 r1 r2 q2
end
def nN(X:Cx)(id:String)(r:V→List V→Hp→VK→Prop):Prop:=
 ∀(pins:List (Addr×Obj)) (s:Shared) (σ:St) (H:Hp) (x:V) (xs:List V) (v:Value) (us:List Value) (Q:VK),Inv X pins σ H s→RelV x v→Vals xs us→r x xs H Q→
  wpAny (model X.prog X.w) X.A (call (.builtin id) (v::us)) (EP X pins σ Q) X.xe s
theorem Vals.one:∀{x:V} {us:List Value},Vals [x] us→∃u,us=[u]∧RelV x u
 | _,_,.cons r .nil=>⟨_,rfl,r⟩
theorem Vals.eraseIdx:∀{xs:List V} {us:List Value} (i:Nat),Vals xs us→Vals (xs.eraseIdx i) (us.eraseIdx i)
 | _,_,_,.nil=>.nil
 | _,_,0,.cons _ t=>t
 | _,_,i+1,.cons r t=>.cons r (Vals.eraseIdx i t)
theorem Vals.rep{xs:List V}{us:List Value}(h:Vals xs us):∀k:Nat,Vals (List.replicate k xs).flatten (List.replicate k us).flatten
 | 0=>.nil
 | k+1=>by
  rw [List.replicate_succ,List.replicate_succ,List.flatten_cons,List.flatten_cons]
  exact Vals.append h (Vals.rep h k)
theorem sD{α:Type}:∀(l:List α) (i:Nat),(l.eraseIdx i).length≤l.length
 | [],_=>Nat.le_refl _
 | _::_,0=>Nat.le_succ _
 | _::r,i+1=>Nat.succ_le_succ (sD r i)
theorem foldl_rep(ae:List Value):∀(k:Nat) (acc:List Value),
  List.foldl (fun x1 x2=>x1++x2) acc.toArray (List.replicate k ae.toArray)=(acc++(List.replicate k ae).flatten).toArray
 | 0,acc=>by simp
 | k+1,acc=>by
  have e:acc.toArray++ae.toArray=(acc++ae).toArray:=by simp
  have e2:(acc++ae)++(List.replicate k ae).flatten=acc++(List.replicate (k+1) ae).flatten:=by
   rw [List.replicate_succ,List.flatten_cons,List.append_assoc]
  rw [←e2,←foldl_rep ae k (acc++ae),←e,List.replicate_succ,List.foldl_cons]
section
variable {X:Cx} {pins:List (Addr×Obj)} {σ:St} {H:Hp} {s:Shared} {l b:Addr} {xs ys zs:List V}
theorem Inv.nO{ae its':List Value}{n:Nat}{f:Array Value→Array Value}{t':Nat}(I:Inv X pins σ H s)(hH:H l=some (.lst xs))
  (e:s.heap.get? l=some {cls:=.type "list",data:=.seq ae.toArray n}) (hf:f ae.toArray=its'.toArray) (hv:Vals ys its') (hz:ys.length≤sizeLine) :
  Inv X pins σ (upd H l (.lst ys)) {s with heap:=s.heap.update l (Obj.mapSeq f),toks:=t'}:=by
 have q:=PySem.IsL.update e f
 rw [hf] at q
 refine I.write (x:=l) (e:=l) (by rw [hH];exact trivial) (.inl rfl) (fun b' u hb hu=>(Heap.get?_update_other s.heap (Obj.mapSeq f) (Ne.symm hb)).trans hu) ⟨_,q⟩ ?_
 exact ⟨hz,its',_,hv,q⟩
theorem Inv.sF{ae:List Value}{t':Nat}(I:Inv X pins σ H s)(hv:Vals ys ae)(hz:ys.length≤sizeLine) :
  Inv X pins σ (upd H s.heap.objs.size (.lst ys)) {s with heap:=s.heap.push {cls:=.type "list",data:=.seq ae.toArray},toks:=t'}:=
 I.laid (fun _ _ q=>Heap.get?_push_of_some _ q) (Nat.le_refl _) ⟨hz,ae,0,hv,Heap.get?_push_size _ rfl⟩
theorem Inv.fresh(I:Inv X pins σ H s):H s.heap.objs.size=none:=I.ao.fresh (Nat.le_refl _)
theorem Inv.fO(I:Inv X pins σ H s)(hH:H l=some (.lst xs)):xs.length≤sizeLine∧∃(ae:List Value) (n:Nat),Vals xs ae∧xs.length=ae.length∧s.heap.get? l=some {cls:=.type "list",data:=.seq ae.toArray n}:=by
 obtain ⟨z,ae,n,r,e⟩:=I.ao l _ hH
 exact ⟨z,ae,n,r,r.length,e⟩
theorem sG{n:Nat}(h:n≤sizeLine):Builtin.List.listTooLong n=false:=by
 unfold Builtin.List.listTooLong
 exact decide_eq_false (by omega)
end
section
variable {X:Cx}
def zE:V→List V→Hp→VK→Prop:=fun x vs H Q=>∃l xs y,x=.ref l∧vs=[y]∧H l=some (.lst xs)∧xs.length<sizeLine∧Q .az (upd H l (.lst (xs++[y])))
theorem fP:nN X "list.append" zE:=by
 intro pins s σ H x vs v us Q I rx rv h
 obtain ⟨l,xs,y,rfl,rfl,hH,hz,q⟩:=h
 cases rx
 obtain ⟨u,rfl,ru⟩:=rv.one
 obtain ⟨z,ae,n,r,hl,e⟩:=I.fO hH
 refine call_meets F.slot_list_append ⟨_,e,rfl⟩ F.entry_list_append (F.args_list_append_2 _ _) (PySem.list_append l ae.toArray n u (by rw [List.size_toArray];omega)) ⟨e,?_⟩
 refine ⟨.az,_,I.nO (its':=ae++[u]) hH e (by simp) (r.append (.cons ru .nil)) ?_,rfl,q⟩
 rw [List.length_append,List.length_singleton]
 omega
def zF:V→List V→Hp→VK→Prop:=fun x vs H Q=>∃l b xs zs,x=.ref l∧vs=[.ref b]∧H l=some (.lst xs)∧H b=some (.lst zs)∧xs.length+zs.length≤sizeLine∧Q .az (upd H l (.lst (xs++zs)))
theorem sI:nN X "list.extend" zF:=by
 intro pins s σ H x vs v us Q I rx rv h
 obtain ⟨l,b,xs,zs,rfl,rfl,hH,hB,hz,q⟩:=h
 cases rx
 obtain ⟨u,rfl,ru⟩:=rv.one
 cases ru
 obtain ⟨z,ae,n,r,hl,e⟩:=I.fO hH
 obtain ⟨z2,dv,n2,r2,zG,e2⟩:=I.fO hB
 have hsz:ae.toArray.size+dv.toArray.size≤sizeLine:=by rw [List.size_toArray,List.size_toArray];omega
 have nQ:¬(!ae.toArray.isEmpty && Builtin.List.listTooLong (ae.toArray.size+dv.toArray.size))=true:=by
  rw [sG hsz,Bool.and_false]
  exact Bool.false_ne_true
 refine call_meets F.slot_list_extend ⟨_,e,rfl⟩ F.entry_list_extend (F.args_list_extend_2 _ _)
  (AutoSeq1.list_extend_list_list_0 l ae.toArray n b dv.toArray n2 nQ (by rw [List.size_toArray];omega) (by omega)) ⟨e,e2,?_⟩
 refine ⟨.az,_,I.nO (its':=ae++dv) hH e (by simp) (r.append r2) ?_,rfl,q⟩
 rw [List.length_append]
 omega
def zH:V→List V→Hp→VK→Prop:=fun x vs H Q=>∃l xs i k y,x=.ref l∧vs=[.int i]∧H l=some (.lst xs)∧-(2 ^ 63)≤i∧i<2 ^ 63∧seqIndex? i xs.length=some k∧xs[k]?=some y∧Q y (upd H l (.lst (xs.eraseIdx k)))
theorem zI:nN X "list.pop" zH:=by
 intro pins s σ H x vs v us Q I rx rv h
 obtain ⟨l,xs,i,k,y,rfl,rfl,hH,h1,h2,hk,hy,q⟩:=h
 cases rx
 obtain ⟨u,rfl,ru⟩:=rv.one
 obtain ⟨t,rfl⟩:=ru
 obtain ⟨z,ae,n,r,hl,e⟩:=I.fO hH
 obtain ⟨w,hw,fG⟩:=r.get hy
 refine call_meets F.slot_list_pop ⟨_,e,rfl⟩ F.entry_list_pop (F.args_list_pop_2 _ _)
  (MeetsSeq.list_pop_at l ae.toArray n i t k w (fitsIndex_both h1 h2) (by rw [List.size_toArray,←hl];exact hk) (by rw [←Array.getElem?_toList];exact hw) (by rw [List.size_toArray];omega)) ⟨e,?_⟩
 refine ⟨y,_,I.nO (its':=ae.eraseIdx k) hH e ?_ (r.eraseIdx k) ?_,fG,q⟩
 ·show ae.toArray.eraseIdxIfInBounds k=(ae.eraseIdx k).toArray
  rw [List.eraseIdxIfInBounds_toArray]
 ·have:=sD xs k
  omega
def zJ:R2:=fun x y H Q=>∃l b xs zs,x=.ref l∧y=.ref b∧H l=some (.lst xs)∧H b=some (.lst zs)∧xs.length+zs.length≤sizeLine∧∀p,H p=none→Q (.ref p) (upd H p (.lst (xs++zs)))
theorem cW:aZ X (binaryOp .Add) zJ:=by
 intro pins s σ H x y v u Q I rx ry h
 obtain ⟨l,b,xs,zs,rfl,rfl,hH,hB,hz,q⟩:=h
 cases rx
 cases ry
 obtain ⟨z,ae,n,r,hl,e⟩:=I.fO hH
 obtain ⟨z2,dv,n2,r2,zG,e2⟩:=I.fO hB
 refine PySem.P.add_list e e2 ?_ (by rw [List.size_toArray,List.size_toArray];omega)
 have ea:ae.toArray++dv.toArray=(ae++dv).toArray:=by simp
 rw [ea]
 exact ⟨.ref _,_,I.sF (t':=s.toks) (r.append r2) (by rw [List.length_append];omega),rfl,q _ I.fresh⟩
def zK:R2:=fun x y H Q=>∃l k xs,x=.ref l∧y=.int k∧H l=some (.lst xs)∧-(2 ^ 63)≤k∧k<2 ^ 63∧xs.length*k.toNat≤sizeLine ∧
 ∀p,H p=none→Q (.ref p) (upd H p (.lst (List.replicate k.toNat xs).flatten))
theorem len_rep{α:Type}(xs:List α)(k:Nat):(List.replicate k xs).flatten.length=k*xs.length:=by
 induction k with
 | zero=>simp
 | succ k ih=>rw [List.replicate_succ,List.flatten_cons,List.length_append,ih,Nat.succ_mul,Nat.add_comm]
theorem zL:aZ X (binaryOp .Mult) zK:=by
 intro pins s σ H x y v u Q I rx ry h
 obtain ⟨l,k,xs,rfl,rfl,hH,h1,h2,hz,q⟩:=h
 cases rx
 obtain ⟨t,rfl⟩:=ry
 obtain ⟨z,ae,n,r,hl,e⟩:=I.fO hH
 have hlen:ae.toArray.size*k.toNat≤sizeLine:=by rw [List.size_toArray,←hl];exact hz
 have zM:¬ae.toArray.size*k.toNat>(2 ^ 63-1) / 8:=by
  have:(sizeLine:Nat)≤(2 ^ 63-1) / 8:=by decide
  omega
 have zN:¬(!Builtin.List.listFitsIndex k)=true:=by
  rw [fitsIndex_both h1 h2]
  exact Bool.false_ne_true
 have nQ:¬Builtin.List.listTooLong (ae.toArray.size*k.toNat)=true:=by
  rw [sG hlen]
  exact Bool.false_ne_true
 have zO:List.foldl (fun x1 x2=>x1++x2) #[] (List.replicate (if ae.toArray.isEmpty=true then 0 else k.toNat) ae.toArray)=(List.replicate k.toNat ae).flatten.toArray:=by
  have f0:∀m:Nat,List.foldl (fun x1 x2=>x1++x2) #[] (List.replicate m ae.toArray)=(List.replicate m ae).flatten.toArray:=fun m=>by
   have:=foldl_rep ae m []
   rw [List.nil_append] at this
   exact this
  rw [f0]
  cases ae with
  | nil=>simp
  | cons a r'=>rw [if_neg (by simp)]
 refine wpAny_binaryOp_repeat_ref (T:="list") (U:="int") (by decide) ⟨_,e,rfl⟩ (fun s'=>typeIs_int s' k t) noFill_list_mul F.fills_int_mul F.slot_int_rmul repeat_list F.slot_int_index.lookup
  (call_meets F.slot_int_rmul (typeIs_int s k t) F.entry_int_rmul (F.args_int_rmul_2 _ _) (int___rmul___int_list k t l ae.toArray n)
   ⟨e,rfl,⟨_,e,rfl⟩,call_meets F.slot_list_mul ⟨_,e,rfl⟩ F.entry_list_mul (F.args_list_mul_2 _ _) (AutoListH.list___mul___list_int_3 l ae.toArray n k t zN zM nQ) ⟨e,?_⟩⟩)
 rw [zO]
 exact ⟨.ref _,_,I.sF (t':=s.toks) (r.rep k.toNat) (by rw [len_rep,Nat.mul_comm];exact hz),rfl,q _ I.fresh⟩
end
section
variable {prog:Program} {w:World} {A:Around} {E:Value→Shared→Prop} {s:Shared}
end
section
variable {X:Cx}
end
end L2
namespace kR
open PySem PySem.W PySem.Calls PyProof.Rows
theorem zP{P:Params}{h:Heap}:∀(ns:List Int) (vs:List Value),WellAll P h vs (ns.map WData.int)→IntsAre vs ns:=by
 intro ns
 induction ns with
 | nil=>
  intro vs w
  rw [List.map_nil] at w
  cases w
  exact .nil
 | cons n ns ih=>
  intro vs w
  rw [List.map_cons] at w
  cases w with
  | cons a b=>
   cases a
   exact .cons _ _ (ih _ b)
theorem zQ{l:OpenLaw}{n:Nat}(hn:l.most=some n){P:Params}{h:Heap}{args:List WData}{vals:List Value}
  (kS:l.row.toRowW.claim.pre args=true) (nR:WellAll P h vals args) :
  ∃a vs ns,vals=[Value.ref a]∧args=[WData.list (ns.map WData.int)]∧h.get? a=some {cls:=.type "list",data:=.seq vs.toArray}∧IntsAre vs ns∧ns.length≤n:=by
 have zR:WShape.hasAll [] args [.list .int]=true:=(pre_splitW kS).1
 have hc:l.pre.holds [] {args:=args}=true:=(pre_splitW kS).2
 obtain ⟨d,r,rfl,h1,h2⟩:=hasAllW_cons zR
 obtain rfl:=hasAllW_nil h2
 obtain ⟨xs,rfl,h3⟩:=hasW_list h1
 obtain ⟨ns,rfl⟩:=items_int h3
 have hlen:ns.length≤n:=by
  unfold OpenLaw.pre at hc
  have h4:(WTm.not (.lt (.lit (.int (n:Int))) (.len (.arg 0)))).holds [] {args:=[.list (ns.map .int)]}=true:=by
   have h4:=(holds_andW hc).1
   rw [hn] at h4
   exact h4
  have h5:=condW_of h4 (w_not (w_lt w_lit (w_len_list (w_arg rfl))))
  rw [List.length_map] at h5
  refine Nat.le_of_not_lt fun q=>?_
  have q':(n:Int)<((ns.length:Nat):Int):=by omega
  first
   | (rw [decide_eq_true q'] at h5;exact absurd h5 (by decide))
   | (simp at h5;omega)
 cases nR with
 | cons w1 w2=>
  cases w2
  cases w1 with
  | list ho zS=>exact ⟨_,_,ns,rfl,rfl,ho,zP ns _ zS,hlen⟩
theorem zT(l:OpenLaw)(args:List WData):l.row.toRowW.claim.post args (.bool true) args=true:=
 postW_of (r:=l.row.toRowW) (X:=(true == true))
  (show WShape.has [] (.bool true) .bool=true by first | rfl | decide | simp [WShape.has,WShape.arms,WShape.armsAll])
  (show (WTm.eq .res (.lit (.bool true))).value [] {args:=args,res:=some (.bool true),after:=args}=some (.bool (true == true)) from w_eq_bool (w_res rfl) w_lit) rfl
theorem zU{l:OpenLaw}{n:Nat}{q:Program}{loose:List Str}{XP:(Str→Option Value)→Heap→Prop}{YP:World→Heap→Prop}{d:DefRec}
  (hn:l.most=some n) (jB:d.params.defaults=[])
  (call:∀(w:World) (s₀ s₁:Shared) (mg mb:Str→Option Value) (fa:Addr) (o:Obj) (pm cd doc:Value) (a:Addr) (vs:List Value) (ns:List Int),
   Ground q loose [] XP w s₀ mg mb s₁.heap→YP w s₁.heap→
   s₁.heap.get? fa=some o→o.data=.func (docDef d.name d.params d.body d.scope pm cd doc)→s₁.heap.CodeRec cd d.name→mg d.name=some (.ref fa)→
   s₁.heap.get? a=some {cls:=.type "list",data:=.seq vs.toArray}→IntsAre vs ns→ns.length≤n→s₁.gens = #[]→
   codeAny (model l.prog w) callerA (.call (.ref fa) ⟨[.ref a],[]⟩) (fun r s'=>r=.ok (.ret (.bool true))∧OldK s₁.heap s'.heap∧s'.os=s₁.os∧AllBare s'.gens) s₁) :
  WalkO q loose XP YP l.row.toRowW d [] (fun f vs=>PySem.call f vs):=by
 intro w s₀ s₁ mg mb G Y fa o pm cd doc dV kV ho hd cn hD jC hg args vals as kS HJ HK nR HL
 obtain rfl:dV=.none:=Dflts.none hD jB
 obtain rfl:kV=.none:=Dflts.noKw hD
 obtain ⟨a,vs,ns,rfl,rfl,nS,hints,hlen⟩:=zQ hn kS nR
 refine enter_call (codeAny_mono (call w s₀ s₁ mg mb fa o pm cd doc a vs ns G Y ho (fd_plain hd) cn jC nS hints hlen hg) fun r s' hq=>?_)
 obtain ⟨rfl,h2,h3,h4⟩:=hq
 exact ⟨.inl ⟨.bool true,.bool true,[],rfl,fun _=>rfl,.bool true,zT l _,fun _=>⟨List.Pairwise.nil,fun _ hm=>(nomatch hm)⟩⟩,h2,h3,h4⟩
section
variable {prog:Program} {w:World} {A:Around} {E:Value→Shared→Prop} {s:Shared} {K:Frag}
end
end kR
namespace L2
open PySem PySem.Spec PyProof.Rows
theorem sJ:∀{vs:List Value} {ns:List Int},IntsAre vs ns→Vals (ns.map V.int) vs
 | _,_,.nil=>.nil
 | _,_,.cons n t h=>.cons ⟨t,rfl⟩ (sJ h)
def nU(H:Hp):Prop:=∀b,H b=none∨∃o xs,H b=some (.aM o (.lst xs))
theorem zV{P:Program}{w:World}{K:PySem.W.Frag}{mg mb:Str→Option Value}{CX:b6}{k:Nat}{fa a:Addr}{fd:FuncData}{x:Str}{sp:Sp}{s₁:Shared}{vs:List Value}{ns:List Int}
  (KX:K.In s₁.heap) (sL:s₁.heap.Ns mainGlobals mg) (hb:s₁.heap.Ns builtinsNs mb) (zW:∀x:Str,x ≠ "__name__"→mb x=bootBuiltins x) (zX:s₁.heap.NoLimit) (hg:s₁.gens = #[])
  (ha:s₁.heap.get? a=some {cls:=.type "list",data:=.seq vs.toArray}) (hi:IntsAre vs ns) (hl:ns.length≤sizeLine) (hr:bA k callerA)
  (F:∀base:Heap,K.In base→base.Ns mainGlobals mg→aN P w K mg base CX k fa fd [x] sp) (zY:∀(s:Shared) (u:Value),BindsTo s fd ⟨[u],[]⟩ [(x,u)])
  (dO:∀H:Hp,nU H→aF K H a (ns.map V.int)→sp [.ref a] H (fun v _=>v=.bl true) fun _ _ _=>False)
  (nV:∀H e s',CX [] H s₁ (fun _ _ _=>False) e s'→False) :
  codeAny (model P w) callerA (.call (.ref fa) ⟨[.ref a],[]⟩) (fun r s'=>r=.ok (.ret (.bool true))∧OldK s₁.heap s'.heap∧s'.os=s₁.os∧AllBare s'.gens) s₁:=by
 have rv:=sJ hi
 have zZ:=hi.length
 have core:∀H:Hp,nU H→aF K H a (ns.map V.int)→aJ P w H s₁.heap→(∀b,H b≠none→b=a)→(H a≠none→K.lookup a=none)→
   codeAny (model P w) callerA (.call (.ref fa) ⟨[.ref a],[]⟩) (fun r s'=>r=.ok (.ret (.bool true))∧OldK s₁.heap s'.heap∧s'.os=s₁.os∧AllBare s'.gens) s₁:=by
  intro H hO hS ao hA hK
  have sM:∀{b:Addr} {o:Obj},s₁.heap.get? b=some o→H b=none→(d6 s₁.heap H).get? b=some o:=fun e n=>xZ e n
  have jx:∀{b:Addr} {o:Obj} {es:Array DictEntry} {ep:Nat},s₁.heap.get? b=some o→o.data=.dict es ep→H b=none:=fun{b o es ep} e d=>by
   cases q:H b with
   | none=>rfl
   | some u=>
    have e':b=a:=hA b (by rw [q];simp)
    subst e'
    rw [ha] at e;cases e
    have d':Data.seq vs.toArray _=Data.dict es ep:=d
    cases d'
  have kT:∀{b:Addr} {m:Str→Option Value},s₁.heap.Ns b m→(d6 s₁.heap H).Ns b m:=fun{b m} ⟨o,es,ep,e,d,r⟩=>⟨o,es,ep,sM e (jx e d),d,r⟩
  have sN:K.In (d6 s₁.heap H):=fun b o e=>sM (KX b o e) (by
   cases q:H b with
   | none=>rfl
   | some u=>
    have e':b=a:=hA b (by rw [q];simp)
    subst e'
    rw [hK (by rw [q];simp)] at e;cases e)
  have hM:Mod K mg (d6 s₁.heap H):=⟨sN,kT sL,⟨mb,kT hb,zW⟩,let ⟨mc,h1,h2⟩:=zX;⟨mc,kT h1,h2⟩⟩
  have e0:kN P w K mg (d6 s₁.heap H) callerA [] s₁ H:=⟨rfl,hM,fun b o e=>x4 e,Nat.le_of_eq (xY _ _),trivial,fun b hb=>absurd (show b∈([]:List Addr) from hb) (by simp),ao,.of_eq hg⟩
  refine codeAny_mono ((F _ sN (kT sL)).run callerA [] s₁ H ⟨[.ref a],[]⟩ [.ref a] [.ref a] _ _ hr e0 (zY s₁ (.ref a)) (.cons rfl .nil) (dO H hO hS)) fun r s' h=>?_
  cases r with
  | error e=>exact (nV H e s' h).elim
  | ok fl=>
   cases fl with
   | next=>exact False.elim h
   | brk=>exact False.elim h
   | cont=>exact False.elim h
   | ret u=>
    obtain ⟨v,H',os,bare,un,z5,r',q⟩:=h
    have q':v=.bl true:=q
    subst q'
    obtain rfl:u=Value.bool true:=r'
    refine ⟨rfl,OldK.of_keep fun b o e=>?_,os,bare⟩
    cases q:H b with
    | none=>exact un.keep b o e q (by intro z;exact absurd (show b∈([]:List Addr) from z) (by simp)) (by simp)
    | some u=>
     rcases hO b with z | ⟨ob,xs,z⟩
     ·rw [q] at z;cases z
     ·have z2:=un.bF b ob _ z
      obtain ⟨e1,_⟩:=ao b _ z
      obtain ⟨e2,_⟩:=z5 b _ z2
      rw [e] at e1;cases e1
      exact e2
 cases hk:K.lookup a with
 | some o=>
  have e:=KX a o hk
  rw [ha] at e
  cases e
  refine core (fun _=>none) (fun _=>.inl rfl) (.inr ⟨_,vs.toArray,_,hk,rfl,rfl,rfl,by rw [List.size_toArray,zZ];exact hl,by simpa using rv⟩) (fun b u z=>by have z':(none:Option HO)=some u:=z;cases z') (fun b z=>absurd rfl z) fun z=>absurd rfl z
 | none=>
  refine core (fun b=>if b=a then some (.aM {cls:=.type "list",data:=.seq vs.toArray} (.lst (ns.map V.int))) else none) (fun b=>?_) (.inl (.inr ⟨{cls:=.type "list",data:=.seq vs.toArray},if_pos rfl⟩)) (fun b u z=>?_) (fun b z=>?_) fun _=>hk
  ·by_cases hb:b=a
   ·exact .inr ⟨_,_,if_pos hb⟩
   ·exact .inl (if_neg hb)
  ·by_cases hb:b=a
   ·have z':=(if_pos hb).symm.trans z
    cases z'
    subst hb
    exact ⟨ha,by rw [List.length_map];exact hl,vs,_,rv,ha⟩
   ·have z':=(if_neg hb).symm.trans z
    cases z'
  ·by_cases hb:b=a
   ·exact hb
   ·exact absurd (if_neg hb) z
abbrev sO {K:PySem.W.Frag} {h:Heap} (_:K.In h):PySem.W.Frag:=K
theorem z6{l:PySem.W.OpenLaw}{n k:Nat}{q:Program}{loose:List Str}{XP:(Str→Option Value)→Heap→Prop}{YP:World→Heap→Prop}{d:DefRec}{K:Params→PySem.W.Frag}{CX:World→b6}{sp:World→Sp}{x:Str}
  (hn:l.most=some n) (z7:n≤sizeLine) (jB:d.params.defaults=[]) (hr:bA k callerA)
  (hY:∀(w:World) (h:Heap),YP w h→(K w.params).In h)
  (F:∀(w:World) (mg:Str→Option Value) (fa:Addr) (h:Heap),(K w.params).In h→h.Ns mainGlobals mg→mg d.name=some (.ref fa)→
   ∃fd:FuncData,(∀(s:Shared) (u:Value),BindsTo s fd ⟨[u],[]⟩ [(x,u)]) ∧
    ∀base:Heap,(K w.params).In base→base.Ns mainGlobals mg→aN l.prog w (K w.params) mg base (CX w) k fa fd [x] (sp w))
  (dO:∀(w:World) (H:Hp) (a:Addr) (ns:List Int),ns.length≤n→nU H→aF (K w.params) H a (ns.map V.int)→sp w [.ref a] H (fun v _=>v=.bl true) fun _ _ _=>False)
  (nV:∀(w:World) (H:Hp) (s:Shared) (e:Value) (s':Shared),CX w [] H s (fun _ _ _=>False) e s'→False) :
  PySem.W.WalkO q loose XP YP l.row.toRowW d [] (fun f vs=>PySem.call f vs):=by
 refine kR.zU hn jB fun w s₀ s₁ mg mb fa o pm cd doc a vs ns G Y ho hd cn jC nS hints hlen hg=>?_
 have KX:=hY w _ Y
 obtain ⟨fd,hb,hF⟩:=F w mg fa _ KX G.T.g jC
 exact zV KX G.T.g G.T.b G.T.builtins G.T.nolimit hg nS hints (Nat.le_trans hlen z7) hr hF hb (fun H hO hS=>dO w H a ns hlen hO hS) fun H e s'=>nV w H s₁ e s'
def kU(s:Stmt):Arguments:=match s with
 | .FunctionDef _ a _ _ _ _ _ _ _ _=>a
 | _=>{posonlyargs:=[],args:=[],vararg:=none,kwonlyargs:=[],kw_defaults:=[],kwarg:=none,defaults:=[]}
def gZ(s:Stmt):List Stmt:=match s with
 | .FunctionDef _ _ b _ _ _ _ _ _ _=>b
 | _=>[]
def aO(s:Stmt):Scope:=match s with
 | .FunctionDef _ _ _ _ _ _ sc _ _ _=>sc
 | _=>{kind:=.function,names:=[],isGenerator:=false,isCoroutine:=false}
abbrev bt:b6:=fun _ _ _ _ _ _=>False
abbrev E0:XK:=fun _ _ _=>False
theorem a8{X:Cx}:Passes bt X E0:=fun _ _ _ _ _ _ _ h=>h.elim
structure aB (K:PySem.W.Frag) (x qual:Str) (st:Stmt) (f:Addr) (fd:FuncData):Prop where
 ex:∃(oc:Value) (od:Option Addr) (kV doc pm:Value) (an:Option Addr) (aC ct:Value) (dN:Array (Option Value)),
  fd=PySem.W.fnOf x qual (kU st) (gZ st) (aO st) .none kV doc pm an aC ct∧K.lookup f=some ⟨oc,od,.func fd,dN⟩∧PySem.W.codeIn K aC qual=true
 kp:PySem.W.keepIn K (.ref f)=true
section
variable {P:Program} {w:World} {K:PySem.W.Frag} {mg:Str→Option Value} {base:Heap}
theorem aB.ok{x qual:Str}{st:Stmt}{f:Addr}{fd:FuncData}{N ps:List Str}{k:Nat}{sp:Sp}(F:aB K x qual st f fd)(S:aY N ps (aO st))(len:∀vs H Q E,sp vs H Q E→vs.length=ps.length)
  (jy:∀(aC:Value) (A:Around) (outer:List Env) (s:Shared) (H:Hp) (vs:List V) (Q:VK) (E:XK),bA k (A.deeper (envOfC qual (aO st) s.heap.objs.size f aC))→sp vs H Q E→
   ∃t,bV (eY bt P w K mg base N qual (aO st) f aC A outer s H E).gX (gZ st) t∧t {nx:=fun _ H'=>Q .az H',rt:=Q} (start N vs) H):aN P w K mg base bt (k+1) f fd ps sp:=by
 obtain ⟨oc,od,kV,doc,pm,an,aC,ct,dN,rfl,lk,cn⟩:=F.ex
 refine rZ lk cn S len fun A outer s H vs Q E hr dO=>?_
 obtain ⟨t,h,q⟩:=jy aC A outer s H vs Q E hr dO
 exact ⟨t,h.gX,q⟩
theorem aB.binds{x qual:Str}{st:Stmt}{f:Addr}{fd:FuncData}{ps:List Str}(F:aB K x qual st f fd)
  (h:∀(kV doc pm:Value) (an:Option Addr) (aC ct:Value) (us:List Value),us.length=ps.length→bindArgs (PySem.W.fnOf x qual (kU st) (gZ st) (aO st) .none kV doc pm an aC ct) ⟨us,[]⟩=pure (ps.zip us)):Binds K fd ps []:=by
 obtain ⟨oc,od,kV,doc,pm,an,aC,ct,dN,rfl,lk,cn⟩:=F.ex
 exact .all (h kV doc pm an aC ct)
theorem bc{x qual:Str}{st:Stmt}{f:Addr}{oc:Value}{od an:Option Addr}{dN:Array (Option Value)}{kV doc pm aC ct:Value}(l:K.lookup f=some ⟨oc,od,.func (PySem.W.fnOf x qual (kU st) (gZ st) (aO st) .none kV doc pm an aC ct),dN⟩)
  (c:PySem.W.codeIn K aC qual=true) (k:PySem.W.keepIn K (.ref f)=true):aB K x qual st f (PySem.W.fnOf x qual (kU st) (gZ st) (aO st) .none kV doc pm an aC ct):=⟨⟨oc,od,kV,doc,pm,an,aC,ct,dN,rfl,l,c⟩,k⟩
end
theorem cu{n:Nat}(h:n≤1000):n<sizeLine:=Nat.lt_of_le_of_lt h (by decide)
section
variable {X:Cx}
theorem pv(i:Nat){x:Str}{pos:Pos}(hN:X.N[i]?=some x:=by rfl)(hv:kn X.env.scope x:=by first | exact Or.inl rfl | exact Or.inr (Or.inl rfl) | exact Or.inr (Or.inr rfl))(hd:(x == ("__debug__":Str))=false:=by decide)
  (cn:(x == ("__classdict__":Str))=false:=by decide):PE X (.Name x pos) (rf i):=yb hN hv hd cn
end
theorem kW{A B:Prop}(h:B):if false=true then A else B:=by
 rw [if_neg Bool.false_ne_true]
 exact h
theorem jD{A B:Prop}(h:A):if true=true then A else B:=by
 rw [if_pos rfl]
 exact h
theorem bB{c A B:Prop}[Decidable c](h1:c→A)(h2:¬c→B):if c then A else B:=by
 by_cases h:c
 ·rw [if_pos h]
  exact h1 h
 ·rw [if_neg h]
  exact h2 h
def ag(H H':Hp):Prop:=∀b o,H b=some o→H' b=some o
theorem ag.refl(H:Hp):ag H H:=fun _ _ h=>h
theorem ag.trans{H H1 H2:Hp}(a:ag H H1)(b:ag H1 H2):ag H H2:=fun c o h=>b c o (a c o h)
theorem ag.seq{K:PySem.W.Frag}{H H':Hp}{a:Addr}{xs:List V}(e:ag H H')(h:aF K H a xs):aF K H' a xs:=by
 rcases h with (h | ⟨o,h⟩) | h
 ·exact .inl (.inl (e _ _ h))
 ·exact .inl (.inr ⟨o,e _ _ h⟩)
 ·exact .inr h
end L2
set_option maxHeartbeats 4000000
namespace L2
open PySem PySem.Spec PyProof.Rows
theorem aI.here{P:Program}{w:World}{H:Hp}{h:Heap}{a:Addr}{o:HO}(x:aI P w H h a o):∃ob,h.get? a=some ob:=by
 cases o with
 | lst xs=>obtain ⟨_,_,_,_,e⟩:=x;exact ⟨_,e⟩
 | tup xs=>obtain ⟨_,_,_,ob,e,_⟩:=x;exact ⟨_,e⟩
 | dK ai=>obtain ⟨_,_,_,_,ob,_,_,e,_⟩:=x;exact ⟨_,e⟩
 | dT ai=>obtain ⟨_,_,_,_,ob,_,_,e,_⟩:=x;exact ⟨_,e⟩
 | set S n=>obtain ⟨ob,_,_,_,e,_⟩:=x;exact ⟨_,e⟩
 | ins C dx fs=>obtain ⟨_,_,_,e,_⟩:=x;exact ⟨_,e⟩
 | own y=>exact x
 | xd fs=>obtain ⟨_,⟨_,_,_,e,_⟩,_⟩:=x;exact ⟨_,e⟩
 | cj lo hi=>obtain ⟨_,_,_,e⟩:=x;exact ⟨_,e⟩
 | aM ob u=>obtain ⟨e,_⟩:=x;exact ⟨_,e⟩
 | dG ps=>exact ⟨_,x⟩
 | met f y=>exact ⟨_,x⟩
 | ext φ=>exact x.2.1
structure cw (P:Program) (w:World) (outer:List Env) (H:Hp) (s:Shared) (H':Hp) (ea C:Addr) (B:Heap) (t:Addr) (s':Shared):Prop where
 os:s'.os=s.os
 bare:AllBare s'.gens
 fl:Heap.FlyingW B outer ea (.ref C) (.ref t) s'.heap
 ao:aJ P w H' B
 kb:∀b o,s.heap.get? b=some o→H b=none→b∉aQ outer→B.get? b=some o
 tb:∀b o,s.heap.get? b=some o→b∉aQ outer→∃o',B.get? b=some o'
 sl:∀b o,s.heap.get? b=some o→H b=none→b∈aQ outer→∃l,s'.heap.get? b=some {o with slots:=l}
 z8:∀b∈aQ outer,H b=none
 sP:∀b o,s.heap.get? b=some o→H b=none→H' b=none
 bI:∀b xs,H b=some (.tup xs)→H' b=some (.tup xs)
 bF:∀b o u,H b=some (.aM o u)→H' b=some (.aM o u)
 bJ:∀b ps,H b=some (.dG ps)→∃more,H' b=some (.dG (ps++more))
def bO(P:Program)(w:World):b6:=fun outer H s E e s'=>∃ea C H' B t,e=.ref ea∧cw P w outer H s H' ea C B t s'∧E (.ref C) none H'
section
variable {P:Program} {w:World} {outer:List Env} {H H':Hp} {s s':Shared} {ea C t:Addr} {B:Heap}
theorem cw.nW(f:cw P w outer H s H' ea C B t s'):H' ea=none:=by
 cases q:H' ea with
 | none=>rfl
 | some u=>
  obtain ⟨ob,e⟩:=(f.ao ea u q).here
  rw [f.fl.2.1] at e
  cases e
theorem cw.un(f:cw P w outer H s H' ea C B t s'){h:Heap}(st:B.StaysIn h)(up:s'.heap.UpToSlots h):Un (aQ outer) [] H H' s.heap h where
 keep:=fun b o e n hb _=>st b o (f.kb b o e n hb)
 slot:=fun b o e n hb _=>by
  obtain ⟨l,q⟩:=f.sl b o e n hb
  obtain ⟨_,o2,q2,nf⟩:=f.fl.2.2.1.mem hb
  rw [q] at q2
  cases q2
  obtain ⟨l2,q3⟩:=up b _ q nf
  exact ⟨l2,q3⟩
 free:=fun b o e n _=>f.sP b o e n
 there:=fun b o e _=>by
  by_cases hb:b∈aQ outer
  ·obtain ⟨l,q⟩:=f.sl b o e (f.z8 b hb) hb
   obtain ⟨_,o2,q2,nf⟩:=f.fl.2.2.1.mem hb
   rw [q] at q2
   cases q2
   obtain ⟨l2,q3⟩:=up b _ q nf
   exact ⟨_,q3⟩
  ·obtain ⟨o',q⟩:=f.tb b o e hb
   exact ⟨o',st b o' q⟩
 bI:=f.bI
 bF:=f.bF
 bJ:=f.bJ
def ExcAt(ea C:Addr)(h:Heap):Prop:=∃oe,h.get? ea=some oe∧oe.cls=.ref C∧PySem.W.notCls oe=true
def dw(ea C:Addr):HO:=.ext (ExcAt ea C)
theorem z9{l:List Env}{h:Heap}(x:Heap.FlyingW B l ea (.ref C) (.ref t) h):ExcAt ea C h:=by
 obtain ⟨oe,vs,e,c,d,_⟩:=x.first
 refine ⟨oe,e,c,?_⟩
 obtain ⟨_,_,dt,_⟩:=oe
 cases d
 rfl
theorem aJ.exc{h:Heap}(x:aJ P w H' h)(n:H' ea=none)(k:ExcAt ea C h):aJ P w (upd H' ea (dw ea C)) h:=fun b u e=>by
 by_cases hb:b=ea
 ·subst hb
  rw [ak] at e
  cases e
  obtain ⟨oe,e1,e2⟩:=k
  refine ⟨⟨oe,e1,e2⟩,⟨oe,e1⟩,fun h1 h2 ⟨o1,a1,a2⟩ z=>⟨o1,z o1 a1,a2⟩⟩
 ·rw [ay hb] at e
  refine (x b u e).cQ (fun c v _ q=>q) (fun c q=>?_) fun c xs q=>?_
  ·rw [ay (b4 q n)]
   exact q
  ·rw [ay (b4 q n)]
   exact q
theorem Un.exc{fs ex:List Addr}{h h':Heap}(u:Un fs ex H H' h h')(n:H' ea=none)(k:∀b o,h.get? b=some o→b≠ea){o:HO}:Un fs ex H (upd H' ea o) h h' where
 keep:=u.keep
 slot:=u.slot
 free:=fun b ob e z hx=>by
  rw [ay (k b ob e)]
  exact u.free b ob e z hx
 there:=u.there
 bI:=fun b xs e=>by
  have q:=u.bI b xs e
  rw [ay (b4 q n)]
  exact q
 bF:=fun b ob xs e=>by
  have q:=u.bF b ob xs e
  rw [ay (b4 q n)]
  exact q
 bJ:=fun b ps e=>by
  obtain ⟨m,q⟩:=u.bJ b ps e
  refine ⟨m,?_⟩
  rw [ay (b4 q n)]
  exact q
theorem cw.apart(f:cw P w outer H s H' ea C B t s'):∀b o,s.heap.get? b=some o→b≠ea:=fun b o e z=>by
 subst z
 by_cases hb:b∈aQ outer
 ·obtain ⟨_,o2,q2,nf⟩:=f.fl.2.2.1.mem hb
  obtain ⟨oe,vs,q3,_,d,_⟩:=f.fl.first
  rw [q2] at q3
  cases q3
  exact nf _ d
 ·obtain ⟨o',q⟩:=f.tb b o e hb
  rw [f.fl.2.1] at q
  cases q
end
section
variable {X:Cx} {pins:List (Addr×Obj)} {σ:St} {H H':Hp} {s s':Shared} {ea C t:Addr} {B:Heap}
theorem HM{P:Addr→Prop}:∀b∈([]:List Addr),P b:=fun _ z=>nomatch z
theorem cw.land(I:Inv X pins σ H s)(f:cw X.prog X.w X.stack H s H' ea C B t s'){h:Heap}{tk:Nat}(st:B.StaysIn h)(up:s'.heap.UpToSlots h):Inv X pins σ H' {s' with heap:=h,toks:=tk}:=
 I.fD (s':={s' with heap:=h,toks:=tk}) (ch:=[]) f.os (f.un st up) (f.ao.kept fun b o e=>st b o e) f.bare (fun _ z=>nomatch z)
theorem cw.z_(I:Inv X pins σ H s)(f:cw X.prog X.w X.stack H s H' ea C B t s'){h:Heap}{tk:Nat}(x:Heap.FlyingW B X.stack ea (.ref C) (.ref t) h)(up:s'.heap.UpToSlots h):Inv X pins σ (upd H' ea (dw ea C)) {s' with heap:=h,toks:=tk}:=
 I.fD (s':={s' with heap:=h,toks:=tk}) (ch:=[]) f.os ((f.un x.1 up).exc f.nW f.apart) ((f.ao.kept fun b o e=>x.1 b o e).exc f.nW (z9 x)) f.bare (fun _ z=>nomatch z)
structure jE (X:Cx) (E:XK):Prop where
 ck:X.stack=X.env::X.outer
 fr:X.env.frame=some X.env.locals
 ex:X.ex=[]
 xe:X.xe=fun e s'=>wpAny (model X.prog X.w) X.A (leaving X.env e) (fun _ dM=>bO X.prog X.w X.outer X.H₀ X.s₀ E e dM) (fun e' dM=>bO X.prog X.w X.outer X.H₀ X.s₀ E e' dM) s'
theorem kX{env:Env}{outer:List Env}{L:Addr}(h:env.frame=some L):aQ (env::outer)=L::aQ outer:=by
 unfold aQ
 rw [List.filterMap_cons,h]
theorem cw.leave{E:XK}(L:jE X E)(I:Inv X pins σ H s)(f:cw X.prog X.w X.stack H s H' ea C B t s'){h:Heap}(x:Heap.FlyingW B X.outer ea (.ref C) (.ref t) h)(up:s'.heap.UpToSlots h):cw X.prog X.w X.outer X.H₀ X.s₀ H' ea C B t {s' with heap:=h}:=by
 have nL:∀b o,X.s₀.heap.get? b=some o→b≠X.env.locals:=fun b o e=>Nat.ne_of_lt (Nat.lt_of_lt_of_le (Heap.lt_size e) I.ok.above)
 have ns:∀b o,X.s₀.heap.get? b=some o→b∉aQ X.outer→b∉aQ X.stack:=fun b o e nb z=>by
  rw [L.ck,kX L.fr] at z
  rcases List.mem_cons.mp z with z | z
  ·exact nL b o e z
  ·exact nb z
 have nx:∀b:Addr,b∉X.ex:=fun b z=>by rw [L.ex] at z;cases z
 refine ⟨f.os.trans I.os,f.bare,x,f.ao,fun b o e n nb=>?_,fun b o e nb=>?_,fun b o e n hb=>?_,I.ok.d7,fun b o e n=>?_,fun b xs e=>f.bI b xs (I.base.bI b xs e),fun b o u e=>f.bF b o u (I.base.bF b o u e),fun b ps e=>?_⟩
 ·exact f.kb b o (I.base.keep b o e n nb (nx b)) (I.base.free b o e n (nx b)) (ns b o e nb)
 ·obtain ⟨o',e'⟩:=I.base.there b o e (nx b)
  exact f.tb b o' e' (ns b o e nb)
 ·obtain ⟨l,q⟩:=I.base.slot b o e n hb (nx b)
  have hs:b∈aQ X.stack:=by rw [L.ck,kX L.fr];exact List.mem_cons_of_mem _ hb
  obtain ⟨l2,q2⟩:=f.sl b _ q (I.base.free b o e n (nx b)) hs
  obtain ⟨_,o2,q3,nf⟩:=f.fl.2.2.1.mem hs
  rw [q2] at q3
  cases q3
  obtain ⟨l3,q4⟩:=up b _ q2 nf
  exact ⟨l3,q4⟩
 ·obtain ⟨o',e'⟩:=I.base.there b o e (nx b)
  exact f.sP b o' e' (I.base.free b o e n (nx b))
 ·obtain ⟨m1,e1⟩:=I.base.bJ b ps e
  obtain ⟨m2,e2⟩:=f.bJ b _ e1
  exact ⟨m1++m2,by rw [e2,Array.append_assoc]⟩
theorem Aa:Passes (bO X.prog X.w) X (fun _ _ _=>False):=fun pins σ H s e s' I h=>by
 obtain ⟨_,_,_,_,_,_,_,q⟩:=h
 exact q.elim
theorem dy{E:XK}(L:jE X E):Passes (bO X.prog X.w) X E:=fun pins σ H s e s' I h=>by
 obtain ⟨ea,C,H',B,t,rfl,f,q⟩:=h
 rw [L.xe]
 refine wpAny_leaves_onW (by rw [I.ok.frames,L.ck]) L.fr (by have z:=f.fl;rw [L.ck] at z;exact z) fun h' x up=>?_
 exact ⟨ea,C,H',B,t,rfl,f.leave L I x up,q⟩
end
theorem nX{K:PySem.W.Frag}{h:Heap}{C:Addr}{cL:List Value}{newId:String}(aU:K.In h)(hq:PySem.W.excIn K C cL newId=true) :
  ∃bm N nm qn bs hdct sn sub ab col dd k0 k1 k2 k3 k5 mN,h.get? C=some (excClassObj nm qn C N bs bm hdct sn sub ab col dd k0 k1 k2 k3 k5 newId)∧h.Ns N mN∧mN "__init__" = none∧OwnTail h cL bm∧PySem.W.mroIn K C=fun b=>some ((Value.ref C::bm).contains b):=by
 unfold PySem.W.excIn at hq
 split at hq
 ·rename_i g6 cls slt look
  split at hq
  ·rename_i CC rest a0 a1 a2 a3 nn a5 em es
   simp only [Bool.and_eq_true,beq_iff_eq,Bool.not_eq_true'] at hq
   obtain ⟨⟨⟨⟨⟨e1,e2⟩,e3⟩,e4⟩,e5⟩,e6⟩:=hq
   subst e1 e2
   have kY:PySem.W.mroIn K CC=fun b=>some ((Value.ref CC::rest).contains b):=by
    funext b
    unfold PySem.W.mroIn PySem.W.clsIn
    rw [look]
    simp [em]
   obtain ⟨c1,c2,c3,c4,c5,c6,c7,c8,c9,Ab,HN⟩:=cls
   dsimp only at em e3 e5 e6
   subst em e3
   have Ac:slt = #[a0,a1,a2,a3,some (.builtin nn),a5]:=by
    obtain ⟨ll⟩:=slt
    simp only at es
    rw [es]
   subst Ac
   exact ⟨rest,c4,c1,c5,c2,c6,c7,c8,c9,Ab,g6,a0,a1,a2,a3,a5,_,aU _ _ look,.of_isNs (PySem.W.isNs_of_in aU e5),PySem.W.nsMap_none_of_in aU e5 e6,PySem.W.tail_of_in aU e4,kY⟩
  ·cases hq
 ·cases hq
section
variable {X:Cx} {E:XK} {x:Str} {C:Addr} {np cK pos:Pos} {e:Expr} {es:List Expr} {ta:TA} {B newId Ad:String} {cL:List Value}
def Ae(C:Addr)(E:XK)(ta:TA):TS:=fun _ σ H=>ta σ H fun vs H1=>vs.length≤sizeLine∧E (.ref C) none H1
theorem sQ(L:jE X E)(hc:X.calm=true)(FB:ExcBaseFacts B newId Ad cL)(hq:PySem.W.excIn X.K C cL newId=true)(hg:Gl X x)(hm:X.mg x=some (.ref C))(ha:PA X (e::es) ta)
  (hs:starEach (e::es) X.env=(false,eval e X.env)::starEach es X.env:=by rfl) (hp:(backTo cK (starEach es X.env)).any (·.1)=false:=by rfl) (hd:(x == ("__debug__":Str))=false:=by decide) :
  PS X (.Raise (some (.Call (.Name x np) (e::es) [] cK)) none pos) (Ae C E ta):=by
 intro pins s σ H D I h
 obtain ⟨bm,N,nm,qn,bs,hdct,sn,sub,ab,col,dd,k0,k1,k2,k3,k5,mN,hC,hN,sR,T,_⟩:=nX I.ok.mod.aU hq
 refine wpAny_Raise_call_subT (C:=C) (nm:=nm) (q:=qn) (N:=N) (bs:=bs) (bm:=bm) (hdct:=hdct) (sn:=sn) (sub:=sub) (ab:=ab) (col:=col) (dd:=dd) (k0:=k0) (k1:=k1) (k2:=k2) (k3:=k3) (k5:=k5) FB (mN:=mN) (T.hasType FB.hasBase) (I.ok.hd hc)
  (by rw [hs];show (false || (backTo cK (starEach es X.env)).any (·.1))=false;rw [hp];rfl) sR (ji I hg hm ⟨rfl,?_⟩ hd)
 have h1:=ha cK pins s σ H _ I h
 rw [hs] at h1 ⊢
 refine Calls.evalArgs_plain (av h1 fun us s2 ⟨vs,H1,I1,r,hl,q⟩=>⟨rfl,by rw [←r.length];exact hl,I1.bk _ _ hC,hN.keeps I1.bk,T.keeps I1.bk,fun h' ea mk=>?_⟩)
 rw [L.xe]
 have nL:∀b o,X.s₀.heap.get? b=some o→b≠X.env.locals:=fun b o q=>Nat.ne_of_lt (Nat.lt_of_lt_of_le (Heap.lt_size q) I1.ok.above)
 have ns:∀b o,X.s₀.heap.get? b=some o→b∉aQ X.outer→b∉aQ X.stack:=fun b o q nb z=>by
  rw [L.ck,kX L.fr] at z
  rcases List.mem_cons.mp z with z | z
  ·exact nL b o q z
  ·exact nb z
 have nx:∀b:Addr,b∉X.ex:=fun b z=>by rw [L.ex] at z;cases z
 have ff:s2.heap.FunFrames (PySem.W.hideAll s2.heap (aQ X.stack)) (X.env::X.outer):=by
  have z:=I1.stack
  rw [←L.ck]
  exact PySem.W.funFrames_hide z fun env he a hf=>List.mem_filterMap.mpr ⟨env,he,hf⟩
 refine wpAny_leaves_madeW (base:=PySem.W.hideAll s2.heap (aQ X.stack)) (h:=s2.heap) (by rw [I1.ok.frames,L.ck]) L.fr (fun b o q=>PySem.W.of_hideAll _ q) ff mk fun h2 t fl _ _ up=>?_
 refine ⟨ea,C,H1,_,t,rfl,⟨I1.os,I1.bare,fl,fun a o e1=>?_,fun b o e1 n nb=>?_,fun b o e1 nb=>?_,fun b o e1 n hb=>?_,I1.ok.d7,fun b o e1 n=>?_,I1.base.bI,I1.base.bF,I1.base.bJ⟩,q⟩
 ·refine (I1.ao a o e1).cQ (fun b u hb e2=>PySem.W.hideAll_get _ e2 fun z=>?_) (fun _ z=>z) fun _ _ z=>z
  have n0:=I1.kq b z
  rcases hb with hb | hb
  ·subst hb
   rw [e1] at n0
   cases n0
  ·rw [hb] at n0
   cases n0
 ·exact PySem.W.hideAll_get _ (I1.base.keep b o e1 n nb (nx b)) (ns b o e1 nb)
 ·obtain ⟨o',e2⟩:=I1.base.there b o e1 (nx b)
  exact ⟨o',PySem.W.hideAll_get _ e2 (ns b o e1 nb)⟩
 ·obtain ⟨l,e2⟩:=I1.base.slot b o e1 n hb (nx b)
  have kH:b∈aQ X.stack:=by rw [L.ck,kX L.fr];exact List.mem_cons_of_mem _ hb
  obtain ⟨_,o2,e3,nf⟩:=I1.stack.mem kH
  rw [e2] at e3
  cases e3
  obtain ⟨l2,e4⟩:=up b _ (mk.keeps _ _ e2) nf
  exact ⟨l2,e4⟩
 ·obtain ⟨o',e2⟩:=I1.base.there b o e1 (nx b)
  exact I1.base.free b o e1 n (nx b)
end
def nY(X:Cx)(pins:List (Addr×Obj))(σ:St)(E:XK)(e:Value)(s':Shared):Prop:=∃s₁ H₁,Inv X pins σ H₁ s₁∧bO X.prog X.w X.stack H₁ s₁ E e s'
abbrev TX:=St→Hp→VK→XK→Prop
def sS(X:Cx)(e:Expr)(t:TX):Prop:=
 ∀(pins:List (Addr×Obj)) (s:Shared) (σ:St) (H:Hp) (Q:VK) (E:XK),Inv X pins σ H s→t σ H Q E→wpAny (model X.prog X.w) X.A (eval e X.env) (EP X pins σ Q) (nY X pins σ E) s
abbrev kZ:=Ends→XK→St→Hp→Prop
def sU(X:Cx)(st:List Stmt)(t:kZ):Prop:=
 ∀(pins:List (Addr×Obj)) (s:Shared) (σ:St) (H:Hp) (D:Ends) (E:XK),Inv X pins σ H s→t D E σ H→wpAny (model X.prog X.w) X.A (execs st X.env) (SP X pins D) (nY X pins σ E) s
section
variable {X:Cx} {k:Nat} {f C:Addr} {fd:FuncData} {ps:List Str} {sp:Sp} {bN:List V} {ds:List Value} {x m:Str} {p pos apos:Pos} {e o:Expr} {es:List Expr} {ta:TE} {t:TA}
theorem Af{pins:List (Addr×Obj)}{σ:St}{H:Hp}{s:Shared}{Q:VK}{E:XK}{us:List Value}{vs:List V}(F:aN X.prog X.w X.K X.mg X.base (bO X.prog X.w) k f fd ps sp)(hr:bA k X.A)(hb:Binds X.K fd ps ds)(hd:Vals bN ds)
  (I:Inv X pins σ H s) (r:Vals vs us) (h:sp (vs++bN) H Q E):wpAny (model X.prog X.w) X.A (call (.ref f) us) (EP X pins σ Q) (nY X pins σ E) s:=by
 have r2:Vals (vs++bN) (us++ds):=r.append hd
 have hl:(us++ds).length=ps.length:=by rw [←r2.length];exact F.len _ _ _ _ h
 refine wpAny_call (codeAny_mono (F.run X.A X.stack s H ⟨us,[]⟩ (us++ds) (vs++bN) Q E hr I.rQ (hb s us I.bf hl) r2 h) fun r s' hq=>?_)
 cases r with
 | error e=>exact ⟨s,H,I,hq⟩
 | ok fl=>
  cases fl with
  | ret u=>exact I.after hq
  | next=>exact False.elim hq
  | brk=>exact False.elim hq
  | cont=>exact False.elim hq
def Ag(sp:Sp)(bN:List V)(t:TA):TX:=fun σ H Q E=>t σ H fun vs H1=>sp (vs++bN) H1 Q E
theorem Ah(F:aN X.prog X.w X.K X.mg X.base (bO X.prog X.w) k f fd ps sp)(hr:bA k X.A)(hg:Gl X x)(hm:X.mg x=some (.ref f))(hk:PySem.W.keepIn X.K (.ref f)=true)(hb:Binds X.K fd ps ds)(hd:Vals bN ds)
  (ha:PA X.gX (e::es) t) (fM:(x == ("__debug__":Str))=false:=by decide) (he:starEach (e::es) X.env=(false,eval e X.env)::starEach es X.env:=by rfl) (eX:(backTo pos (starEach es X.env)).any (·.1)=false:=by rfl) :
  sS X (.Call (.Name x p) (e::es) [] pos) (Ag sp bN t):=by
 intro pins s σ H Q E I h
 refine wpAny_Call_Name_kw (ji I hg hm ?_ fM)
 refine PySem.W.callWith_K (h₀:=X.base) I.ok.mod.aU hk (wpAny_mono (ha pos pins s σ H _ (I.dj _) h) (fun us s1 ⟨vs,H1,I1,r,q⟩=>⟨I1.bf,?_⟩) fun _ _ z=>z.elim) he eX
 exact Af F hr hb hd I1.d_ r q
variable {te:TX} {i:Nat} {pos':Pos}
def Ai(te:TX):kZ:=fun D E σ H=>te σ H (fun _ H1=>D.nx σ H1) E
theorem Aj(he:sS X e te)(hs:swapsWith e none pos.line X.env=pure false:=by rfl):sU X [.Expr e pos] (Ai te):=by
 intro pins s σ H D E I h
 refine wpAny_execs_cons (wpAny_mono (Q:=fun f s'=>f=.next∧SP X pins D .next s') (wpAny_Expr_any (wpAny_mono (he pins s σ H _ E I h) (fun v s1 ⟨y,H1,I1,r1,q1⟩=>⟨rfl,σ,H1,I1,q1⟩) fun _ _ z=>z) I.quiet hs) (fun f s1 q=>?_) fun _ _ z=>z)
 obtain ⟨rfl,q⟩:=q
 exact wpAny_execs_nil q
end
abbrev Cx.cX (X:Cx) (ea:Addr):Cx:={X with A:=X.A.mark (some (.ref ea)),calm:=false,xe:=fun _ _=>False}
section
variable {X:Cx} {pins:List (Addr×Obj)} {σ:St} {H:Hp} {s:Shared} {ea:Addr}
theorem Cx.Ok.cX(ok:X.Ok):(X.cX ea).Ok:=
 ⟨ok.mod,ok.kind,ok.glob,ok.blt,ok.above,ok.inj,ok.has,ok.gT,(fun z=>nomatch z),ok.frames,ok.ck,ok.mZ,ok.bs,ok.dh,ok.fA,ok.fB,ok.cR,ok.d7⟩
theorem Inv.cX(I:Inv X pins σ H s):Inv (X.cX ea) pins σ H s:=⟨I.ok.cX,I.os,I.bare,I.base,I.loc,I.cell,I.free,I.cm,I.pin,I.ao,I.len⟩
theorem Inv.g7(ok:X.Ok)(I:Inv (X.cX ea) pins σ H s):Inv X pins σ H s:=⟨ok,I.os,I.bare,I.base,I.loc,I.cell,I.free,I.cm,I.pin,I.ao,I.len⟩
theorem SP.g7(ok:X.Ok){D:Ends}{f:Flow}(h:SP (X.cX ea) pins D f s):SP X pins D f s:=by
 cases f with
 | next=>obtain ⟨a,b,I,q⟩:=h;exact ⟨a,b,I.g7 ok,q⟩
 | brk=>obtain ⟨a,b,I,q⟩:=h;exact ⟨a,b,I.g7 ok,q⟩
 | cont=>obtain ⟨a,b,I,q⟩:=h;exact ⟨a,b,I.g7 ok,q⟩
 | ret u=>obtain ⟨v,a,b,I,r,q⟩:=h;exact ⟨v,a,b,I.g7 ok,r,q⟩
theorem k4{M:Model}{A:Around}{E:Value→Shared→Prop}{i:Nat}{n:Str}{pos:Pos}{Q:Unit→Shared→Prop}(I:Inv X pins σ H s)(hN:X.N.Nodup)(hi:X.N[i]?=some n)(hk:X.env.scope.names.lookup n=some .local)
  (h:∀s',Inv X pins (σ.set i none) H s'→Q () s'):wpAny M A (do bindName X.env n .none;unbindBehindTheSuite X.env n pos) Q E s:=by
 obtain ⟨m,hn,hl⟩:=id I.loc
 refine wpAny_nameGoes_keeps hk hn (by rw [I.ok.kind];rfl) fun h' v m8 hs=>h _ ?_
 have di:=I.di
 have ku:i<σ.length:=by rw [I.len];exact (List.getElem?_eq_some_iff.mp hi).1
 have old:∀b o,X.s₀.heap.get? b=some o→b≠X.env.locals:=fun b o e=>Nat.ne_of_lt (Nat.lt_of_lt_of_le (Heap.lt_size e) I.ok.above)
 refine ⟨I.ok,I.os,I.bare,⟨fun b o e z hb hx=>?_,fun b o e z hb hx=>?_,I.base.free,fun b o e hx=>?_,I.base.bI,I.base.bF,I.base.bJ⟩,⟨_,m8,fun j y v' e1 e2 e3=>?_⟩,fun y c e=>?_,I.free,I.cm,fun p hp=>?_,fun b ob e=>?_,by simpa using I.len⟩
 ·exact (hs.2 b (old b o e)).trans (I.base.keep b o e z hb hx)
 ·obtain ⟨sl,q⟩:=I.base.slot b o e z hb hx
  exact ⟨sl,(hs.2 b (old b o e)).trans q⟩
 ·obtain ⟨o',q⟩:=I.base.there b o e hx
  exact ⟨o',(hs.2 b (old b o e)).trans q⟩
 ·by_cases hj:j=i
  ·subst hj
   rw [List.getElem?_set_self ku] at e2
   cases e2
  ·rw [List.getElem?_set_ne (Ne.symm hj)] at e2
   obtain ⟨u',r',q⟩:=hl j y v' e1 e2 e3
   refine ⟨u',r',?_⟩
   rcases q with ⟨k,z⟩ | ⟨k,c,z1,z2⟩
   ·refine .inl ⟨k,?_⟩
    have ne:y≠n:=fun z=>hj (m6 hN e1 (z▸hi))
    simp [ne,z]
   ·exact .inr ⟨k,c,z1,z2.sameBut hs (di y c z1)⟩
 ·obtain ⟨w',z⟩:=I.cell y c e
  exact ⟨w',z.sameBut hs (di y c e)⟩
 ·obtain ⟨a1,a2,a3,a4⟩:=I.pin p hp
  exact ⟨(hs.2 _ a3).trans a1,a2,a3,a4⟩
 ·refine (I.ao b ob e).cQ (fun c w' hc q=>(hs.2 c ?_).trans q) (fun _ q=>q) fun _ _ q=>q
  intro z
  have z':c=X.env.locals:=z
  have fr:=I.free
  rcases hc with hc | hc
  ·rw [←z',hc,e] at fr
   cases fr
  ·rw [←z',hc] at fr
   cases fr
end
section
variable {M:Model} {A:Around} {E:Value→Shared→Prop} {h:Heap} {g:Array GenState} {d:Drawn} {t:Nat} {os:OsState} {e:Addr} {oe:Obj} {Q:Bool→Shared→Prop}
variable {nm q sV q':Str} {C N D N':Addr} {bs bm sW k6:List Value} {hdct sX:Bool} {sn sY:List Str} {sub k8:List Value} {ab sZ:Bool} {col s_:Option Bool} {dd fQ:Option Addr} {k0 k1 k2 k3 k5 j0 j1 j2 j3 j5:Option Value} {newId Ak:String}
theorem Al(hC:h.get? C=some (excClassObj nm q C N bs bm hdct sn sub ab col dd k0 k1 k2 k3 k5 newId))(hD:h.get? D=some (excClassObj sV q' D N' sW k6 sX sY k8 sZ s_ fQ j0 j1 j2 j3 j5 Ak))(he:h.get? e=some oe)(m7:oe.cls=.ref C)
  (jA:k6.contains (.type "BaseException")=true) (Am:(Value.ref C::bm).contains (.ref D)=true) (hq:Q true ⟨h,g,d,t,os⟩):wpAny M A (excMatches (.ref e) (.ref D)) Q E ⟨h,g,d,t,os⟩:=by
 have An:(Value.ref D::k6).contains (.type "BaseException")=true:=by rw [List.contains_cons,jA,Bool.or_true]
 have f:=tc_notTuple
 unfold excMatches
 repeat (first | (with_reducible refine wpAny_loadPart_at he ?_;rw [m7]) | with_reducible refine wpAny_loadPart_at hD ?_ | (with_reducible refine wpAny_isSubtype_exc hD ?_;rw [An]) | (with_reducible refine wpAny_isSubtype_exc hC ?_;rw [Am]) | wp_step)
 exact hq
end
def Ao(K:PySem.W.Frag)(cL:List Value)(newId:String)(C D:Addr):Prop:=PySem.W.excIn K C cL newId=true∧PySem.W.mroIn K C (.ref D)=some true
section
variable {X:Cx} {body:List Stmt} {b₀:Stmt} {tf:List Stmt} {np Ap pos:Pos} {x n:Str} {D:Addr} {tb:kZ} {ts:TS} {cL:List Value} {newId:String} {i:Nat}
def Ends.tj(En:Ends)(i:Nat):Ends:={nx:=fun σ H=>En.nx (σ.set i none) H,rt:=En.rt,bk:=fun σ H=>En.bk (σ.set i none) H,ct:=fun σ H=>En.ct (σ.set i none) H}
def Aq(K:PySem.W.Frag)(cL:List Value)(newId:String)(D:Addr)(i:Nat)(tb:kZ)(ts:TS):TS:=fun En σ H=>
 tb En (fun c _ H'=>∃C,c=.ref C∧Ao K cL newId C D∧∀ea,H' ea=none→ts (En.tj i) (σ.set i (some (.ref ea))) (upd H' ea (dw ea C))) σ H
theorem Ar(nZ:X.stack=X.env::X.outer)(k_:X.env.frame=some X.env.locals)(hN:X.N.Nodup)(hi:X.N[i]?=some n)(hk:X.env.scope.names.lookup n=some .local)(hb:sU X body tb)(hs:∀ea,bV (X.cX ea) (b₀::tf) ts)(hg:Gl X x)(hm:X.mg x=some (.ref D))
  (hq:PySem.W.excIn X.K D cL newId=true) (jA:cL.contains (.type "BaseException")=true) (hd:(x == ("__debug__":Str))=false:=by decide) :
  PS X (.Try body [.ExceptHandler (some (.Name x np)) (some n) (b₀::tf) Ap] [] [] pos) (Aq X.K cL newId D i tb ts):=by
 intro pins s σ H En I h
 refine wpAny_Try_except (wpAny_mono (hb pins s σ H En _ I h) (fun f s1 q=>?_) fun e s1 q=>?_)
 ·cases f with
  | next=>exact wpAny_execs_nil q
  | brk=>exact q
  | cont=>exact q
  | ret u=>exact q
 ·obtain ⟨s₁,H₁,I₁,ea,C',H',B,t,rfl,f,C,eC,⟨As,kY⟩,Au⟩:=q
  cases eC
  have fl:=f.fl
  rw [nZ] at fl
  refine wpAny_looks_onW (by rw [I.ok.frames,nZ]) k_ fl fun h₄ held Av=>?_
  refine wpAny_landsW held fun h₅ n4 Aw=>?_
  have up:=Av.trans Aw
  have I₅:Inv X pins σ H' {s1 with heap:=h₅}:=f.land (tk:=s1.toks) I₁ n4.1 up
  obtain ⟨ob,Ax,Ay⟩:=n4.there
  refine wpAny_handleBy_cons (codeAny_handlers_test ?_) (by intro z;cases z)
  refine ji (X:=X.cX ea) I₅.cX hg hm ?_ hd
  obtain ⟨bm,N,nm,qn,bs,hdct,sn,sub,ab,col,dd,k0,k1,k2,k3,k5,mN,hC,HP,sR,T,eM⟩:=nX I₅.bf As
  obtain ⟨k6,N',sV,HQ,sW,sX,sY,k8,sZ,s_,fQ,j0,j1,j2,j3,j5,HR,hD,HS,HU,T',_⟩:=nX I₅.bf hq
  rw [eM] at kY
  refine Al hC hD Ax Ay (T'.hasType jA) (Option.some.inj kY) (codeAny_handlers_suite_as ?_)
  refine lands_againW n4 fun h₆ Az AA=>?_
  have tm:=Az
  rw [←nZ] at tm
  have I₆:Inv X pins σ (upd H' ea (dw ea C')) {s1 with heap:=h₆}:=f.z_ (tk:=s1.toks) I₁ tm (up.trans AA)
  refine jh (X:=X.cX ea) (v:=.ref ea) I₆.cX hN hi (.inl hk) rfl (fun s2 I2=>?_) (.inr hk)
  refine wpAny_mono (hs ea pins _ _ _ (En.tj i) I2 (Au ea f.nW)) (fun f s' q=>?_) fun _ _ z=>z.elim
  have q:=q.g7 I.ok
  cases f with
  | next=>obtain ⟨a,b,J,q⟩:=q;exact k4 J hN hi hk fun s3 J3=>⟨_,_,J3,q⟩
  | brk=>obtain ⟨a,b,J,q⟩:=q;exact k4 J hN hi hk fun s3 J3=>⟨_,_,J3,q⟩
  | cont=>obtain ⟨a,b,J,q⟩:=q;exact k4 J hN hi hk fun s3 J3=>⟨_,_,J3,q⟩
  | ret u=>obtain ⟨v,a,b,J,r,q⟩:=q;exact k4 J hN hi hk fun s3 J3=>⟨v,_,_,J3,r,q⟩
end
section
variable {P:Program} {w:World} {K:PySem.W.Frag} {mg:Str→Option Value} {base:Heap}
theorem aB.fg{x qual:Str}{st:Stmt}{f:Addr}{fd:FuncData}{N ps:List Str}{k:Nat}{sp:Sp}(F:aB K x qual st f fd)(S:aY N ps (aO st))(len:∀vs H Q E,sp vs H Q E→vs.length=ps.length)
  (jy:∀(aC:Value) (A:Around) (outer:List Env) (s:Shared) (H:Hp) (vs:List V) (Q:VK) (E:XK),bA k (A.deeper (envOfC qual (aO st) s.heap.objs.size f aC))→sp vs H Q E→
   jE (eY (bO P w) P w K mg base N qual (aO st) f aC A outer s H E) E→
   ∃t,bV (eY (bO P w) P w K mg base N qual (aO st) f aC A outer s H E) (gZ st) t∧t {nx:=fun _ H'=>Q .az H',rt:=Q} (start N vs) H):aN P w K mg base (bO P w) (k+1) f fd ps sp:=by
 obtain ⟨oc,od,kV,doc,pm,an,aC,ct,dN,rfl,lk,cn⟩:=F.ex
 exact rZ lk cn S len fun A outer s H vs Q E hr dO=>jy aC A outer s H vs Q E hr dO ⟨rfl,rfl,rfl,rfl⟩
end
structure eo (K:PySem.W.Frag) (C:Addr):Prop where
 ci:PySem.W.hasDictIn K C=true
 ga:PySem.W.findIn K (.ref C) "__getattribute__" = some (some (.builtin "BaseException.__getattribute__"))
 gn:PySem.W.findIn K (.ref C) "__getattr__" = some none
 ca:PySem.W.findIn K (.ref C) "__class__" = some (some (.builtin "object.__class__"))
 mo:PySem.W.mroIn K C (.type "object")=some true
 mb:PySem.W.mroIn K C (.type "BaseException")=some true
section
variable {prog:Program} {w:World} {A:Around} {E:Value→Shared→Prop} {h:Heap} {g:Array GenState} {d:Drawn} {t:Nat} {os:OsState} {K:PySem.W.Frag} {a C:Addr} {o:Obj}
theorem AB{R:Result→Shared→Prop}(aU:K.In h)(c:eo K C)(hx:h.get? a=some o)(hc:o.cls=.ref C)(hq:R (.ok (.ret (.ref C))) ⟨h,g,d,t,os⟩) :
  codeAny (model prog w) A (.call (.builtin "getset_descriptor.__get__") ⟨[.builtin "object.__class__",.ref a,.ref C],[]⟩) R ⟨h,g,d,t,os⟩:=by
 have tq:(⟨h,g,d,t,os⟩:Shared).TypeIs (.builtin "object.__class__") "getset_descriptor":=F.typeOf_object_class
 have L1:=PySem.W.looks_mroIn (M:=model prog w) aU c.mo
 have ow:=F.owner_object_class
 refine codeAny_call_builtin F.slot_gs_get.plain F.entry_gs_get (F.slot_gs_get.check _ _ _ _ _ _ _ _ tq (F.args_gs_get _ _ _) ?_)
 repeat (any_goals (first | assumption | (with_reducible refine wpAny_loadPart_at hx ?_;rw [hc]) | (rw [ow];with_reducible refine L1.at ?_) | wp_step))
 refine ⟨Code.quiet_builtin _ (by decide +kernel),codeAny_builtin F.entry_object_class ?_⟩
 repeat (any_goals (first | assumption | (with_reducible refine wpAny_loadPart_at hx ?_;rw [hc]) | wp_step))
theorem AD{tk:Tok}{Q:Fin→Shared→Prop}(aU:K.In h)(c:eo K C)(hx:h.get? a=some o)(hc:o.cls=.ref C)(hq:Q (.done (.ret (.ref C))) ⟨h,g,d,t,os⟩) :
  wpAny (model prog w) A (Builtin.«object.__getattribute__» ⟨[.ref a,.str "__class__" tk],[]⟩) Q E ⟨h,g,d,t,os⟩:=by
 have tq:(⟨h,g,d,t,os⟩:Shared).TypeIs (.builtin "object.__class__") "getset_descriptor":=F.typeOf_object_class
 have L1:=PySem.W.looks_findIn (M:=model prog w) aU c.ca
 have f5:=F.typeOf_object_class
 have f6:=F.slot_gs_get.lookup
 have f7:=F.slot_gs_set.lookup
 repeat (any_goals (first | assumption | (with_reducible refine wpAny_loadPart_at hx ?_;rw [hc]) | with_reducible refine L1.at ?_ | wp_step))
 refine AB aU c hx hc ?_
 repeat (any_goals (first | assumption | wp_step))
theorem AE{M:Model}{nv:Value}{Q:Unit→Shared→Prop}(aU:K.In h)(c:eo K C)(hx:h.get? a=some o)(hc:o.cls=.ref C)(hq:Q () ⟨h,g,d,t,os⟩) :
  wpAny M A (checkBuiltinCall "BaseException.__getattribute__" ⟨[.ref a,nv],[]⟩) Q E ⟨h,g,d,t,os⟩:=by
 have hk:builtinKind "BaseException.__getattribute__" = some .slot:=by decide +kernel
 have hs:splitId "BaseException.__getattribute__" = some ("BaseException","__getattribute__"):=by decide +kernel
 have L1:=PySem.W.looks_mroIn (M:=M) aU c.mb
 have ha:=F.args_bexc_ga (.ref a) nv
 simp only [checkBuiltinCall,hk,hs]
 refine wpAny_bind ?_
 unfold isInstance
 repeat (first | (with_reducible refine wpAny_loadPart_at hx ?_;rw [hc]) | with_reducible refine L1.at ?_ | wp_step)
 exact hq
theorem AF{tk:Tok}{fill expr:Bool}{Q:Value→Shared→Prop}(aU:K.In h)(c:eo K C)(hx:h.get? a=some o)(hc:o.cls=.ref C)(hq:Q (.ref C) ⟨h,g,d,t,os⟩) :
  wpAny (model prog w) A (getAttrBy (.ref a) (.str "__class__" tk) fill expr) Q E ⟨h,g,d,t,os⟩:=by
 have f3:=F.attrBase_ValueError.ga.bind (.ref a)
 have z0:(expr && onTheHeap (Value.builtin "BaseException.__getattribute__"))=false:=by cases expr <;> rfl
 have z2:(Value.builtin "BaseException.__getattribute__" == Value.builtin "object.__getattribute__")=false:=by decide +kernel
 have z1:(onTheHeap (Value.ref C) && Value.builtin "BaseException.__getattribute__" == Value.builtin "object.__getattribute__")=false:=by rw [z2];rfl
 have L1:=PySem.W.looks_findIn (M:=model prog w) aU c.ga
 have L2:=PySem.W.looks_findIn (M:=model prog w) aU c.gn
 repeat (any_goals (first | assumption | (with_reducible refine wpAny_loadPart_at hx ?_;rw [hc]) | with_reducible refine L1.at ?_ | with_reducible refine L2.at ?_ | wp_step))
 refine codeAny_call_builtin F.attrBase_ValueError.ga.plain F.entry_bexc_ga (AE aU c hx hc (AD aU c hx hc ?_))
 repeat (any_goals (first | assumption | wp_step))
theorem AG{Q:Option Value→Shared→Prop}(aU:K.In h)(c:eo K C)(hx:h.get? a=some o)(hc:o.cls=.ref C)(hq:Q (some (.ref C)) ⟨h,g,d,t+1,os⟩) :
  wpAny (model prog w) A (getAttr? (.ref a) "__class__") Q E ⟨h,g,d,t,os⟩:=by
 unfold getAttr? getAttrBy?
 repeat (any_goals (first | assumption | with_reducible apply AF aU c hx hc | wp_step))
theorem tw(c:eo K C):PySem.W.KitX K (.ref a) (.ref C) (ExcAt a C) where
 ty:=fun M h _ k=>by
  obtain ⟨oe,e1,e2,_⟩:=k
  exact e2▸(PySem.W.Looks.ld e1).andThen .now
 it:=fun M h aU _=>by
  obtain ⟨cd,hc,_⟩:=PySem.W.any_some c.ci
  unfold PySem.W.clsIn at hc
  split at hc
  ·rename_i look
   intro A' Q' E' s' k q
   unfold isType loadHead
   exact wpAny_bind (wpAny_loadPart (k _ _ (aU _ _ look)) (wpAny_pure q))
  ·cases hc
 ne:=fun h tp dd ae n sl aU AH=>by
  obtain ⟨cd,hc,_⟩:=PySem.W.any_some c.ci
  refine Bool.eq_false_iff.mpr fun q=>?_
  have e:C=tp:=Value.ref.inj (beq_iff_eq.mp q)
  subst e
  unfold PySem.W.clsIn at hc
  split at hc
  ·rename_i look
   have z:=(aU _ _ look).symm.trans AH
   cases z
  ·cases hc
 ca:=fun{prog w A E Q s} aU k z=>by
  obtain ⟨oe,e1,e2,_⟩:=k
  obtain ⟨h,g,d,t,os⟩:=s
  exact AG aU c e1 e2 z
end
def lh(a:Addr)(h:Heap):Prop:=∃o ep,h.get? a=some o∧o.ExactDict∧o.data=.dict #[] ep∧(a == sysModules)=false
theorem lh.n5{a:Addr}{h:Heap}(e:lh a h):PySem.W.KitAt a "dict" h:=by
 obtain ⟨o,_,e,c,_⟩:=e
 exact ⟨o,e,c.1⟩
def tD(a:Addr):HO:=.ext (lh a)
inductive fR (K:PySem.W.Frag) (H:Hp):V→Value→Prop where
 | of {x:V} {t:Value} (h:cG K H x t):fR K H x t
 | exc {a C:Addr} (e:H a=some (dw a C)) (c:eo K C):fR K H (.ref a) (.ref C)
 | g6 {a:Addr} (e:H a=some (tD a)):fR K H (.ref a) (.type "dict")
def tE:V→Value
 | .ty n=>.type n
 | .ref a=>.ref a
 | _=>.none
def AI:V→Bool
 | .ty _=>true
 | .ref _=>true
 | _=>false
def AJ(K:PySem.W.Frag):List V→Hp→VK→Prop:=fun xs H Q=>∃x c t b,xs=[x,c]∧AI c=true∧fR K H x t∧PySem.W.kitOne K t (tE c)=some b∧Q (.bl b) H
theorem jF{X:Cx}{K:PySem.W.Frag}(hK:X.K=K:=by rfl):bR X (.builtin "isinstance") (AJ K):=by
 intro pins s σ H xs us Q I r h
 subst hK
 obtain ⟨x,c,t,b,rfl,hc,ty,e,q⟩:=h
 obtain ⟨u,cv,rfl,rx,rc⟩:=vals2 r
 have ec:cv=tE c:=by
  cases c with
  | ty n=>exact rc
  | ref a=>exact rc
  | _=>cases hc
 subst ec
 cases ty with
 | of ty=>exact yX I rx ty e fun tk=>⟨.bl b,H,I.tok tk,rfl,q⟩
 | @g6 a ea=>
  cases rx
  obtain ⟨k,_,_⟩:=(show aI X.prog X.w H s.heap a (.ext (lh a)) from I.ao a _ ea)
  exact PySem.W.kia_one PySem.W.kitx_dict I.bf k.n5 e (fun z=>nomatch z) fun tk=>⟨.bl b,H,I.tok tk,rfl,q⟩
 | @exc a C ea cc=>
  cases rx
  obtain ⟨k,_,_⟩:=(show aI X.prog X.w H s.heap a (.ext (ExcAt a C)) from I.ao a _ ea)
  exact PySem.W.kia_one (tw cc) I.bf k e (fun z=>nomatch z) fun tk=>⟨.bl b,H,I.tok tk,rfl,q⟩
theorem boot_isinstance:bootBuiltins "isinstance" = some (.builtin "isinstance"):=by decide +kernel
theorem boot_min:bootBuiltins "min" = some (.builtin "min"):=by decide +kernel
theorem boot_max:bootBuiltins "max" = some (.builtin "max"):=by decide +kernel
theorem boot_int:bootBuiltins "int" = some (.type "int"):=by decide +kernel
theorem boot_bool:bootBuiltins "bool" = some (.type "bool"):=by decide +kernel
theorem boot_tuple:bootBuiltins "tuple" = some (.type "tuple"):=by decide +kernel
theorem boot_list:bootBuiltins "list" = some (.type "list"):=by decide +kernel
theorem AK:bootBuiltins "ValueError" = some (.type "ValueError"):=by decide +kernel
end L2
namespace My
open PySem L2
end My
namespace L2
open PySem PySem.Spec PyProof.Rows
abbrev Cx.aX (X:Cx) (N:List Str) (scope:Scope) (cl:List (Str×Addr)) (s₃:Shared) (H₃:Hp) (fp:List Addr):Cx:=
 {X with N:=N,s₀:=s₃,H₀:=H₃,env:=compEnvC scope cl s₃.heap.objs.size X.env,outer:=X.stack,stack:=X.stack,ex:=fp,fn:=fun _=>false,pn:=[],xe:=fun _ _=>False}
inductive g8 (X:Cx):List Expr→TT→Prop where
 | nil:g8 X [] (fun _ H Q=>Q true H)
 | one {c:Expr} {t:TT} (h:PT X c t):g8 X [c] t
def dz(wi:TI)(ρ:St→St)(tt:TT)(te:TE):TE:=fun σ H Q=>wi σ H fun J H1=>∀D,H1 D=none→∃W:Nat→Nat→List V→Hp→Prop,(∃m,W 0 m [] (upd H1 D (.lst []))) ∧
 ∀i m ys Hc,W i m ys Hc→Hc D=some (.lst ys)∧((J.stop i Hc∧Q (.ref D) Hc)∨(J.go i Hc∧∀x H',J.bW i Hc x H'→tt (some x::ρ σ) H' fun b H2=>
  if b=true then te (some x::ρ σ) H2 fun y H3=>H3 D=some (.lst ys)∧ys.length<sizeLine∧∃m',m'<m∧W (i+1) m' (ys++[y]) (upd H3 D (.lst (ys++[y]))) else ∃m',m'<m∧W (i+1) m' ys H2))
section
variable {X:Cx} {N:List Str} {scope:Scope} {cl:List (Str×Addr)} {x:Str} {px pos:Pos} {iter elt:Expr} {ifs:List Expr} {wi:TI} {ρ:St→St} {tt:TT} {te:TE}
structure tF (X:Cx) (N:List Str) (scope:Scope) (cl:List (Str×Addr)) (x:Str) (ρ:St→St):Prop where
 tG:closureFor scope X.env=pure cl
 kind:scope.kind=.function
 tH:∀y∈scope.names,y.2≠.cell
 names:∀y∈scope.names,y.2=.local→scope.names.lookup y.1=some .local
 sub:∀p∈cl,X.env.cells.lookup p.1=some p.2
 has:∀y,((relabel scope X.env).names.lookup y=some .cell∨(relabel scope X.env).names.lookup y=some .free)→∃c,cl.lookup y=some c
 n0:N[0]?=some x
 nd:N.Nodup
 hx:scope.names.lookup x=some .local
 tI:∀(σ:St) (j:Nat) (v:V),(ρ σ)[j]?=some (some v)→∃(i:Nat) (y:Str),N[j+1]?=some y∧X.N[i]?=some y∧σ[i]?=some (some v)∧kn X.env.scope y∧(X.env.kindOf y=some .cell∨X.env.kindOf y=some .free)∧((relabel scope X.env).names.lookup y=some .cell∨(relabel scope X.env).names.lookup y=some .free)
 len:∀σ:St,σ.length=X.N.length→(ρ σ).length+1=N.length
theorem dA{names:List (Str×NameKind)}{cl:List (Str×Addr)}(h:(names.all fun q=>(q.2 != .cell && q.2 != .free) || (cl.lookup q.1).isSome)=true) :
  ∀y,(names.lookup y=some .cell∨names.lookup y=some .free)→∃c,cl.lookup y=some c:=fun y hy=>by
 have key:∀k:NameKind,(k != .cell && k != .free)=false→names.lookup y=some k→∃c,cl.lookup y=some c:=fun k hk e=>by
  have z:=List.all_eq_true.mp h (y,k) (PySem.mem_of_lookup e)
  rw [hk,Bool.false_or] at z
  exact Option.isSome_iff_exists.mp z
 rcases hy with e | e
 ·exact key .cell rfl e
 ·exact key .free rfl e
theorem join_some{o:Option (Option V)}{v:V}(h:some o.join=some (some v)):o=some (some v):=by
 cases o with
 | none=>cases h
 | some o=>cases h;rfl
theorem eA(B:tF X N scope cl x ρ)(hc:X.calm=true)(hi:PI X (.Name x px) iter wi)(ht:∀s₃ H₃ fp,g8 (X.aX N scope cl s₃ H₃ fp) ifs tt)(he:∀s₃ H₃ fp,PE (X.aX N scope cl s₃ H₃ fp) elt te)
  (hs:∀x,foldedSetIterable iter X.env x=pure x:=by intro _;rfl):PE X (.ListComp elt [⟨.Name x px,iter,ifs,0⟩] scope pos) (dz wi ρ tt te):=by
 intro pins s σ H Q I h
 rw [eval_ListComp]
 refine wpAny_comprehension_free (use:=none) rfl hs B.tG B.kind B.names (av (hi pins s σ H _ I h) fun v s1 h1=>av h1 fun kF s2 h2=>?_)
 obtain ⟨it,fp,tn,J,H2,rfl,I2,T,ed,f2,q2⟩:=h2
 have nD:H2 s2.heap.objs.size=none:=I2.ao.fresh (Nat.le_refl _)
 obtain ⟨W,⟨m0,w0⟩,turn⟩:=q2 _ nD
 refine wpAny_newObj_type (wpAny_newFunctionEnv B.tH (by intro y hy;simp at hy) (fun h₁ eB eE=>?_) B.kind)
 dsimp only at eB eE ⊢
 generalize hD:s2.heap.objs.size=D at nD w0 turn eB eE ⊢
 generalize fS:({s2 with heap:=s2.heap.push {cls:=.type "list",dict:=none,data:=.seq ([]:List Value).toArray}}:Shared)=s3
 have I3:Inv X pins σ (upd H2 D (.lst [])) s3:=by
  subst hD fS
  exact I2.laid (t':=s2.toks) (fun b u e=>Heap.get?_push_of_some _ e) (Nat.le_refl _) ⟨Nat.zero_le _,[],_,.nil,Heap.get?_push_size _ rfl⟩
 have e3:s3.heap=s2.heap.push {cls:=.type "list",dict:=none,data:=.seq ([]:List Value).toArray}:=by rw [←fS]
 have eF:∀b o,s2.heap.get? b=some o→s3.heap.get? b=some o:=fun b o e=>by rw [e3];exact Heap.get?_push_of_some _ e
 rw [←e3] at eB eE ⊢
 have below:∀b o,s3.heap.get? b=some o→b≠s3.heap.objs.size:=fun b o e=>Nat.ne_of_lt (Heap.lt_size e)
 have cM:∀b o,s3.heap.get? b=some o→h₁.get? b=some o:=fun b o e=>eE.extBut b o (below b o e) (Heap.get?_push_of_some _ e)
 have fT:∀b∈fp,∃o,s2.heap.get? b=some o∧∀v,o.data≠.cell v:=T.obj _ _ ed
 have n6:∀b∈fp,b≠D:=fun b hb z=>by
  obtain ⟨o,e,_⟩:=fT b hb
  rw [z,←hD] at e
  exact absurd (Heap.lt_size e) (Nat.lt_irrefl _)
 have b7:∀y c,cl.lookup y=some c→X.env.cells.lookup y=some c:=fun y c e=>B.sub (y,c) (PySem.mem_of_lookup e)
 have n8:=I3.kq
 have jG:(X.aX N scope cl s3 (upd H2 D (.lst [])) fp).Ok:=by
  refine ⟨I.ok.mod,B.kind,I.ok.glob,I.ok.blt,Nat.le_refl _,fun a b c e1 e2=>I.ok.inj a b c (b7 a c e1) (b7 b c e2),fun y hy=>B.has y hy,(fun _ _ z _=>absurd z Bool.false_ne_true),(fun _=>I.ok.hd hc),I.ok.frames,.inl rfl,fun b hb=>⟨?_,fun y c e z=>?_⟩,fun b o e=>?_,Nat.le_trans I.ok.dh I3.sz,fun b o e hb=>?_,fun b hb z=>?_,I3.stack,n8⟩
  ·obtain ⟨o,e,_⟩:=fT b hb
   exact below b o (eF b o e)
  ·exact (f2 b hb).2.2.2.2.1 y c (b7 y c e) z
  ·exact I3.bs b o e
  ·rcases (f2 b hb).2.2.2.1 with z | z
   ·exact I.ok.fA b o e z
   ·exact absurd (Nat.lt_of_lt_of_le (Heap.lt_size e) (Nat.le_trans I.ok.dh z)) (Nat.lt_irrefl _)
  ·rcases List.mem_cons.mp (I3.ko b z) with z | z
   ·exact (f2 b hb).2.1 z
   ·exact (f2 b hb).2.2.1 z
 have IB:∀tk:Nat,Inv (X.aX N scope cl s3 (upd H2 D (.lst [])) fp) [] (none::ρ σ) (upd H2 D (.lst [])) {s3 with heap:=h₁,toks:=tk}:=fun tk=>by
  refine ⟨jG,rfl,I3.bare,Un.kept cM,⟨_,eB,fun j y v e1 e2 e3=>?_⟩,fun y c e=>?_,?_,fun y c e=>I3.cm y c (b7 y c e),(fun p hp=>nomatch hp),I3.ao.kept cM,?_⟩
  ·cases j with
   | zero=>cases e2
   | succ j=>
    obtain ⟨i,y',a1,a2,a3,a4,a5,a6⟩:=B.tI σ j v e2
    have jH:N[j+1]?=some y:=e1
    rw [jH] at a1
    cases a1
    obtain ⟨m,hn,hl⟩:=I3.loc
    obtain ⟨u,r,l⟩:=hl i y v a2 a3 a4
    refine ⟨u,r,.inr ⟨a6,?_⟩⟩
    obtain ⟨c,ec⟩:=B.has y a6
    rcases l with ⟨k,_⟩ | ⟨_,c',jI,z⟩
    ·rcases a5 with q | q <;> (rw [k] at q;cases q)
    ·have:=b7 y c ec
     rw [this] at jI
     cases jI
     obtain ⟨o,ho,hd⟩:=z
     exact ⟨c,ec,o,cM _ _ ho,hd⟩
  ·obtain ⟨v,o,ho,hd⟩:=I3.cell y c (b7 y c e)
   exact ⟨v,o,cM _ _ ho,hd⟩
  ·exact I3.ao.fresh (Nat.le_refl _)
  ·show (none::ρ σ).length=N.length
   rw [List.length_cons]
   exact B.len σ I.len
 have fin:∀{σ':St} {H':Hp} {s':Shared},Inv (X.aX N scope cl s3 (upd H2 D (.lst [])) fp) [] σ' H' s'→Q (.ref D) H'→compPost (model X.prog X.w) X.A X.xe none (EP X pins σ Q) (.ref D) s3.heap.objs.size (.ok .next) s':=fun{σ' H' s'} J q=>by
  obtain ⟨m,hn,_⟩:=J.loc
  refine ⟨m,hn,fun h' eG=>⟨.ref D,H',?_,rfl,q⟩⟩
  have old:∀b o,s3.heap.get? b=some o→b≠s3.heap.objs.size:=below
  have u1:Un (aQ X.stack) fp (upd H2 D (.lst [])) H' s3.heap h':=by
   refine ⟨fun b o e n hb hx=>?_,fun b o e n hb hx=>?_,J.base.free,fun b o e hx=>?_,J.base.bI,J.base.bF,J.base.bJ⟩
   ·exact (eG.2 b (old b o e)).trans (J.base.keep b o e n hb hx)
   ·obtain ⟨sl,z⟩:=J.base.slot b o e n hb hx
    exact ⟨sl,(eG.2 b (old b o e)).trans z⟩
   ·obtain ⟨o',z⟩:=J.base.there b o e hx
    exact ⟨o',(eG.2 b (old b o e)).trans z⟩
  have n_:aJ X.prog X.w H' h':=fun b u e=>by
   refine (J.ao b u e).cQ (fun c v hc z=>(eG.2 c fun y=>?_).trans z) (fun _ z=>z) fun _ _ z=>z
   have fr:=J.free
   have y':c=s3.heap.objs.size:=y
   rcases hc with hc | hc
   ·rw [←hc,y'] at e
    exact absurd (fr.symm.trans e) (by simp)
   ·rw [y'] at hc
    exact absurd (fr.symm.trans hc) (by simp)
  refine I3.fD (s':={s' with heap:=h'}) (ch:=fp) (J.os) u1 n_ J.bare fun b hb=>?_
  obtain ⟨g0,g1,g2,g3,g4,g5⟩:=f2 b hb
  exact ⟨g3,g1,g4,g5⟩
 have dn:∀{H':Hp},(∀b∈fp,H' b=none)→∀b∈fp,eS (X.aX N scope cl s3 (upd H2 D (.lst [])) fp) [] H' b:=fun hn b hb=>by
  refine ⟨hn b hb,?_,?_,.inl hb,fun y c e z=>(f2 b hb).2.2.2.2.1 y c (b7 y c e) z,fun p hp=>nomatch hp⟩
  ·obtain ⟨o,e,_⟩:=fT b hb
   exact below b o (eF b o e)
  ·exact jG.fB b hb
 have loop:∀tk:Nat,codeAny (model X.prog X.w) X.A (.compLoop (.ListComp elt [⟨.Name x px,iter,ifs,0⟩] scope pos) 0 (.ref it) (.ref D) (compEnvC scope cl s3.heap.objs.size X.env))
   (compPost (model X.prog X.w) X.A X.xe none (EP X pins σ Q) (.ref D) s3.heap.objs.size) {s3 with heap:=h₁,toks:=tk}:=fun tk=>by
  refine codeAny_compLoop_tests (fun n s'=>∃i ys o H',Inv (X.aX N scope cl s3 (upd H2 D (.lst [])) fp) [] (o::ρ σ) H' s'∧tn i s'.heap∧(∀b∈fp,H' b=none)∧W i n ys H') ?_ m0
   ⟨0,[],none,_,IB tk,T.keep _ _ _ ed fun b hb o e=>cM _ _ (eF _ _ e),fun b hb=>by rw [ay (n6 b hb)];exact (f2 b hb).1,w0⟩
  rintro n s4 ⟨i,ys,o,H4,I4,jJ,jK,w4⟩
  obtain ⟨AL,oa⟩:=turn i n ys H4 w4
  rcases oa with ⟨stop,qn⟩ | ⟨go,step⟩
  ·refine wpAny_mono (T.done (X.aX N scope cl s3 (upd H2 D (.lst [])) fp) rfl rfl rfl hc i [] s4 _ H4 (fun _ _=>False) I4 (dn jK) jJ stop) (fun r s5 ⟨hr,I5⟩=>?_) fun _ _ z=>z.elim
   subst hr
   exact fin I5 qn
  ·refine wpAny_mono (T.item (X.aX N scope cl s3 (upd H2 D (.lst [])) fp) rfl rfl rfl hc i [] s4 _ H4 (fun _ _=>False) I4 (dn jK) jJ go) (fun r s5 ⟨u,hr,h5⟩=>?_) fun _ _ z=>z.elim
   subst hr
   have z:letOwnedTupleGo (.Name x px) (.ref it) u=pure ():=rfl
   rw [z] at h5
   show wpAny _ _ ((pure ():Sem Unit) >>= fun _=>assign (.Name x px) (compEnvC scope cl s3.heap.objs.size X.env) u) _ _ s5
   refine wpAny_bind (wpAny_mono h5 (fun _ s5 ⟨y,H5,I5,r5,y5,dq,jt⟩=>?_) fun _ _ z=>z.elim)
   have ju:=I5.pinned (dn jt) (T.obj _ _ dq)
   have pg:PG (X.aX N scope cl s3 (upd H2 D (.lst [])) fp) (.Name x px) (aG 0):=bD (i:=0) B.nd B.n0 (.inl (lookup_relabel_local B.hx)) (.inr (lookup_relabel_local B.hx))
   have again:∀{σ7:St} {H7:Hp} {s7:Shared},Inv (X.aX N scope cl s3 (upd H2 D (.lst [])) fp) ([]++eV fp s5.heap) σ7 H7 s7→Inv (X.aX N scope cl s3 (upd H2 D (.lst [])) fp) [] σ7 H7 s7∧tn (i+1) s7.heap∧∀b∈fp,H7 b=none:=fun{σ7 H7 s7} I7=>by
    refine ⟨I7.jr,T.keep _ _ _ dq fun b hb o e=>(I7.pin (b,o) (List.mem_append_right _ (List.mem_append_right _ (gY hb e)))).1,fun b hb=>?_⟩
    obtain ⟨o,e,d⟩:=T.obj _ _ dq b hb
    exact (I7.pin (b,o) (List.mem_append_right _ (List.mem_append_right _ (gY hb e)))).2.1
   refine wpAny_mono (pg _ s5 _ H5 y u (fun σ2 H6=>σ2=some y::ρ σ∧H6=H5) ju r5 ⟨rfl,rfl⟩) (fun _ s6 ⟨σ6,H6,I6,q6⟩=>?_) fun _ _ z=>z.elim
   obtain ⟨rfl,rfl⟩:=q6
   have og:=step y _ y5
   have tests:∀{fU:TT},g8 (X.aX N scope cl s3 (upd H2 D (.lst [])) fp) ifs fU→∀{R:Bool→Hp→Prop},fU (some y::ρ σ) H6 R→wpAny (model X.prog X.w) X.A
     (forIn ifs true fun c r=>if r=true then do let ok ←isTrue c (compEnvC scope cl s3.heap.objs.size X.env) (eval c (compEnvC scope cl s3.heap.objs.size X.env));pure (ForInStep.yield ok) else pure (ForInStep.yield r))
     (fun ok s7=>∃H7,Inv (X.aX N scope cl s3 (upd H2 D (.lst [])) fp) ([]++eV fp s5.heap) (some y::ρ σ) H7 s7∧R ok H7) (fun _ _=>False) s6:=fun{fU} p {R} hR=>by
    cases p with
    | nil=>exact wpAny_tests_nil ⟨_,I6,hR⟩
    | one p=>exact wpAny_tests_one (p _ s6 _ _ _ I6 hR)
   refine wpAny_mono (tests (ht s3 _ fp) og) (fun ok s7 ⟨H7,I7,q7⟩=>?_) fun _ _ z=>z.elim
   cases ok with
   | false=>
    obtain ⟨m',fV,w7⟩:=q7
    obtain ⟨a1,a2,a3⟩:=again I7
    exact ⟨m',fV,i+1,ys,_,H7,a1,a2,a3,w7⟩
   | true=>
    refine wpAny_mono (he s3 _ fp _ s7 _ H7 _ I7 q7) (fun ev s8 ⟨z,H8,I8,r8,oh,hz,m',fV,w8⟩=>?_) fun _ _ z=>z.elim
    refine wpAny_mono (fP (X:=X.aX N scope cl s3 (upd H2 D (.lst [])) fp) _ s8 _ H8 (.ref D) [z] (.ref D) [ev] (fun _ H9=>H9=upd H8 D (.lst (ys++[z]))) I8 rfl (.cons r8 .nil) ⟨D,ys,z,rfl,rfl,oh,hz,rfl⟩) (fun _ s9 ⟨_,H9,I9,_,q9⟩=>?_) fun _ _ z=>z.elim
    subst q9
    obtain ⟨a1,a2,a3⟩:=again I9
    exact ⟨m',fV,i+1,ys++[z],_,_,a1,a2,a3,w8⟩
 have start:=loop (s3.toks+([]:List (Str×Value)).length)
 have es:({s3 with heap:=h₁,toks:=s3.toks+([]:List (Str×Value)).length}:Shared)={s2 with heap:=h₁,toks:=s2.toks+([]:List (Str×Value)).length}:=by rw [←fS]
 rw [es] at start
 exact codeAny_compStart_list start (T.self _ 0 _ _ _ (T.keep _ _ _ ed fun b hb o e=>cM _ _ (eF _ _ e)) start)
end
def bT(i:Int):Prop:=i.natAbs<2 ^ 2048
theorem bT.log{i:Int}(h:bT i):i.natAbs.log2<2048:=by
 by_cases z:i.natAbs=0
 ·rw [z];decide
 ·exact (Nat.log2_lt z).mpr h
theorem tJ:∀{xs:List V} {us:List Value},xs.length=us.length→(∀(i:Nat) (x:V) (u:Value),xs[i]?=some x→us[i]?=some u→RelV x u)→Vals xs us
 | [],[],_,_=>.nil
 | [],_::_,h,_=>by simp at h
 | _::_,[],h,_=>by simp at h
 | x::xs,u::us,h,k=>.cons (k 0 x u rfl rfl) (tJ (by simpa using h) fun i a b h1 h2=>k (i+1) a b (by simpa using h1) (by simpa using h2))
section
variable {X:Cx}
def AM(i j:Int):Prop:=0<j∧bT j
theorem AN:aZ X (binaryOp .FloorDiv) (rI AM fun i j=>.int (i / j)):=kJ fun i j _ _ _ _ _ hc q=>
 floordiv_int (Int.ne_of_gt hc.1) (by rw [Int.fdiv_eq_ediv_of_nonneg i (Int.le_of_lt hc.1)];exact q) (.inl (PyProof.noPylong_of_log2 (Nat.lt_of_lt_of_le hc.2.log (by decide))))
def allR(K:PySem.W.Frag):List V→Hp→VK→Prop:=fun xs H Q=>∃(p:Addr) (bs:List Bool),xs=[.ref p]∧aF K H p (bs.map V.bl)∧Q (.bl (bs.all id)) H
theorem oi{K:PySem.W.Frag}(hc:X.calm=true)(hK:X.K=K:=by rfl):bR X (.builtin "all") (allR K):=by
 intro pins s σ H xs us Q I r h
 subst hK
 obtain ⟨p,bs,rfl,hq,q⟩:=h
 obtain ⟨u,rfl,ru⟩:=vals1 r
 cases ru
 obtain ⟨ae,rv,pl,hz⟩:=I.list hq
 have oj:p≠s.heap.objs.size:=by
  obtain ⟨o,e,_⟩:=pl.isList
  exact Nat.ne_of_lt (Heap.lt_size e)
 have hl:ae.length=bs.length:=by rw [←rv.length,List.length_map]
 refine call_all_walk (wpAny_pyIter_list pl.isList ?_)
 refine ⟨s.heap.objs.size,_,_,_,_,_,fun i=>bs.getD i true,rfl,Walks.list (A:=X.A.in1) (show X.A.in1.handled=none from I.ok.hd hc) s.heap.objs.size p oj ae.toArray,⟨⟨_,Heap.get?_push_size _ rfl,rfl,rfl⟩,pl.isList.push _⟩,fun i v s' Q' E' hv AO=>?_,fun h' tk hk=>?_⟩
 ·have eI:ae[i]?=some v:=by simpa using hv
  cases eb:bs[i]? with
  | none=>
   have:=rv.none_of (i:=i) (by rw [List.getElem?_map,eb];rfl)
   rw [this] at eI
   cases eI
  | some b=>
   obtain ⟨u,hu,ru⟩:=rv.get (i:=i) (x:=V.bl b) (by rw [List.getElem?_map,eb];rfl)
   rw [hu] at eI
   cases eI
   cases ru
   have e:bs.getD i true=b:=by rw [List.getD_eq_getElem?_getD,eb];rfl
   have tK:Q' (bs.getD i true) s':=AO
   rw [e] at tK
   exact wpAny_truthy_bool tK
 ·refine ⟨.bl (bs.all id),H,I.kept fun b o e=>hk b o (fun z=>?_) (Heap.get?_push_of_some _ e),?_,q⟩
  ·exact absurd (Heap.lt_size e) (by rw [List.mem_singleton.mp z];exact Nat.lt_irrefl _)
  ·show Value.bool _=Value.bool _
   congr 1
   rw [List.size_toArray,hl]
   clear hk q rv pl hz hl hq
   induction bs with
   | nil=>rfl
   | cons b bs ih=>
    rw [List.length_cons,List.range_succ_eq_map,List.all_cons,List.all_map,List.all_cons]
    show (b && (List.range bs.length).all fun i=>bs.getD i true)=(b && bs.all id)
    rw [ih]
def AQ:List V→Hp→VK→Prop:=fun xs H Q=>∃j:Int,xs=[.int j]∧∀p,H p=none→Q (.ref p) (upd H p (.cj 0 j))
theorem lp:bR X (.type "range") AQ:=by
 intro pins s σ H xs us Q I r h
 obtain ⟨j,rfl,q⟩:=h
 obtain ⟨u,rfl,ru⟩:=vals1 r
 obtain ⟨t,rfl⟩:=ru
 refine call_range_1 ⟨.ref s.heap.objs.size,_,I.laid (o:=.cj 0 j) (fun b o e=>Heap.get?_push_of_some _ e) (Nat.le_refl _) ⟨_,_,_,Heap.get?_push_size _ rfl⟩,rfl,q _ (I.ao.fresh (Nat.le_refl _))⟩
def ba(n:Nat):List V:=(List.range n).map fun i:Nat=>V.int (i:Int)
def AR:List V→Hp→VK→Prop:=fun xs H Q=>∃p n,xs=[.ref p]∧H p=some (.cj 0 (n:Nat))∧n≤10000∧∀l,H l=none→Q (.ref l) (upd H l (.lst (ba n)))
theorem om(hc:X.calm=true):bR X (.type "list") AR:=by
 intro pins s σ H xs us Q I r h
 obtain ⟨p,n,rfl,hp,hn,q⟩:=h
 obtain ⟨u,rfl,ru⟩:=vals1 r
 cases ru
 obtain ⟨t,u,v,e⟩:=(show aI X.prog X.w H s.heap p (.cj 0 n) from I.ao p _ hp)
 refine call_list_range (n:=n) (I.ok.hd hc) e (small_one (by omega) (by omega) (by omega) (by omega)) (by rw [rangeSize_one];split <;> omega) (by omega) fun h' tk acc c hk hD hit=>?_
 refine ⟨.ref s.heap.objs.size,_,I.laid (o:=.lst (ba n)) (fun b o e=>hk b o e) (Nat.le_refl _) ⟨?_,acc.toList,c,?_,?_⟩,rfl,q _ (I.ao.fresh (Nat.le_refl _))⟩
 ·unfold ba
  rw [List.length_map,List.length_range]
  exact Nat.le_trans hn (by decide)
 ·refine tJ ?_ fun i x u h1 h2=>?_
  ·unfold ba
   rw [List.length_map,List.length_range,Array.length_toList,hit.1]
  ·have tL:acc[i]?=some u:=by simpa using h2
   obtain ⟨AS,e'⟩:=hit.2 i u tL
   unfold ba at h1
   rw [List.getElem?_map] at h1
   have hi:i<n:=by
    have z:=(Array.getElem?_eq_some_iff.mp tL).1
    rw [hit.1] at z
    exact z
   rw [List.getElem?_range hi] at h1
   cases h1
   exact ⟨AS,by rw [e'];simp⟩
 ·rw [hD]
end
theorem boot_all:bootBuiltins "all" = some (.builtin "all"):=by decide +kernel
theorem lq:bootBuiltins "range" = some (.type "range"):=by decide +kernel
def tM:Expr→Bool
 | .Starred _ _=>false
 | _=>true
theorem AU{e:Expr}{es:List Expr}{env:Env}(h:tM e=true):starEach (e::es) env=(false,eval e env)::starEach es env:=by
 cases e <;> first | rfl | cases h
theorem aa{X:Cx}{e:Expr}{es:List Expr}{te:TE}{t:TA}(hs:tM e=true)(ha:PE X e te)(hr:PA X es t):PA X (e::es) (nF te t):=
 yZ ha hr (AU hs)
theorem aK{X:Cx}{pos:Pos}{i:Nat}{x:Str}{e:Expr}{te:TE}{pos':Pos}(hs:swapsWith e (some (.Name x pos')) pos.line X.env=pure false)(hf:X.fn x=true∨X.env.scope.names.lookup x=some .local)(hN:X.N.Nodup)(hi:X.N[i]?=some x)(hx:Loc X.env.scope x)(he:PE X e te) :
  PS X (.Assign [.Name x pos'] e pos) (jl te (aG i)):=yp hN hi hx he hs hf
end L2
namespace My
open PySem L2
theorem oo(a b:Int):decide (V.int a=V.int b)=decide (a=b):=by
 by_cases h:a=b
 ·subst h;simp
 ·rw [decide_eq_false h];exact decide_eq_false fun e=>h (V.int.inj e)
theorem AV{K:PySem.W.Frag}{T:String}:PySem.W.kitOne K (.type T) (.type T)=some true:=by
 unfold PySem.W.kitOne
 rw [if_pos (beq_self_eq_true _)]
theorem aw{H:Hp}{p:Addr}{o:HO}(h:H p=none):ag H (upd H p o):=fun b u e=>by
 rw [ay (b4 e h)]
 exact e
theorem tN{α:Type}{xs:List α}{i:Int}(h0:0≤i)(h1:i<xs.length):∃v,cJ xs i=some v∧v∈xs:=by
 obtain ⟨k,rfl⟩:∃k:Nat,i=(k:Int):=⟨i.toNat,by omega⟩
 have hk:k<xs.length:=by omega
 exact ⟨xs[k],e_ (by simp [hk]),List.getElem_mem _⟩
inductive Any (H:Hp):V→Prop where
 | az:Any H .az
 | bl (b:Bool):Any H (.bl b)
 | int (i:Int):Any H (.int i)
 | str (x:Str):Any H (.str x)
 | lst {a:Addr} {xs:List V} (e:H a=some (.lst xs)):Any H (.ref a)
 | tup {a:Addr} {xs:List V} (e:H a=some (.tup xs)):Any H (.ref a)
 | g6 {a:Addr} (e:H a=some (tD a)):Any H (.ref a)
def g9:V→Bool
 | .int _=>true
 | _=>false
def g_:V→Bool
 | .bl _=>true
 | _=>false
def lA(H:Hp):V→Bool
 | .ref a=>(match H a with | some (.tup _)=>true | _=>false)
 | _=>false
theorem Any.n5{K:PySem.W.Frag}{H:Hp}{v:V}(h:Any H v):∃T:String,fR K H v (.type T)∧PySem.W.kitOne K (.type T) (.type "int")=some (g9 v || g_ v)∧PySem.W.kitOne K (.type T) (.type "bool")=some (g_ v) ∧
  PySem.W.kitOne K (.type T) (.type "tuple")=some (lA H v):=by
 cases h with
 | az=>exact ⟨"NoneType",.of .az,rfl,rfl,rfl⟩
 | bl b=>exact ⟨"bool",.of (.bl b),rfl,rfl,rfl⟩
 | int i=>exact ⟨"int",.of (.int i),rfl,rfl,rfl⟩
 | str x=>exact ⟨"str",.of (.str x),rfl,rfl,rfl⟩
 | lst e=>exact ⟨"list",.of (.lst e),rfl,rfl,by unfold lA;dsimp only;rw [e];rfl⟩
 | tup e=>exact ⟨"tuple",.of (.tup e),rfl,rfl,by unfold lA;dsimp only;rw [e];rfl⟩
 | g6 e=>exact ⟨"dict",.g6 e,rfl,rfl,by unfold lA;dsimp only;rw [e];rfl⟩
theorem AW{v:V}(h:g_ v=true):g9 v=false:=by cases v <;> first | rfl | cases h
theorem bT.of_lt{i:Int}(h1:-(10 ^ 70)<i)(h2:i<10 ^ 70):bT i:=by
 have h3:i.natAbs<2 ^ 240:=by omega
 exact Nat.lt_of_lt_of_le h3 (Nat.pow_le_pow_right (by decide) (by decide))
def AX:Sp:=fun vs H Q _=>∃v:V,vs=[v]∧Any H v∧Q (.bl (g9 v)) H
def lB(K:PySem.W.Frag):Sp:=fun vs H Q _=>∃(a:Addr) (ns:List Int),vs=[.ref a]∧aF K H a (ns.map V.int)∧ns.length≤63∧∀H',Q (.bl true) H'
end My
namespace L2
open PySem PySem.Spec PyProof.Rows
end L2
namespace My
open PySem L2
end My
namespace L2
open PySem PySem.Spec PyProof.Rows
section
variable {P:Program} {w:World} {K:PySem.W.Frag} {mg:Str→Option Value} {base:Heap}
end
section
variable {X:Cx} {CX:b6} {k:Nat} {f C:Addr} {fd:FuncData} {ps:List Str} {y:Str} {sp:Sp} {E:XK} {m:Str} {pos apos rR:Pos} {e e' o:Expr} {ta:TE} {t tk:TA}
end
end L2
namespace My
open PySem L2
end My
namespace L2
open PySem PySem.Spec PyProof.Rows
section
variable {X:Cx}
end
end L2
namespace My
open PySem L2
section
variable {C N z:Addr} {q:Int} {v u:V} {t b t' b':Int} {H:Hp} {Q:VK} {E:XK}
end
end My
namespace L2
open PySem PySem.Spec PyProof.Rows
structure fh (J:It) (xs:List V) (H1:Hp):Prop where
 go:∀i Hc,ag H1 Hc→i<xs.length→J.go i Hc
 bW:∀i Hc x H',ag H1 Hc→J.bW i Hc x H'→H'=Hc∧(i<xs.length→xs[i]?=some x)
 stop:∀i Hc,ag H1 Hc→xs.length≤i→J.stop i Hc
theorem hE{K:PySem.W.Frag}{a:Addr}{xs:List V}{H1:Hp}(h:aF K H1 a xs):fh (fH K a) xs H1 where
 go:=fun i Hc s hi=>⟨xs,xs[i],s.seq h,by simp [hi]⟩
 bW:=fun i Hc x H' s y=>⟨y.1,fun _=>y.2 xs (s.seq h)⟩
 stop:=fun i Hc s hi=>⟨xs,s.seq h,hi⟩
theorem AY{lo:Int}{n:Nat}{H1:Hp}:fh (eU lo n) ((List.range n).map fun i:Nat=>V.int (lo+(i:Int))) H1 where
 go:=fun i Hc s hi=>by
  have hi:i<n:=by simpa using hi
  exact hi
 bW:=fun i Hc x H' s y=>⟨y.1,fun hi=>by
  have hi:i<n:=by simpa using hi
  rw [y.2]
  simp [hi]⟩
 stop:=fun i Hc s hi=>by
  have hi:n≤i:=by simpa using hi
  exact hi
theorem dB{H H':Hp}{D:Addr}{o:HO}(s:ag H H')(n:H D=none):ag H (upd H' D o):=fun b u e=>by
 rw [ay (b4 e n)]
 exact s b u e
theorem tO{J:It}{xs:List V}{H1:Hp}{ρσ:St}{te:TE}{D:Addr}{Q:VK}(js:fh J xs H1)(nD:H1 D=none)(hn:xs.length<sizeLine)
  (P:Nat→V→Hp→Prop) (mono:∀i y H H' ys,P i y H→H D=some (.lst ys)→(∀b o,b≠D→H b=some o→H' b=some o)→P i y H')
  (step:∀i x,xs[i]?=some x→∀(Hc:Hp) (R:VK),ag H1 Hc→(∃ys,Hc D=some (.lst ys))→(∀y H3,ag Hc H3→P i y H3→R y H3)→te (some x::ρσ) Hc R)
  (fin:∀ys Hc,ag H1 Hc→ys.length=xs.length→(∀i y,ys[i]?=some y→P i y Hc)→Hc D=some (.lst ys)→Q (.ref D) Hc) :
  ∃W:Nat→Nat→List V→Hp→Prop,(∃m,W 0 m [] (upd H1 D (.lst []))) ∧
   ∀i m ys Hc,W i m ys Hc→Hc D=some (.lst ys)∧((J.stop i Hc∧Q (.ref D) Hc)∨(J.go i Hc∧∀x H',J.bW i Hc x H'→
    if true=true then te (some x::ρσ) H' fun y H3=>H3 D=some (.lst ys)∧ys.length<sizeLine∧∃m',m'<m∧W (i+1) m' (ys++[y]) (upd H3 D (.lst (ys++[y]))) else ∃m',m'<m∧W (i+1) m' ys H')):=by
 refine ⟨fun i m ys Hc=>m=xs.length-i∧i≤xs.length∧Hc D=some (.lst ys)∧ag H1 Hc∧ys.length=i∧∀j y,ys[j]?=some y→P j y Hc,⟨_,rfl,Nat.zero_le _,ak,dB (ag.refl H1) nD,rfl,fun j y e=>by simp at e⟩,?_⟩
 rintro i m ys Hc ⟨rfl,hi,eD,sH,el,hP⟩
 refine ⟨eD,?_⟩
 by_cases aV:i<xs.length
 ·refine .inr ⟨js.go i Hc sH aV,fun x H' hy=>?_⟩
  obtain ⟨rfl,hx⟩:=js.bW i Hc x H' sH hy
  rw [if_pos rfl]
  refine step i x (hx aV) _ _ sH ⟨ys,eD⟩ fun y H3 s3 hp=>?_
  have e3:=s3 _ _ eD
  refine ⟨e3,by omega,xs.length-(i+1),by omega,rfl,aV,ak,dB (sH.trans s3) nD,by simp [el],fun j y' e=>?_⟩
  have a9:∀b o,b≠D→H3 b=some o→upd H3 D (.lst (ys++[y])) b=some o:=fun b o nb e=>by rw [ay nb];exact e
  by_cases hj:j<i
  ·have e':ys[j]?=some y':=by rw [List.getElem?_append_left (by omega)] at e;exact e
   refine mono j y' H' _ ys (hP j y' e') eD fun b o nb e=>?_
   exact a9 b o nb (s3 _ _ e)
  ·have hj:j=i:=by
    have:=(List.getElem?_eq_some_iff.mp e).1
    simp at this
    omega
   subst hj
   have e':y'=y:=by rw [List.getElem?_append_right (by omega),el,Nat.sub_self] at e;simpa using e.symm
   subst e'
   exact mono _ _ H3 _ ys hp e3 a9
 ·have e:i=xs.length:=by omega
  subst e
  exact .inl ⟨js.stop _ Hc sH (Nat.le_refl _),fin ys Hc sH el hP eD⟩
theorem AZ{wi:TI}{ρ:St→St}{te:TE}{σ:St}{H:Hp}{Q:VK}{xs:List V}(eJ:∀R:It→Hp→Prop,(∀J H1,ag H H1→fh J xs H1→R J H1)→wi σ H R)(hn:xs.length<sizeLine)
  (P:Addr→Nat→V→Hp→Prop) (mono:∀D i y H H' ys,P D i y H→H D=some (.lst ys)→(∀b o,b≠D→H b=some o→H' b=some o)→P D i y H')
  (step:∀D i x,xs[i]?=some x→∀(Hc:Hp) (R:VK),ag H Hc→(∃ys,Hc D=some (.lst ys))→(∀y H3,ag Hc H3→P D i y H3→R y H3)→te (some x::ρ σ) Hc R)
  (fin:∀D ys Hc,ag H Hc→ys.length=xs.length→(∀i y,ys[i]?=some y→P D i y Hc)→Hc D=some (.lst ys)→Q (.ref D) Hc):dz wi ρ (fun _ H Q=>Q true H) te σ H Q:=by
 refine eJ _ fun J H1 s1 js=>?_
 intro D nD
 exact tO (ρσ:=ρ σ) (te:=te) (Q:=Q) js nD hn (P D) (mono D) (fun i x hx Hc R sc=>step D i x hx Hc R (s1.trans sc)) (fun ys Hc sc=>fin D ys Hc (s1.trans sc))
theorem jL{te:TE}{g:TG}{D:Ends}{σ:St}{H:Hp}(h:te σ H fun x H1=>g x σ H1 D.nx):jl te g D σ H:=h
theorem bX{a b:TS}{D:Ends}{σ:St}{H:Hp}(h:a {D with nx:=fun σ H=>b D σ H} σ H):rm a b D σ H:=h
section
variable {X:Cx} {N:List Str} {scope:Scope} {cl:List (Str×Addr)} {x:Str} {px pos:Pos} {iter elt:Expr} {ifs:List Expr} {wi:TI} {ρ:St→St} {tt:TT} {te:TE}
theorem tP{y:Str}{py tQ:Pos}{i0:Nat}(B:tF X N scope cl x ρ)(hc:X.calm=true)(hN:X.N.Nodup)(A0:X.N[i0]?=some y)(hy:Loc X.env.scope y)(hi:PI X (.Name x px) iter wi)(ht:∀s₃ H₃ fp,g8 (X.aX N scope cl s₃ H₃ fp) ifs tt)(he:∀s₃ H₃ fp,PE (X.aX N scope cl s₃ H₃ fp) elt te)
  (A1:swapsWith (.ListComp elt [⟨.Name x px,iter,ifs,0⟩] scope pos) (some (.Name y py)) tQ.line X.env=pure true:=by rfl) (hf:X.fn y=true∨X.env.scope.names.lookup y=some .local:=by first | exact .inl rfl | exact .inr rfl | assumption)
  (hs:∀x,foldedSetIterable iter X.env x=pure x:=by intro _;rfl):PS X (.Assign [.Name y py] (.ListComp elt [⟨.Name x px,iter,ifs,0⟩] scope pos) tQ) (jl (dz wi ρ tt te) (aG i0)):=by
 intro pins s σ H D0 I h
 have h:dz wi ρ tt te σ H (fun v H1=>D0.nx (σ.set i0 (some v)) H1):=h
 rw [exec_Assign_Name_used _ _ _ _ A1]
 refine wpAny_bind (wpAny_standAt (wpAny_bind ?_))
 show wpAny _ X.A (do let _ ←comprehension (.ListComp elt [⟨.Name x px,iter,ifs,0⟩] scope pos) scope X.env _ (newList []) false (eval iter X.env) (some (assign (.Name y py) X.env))) _ _ s
 refine wpAny_bind (wpAny_mono (Q:=fun _ s'=>SP X pins D0 .next s') ?_ (fun _ s' hq=>wpAny_pure (wpAny_pure hq)) fun _ _ e=>e)
 refine wpAny_comprehension_free (use:=some (assign (.Name y py) X.env)) rfl hs B.tG B.kind B.names (av (hi pins s σ H _ I h) fun v s1 h1=>av h1 fun kF s2 h2=>?_)
 obtain ⟨it,fp,tn,J,H2,rfl,I2,T,ed,f2,q2⟩:=h2
 have nD:H2 s2.heap.objs.size=none:=I2.ao.fresh (Nat.le_refl _)
 obtain ⟨W,⟨m0,w0⟩,turn⟩:=q2 _ nD
 refine wpAny_newObj_type (wpAny_newFunctionEnv B.tH (by intro y hy;simp at hy) (fun h₁ eB eE=>?_) B.kind)
 dsimp only at eB eE ⊢
 generalize hD:s2.heap.objs.size=D at nD w0 turn eB eE ⊢
 generalize fS:({s2 with heap:=s2.heap.push {cls:=.type "list",dict:=none,data:=.seq ([]:List Value).toArray}}:Shared)=s3
 have I3:Inv X pins σ (upd H2 D (.lst [])) s3:=by
  subst hD fS
  exact I2.laid (t':=s2.toks) (fun b u e=>Heap.get?_push_of_some _ e) (Nat.le_refl _) ⟨Nat.zero_le _,[],_,.nil,Heap.get?_push_size _ rfl⟩
 have e3:s3.heap=s2.heap.push {cls:=.type "list",dict:=none,data:=.seq ([]:List Value).toArray}:=by rw [←fS]
 have eF:∀b o,s2.heap.get? b=some o→s3.heap.get? b=some o:=fun b o e=>by rw [e3];exact Heap.get?_push_of_some _ e
 rw [←e3] at eB eE ⊢
 have below:∀b o,s3.heap.get? b=some o→b≠s3.heap.objs.size:=fun b o e=>Nat.ne_of_lt (Heap.lt_size e)
 have cM:∀b o,s3.heap.get? b=some o→h₁.get? b=some o:=fun b o e=>eE.extBut b o (below b o e) (Heap.get?_push_of_some _ e)
 have fT:∀b∈fp,∃o,s2.heap.get? b=some o∧∀v,o.data≠.cell v:=T.obj _ _ ed
 have n6:∀b∈fp,b≠D:=fun b hb z=>by
  obtain ⟨o,e,_⟩:=fT b hb
  rw [z,←hD] at e
  exact absurd (Heap.lt_size e) (Nat.lt_irrefl _)
 have b7:∀y c,cl.lookup y=some c→X.env.cells.lookup y=some c:=fun y c e=>B.sub (y,c) (PySem.mem_of_lookup e)
 have n8:=I3.kq
 have jG:(X.aX N scope cl s3 (upd H2 D (.lst [])) fp).Ok:=by
  refine ⟨I.ok.mod,B.kind,I.ok.glob,I.ok.blt,Nat.le_refl _,fun a b c e1 e2=>I.ok.inj a b c (b7 a c e1) (b7 b c e2),fun y hy=>B.has y hy,(fun _ _ z _=>absurd z Bool.false_ne_true),(fun _=>I.ok.hd hc),I.ok.frames,.inl rfl,fun b hb=>⟨?_,fun y c e z=>?_⟩,fun b o e=>?_,Nat.le_trans I.ok.dh I3.sz,fun b o e hb=>?_,fun b hb z=>?_,I3.stack,n8⟩
  ·obtain ⟨o,e,_⟩:=fT b hb
   exact below b o (eF b o e)
  ·exact (f2 b hb).2.2.2.2.1 y c (b7 y c e) z
  ·exact I3.bs b o e
  ·rcases (f2 b hb).2.2.2.1 with z | z
   ·exact I.ok.fA b o e z
   ·exact absurd (Nat.lt_of_lt_of_le (Heap.lt_size e) (Nat.le_trans I.ok.dh z)) (Nat.lt_irrefl _)
  ·rcases List.mem_cons.mp (I3.ko b z) with z | z
   ·exact (f2 b hb).2.1 z
   ·exact (f2 b hb).2.2.1 z
 have IB:∀tk:Nat,Inv (X.aX N scope cl s3 (upd H2 D (.lst [])) fp) [] (none::ρ σ) (upd H2 D (.lst [])) {s3 with heap:=h₁,toks:=tk}:=fun tk=>by
  refine ⟨jG,rfl,I3.bare,Un.kept cM,⟨_,eB,fun j y v e1 e2 e3=>?_⟩,fun y c e=>?_,?_,fun y c e=>I3.cm y c (b7 y c e),(fun p hp=>nomatch hp),I3.ao.kept cM,?_⟩
  ·cases j with
   | zero=>cases e2
   | succ j=>
    obtain ⟨i,y',a1,a2,a3,a4,a5,a6⟩:=B.tI σ j v e2
    have jH:N[j+1]?=some y:=e1
    rw [jH] at a1
    cases a1
    obtain ⟨m,hn,hl⟩:=I3.loc
    obtain ⟨u,r,l⟩:=hl i y v a2 a3 a4
    refine ⟨u,r,.inr ⟨a6,?_⟩⟩
    obtain ⟨c,ec⟩:=B.has y a6
    rcases l with ⟨k,_⟩ | ⟨_,c',jI,z⟩
    ·rcases a5 with q | q <;> (rw [k] at q;cases q)
    ·have:=b7 y c ec
     rw [this] at jI
     cases jI
     obtain ⟨o,ho,hd⟩:=z
     exact ⟨c,ec,o,cM _ _ ho,hd⟩
  ·obtain ⟨v,o,ho,hd⟩:=I3.cell y c (b7 y c e)
   exact ⟨v,o,cM _ _ ho,hd⟩
  ·exact I3.ao.fresh (Nat.le_refl _)
  ·show (none::ρ σ).length=N.length
   rw [List.length_cons]
   exact B.len σ I.len
 have oq:∀b o,s3.heap.get? b=some o→b≠s3.heap.objs.size:=below
 have fin:∀{σ':St} {H':Hp} {s':Shared},Inv (X.aX N scope cl s3 (upd H2 D (.lst [])) fp) [] σ' H' s'→D0.nx (σ.set i0 (some (.ref D))) H'→compPost (model X.prog X.w) X.A X.xe (some (assign (.Name y py) X.env)) (fun _ s'=>SP X pins D0 .next s') (.ref D) s3.heap.objs.size (.ok .next) s':=fun{σ' H' s'} J q=>by
  obtain ⟨m,hn,_⟩:=J.loc
  have hn:s'.heap.Ns s3.heap.objs.size m:=hn
  have JC:H' s3.heap.objs.size=none:=J.free
  have u1:Un (aQ X.stack) fp (upd H2 D (.lst [])) H' s3.heap s'.heap:=by
   refine ⟨fun b o e n hb hx=>J.base.keep b o e n hb hx,fun b o e n hb hx=>J.base.slot b o e n hb hx,J.base.free,fun b o e hx=>J.base.there b o e hx,J.base.bI,J.base.bF,J.base.bJ⟩
  have IX:Inv X pins σ H' s':=I3.fD (ch:=fp) (J.os) u1 J.ao J.bare fun b hb=>by
   obtain ⟨g0,g1,g2,g3,g4,g5⟩:=f2 b hb
   exact ⟨g3,g1,g4,g5⟩
  have nl:X.env.locals≠s3.heap.objs.size:=by
   obtain ⟨m3,⟨o3,_,_,e3,_⟩,_⟩:=I3.loc
   exact oq _ _ e3
  have nc:∀z c,X.env.cells.lookup z=some c→c≠s3.heap.objs.size:=fun z c e=>by
   obtain ⟨v3,o3,e3,_⟩:=I3.cell z c e
   exact oq _ _ e3
  refine wpAny_assign_Name (q5 (v:=.ref D) IX hN A0 hy rfl (fun dM ot ou=>?_) hf)
  obtain ⟨a,ou,ha⟩:=ou
  have na:s3.heap.objs.size≠a:=by
   rcases ha with rfl | e
   ·exact fun z=>nl z.symm
   ·exact fun z=>nc _ _ e z.symm
  refine ⟨m,hn.sameBut ou na,fun h' eG=>⟨σ.set i0 (some (.ref D)),H',?_,q⟩⟩
  have u2:Un (aQ X.stack) [s3.heap.objs.size] H' H' dM.heap h':=by
   refine ⟨fun b o e n hb hx=>(eG.2 b (by simpa using hx)).trans e,fun b o e n hb hx=>⟨o.slots,(eG.2 b (by simpa using hx)).trans e⟩,fun b o e n hx=>n,fun b o e hx=>⟨o,(eG.2 b (by simpa using hx)).trans e⟩,fun b xs z=>z,fun b o u z=>z,fun b ps z=>⟨#[],by simpa using z⟩⟩
  have n_:aJ X.prog X.w H' h':=fun b u e=>by
   refine (ot.ao b u e).cQ (fun c v hc z=>(eG.2 c fun y=>?_).trans z) (fun _ z=>z) fun _ _ z=>z
   have y':c=s3.heap.objs.size:=y
   rcases hc with hc | hc
   ·rw [←hc,y',JC] at e
    cases e
   ·rw [y',JC] at hc
    cases hc
  refine ot.fD (s':={dM with heap:=h'}) (ch:=[s3.heap.objs.size]) rfl u2 n_ ot.bare fun b hb=>?_
  have eb:b=s3.heap.objs.size:=by simpa using hb
  subst eb
  refine ⟨.inr I3.sz,fun z=>nl z.symm,fun z c e=>nc z c e,fun p hp=>?_⟩
  exact oq _ _ (I3.pin p hp).1
 have dn:∀{H':Hp},(∀b∈fp,H' b=none)→∀b∈fp,eS (X.aX N scope cl s3 (upd H2 D (.lst [])) fp) [] H' b:=fun hn b hb=>by
  refine ⟨hn b hb,?_,?_,.inl hb,fun y c e z=>(f2 b hb).2.2.2.2.1 y c (b7 y c e) z,fun p hp=>nomatch hp⟩
  ·obtain ⟨o,e,_⟩:=fT b hb
   exact below b o (eF b o e)
  ·exact jG.fB b hb
 have loop:∀tk:Nat,codeAny (model X.prog X.w) X.A (.compLoop (.ListComp elt [⟨.Name x px,iter,ifs,0⟩] scope pos) 0 (.ref it) (.ref D) (compEnvC scope cl s3.heap.objs.size X.env))
   (compPost (model X.prog X.w) X.A X.xe (some (assign (.Name y py) X.env)) (fun _ s'=>SP X pins D0 .next s') (.ref D) s3.heap.objs.size) {s3 with heap:=h₁,toks:=tk}:=fun tk=>by
  refine codeAny_compLoop_tests (fun n s'=>∃i ys o H',Inv (X.aX N scope cl s3 (upd H2 D (.lst [])) fp) [] (o::ρ σ) H' s'∧tn i s'.heap∧(∀b∈fp,H' b=none)∧W i n ys H') ?_ m0
   ⟨0,[],none,_,IB tk,T.keep _ _ _ ed fun b hb o e=>cM _ _ (eF _ _ e),fun b hb=>by rw [ay (n6 b hb)];exact (f2 b hb).1,w0⟩
  rintro n s4 ⟨i,ys,o,H4,I4,jJ,jK,w4⟩
  obtain ⟨AL,oa⟩:=turn i n ys H4 w4
  rcases oa with ⟨stop,qn⟩ | ⟨go,step⟩
  ·refine wpAny_mono (T.done (X.aX N scope cl s3 (upd H2 D (.lst [])) fp) rfl rfl rfl hc i [] s4 _ H4 (fun _ _=>False) I4 (dn jK) jJ stop) (fun r s5 ⟨hr,I5⟩=>?_) fun _ _ z=>z.elim
   subst hr
   exact fin I5 qn
  ·refine wpAny_mono (T.item (X.aX N scope cl s3 (upd H2 D (.lst [])) fp) rfl rfl rfl hc i [] s4 _ H4 (fun _ _=>False) I4 (dn jK) jJ go) (fun r s5 ⟨u,hr,h5⟩=>?_) fun _ _ z=>z.elim
   subst hr
   have z:letOwnedTupleGo (.Name x px) (.ref it) u=pure ():=rfl
   rw [z] at h5
   show wpAny _ _ ((pure ():Sem Unit) >>= fun _=>assign (.Name x px) (compEnvC scope cl s3.heap.objs.size X.env) u) _ _ s5
   refine wpAny_bind (wpAny_mono h5 (fun _ s5 ⟨y,H5,I5,r5,y5,dq,jt⟩=>?_) fun _ _ z=>z.elim)
   have ju:=I5.pinned (dn jt) (T.obj _ _ dq)
   have pg:PG (X.aX N scope cl s3 (upd H2 D (.lst [])) fp) (.Name x px) (aG 0):=bD (i:=0) B.nd B.n0 (.inl (lookup_relabel_local B.hx)) (.inr (lookup_relabel_local B.hx))
   have again:∀{σ7:St} {H7:Hp} {s7:Shared},Inv (X.aX N scope cl s3 (upd H2 D (.lst [])) fp) ([]++eV fp s5.heap) σ7 H7 s7→Inv (X.aX N scope cl s3 (upd H2 D (.lst [])) fp) [] σ7 H7 s7∧tn (i+1) s7.heap∧∀b∈fp,H7 b=none:=fun{σ7 H7 s7} I7=>by
    refine ⟨I7.jr,T.keep _ _ _ dq fun b hb o e=>(I7.pin (b,o) (List.mem_append_right _ (List.mem_append_right _ (gY hb e)))).1,fun b hb=>?_⟩
    obtain ⟨o,e,d⟩:=T.obj _ _ dq b hb
    exact (I7.pin (b,o) (List.mem_append_right _ (List.mem_append_right _ (gY hb e)))).2.1
   refine wpAny_mono (pg _ s5 _ H5 y u (fun σ2 H6=>σ2=some y::ρ σ∧H6=H5) ju r5 ⟨rfl,rfl⟩) (fun _ s6 ⟨σ6,H6,I6,q6⟩=>?_) fun _ _ z=>z.elim
   obtain ⟨rfl,rfl⟩:=q6
   have og:=step y _ y5
   have tests:∀{fU:TT},g8 (X.aX N scope cl s3 (upd H2 D (.lst [])) fp) ifs fU→∀{R:Bool→Hp→Prop},fU (some y::ρ σ) H6 R→wpAny (model X.prog X.w) X.A
     (forIn ifs true fun c r=>if r=true then do let ok ←isTrue c (compEnvC scope cl s3.heap.objs.size X.env) (eval c (compEnvC scope cl s3.heap.objs.size X.env));pure (ForInStep.yield ok) else pure (ForInStep.yield r))
     (fun ok s7=>∃H7,Inv (X.aX N scope cl s3 (upd H2 D (.lst [])) fp) ([]++eV fp s5.heap) (some y::ρ σ) H7 s7∧R ok H7) (fun _ _=>False) s6:=fun{fU} p {R} hR=>by
    cases p with
    | nil=>exact wpAny_tests_nil ⟨_,I6,hR⟩
    | one p=>exact wpAny_tests_one (p _ s6 _ _ _ I6 hR)
   refine wpAny_mono (tests (ht s3 _ fp) og) (fun ok s7 ⟨H7,I7,q7⟩=>?_) fun _ _ z=>z.elim
   cases ok with
   | false=>
    obtain ⟨m',fV,w7⟩:=q7
    obtain ⟨a1,a2,a3⟩:=again I7
    exact ⟨m',fV,i+1,ys,_,H7,a1,a2,a3,w7⟩
   | true=>
    refine wpAny_mono (he s3 _ fp _ s7 _ H7 _ I7 q7) (fun ev s8 ⟨z,H8,I8,r8,oh,hz,m',fV,w8⟩=>?_) fun _ _ z=>z.elim
    refine wpAny_mono (fP (X:=X.aX N scope cl s3 (upd H2 D (.lst [])) fp) _ s8 _ H8 (.ref D) [z] (.ref D) [ev] (fun _ H9=>H9=upd H8 D (.lst (ys++[z]))) I8 rfl (.cons r8 .nil) ⟨D,ys,z,rfl,rfl,oh,hz,rfl⟩) (fun _ s9 ⟨_,H9,I9,_,q9⟩=>?_) fun _ _ z=>z.elim
    subst q9
    obtain ⟨a1,a2,a3⟩:=again I9
    exact ⟨m',fV,i+1,ys++[z],_,_,a1,a2,a3,w8⟩
 have start:=loop (s3.toks+([]:List (Str×Value)).length)
 have es:({s3 with heap:=h₁,toks:=s3.toks+([]:List (Str×Value)).length}:Shared)={s2 with heap:=h₁,toks:=s2.toks+([]:List (Str×Value)).length}:=by rw [←fS]
 rw [es] at start
 exact codeAny_compStart_list start (T.self _ 0 _ _ _ (T.keep _ _ _ ed fun b hb o e=>cM _ _ (eF _ _ e)) start)
end
section
variable {X:Cx}
end
section
variable {prog:Program} {w:World} {A:Around} {R:Result→Shared→Prop} {s:Shared}
end
section
variable {X:Cx} {N:List Str} {scope:Scope} {cl:List (Str×Addr)} {x y:Str} {px py pos tp:Pos} {A2:Nat} {iter elt:Expr} {ifs:List Expr} {wi:TI} {ρ:St→St} {tt:TT} {te:TE}
end
section
variable {X:Cx}
def A3(K:PySem.W.Frag):List V→Hp→VK→Prop:=fun xs H Q=>∃(p:Addr) (ns:List Int),xs=[.ref p]∧aF K H p (ns.map V.int)∧Q (.int ns.sum) H
theorem A4:∀(ns:List Int),preSum (fun i=>ns.getD i 0) ns.length=ns.sum:=by
 intro ns
 have key:∀k,k≤ns.length→preSum (fun i=>ns.getD i 0) k=(ns.take k).sum:=by
  intro k
  induction k with
  | zero=>intro _;rfl
  | succ k ih=>
   intro hk
   show preSum (fun i=>ns.getD i 0) k+ns.getD k 0=_
   rw [ih (by omega),List.take_add_one,List.sum_append]
   have e:ns[k]?=some ns[k]:=by simp [show k<ns.length by omega]
   rw [List.getD_eq_getElem?_getD,e]
   simp
 rw [key ns.length (Nat.le_refl _),List.take_length]
theorem A5{K:PySem.W.Frag}(hc:X.calm=true)(hK:X.K=K:=by rfl):bR X (.builtin "sum") (A3 K):=by
 intro pins s σ H xs us Q I r h
 subst hK
 obtain ⟨p,ns,rfl,hq,q⟩:=h
 obtain ⟨u,rfl,ru⟩:=vals1 r
 cases ru
 obtain ⟨ae,rv,pl,hz⟩:=I.list hq
 have oj:p≠s.heap.objs.size:=by
  obtain ⟨o,e,_⟩:=pl.isList
  exact Nat.ne_of_lt (Heap.lt_size e)
 have hl:ae.length=ns.length:=by rw [←rv.length,List.length_map]
 refine call_sum_walkG (wpAny_pyIter_list pl.isList ?_)
 refine ⟨s.heap.objs.size,_,_,_,_,_,fun i=>ns.getD i 0,rfl,Walks.list (A:=X.A.in1) (show X.A.in1.handled=none from I.ok.hd hc) s.heap.objs.size p oj ae.toArray,⟨⟨_,Heap.get?_push_size _ rfl,rfl,rfl⟩,pl.isList.push _⟩,?_,fun i v hv=>?_,fun h' tk t' hk=>?_⟩
 ·intro b hb
  rw [Heap.size_push]
  simp only [List.mem_cons,List.not_mem_nil,or_false] at hb
  rcases hb with rfl | rfl
  ·exact Nat.lt_succ_self _
  ·obtain ⟨o,e,_⟩:=pl.isList
   exact Nat.lt_succ_of_lt (Heap.lt_size e)
 ·have eI:ae[i]?=some v:=by simpa using hv
  cases eb:ns[i]? with
  | none=>
   have:=rv.none_of (i:=i) (by rw [List.getElem?_map,eb];rfl)
   rw [this] at eI
   cases eI
  | some b=>
   obtain ⟨u,hu,ru⟩:=rv.get (i:=i) (x:=V.int b) (by rw [List.getElem?_map,eb];rfl)
   rw [hu] at eI
   cases eI
   obtain ⟨t,rfl⟩:=ru
   exact ⟨t,by show Value.int b t=Value.int (ns.getD i 0) t;rw [List.getD_eq_getElem?_getD,eb];rfl⟩
 ·refine ⟨.int ns.sum,H,I.kept fun b o e=>hk b o (fun z=>?_) (Heap.get?_push_of_some _ e),⟨t',?_⟩,q⟩
  ·exact absurd (Heap.lt_size e) (by rw [List.mem_singleton.mp z];exact Nat.lt_irrefl _)
  ·congr 1
   rw [List.size_toArray,hl]
   exact A4 ns
end
theorem boot_sum:bootBuiltins "sum" = some (.builtin "sum"):=by decide +kernel
section
variable {M:Model} {A:Around} {E:Value→Shared→Prop} {s:Shared}
end
section
variable {X:Cx} {N:List Str} {scope:Scope} {cl:List (Str×Addr)} {x:Str} {px pos:Pos} {iter elt:Expr} {ifs:List Expr} {wi:TI} {ρ:St→St} {tt:TT} {te:TE}
end
theorem A6{v:V}(h:ee v=true):cV v v=true:=by
 cases v with
 | az=>rfl
 | bl b=>show (b == b)=true;simp
 | int i=>show (i == i)=true;simp
 | str x=>show (x == x)=true;simp
 | _=>cases h
theorem all_range(n:Nat):(List.range n).all (fun _=>true)=true:=by simp
section
variable {X:Cx} {pins:List (Addr×Obj)} {σ:St} {H:Hp} {s:Shared}
end
section
variable {X:Cx}
end
section
variable {X:Cx} {N:List Str} {scope:Scope} {cl:List (Str×Addr)} {x:Str} {px pos:Pos} {iter elt:Expr} {ifs:List Expr} {wi:TI} {ρ:St→St} {tt:TT} {te:TE}
end
theorem lC{wi:TI}{ρ:St→St}{te:TE}{σ:St}{H:Hp}{Q:VK}{xs:List V}(eJ:∀R:It→Hp→Prop,(∀J H1,ag H H1→fh J xs H1→R J H1)→wi σ H R)(hn:xs.length<sizeLine)
  (P:Addr→Nat→V→Hp→Prop) (mono:∀D i y H H' ys,P D i y H→H D=some (.lst ys)→(∀b o,b≠D→H b=some o→H' b=some o)→P D i y H')
  (step:∀D i x,xs[i]?=some x→∀(Hc:Hp) (R:VK),ag H Hc→(∃ys,Hc D=some (.lst ys))→(∀y H3,ag Hc H3→P D i y H3→R y H3)→te (some x::ρ σ) Hc R)
  (fin:∀D ys Hc,H D=none→ag H Hc→ys.length=xs.length→(∀(i:Nat) (y:V),ys[i]?=some y→P D i y Hc)→Hc D=some (.lst ys)→Q (.ref D) Hc):dz wi ρ (fun _ H Q=>Q true H) te σ H Q:=by
 refine eJ _ fun J H1 s1 js=>?_
 intro D nD
 have hD:H D=none:=by
  cases e:H D with
  | none=>rfl
  | some o=>rw [s1 _ _ e] at nD;cases nD
 exact tO (ρσ:=ρ σ) (te:=te) (Q:=Q) js nD hn (P D) (mono D) (fun i x hx Hc R sc=>step D i x hx Hc R (s1.trans sc)) (fun ys Hc sc=>fin D ys Hc hD (s1.trans sc))
section
variable {X:Cx} {K:PySem.W.Frag}
theorem tR(hK:X.K=K:=by rfl):kP X (sk K):=by
 subst hK
 exact a_
def A7(K:PySem.W.Frag):List V→Hp→VK→Prop:=fun xs H Q=>∃p ys,xs=[.ref p]∧(aF K H p ys∨bo K H p ys)∧Q (.int (ys.length:Int)) H
theorem A8(hK:X.K=K:=by rfl):bR X (.builtin "len") (A7 K):=by
 subst hK
 exact en
end
end L2
namespace My
open PySem L2
theorem ox{r:List V→Hp→VK→Prop}{te:TE}{σ:St}{H:Hp}{Q:VK}(h:te σ H fun x H1=>r [x] H1 Q):nG r (nF te rO) σ H Q:=h
theorem A9{te:TE}{D:Ends}{σ:St}{H:Hp}(h:te σ H D.rt):rn te D σ H:=h
theorem A_{vs:List V}{b:Bool}(h:∀(i:Nat) (v:V),vs[i]?=some v→v=.bl b):vs=(List.replicate vs.length b).map V.bl:=by
 refine List.ext_getElem? fun i=>?_
 rw [List.getElem?_map]
 by_cases hi:i<vs.length
 ·rw [show vs[i]?=some vs[i] by simp [hi],h i vs[i] (by simp [hi])]
  simp [hi]
 ·rw [List.getElem?_eq_none (by omega),List.getElem?_eq_none (by simp;omega)]
  rfl
theorem Ba(n:Nat):(List.replicate n true).all id=true:=by simp
theorem none_of{H H':Hp}{b:Addr}(s:ag H H')(h:H' b=none):H b=none:=by
 cases e:H b with
 | none=>rfl
 | some o=>rw [s _ _ e] at h;cases h
theorem getD_at{α:Type}{xs:List α}{d:α}{i:Nat}(hi:i<xs.length):xs.getD i d=xs[i]:=by
 rw [List.getD_eq_getElem?_getD,show xs[i]?=some xs[i] by simp [hi]]
 rfl
def er(P:Addr)(H:Hp):Hp:=fun b=>if b=P then none else H b
theorem hG{P:Addr}{H:Hp}:ag (er P H) H:=fun b o e=>by
 unfold er at e
 split at e
 ·cases e
 ·exact e
theorem bK{P b:Addr}{H:Hp}(h:b≠P):er P H b=H b:=if_neg h
theorem oy{P b:Addr}{H:Hp}{o:HO}(h:b≠P)(e:H b=some o):er P H b=some o:=by rw [bK h];exact e
theorem lE{P:Addr}{H H':Hp}(s:ag H H'):ag (er P H) (er P H'):=fun b o e=>by
 unfold er at e ⊢
 split at e
 ·cases e
 ·rename_i h
  rw [if_neg h]
  exact s _ _ e
theorem tS{P:Addr}{H:Hp}{o:HO}:er P (upd H P o)=er P H:=funext fun b=>by
 unfold er
 split
 ·rfl
 ·rename_i h
  exact ay h
def aP(H:Hp)(P a:Addr):Prop:=∃x y:Int,H P=some (.lst [.ref a,.int x,.int y])∧0≤x∧0≤y
theorem aP.mono{H H':Hp}{P a:Addr}(h:aP H P a)(s:ag H H'):aP H' P a:=by
 obtain ⟨x,y,e,h1,h2⟩:=h
 exact ⟨x,y,s _ _ e,h1,h2⟩
theorem aP.upd{H:Hp}{P a D:Addr}{o:HO}(h:aP H P a)(n:D≠P):aP (L2.upd H D o) P a:=by
 obtain ⟨x,y,e,h1,h2⟩:=h
 exact ⟨x,y,by rw [ay n.symm];exact e,h1,h2⟩
theorem aP.ne{H:Hp}{P a D:Addr}(h:aP H P a)(n:H D=none):D≠P:=fun z=>by
 obtain ⟨x,y,e,_⟩:=h
 rw [z,e] at n
 cases n
def au(P:Addr)(H H':Hp):Prop:=ag (er P H) (er P H')
theorem au.refl{P:Addr}(H:Hp):au P H H:=ag.refl _
theorem au.trans{P:Addr}{H H' H2:Hp}(s:au P H H')(t:au P H' H2):au P H H2:=ag.trans s t
theorem au.of{P:Addr}{H H':Hp}(s:ag H H'):au P H H':=lE s
theorem au.dR{P:Addr}{H:Hp}{o:HO}:au P H (upd H P o):=by
 unfold au
 rw [tS]
 exact ag.refl _
theorem au.but{P D:Addr}{H H':Hp}{o:HO}(s:au P H H')(n:H D=none):au P H (upd H' D o):=fun b u e=>by
 have e0:=s b u e
 have nb:b≠P:=fun z=>by unfold er at e;rw [if_pos z] at e;cases e
 rw [bK nb] at e e0 ⊢
 rw [ay (b4 e n)]
 exact e0
theorem au.at{P b:Addr}{H H':Hp}{o:HO}(s:au P H H')(nb:b≠P)(e:H b=some o):H' b=some o:=by
 have z:=s b o (oy nb e)
 rw [bK nb] at z
 exact z
end My
namespace L2
open PySem PySem.Spec PyProof.Rows
end L2
namespace My
open PySem L2
def Bb:Sp:=fun vs H Q _=>∃c a:Int,vs=[.int c,.int a]∧0≤a∧∀r:Int,0≤r→Q (.int r) H
def Bc(K:PySem.W.Frag):Sp:=fun vs H Q _=>∃(P a:Addr) (ns:List Int) (many:Int),vs=[.ref P,.int many]∧aP H P a∧aF K (er P H) a (ns.map V.int)∧1≤many∧bT many∧∀(r:Int) (H':Hp),0≤r→r<many→au P H H'→aP H' P a→Q (.int r) H'
end My
namespace L2
open PySem PySem.Spec PyProof.Rows
end L2
namespace My
open PySem L2
end My
namespace L2
open PySem PySem.Spec PyProof.Rows
def jM(K:PySem.W.Frag)(l:Addr):It:=
  ⟨fun i H=>∃xs x,aF K H l xs∧xs[i]?=some x,
   fun i H v H'=>∃T x,H T=none∧v=.ref T∧H'=upd H T (.tup [.int (i:Int),x])∧∀xs,aF K H l xs→xs[i]?=some x,
   fun i H=>∃xs,aF K H l xs∧xs.length≤i⟩
theorem Bd{P:Program}{w:World}{K:PySem.W.Frag}{elts:List Expr}{k:Nat}{pos:Pos}{e it l:Addr}(tT:e≠it):Turn P w K (.Tuple elts k pos) (jM K l) [e,it] e
  (fun i h=>(∃old,IsEnum h e it (i:Int) old)∧h.IsListIter it l i) where
 mem:=by simp
 obj:=fun i h st b hb=>by
  obtain ⟨⟨old,he⟩,h1⟩:=st
  simp only [List.mem_cons,List.not_mem_nil,or_false] at hb
  rcases hb with rfl | rfl
  ·exact ⟨_,he,fun v z=>by cases z⟩
  ·obtain ⟨o,e,c,d⟩:=h1
   exact ⟨o,e,fun v z=>by rw [d] at z;cases z⟩
 keep:=fun i h h' st k=>by
  obtain ⟨⟨old,he⟩,h1⟩:=st
  exact ⟨⟨old,k _ (by simp) _ he⟩,h1.at fun o e=>k _ (by simp) o e⟩
 item:=by
  intro X hP hw hK hc i pins s σ H E I hf st hg
  subst hP hw hK
  obtain ⟨⟨old,he⟩,h1⟩:=st
  obtain ⟨xs,x,hI,hx⟩:=hg
  obtain ⟨ae,rv,p,_⟩:=I.list hI
  obtain ⟨u,hu,ru⟩:=rv.get hx
  refine wpAny_pyNext_enum_item he h1 p.isList (x:=u) (by simpa using hu) tT fun h' g1 g2 g3 g4 g5=>⟨_,rfl,?_⟩
  refine wpAny_letOwnedTupleGo_enum g1 fun lF q1 sb=>?_
  have k_:H s.heap.objs.size=none:=I.ao.fresh (Nat.le_refl _)
  have lt:∀b o,s.heap.get? b=some o→b≠s.heap.objs.size:=fun b o e=>Nat.ne_of_lt (Heap.lt_size e)
  have keep:∀b o,b∉[e,it]→s.heap.get? b=some o→lF.get? b=some o:=fun b o nb e=>by
   simp only [List.mem_cons,List.not_mem_nil,or_false,not_or] at nb
   exact sb.extBut _ _ nb.1 (g5 b o nb.1 nb.2 e)
  have elt:e≠s.heap.objs.size:=lt _ _ he
  have pT:=sb.extBut _ _ elt.symm g3
  have jN:∀{b:Addr} {o:HO} (e:H b=some o),upd H s.heap.objs.size (.tup [.int (i:Int),x]) b=some o:=fun e=>by rw [ay (b4 e k_)];exact e
  have ao:aJ X.prog X.w (upd H s.heap.objs.size (.tup [.int (i:Int),x])) lF:=fun b o e=>by
   by_cases hb:b=s.heap.objs.size
   ·subst hb
    rw [ak] at e
    cases e
    exact ⟨by show 2≤sizeLine;decide,[.int i s.toks,u],.cons ⟨_,rfl⟩ (.cons ru .nil),⟨_,pT,rfl,_,rfl⟩⟩
   ·rw [ay hb] at e
    refine (I.ao b o e).cQ (fun c v cS q=>keep c v (fun m=>?_) q) (fun c q=>jN q) fun c xs q=>jN q
    have nn:=(hf c m).1
    rcases cS with rfl | cS
    ·rw [nn] at e;cases e
    ·rw [nn] at cS;cases cS
  have u1:Un (aQ X.stack) [e,it] H (upd H s.heap.objs.size (.tup [.int (i:Int),x])) s.heap lF:=
   ⟨fun b o e n _ hx=>keep b o hx e,fun b o e n _ hx=>⟨o.slots,keep b o hx e⟩,fun b o e n hx=>by rw [ay (lt b o e)];exact n,fun b o e hx=>⟨o,keep b o hx e⟩,fun b xs e=>jN e,fun b o u e=>jN e,fun b ps e=>⟨#[],by rw [jN e];simp⟩⟩
  refine ⟨.ref s.heap.objs.size,upd H s.heap.objs.size (.tup [.int (i:Int),x]),I.fD (s':={s with heap:=lF,toks:=s.toks+1}) (ch:=[e,it]) rfl u1 ao I.bare (fun b hb=>?_),rfl,⟨_,x,k_,rfl,rfl,fun as ha=>by rw [I.rl ha hI];exact hx⟩,?_,fun b hb=>?_⟩
  ·obtain ⟨f0,f1,f2,f3,f4,f5⟩:=hf b hb
   exact ⟨f3,f1,f4,f5⟩
  ·refine ⟨⟨u,?_⟩,g2.extBut sb.extBut tT.symm⟩
   have z:((i+1:Nat):Int)=(i:Int)+1:=by omega
   rw [z]
   exact q1
  ·have nb:b≠s.heap.objs.size:=by
    simp only [List.mem_cons,List.not_mem_nil,or_false] at hb
    rcases hb with rfl | rfl
    ·exact lt _ _ he
    ·obtain ⟨o,e,_⟩:=h1;exact lt _ _ e
   rw [ay nb]
   exact (hf b hb).1
 done:=by
  intro X hP hw hK hc i pins s σ H E I hf st hg
  subst hP hw hK
  obtain ⟨⟨old,he⟩,h1⟩:=st
  obtain ⟨xs,hI,hx⟩:=hg
  obtain ⟨ae,rv,p,_⟩:=I.list hI
  have hl:=rv.length
  refine wpAny_pyNext_enum_end (I.ok.hd hc) he h1 p.isList (by simp;omega) fun h' g=>⟨rfl,?_⟩
  have keep:∀b o,b∉[e,it]→s.heap.get? b=some o→h'.get? b=some o:=fun b o nb e=>by
   simp only [List.mem_cons,List.not_mem_nil,or_false,not_or] at nb
   exact g b o nb.2 e
  have ao:aJ X.prog X.w H h':=fun b o e=>by
   refine (I.ao b o e).cQ (fun c v cS q=>keep c v (fun m=>?_) q) (fun c q=>q) fun c xs q=>q
   have nn:=(hf c m).1
   rcases cS with rfl | cS
   ·rw [nn] at e;cases e
   ·rw [nn] at cS;cases cS
  have u1:Un (aQ X.stack) [e,it] H H s.heap h':=
   ⟨fun b o e n _ hx=>keep b o hx e,fun b o e n _ hx=>⟨o.slots,keep b o hx e⟩,fun b o e n hx=>n,fun b o e hx=>⟨o,keep b o hx e⟩,fun b xs e=>e,fun b o u e=>e,fun b ps e=>⟨#[],by rw [e];simp⟩⟩
  refine I.fD (s':={s with heap:=h'}) (ch:=[e,it]) rfl u1 ao I.bare fun b hb=>?_
  obtain ⟨f0,f1,f2,f3,f4,f5⟩:=hf b hb
  exact ⟨f3,f1,f4,f5⟩
 self:=fun _ _ _ _ _ st h=>by
  obtain ⟨⟨old,he⟩,_⟩:=st
  exact wpAny_pyIter_enum he h
theorem boot_enumerate:bootBuiltins "enumerate" = some (.type "enumerate"):=by decide +kernel
def Be(K:PySem.W.Frag)(ta:TA):TI:=fun σ H R=>ta σ H fun vs H1=>∃l,vs=[.ref l]∧(∃xs,aF K H1 l xs)∧R (jM K l) H1
section
variable {X:Cx}
theorem tU{elts:List Expr}{k:Nat}{kM:Pos}{a:Expr}{ta:TA}{p pos:Pos}(hg:Gl X "enumerate")(hm:X.mg "enumerate" = none)(ha:PA X [a] ta)(hs:starEach [a] X.env=[(false,eval a X.env)]:=by rfl) :
  PI X (.Tuple elts k kM) (.Call (.Name "enumerate" p) [a] [] pos) (Be X.K ta):=by
 intro pins s σ H R I h
 refine Call_ (gU I hg hm boot_enumerate (PyProof.Rows.callWith_type1 (av (ha pos pins s σ H _ I h) fun us s1 ⟨vs,H1,I1,r1,q1⟩=>?_) hs rfl))
 obtain ⟨l,e,⟨xs,hI⟩,q⟩:=q1
 subst e
 obtain ⟨u,rfl,ru⟩:=vals1 r1
 cases ru
 obtain ⟨ae,rv,p1,_⟩:=I1.list hI
 refine call_enumerate_list p1.isList fun h' z1 z2 z3 z4=>?_
 refine wpAny_pyIter_enum (s:={s1 with heap:=h'}) z1 ?_
 refine ⟨_,_,_,_,H1,rfl,I1.kept (t':=s1.toks) z4,Bd (Nat.succ_ne_self _),⟨⟨_,z1⟩,z2⟩,fun b hb=>?_,q⟩
 have le:s1.heap.objs.size≤b:=by
  simp only [List.mem_cons,List.not_mem_nil,or_false] at hb
  rcases hb with rfl | rfl
  ·exact Nat.le_add_right ..
  ·exact Nat.le_refl _
 exact I1.jo le (I1.ao.fresh le)
end
theorem tV{K:PySem.W.Frag}{l:Addr}{xs:List V}{g:TG}{tb:TS}{D:Ends}{σ:St}{H:Hp}(Pv:Nat→St→Hp→Prop)(h0:Pv 0 σ H)(hl:∀i σ H,Pv i σ H→aF K H l xs)
  (hs:∀(i:Nat) (x:V) σ H T,xs[i]?=some x→Pv i σ H→H T=none→g (.ref T) σ (upd H T (.tup [.int (i:Int),x])) fun σ2 H2=>tb {D with nx:=Pv (i+1),ct:=Pv (i+1),bk:=D.nx} σ2 H2) (hd:∀σ H,Pv xs.length σ H→D.nx σ H) :
  ∃W:Nat→Nat→St→Hp→Prop,(∃m,W 0 m σ H)∧∀i m σ H,W i m σ H→
   ((jM K l).stop i H∧D.nx σ H)∨((jM K l).go i H∧∃N:St→Hp→Prop,(∀σ' H',N σ' H'→∃m',m'<m∧W (i+1) m' σ' H')∧∀x H',(jM K l).bW i H x H'→g x σ H' fun σ2 H2=>tb {D with nx:=N,ct:=N,bk:=D.nx} σ2 H2):=by
 refine ⟨fun i m σ H=>m=xs.length-i∧i≤xs.length∧Pv i σ H,⟨xs.length,by simp,Nat.zero_le _,h0⟩,?_⟩
 rintro i m σ H ⟨rfl,hi,p⟩
 have q1:=hl i σ H p
 by_cases aV:i<xs.length
 ·refine .inr ⟨⟨xs,xs[i],q1,by simp [aV]⟩,Pv (i+1),fun σ' H' p'=>⟨xs.length-(i+1),by omega,rfl,aV,p'⟩,fun v H' hy=>?_⟩
  obtain ⟨T,x,nT,rfl,rfl,hx⟩:=hy
  exact hs i x σ H T (hx xs q1) p nT
 ·have e:i=xs.length:=by omega
  subst e
  exact .inl ⟨⟨xs,q1,Nat.le_refl _⟩,hd σ H p⟩
end L2
namespace My
open PySem L2
end My
namespace L2
open PySem PySem.Spec PyProof.Rows
section
variable {X:Cx} {tg:Expr}
end
end L2
namespace My
open PySem L2
theorem tW{wi:TI}{ρ:St→St}{te:TE}{σ:St}{H:Hp}{Q:VK}{xs:List V}{n:Nat}(hl:xs.length=n)(eJ:∀R:It→Hp→Prop,(∀J H1,ag H H1→fh J xs H1→R J H1)→wi σ H R)(hn:n<sizeLine)
  (P:Addr→Nat→Addr→Hp→Prop) (mono:∀D i y H H' ys,P D i y H→y≠D→H D=some (.lst ys)→(∀b o,b≠D→H b=some o→H' b=some o)→P D i y H')
  (step:∀D (i:Nat) (x:V),xs[i]?=some x→∀(Hc:Hp) (R:VK),ag H Hc→(∃ys,Hc D=some (.lst ys))→(∀y H3,ag Hc H3→Hc y=none→(∃o,H3 y=some o)→P D i y H3→R (.ref y) H3)→te (some x::ρ σ) Hc R)
  (fin:∀D (A:Nat→Addr) Hc,H D=none→ag H Hc→(∀i j,i<n→j<n→A i=A j→i=j)→(∀i,i<n→P D i (A i) Hc∧A i≠D)→Hc D=some (.lst ((List.range n).map fun i=>V.ref (A i)))→Q (.ref D) Hc):dz wi ρ (fun _ H Q=>Q true H) te σ H Q:=by
 refine eJ _ fun J H1 s1 js=>?_
 intro D nD
 have hD:H D=none:=by
  cases e:H D with
  | none=>rfl
  | some o=>rw [s1 _ _ e] at nD;cases nD
 refine ⟨fun i m ys Hc=>m=n-i∧i≤n∧Hc D=some (.lst ys)∧ag H1 Hc∧∃A:Nat→Addr,ys=(List.range i).map (fun j=>V.ref (A j))∧(∀a b,a<i→b<i→A a=A b→a=b)∧∀j,j<i→P D j (A j) Hc∧A j≠D∧∃o,Hc (A j)=some o,⟨_,rfl,Nat.zero_le _,ak,dB (ag.refl H1) nD,fun _=>D,rfl,(fun a b h=>by omega),fun j h=>by omega⟩,?_⟩
 rintro i m ys Hc ⟨rfl,hi,eD,sH,A,rfl,inj,hA⟩
 refine ⟨eD,?_⟩
 by_cases aV:i<n
 ·refine .inr ⟨js.go i Hc sH (by omega),fun x H' hy=>?_⟩
  obtain ⟨rfl,hx⟩:=js.bW i Hc x H' sH hy
  rw [if_pos rfl]
  refine step D i x (hx (by omega)) _ _ (s1.trans sH) ⟨_,eD⟩ fun y H3 s3 ny ⟨o,ho⟩ hp=>?_
  have e3:=s3 _ _ eD
  have yD:y≠D:=fun e=>by rw [e,eD] at ny;cases ny
  have a9:∀b o,b≠D→H3 b=some o→upd H3 D (.lst ((List.range i).map (fun j=>V.ref (A j))++[.ref y])) b=some o:=fun b o nb e=>by rw [ay nb];exact e
  have nA:∀j,j<i→A j≠y:=fun j hj e=>by
   obtain ⟨_,_,o',h'⟩:=hA j hj
   rw [e,ny] at h'
   cases h'
  refine ⟨e3,by simp;omega,n-(i+1),by omega,rfl,aV,ak,dB (sH.trans s3) nD,fun j=>if j=i then y else A j,?_,fun a b ha hb e=>?_,fun j hj=>?_⟩
  ·rw [List.range_succ,List.map_append]
   congr 1
   ·refine List.map_congr_left fun j hj=>?_
    dsimp only
    rw [if_neg (by have:=List.mem_range.mp hj;omega)]
   ·simp
  ·dsimp only at e
   by_cases z1:a=i
   ·by_cases z2:b=i
    ·omega
    ·rw [if_pos z1,if_neg z2] at e
     exact absurd e.symm (nA b (by omega))
   ·by_cases z2:b=i
    ·rw [if_neg z1,if_pos z2] at e
     exact absurd e (nA a (by omega))
    ·rw [if_neg z1,if_neg z2] at e
     exact inj a b (by omega) (by omega) e
  ·dsimp only
   by_cases z:j=i
   ·rw [if_pos z,z]
    exact ⟨mono D i y H3 _ _ hp yD e3 a9,yD,o,a9 _ _ yD ho⟩
   ·rw [if_neg z]
    obtain ⟨h1,h2,o',h3⟩:=hA j (by omega)
    exact ⟨mono D j (A j) H' _ _ h1 h2 eD (fun b o nb e=>a9 b o nb (s3 _ _ e)),h2,o',a9 _ _ h2 (s3 _ _ h3)⟩
 ·have e:i=n:=by omega
  subst e
  exact .inl ⟨js.stop _ Hc sH (by omega),fin D A Hc hD (s1.trans sH) inj (fun j hj=>⟨(hA j hj).1,(hA j hj).2.1⟩) eD⟩
end My
namespace L2
open PySem PySem.Spec PyProof.Rows
theorem Bf{xs ys:List Int}(h:xs.length=ys.length):((List.range xs.length).all fun j=>cV (.int (xs.getD j 0)) (.int (ys.getD j 0)))=decide (xs=ys):=by
 by_cases e:xs=ys
 ·subst e
  rw [decide_eq_true rfl,List.all_eq_true]
  intro j _
  exact A6 rfl
 ·rw [decide_eq_false e]
  cases z:((List.range xs.length).all fun j=>cV (.int (xs.getD j 0)) (.int (ys.getD j 0))) with
  | false=>rfl
  | true=>
   refine absurd (List.ext_getElem h fun j h1 h2=>?_) e
   have:=List.all_eq_true.mp z j (List.mem_range.mpr h1)
   have this:(xs.getD j 0 == ys.getD j 0)=true:=this
   rw [beq_iff_eq,List.getD_eq_getElem?_getD,List.getD_eq_getElem?_getD] at this
   simpa [h1,h2] using this
end L2
namespace My
open PySem L2
end My
namespace L2
open PySem PySem.Spec PyProof.Rows
end L2
namespace My
open PySem L2
end My
namespace L2
open PySem PySem.Spec PyProof.Rows
section
variable {X:Cx}
end
end L2
namespace My
open PySem L2
end My
namespace L2
open PySem PySem.Spec PyProof.Rows
end L2
namespace My
open PySem L2
end My
namespace L2
open PySem PySem.Spec PyProof.Rows
section
variable {X:Cx} {N:List Str} {scope:Scope} {cl:List (Str×Addr)} {x y:Str} {px py pos tp:Pos} {A2:Nat} {iter elt:Expr} {ifs:List Expr} {wi:TI} {ρ:St→St} {tt:TT} {te:TE}
end
section
variable {X:Cx} {pins:List (Addr×Obj)} {σ:St} {H:Hp} {s:Shared}
theorem tX{xs ys:List V}{us vs:List Value}(r1:Vals xs us)(r2:Vals ys vs){j:Nat}(h1:j<us.length)(h2:j<vs.length):∃x y,xs[j]?=some x∧ys[j]?=some y∧RelV x us.toArray[j]∧RelV y vs.toArray[j]:=by
 have l1:=r1.length
 have l2:=r2.length
 obtain ⟨x,ex⟩:∃x,xs[j]?=some x:=⟨xs[j],by simp [show j<xs.length by omega]⟩
 obtain ⟨y,ey⟩:∃y,ys[j]?=some y:=⟨ys[j],by simp [show j<ys.length by omega]⟩
 obtain ⟨x',jf,rx⟩:=r1.get ex
 obtain ⟨y',oz,ry⟩:=r2.get ey
 have e1:us.toArray[j]=x':=by simpa using (List.getElem?_eq_some_iff.mp jf).2
 have e2:vs.toArray[j]=y':=by simpa using (List.getElem?_eq_some_iff.mp oz).2
 exact ⟨x,y,ex,ey,by rw [e1];exact rx,by rw [e2];exact ry⟩
end
end L2
namespace My
open PySem PySem.W PyProof.Rows
def KH{α:Type}(n:Nat)(c:Nat→Int):KasT α→(α→Prop)→Prop
 | .ret a,Q=>Q a
 | .ask i j k,Q=>i<n∧j<n∧KH n c (k (decide (c i<c j))) Q
section
variable {n:Nat} {c:Nat→Int}
theorem KH.bind{α β:Type}{f:α→KasT β}{Q:β→Prop}:∀(t:KasT α),KH n c t (fun a=>KH n c (f a) Q)→KH n c (t.bind f) Q
 | .ret _,h=>h
 | .ask _ _ k,h=>⟨h.1,h.2.1,KH.bind (k _) h.2.2⟩
theorem KH.wp{α:Type}{cmp:Nat→Nat→(Bool→Shared→Prop)→Shared→Prop}{s:Shared}(hc:∀i j (C:Bool→Shared→Prop),i<n→j<n→C (decide (c i<c j)) s→cmp i j C s){Q:α→Shared→Prop}:∀(t:KasT α),KH n c t (fun a=>Q a s)→t.kasWp cmp Q s
 | .ret _,h=>h
 | .ask i j k,h=>hc i j _ h.1 h.2.1 (KH.wp hc (k _) h.2.2)
def aT(n:Nat)(p:Array Nat):Prop:=p.Perm (List.toArray (List.range n))
theorem aT.size{p:Array Nat}(h:aT n p):p.size=n:=by
 rw [Array.Perm.size_eq h]
 simp
theorem aT.lt{p:Array Nat}(h:aT n p){i:Nat}(hn:0<n):p.getD i 0<n:=by
 by_cases z:i<p.size
 ·have e:p.getD i 0=p[i]:=by simp [Array.getD,z]
  rw [e]
  have m:p[i]∈(List.toArray (List.range n)):=(Array.Perm.mem_iff h).mp (Array.getElem_mem z)
  simpa using m
 ·have e:p.getD i 0=0:=by simp [Array.getD,z]
  omega
def vN(c:Nat→Int)(p:Array Nat)(i:Nat):Int:=c (p.getD i 0)
theorem jO(p:Array Nat)(i:Nat):p.getD i 0=p[i]?.getD 0:=by
 by_cases z:i<p.size <;> simp [Array.getD,z]
theorem oA{p:Array Nat}{i j:Nat}(hj:j≤p.size)(k:Nat):vN c (kas_rev p i j) k=if i≤k∧k<j then vN c p (i+j-1-k) else vN c p k:=by
 have e:=getElem?_mirror_all (i:=i) hj k
 unfold vN kas_rev
 rw [jO,e]
 split <;> rw [jO]
theorem aT.rev{p:Array Nat}(h:aT n p)(i j:Nat):aT n (kas_rev p i j):=Array.Perm.trans (mirror_perm p i j _) h
theorem aT.Bg{p:Array Nat}(h:aT n p)(k d:Nat):aT n (bubble p k d):=Array.Perm.trans (bubble_perm p k d) h
def bu(c:Nat→Int)(p:Array Nat)(k:Nat):Prop:=∀a b,a≤b→b<k→vN c p a≤vN c p b
def dS(c:Nat→Int)(p:Array Nat)(k:Nat):Prop:=∀a b,a≤b→b<k→vN c p b≤vN c p a
theorem bu.one(p:Array Nat):bu c p 1:=fun a b h1 h2=>by
 obtain rfl:a=b:=by omega
 exact Int.le_refl _
theorem bu.more{p:Array Nat}{k:Nat}(h:bu c p k)(hk:vN c p (k-1)≤vN c p k)(k1:1≤k):bu c p (k+1):=fun a b h1 h2=>by
 by_cases z:b<k
 ·exact h a b h1 z
 ·obtain rfl:b=k:=by omega
  by_cases y:a=b
  ·rw [y];exact Int.le_refl _
  ·exact Int.le_trans (h a (b-1) (by omega) (by omega)) hk
theorem dS.more{p:Array Nat}{k:Nat}(h:dS c p k)(hk:vN c p k≤vN c p (k-1))(k1:1≤k):dS c p (k+1):=fun a b h1 h2=>by
 by_cases z:b<k
 ·exact h a b h1 z
 ·obtain rfl:b=k:=by omega
  by_cases y:a=b
  ·rw [y];exact Int.le_refl _
  ·exact Int.le_trans hk (h a (b-1) (by omega) (by omega))
theorem oB{p:Array Nat}(P:aT n p)(n0:0<n){Q:Nat→Prop}:∀(f m:Nat),1≤m→bu c p m→(∀k,m≤k→k≤m+f→bu c p k→(k<m+f→vN c p k<vN c p (k-1))→Q k)→KH n c (kas_asc p f m) Q
 | 0,m,_,hu,k=>k m (Nat.le_refl _) (Nat.le_refl _) hu fun z=>absurd z (Nat.lt_irrefl _)
 | f+1,m,m1,hu,k=>by
  refine ⟨P.lt n0,P.lt n0,?_⟩
  by_cases z:c (p.getD m 0)<c (p.getD (m-1) 0)
  ·rw [decide_eq_true z]
   dsimp only
   rw [if_pos rfl]
   exact k m (Nat.le_refl _) (by omega) hu fun _=>z
  ·rw [decide_eq_false z]
   dsimp only
   rw [if_neg (by simp)]
   refine oB P n0 f (m+1) (by omega) (hu.more (Int.not_lt.mp z) m1) fun j h1 h2 h3 h4=>k j (by omega) (by omega) h3 fun z=>h4 (by omega)
def jP(c:Nat→Int)(p:Array Nat)(a b:Nat):Prop:=∀i,a≤i→i<b→vN c p i=vN c p a
theorem oC{p:Array Nat}{i j:Nat}(hj:j≤p.size)(h:jP c p i j)(k:Nat):vN c (kas_rev p i j) k=vN c p k:=by
 rw [oA hj]
 split
 ·rw [h _ (by omega) (by omega),h k (by omega) (by omega)]
 ·rfl
theorem lG(n0:0<n){Q:Array Nat×Nat×Nat→Prop}:∀(f:Nat) (p:Array Nat) (m q:Nat),aT n p→1≤m→m+f≤n→q+1≤m→dS c p m→jP c p (m-(q+1)) m→(∀p' k q',aT n p'→m≤k→k≤m+f→q'+1≤k→dS c p' k→jP c p' (k-(q'+1)) k→Q (p',k,q'))→KH n c (kas_desc f p m q) Q
 | 0,p,m,q,P,_,_,hq,hd,he,k=>k p m q P (Nat.le_refl _) (Nat.le_refl _) hq hd he
 | f+1,p,m,q,P,m1,hm,hq,hd,he,k=>by
  refine ⟨P.lt n0,P.lt n0,?_⟩
  have sz:=P.size
  have one:∀(p:Array Nat),jP c p (m+1-(0+1)) (m+1):=fun p i h1 h2=>by
   obtain rfl:i=m+1-(0+1):=by omega
   rfl
  by_cases z:c (p.getD m 0)<c (p.getD (m-1) 0)
  ·rw [decide_eq_true z]
   dsimp only
   rw [if_pos rfl]
   split
   ·rename_i q0
    have same:=oC (c:=c) (p:=p) (i:=m-(q+1)) (j:=m) (by omega) he
    refine lG n0 f _ (m+1) 0 (P.rev _ _) (by omega) (by omega) (by omega) ?_ (one _) fun p' j q' a1 a2 a3 a4 a5 a6=>k p' j q' a1 (by omega) (by omega) a4 a5 a6
    refine dS.more (fun a b h1 h2=>?_) ?_ m1
    ·rw [same,same]
     exact hd a b h1 h2
    ·rw [same,same]
     exact Int.le_of_lt z
   ·exact lG n0 f p (m+1) 0 P (by omega) (by omega) (by omega) (hd.more (Int.le_of_lt z) m1) (one _) fun p' j q' a1 a2 a3 a4 a5 a6=>k p' j q' a1 (by omega) (by omega) a4 a5 a6
  ·rw [decide_eq_false z]
   dsimp only
   rw [if_neg (by simp)]
   refine ⟨P.lt n0,P.lt n0,?_⟩
   by_cases y:c (p.getD (m-1) 0)<c (p.getD m 0)
   ·rw [decide_eq_true y]
    dsimp only
    rw [if_pos rfl]
    exact k p m q P (Nat.le_refl _) (by omega) hq hd he
   ·rw [decide_eq_false y]
    dsimp only
    rw [if_neg (by simp)]
    have e:vN c p m=vN c p (m-1):=Int.le_antisymm (Int.not_lt.mp y) (Int.not_lt.mp z)
    refine lG n0 f p (m+1) (q+1) P (by omega) (by omega) (by omega) (hd.more (Int.le_of_eq e) m1) (fun i h1 h2=>?_) fun p' j q' a1 a2 a3 a4 a5 a6=>k p' j q' a1 (by omega) (by omega) a4 a5 a6
    rw [show m+1-(q+1+1)=m-(q+1) by omega] at h1 ⊢
    by_cases x:i<m
    ·exact he i h1 x
    ·rw [show i=m by omega,e]
     exact he (m-1) (by omega) (by omega)
theorem tY{p:Array Nat}{m:Nat}(P:aT n p)(n0:0<n)(m1:1≤m)(hm:m≤n)(hd:dS c p m){Q:Nat×Array Nat→Prop}(k:∀j p',aT n p'→m≤j→j≤n→bu c p' j→Q (j,p')):KH n c (kas_tail3 m n p) Q:=by
 have sz:=P.size
 have P':=P.rev 0 m
 refine KH.bind _ (oB P' n0 (n-m) m m1 (fun a b h1 h2=>?_) fun j h1 h2 h3 _=>k j _ P' h1 (by omega) h3)
 rw [oA (by omega),oA (by omega),if_pos (by omega),if_pos (by omega)]
 exact hd _ _ (by omega) (by omega)
theorem tZ{p:Array Nat}{m:Nat}(P:aT n p)(n0:0<n)(m1:1≤m)(hm:m+1≤n)(hd:dS c p (m+1)){Q:Nat×Array Nat→Prop}(k:∀j p',aT n p'→m≤j→j≤n→bu c p' j→Q (j,p')):KH n c (kas_descPart m n p) Q:=by
 refine KH.bind _ (lG n0 (n-(m+1)) p (m+1) 0 P (by omega) (by omega) (by omega) hd (fun i h1 h2=>by
  obtain rfl:i=m+1-(0+1):=by omega
  rfl) fun p' j q' P' h1 h2 h3 h4 h5=>?_)
 have sz:=P'.size
 dsimp only
 split
 ·have same:=oC (c:=c) (p:=p') (i:=j-(q'+1)) (j:=j) (by omega) h5
  exact tY (P'.rev _ _) n0 (by omega) (by omega) (fun a b y1 y2=>by rw [same,same];exact h4 a b y1 y2) fun i x a1 a2 a3 a4=>k i x a1 (by omega) a3 a4
 ·exact tY P' n0 (by omega) (by omega) h4 fun i x a1 a2 a3 a4=>k i x a1 (by omega) a3 a4
theorem Bh{p:Array Nat}(P:aT n p)(n0:0<n){Q:Nat×Array Nat→Prop}(k:∀j p',aT n p'→1≤j→j≤n→bu c p' j→Q (j,p')):KH n c (kas_count n p) Q:=by
 have sz:=P.size
 refine KH.bind _ (oB P n0 (n-1) 1 (Nat.le_refl 1) (bu.one p) fun j h1 h2 h3 h4=>?_)
 split
 ·exact k j p P h1 (by omega) h3
 ·rename_i z
  have jn:j<n:=by
   have:j≠n:=fun e=>z (by rw [e];simp)
   omega
  have lt:=h4 (by omega)
  split
  ·rename_i j1
   refine ⟨P.lt n0,P.lt n0,?_⟩
   by_cases y:c (p.getD 0 0)<c (p.getD (j-1) 0)
   ·rw [decide_eq_true y]
    dsimp only
    rw [if_pos rfl]
    exact k j p P h1 (by omega) h3
   ·rw [decide_eq_false y]
    dsimp only
    rw [if_neg (by simp)]
    have eq:jP c p 0 j:=fun i a1 a2=>Int.le_antisymm (Int.le_trans (h3 i (j-1) (by omega) (by omega)) (Int.not_lt.mp y)) (h3 0 i (by omega) a2)
    have same:=oC (c:=c) (p:=p) (i:=0) (j:=j) (by omega) eq
    refine tZ (P.rev 0 j) n0 h1 (by omega) ?_ fun i x a1 a2 a3 a4=>k i x a1 (by omega) a3 a4
    refine dS.more (fun a b a1 a2=>?_) (by rw [same,same];exact Int.le_of_lt lt) h1
    rw [same,same,eq a (by omega) (by omega),eq b (by omega) a2]
    exact Int.le_refl _
  ·refine tZ P n0 h1 (by omega) ?_ fun i x a1 a2 a3 a4=>k i x a1 (by omega) a3 a4
   refine dS.more (fun a b a1 a2=>?_) (Int.le_of_lt lt) h1
   obtain rfl:a=b:=by omega
   exact Int.le_refl _
theorem oD{p:Array Nat}{k:Nat}(P:aT n p)(n0:0<n){Q:Nat→Prop}(hu:bu c p k):∀(f l r:Nat),l≤r→r≤k→r-l≤f→(∀i,i<l→vN c p i≤vN c p k)→(∀i,r≤i→i<k→vN c p k≤vN c p i)→(∀l,l≤k→(∀i,i<l→vN c p i≤vN c p k)→(∀i,l≤i→i<k→vN c p k≤vN c p i)→Q l)→KH n c (kas_place p k f l r) Q
 | 0,l,r,h1,h2,h3,h4,h5,kk=>kk l (by omega) h4 fun i a1 a2=>h5 i (by omega) a2
 | f+1,l,r,h1,h2,h3,h4,h5,kk=>by
  unfold kas_place
  split
  ·exact kk l (by omega) h4 fun i a1 a2=>h5 i (by omega) a2
  ·refine ⟨P.lt n0,P.lt n0,?_⟩
   by_cases z:c (p.getD k 0)<c (p.getD ((l+r) / 2) 0)
   ·rw [decide_eq_true z]
    dsimp only
    rw [if_pos rfl]
    exact oD P n0 hu f l ((l+r) / 2) (by omega) (by omega) (by omega) h4 (fun i a1 a2=>Int.le_trans (Int.le_of_lt z) (hu _ i a1 a2)) kk
   ·rw [decide_eq_false z]
    dsimp only
    rw [if_neg (by simp)]
    exact oD P n0 hu f ((l+r) / 2+1) r (by omega) h2 (by omega) (fun i a1=>Int.le_trans (hu i ((l+r) / 2) (by omega) (by omega)) (Int.not_lt.mp z)) h5 kk
theorem t_{p:Array Nat}{k d:Nat}(hk:k<p.size)(hd:d≤k)(i:Nat):vN c (bubble p k d) i=if i=k-d then vN c p k else if k-d<i∧i≤k then vN c p (i-1) else vN c p i:=by
 have e:=getElem?_bubble hk d hd i
 unfold vN
 rw [jO,e]
 by_cases z:i=k-d
 ·rw [if_pos z,if_pos z,jO]
 ·rw [if_neg z,if_neg z]
  split <;> rw [jO]
theorem ua(n0:0<n){Q:Array Nat→Prop}:∀(f:Nat) (p:Array Nat) (k:Nat),aT n p→k+f=n→bu c p k→(∀p',aT n p'→bu c p' n→Q p')→KH n c (kas_bin f p k) Q
 | 0,p,k,P,e,hu,kk=>by
  obtain rfl:k=n:=by omega
  exact kk p P hu
 | f+1,p,k,P,e,hu,kk=>by
  have sz:=P.size
  refine KH.bind _ (oD P n0 hu k 0 k (Nat.zero_le _) (Nat.le_refl _) (by omega) (fun i h=>by omega) (fun i h1 h2=>by omega) fun l hl h1 h2=>?_)
  refine ua n0 f _ (k+1) (P.Bg k (k-l)) (by omega) (fun a b y1 y2=>?_) kk
  rw [t_ (by omega) (by omega),t_ (by omega) (by omega),show k-(k-l)=l by omega]
  by_cases a1:a=l
  ·rw [if_pos a1]
   by_cases b1:b=l
   ·rw [if_pos b1];exact Int.le_refl _
   ·rw [if_neg b1,if_pos (by omega)]
    exact h2 (b-1) (by omega) (by omega)
  ·rw [if_neg a1]
   by_cases a2:l<a∧a≤k
   ·rw [if_pos a2,if_neg (by omega),if_pos (by omega)]
    exact hu _ _ (by omega) (by omega)
   ·rw [if_neg a2]
    by_cases b1:b=l
    ·rw [if_pos b1]
     exact h1 a (by omega)
    ·rw [if_neg b1]
     split
     ·exact hu _ _ (by omega) (by omega)
     ·exact hu _ _ (by omega) (by omega)
theorem Bi(n0:0<n){Q:Array Nat→Prop}(k:∀p,aT n p→bu c p n→Q p):KH n c (kas_sort n) Q:=by
 refine KH.bind _ (Bh (p:=List.toArray (List.range n)) (Array.Perm.refl _) n0 fun j p P h1 h2 h3=>?_)
 dsimp only
 split
 ·rw [show max j 1=j by omega]
  exact ua n0 _ p j P (by omega) h3 k
 ·obtain rfl:j=n:=by omega
  exact k p P h3
end
section
variable {prog:Program} {w:World} {A:Around} {E:Value→Shared→Prop} {s:Shared}
def dC(h:Heap)(v:Value)(x y:Int):Prop:=∃a o t u e,v=.ref a∧h.get? a=some o∧o.cls=.type "tuple"∧o.data=.seq #[.int x t,.int y u] e
theorem Bj{v v':Value}{x y x' y':Int}(h1:dC s.heap v x y)(h2:dC s.heap v' x' y'){Q:Bool→Shared→Prop}(h:Q (decide (x<x'∨x=x'∧y<y')) s):wpAny (model prog w) A (keyLt' (tuples' true) v v') Q E s:=by
 obtain ⟨a,o,t,u,e,rfl,g,_,d⟩:=h1
 obtain ⟨a',o',t',u',e',rfl,g',_,d'⟩:=h2
 refine kat_lt g d g' d' ?_
 show KatLex prog w A true (decide (2<2)) Q [(.int x t,.int x' t'),(.int y u,.int y' u')] 0 s
 refine kat_cons (wpAny_eqBool_int ?_)
 by_cases z:x=x'
 ·subst z
  rw [show (x == x)=true by simp]
  refine kat_yes (kat_cons (wpAny_eqBool_int ?_))
  by_cases z2:y=y'
  ·subst z2
   rw [show (y == y)=true by simp]
   refine kat_yes (kat_nil ?_)
   rw [decide_eq_false (by omega)] at h
   exact h
  ·rw [show (y == y')=false by simp [z2]]
   refine kat_no ?_
   show wpAny (model prog w) A (oneLt' false (.int y u) (.int y' u')) Q _ s
   refine kat_one _ _ (lt_int ?_)
   show Q (decide (y<y')) s
   rw [show decide (y<y')=decide (x<x∨x=x∧y<y') from decide_eq_decide.mpr (by omega)]
   exact h
 ·rw [show (x == x')=false by simp [z]]
  refine kat_no ?_
  show wpAny (model prog w) A (oneLt' true (.int x t) (.int x' t')) Q _ s
  refine oneLt_int ?_
  rw [show decide (x<x')=decide (x<x'∨x=x'∧y<y') from decide_eq_decide.mpr (by omega)]
  exact h
theorem ub{h:Heap}:∀{vs:List Value},(∀v∈vs,∃x y,dC h v x y)→∃fs:List Value,KatTups h vs fs∧fs.length=vs.length∧∀f∈fs,∃n t,f=.int n t
 | [],_=>⟨[],.nil,rfl,fun f hf=>by cases hf⟩
 | v::vs,hv=>by
  obtain ⟨fs,k,l,i⟩:=ub (vs:=vs) fun v h=>hv v (List.mem_cons_of_mem _ h)
  obtain ⟨x,y,a,o,t,u,e,rfl,g,c,d⟩:=hv v List.mem_cons_self
  refine ⟨.int x t::fs,.cons g c d rfl k,by rw [List.length_cons,List.length_cons,l],fun f hf=>?_⟩
  rcases List.mem_cons.mp hf with rfl | hf
  ·exact ⟨x,t,rfl⟩
  ·exact i f hf
theorem Bk{vs:List Value}{x y:Nat→Int}(h2:2≤vs.length)(fW:vs.length<64)(hv:∀i v,vs[i]?=some v→dC s.heap v (x i) (y i)∧0≤y i∧y i<1000){Q:SortSt→Shared→Prop}
  (hQ:∀(p:Array Nat) (st:SortSt),aT vs.length p→bu (fun i=>x i*1000+y i) p vs.length→(arrOf st).map (·.2)=List.toArray (p.toList.map fun i=>vs.getD i Value.none)→failedOf st=none→Q st s) :
  wpAny (model prog w) A (sortRuns'.run (SortSt.mk' (tuples' true) (vs.toArray.zip vs.toArray) #[] 7 none)) (fun r s'=>Q r.2 s') E s:=by
 refine kat_run (G:=fun p s'=>s'=s∧aT vs.length p∧bu (fun i=>x i*1000+y i) p vs.length) rfl h2 fW (fun p st s' _ ha hf hg=>?_) ?_
 ·obtain ⟨rfl,hp,hu⟩:=hg
  exact hQ p st hp hu (kat_snds rfl ha) hf
 ·refine KH.wp (n:=vs.length) (c:=fun i=>x i*1000+y i) (fun i j C hi hj hC=>?_) _ (Bi (by omega) fun p hp hu=>⟨rfl,hp,hu⟩)
  have gi:vs[i]?=some vs[i]:=by simp [hi]
  have gj:vs[j]?=some vs[j]:=by simp [hj]
  obtain ⟨pi,y0,y1⟩:=hv i _ gi
  obtain ⟨pj,y2,y3⟩:=hv j _ gj
  unfold kas_ask
  rw [show vs.getD i Value.none=vs[i] by simp [hi],show vs.getD j Value.none=vs[j] by simp [hj]]
  refine Bj pi pj ?_
  rw [show decide (x i<x j∨x i=x j∧y i<y j)=decide (x i*1000+y i<x j*1000+y j) from decide_eq_decide.mpr (by omega)]
  exact hC
theorem Bl{vs:List Value}{Q:SortKind→Shared→Prop}(h1:1≤vs.length)(hv:∀v∈vs,∃x y,dC s.heap v x y)(h:Q (tuples' true) s):wpAny (model prog w) A (keyKind' vs.toArray) Q E s:=by
 obtain ⟨fs,k,l,i⟩:=ub hv
 refine kat_kind (T:=Value.type "int") k (by omega) (fun v hv=>?_) rfl h
 obtain ⟨n,t,rfl⟩:=i v hv
 exact .now
theorem dC.mono{h h':Heap}{v:Value}{x y:Int}(k:∀b o,h.get? b=some o→h'.get? b=some o)(p:dC h v x y):dC h' v x y:=by
 obtain ⟨a,o,t,u,e,rfl,g,c,d⟩:=p
 exact ⟨a,o,t,u,e,rfl,k _ _ g,c,d⟩
theorem Bm{a:Addr}{vs:List Value}{n:Nat}{x y:Nat→Int}{P:PySem.Fin→Shared→Prop}(ho:s.heap.get? a=some (seqObj "list" vs.toArray n))(fW:vs.length<64)(hv:∀i v,vs[i]?=some v→dC s.heap v (x i) (y i)∧0≤y i∧y i<1000)
  (h:∀(p:Array Nat),aT vs.length p→bu (fun i=>x i*1000+y i) p vs.length→P (.done (.ret .none)) {s with heap:=sortedHeap s.heap a vs (List.toArray (p.toList.map fun i=>vs.getD i Value.none))}) :
  wpAny (model prog w) A (Builtin.«list.sort» ⟨[.ref a],[]⟩) P E s:=by
 have sl:vs.length≤sizeLine:=by rw [sizeLine_eq];omega
 have lt:=Heap.lt_size ho
 obtain ⟨e1,g1⟩:∃e,(s.heap.update a (Obj.mapSeq fun _=>#[])).get? a=some (seqObj "list" #[] e):=⟨_,get?_update_seq ho fun _=>#[]⟩
 have z1:(s.heap.update a (Obj.mapSeq fun _=>#[])).objs.size=s.heap.objs.size:=Heap.size_update _ _ _
 have up:∀b u,b<s.heap.objs.size→(s.heap.update a (Obj.mapSeq fun _=>#[])).get? b=some u→(((s.heap.update a (Obj.mapSeq fun _=>#[])).push (seqObj "tuple" vs.toArray 0)).push (seqObj "list" #[] 0)).get? b=some u:=fun b u hb hu=>by
  rw [Heap.get?_push_ne _ _ _ (Nat.ne_of_lt (by rw [size_push',z1];exact Nat.lt_succ_of_lt hb)),Heap.get?_push_ne _ _ _ (Nat.ne_of_lt (by rw [z1];exact hb))]
  exact hu
 have g3:=up a _ lt g1
 have uc:∀i v,vs[i]?=some v→dC (((s.heap.update a (Obj.mapSeq fun _=>#[])).push (seqObj "tuple" vs.toArray 0)).push (seqObj "list" #[] 0)) v (x i) (y i)∧0≤y i∧y i<1000:=fun i v hi=>by
  obtain ⟨⟨b,o,t,u,e,rfl,g,cc,d⟩,y0⟩:=hv i v hi
  have nb:b≠a:=fun q=>by
   rw [q,ho] at g
   cases g
   exact absurd (Value.type.inj cc) (by decide)
  refine ⟨⟨b,o,t,u,e,rfl,up b o (Heap.lt_size g) ?_,cc,d⟩,y0⟩
  rw [Heap.get?_update_ne _ _ _ _ nb]
  exact g
 rw [list_sort_plain]
 refine wpAny_bind (listItems_at ho rfl (wpAny_bind (listUpdate_at ho rfl ?_ (by rw [List.size_toArray];omega) (Nat.zero_le _))))
 refine wpAny_bind (seqEpoch_at g1 rfl (wpAny_bind (wpAny_newTuple ?_ (by show vs.length≤_;omega))))
 refine wpAny_bind (wpAny_newList (wpAny_holding ?_) (Nat.zero_le _))
 show wpAny (model prog w) A _ P E {s with heap:=((s.heap.update a (Obj.mapSeq fun _=>#[])).push (seqObj "tuple" vs.toArray 0)).push (seqObj "list" #[] 0)}
 dsimp only
 have fin:∀(st:SortSt) (p:Array Nat),aT vs.length p→bu (fun i=>x i*1000+y i) p vs.length→(arrOf st).map (·.2)=List.toArray (p.toList.map fun i=>vs.getD i Value.none)→failedOf st=none→
   wpAny (model prog w) A (do
    let touched:=(←seqEpoch a) != e1
    Builtin.List.listUpdate (.ref a) fun _=>(arrOf st).map (·.2)
    if let some e:=failedOf st then rule "list.sort.comparison-raised";throw e
    if touched then rule "list.sort.modified";raiseError "ValueError" "list modified during sort"
    ret .none) P E {s with heap:=((s.heap.update a (Obj.mapSeq fun _=>#[])).push (seqObj "tuple" vs.toArray 0)).push (seqObj "list" #[] 0)}:=fun st p hp hu ha hf=>by
  refine wpAny_bind (seqEpoch_at g3 rfl (wpAny_bind (listUpdate_at g3 rfl ?_ (Nat.zero_le _) ?_)))
  ·rw [hf,ha]
   simp only [bne_self_eq_false,Bool.false_eq_true,if_false]
   exact wpAny_pure (h p hp hu)
  ·rw [ha,List.size_toArray,List.length_map,Array.length_toList,hp.size]
   omega
 by_cases z:vs.toArray.size<2
 ·rw [if_pos z,if_pos z]
  refine wpAny_bind (wpAny_pure ?_)
  rw [StateT.run_pure]
  refine wpAny_bind (wpAny_pure ?_)
  have len:vs.length<2:=by simpa using z
  refine fin _ (List.toArray (List.range vs.length)) (Array.Perm.refl _) (fun a b h1 h2=>by
   obtain rfl:a=b:=by omega
   exact Int.le_refl _) ?_ rfl
  match vs,len with
  | [],_=>
   show Array.map (·.2) ((#[]:Array Value).zip #[])=_
   simp
  | [v],_=>
   show Array.map (·.2) (#[v].zip #[v])=_
   simp
 ·rw [if_neg z,if_neg z]
  have len:2≤vs.length:=by simpa using z
  refine wpAny_bind (Bl (by omega) (fun v hm=>?_) ?_)
  ·obtain ⟨i,hi,rfl⟩:=List.getElem_of_mem hm
   exact ⟨_,_,(uc i _ (by simp [hi])).1⟩
  ·refine wpAny_bind (wpAny_mono (Bk (Q:=fun st s'=>s'={s with heap:=((s.heap.update a (Obj.mapSeq fun _=>#[])).push (seqObj "tuple" vs.toArray 0)).push (seqObj "list" #[] 0)}∧∃p,aT vs.length p∧bu (fun i=>x i*1000+y i) p vs.length∧(arrOf st).map (·.2)=List.toArray (p.toList.map fun i=>vs.getD i Value.none)∧failedOf st=none) len fW uc fun p st a1 a2 a3 a4=>⟨rfl,p,a1,a2,a3,a4⟩) ?_ fun _ _ e=>e)
   rintro ⟨⟨⟩,st⟩ s' ⟨rfl,p,a1,a2,a3,a4⟩
   exact fin st p a1 a2 a3 a4
end
section
variable {prog:Program} {w:World} {A:Around} {E:Value→Shared→Prop} {s:Shared}
theorem Bn{l:Addr}{vs:List Value}{x y:Nat→Int}{Q:Value→Shared→Prop}(hl:s.heap.IsList l vs.toArray)(fW:vs.length<64)(hv:∀i v,vs[i]?=some v→dC s.heap v (x i) (y i)∧0≤y i∧y i<1000)
  (h:∀(p:Array Nat) (h':Heap) (c:Nat),aT vs.length p→bu (fun i=>x i*1000+y i) p vs.length→(∀b o,s.heap.get? b=some o→h'.get? b=some o)→h'.get? (s.heap.objs.size+1)=some (seqObj "list" (List.toArray (p.toList.map fun i=>vs.getD i Value.none)) c)→Q (.ref (s.heap.objs.size+1)) {s with heap:=h'}) :
  wpAny (model prog w) A (call (.builtin "sorted") [.ref l]) Q E s:=by
 have sl:vs.length≤sizeLine:=by rw [sizeLine_eq];omega
 refine Calls.call_function_entry kind_sorted plain_sorted entry_sorted (args_sorted1 _) ?_
 unfold Builtin.«sorted»
 refine wpAny_bind (m:=checkCount "sorted" 1 1 _) (wpAny_pure (wpAny_bind (collect_list hl (wpAny_bind (wpAny_newList ?_ sl)) sl)))
 have zz:((s.heap.push (seqObj "list" #[] 0)).update s.heap.objs.size (Obj.mapSeq (·++vs.toArray))).objs.size=s.heap.objs.size+1:=by rw [Heap.size_update,size_push']
 have kp:∀b o,s.heap.get? b=some o→(((s.heap.push (seqObj "list" #[] 0)).update s.heap.objs.size (Obj.mapSeq (·++vs.toArray))).push (seqObj "list" vs.toArray 0)).get? b=some o:=fun b o g=>by
  have lt:=Heap.lt_size g
  rw [Heap.get?_push_ne _ _ _ (Nat.ne_of_lt (by rw [zz];exact Nat.lt_succ_of_lt lt)),Heap.get?_update_ne _ _ _ _ (Nat.ne_of_lt lt),Heap.get?_push_ne _ _ _ (Nat.ne_of_lt lt)]
  exact g
 have gL:(((s.heap.push (seqObj "list" #[] 0)).update s.heap.objs.size (Obj.mapSeq (·++vs.toArray))).push (seqObj "list" vs.toArray 0)).get? (s.heap.objs.size+1)=some (seqObj "list" vs.toArray 0):=by
  rw [←zz]
  exact Heap.get?_push_size _ rfl
 show wpAny _ _ _ _ _ {s with heap:=((s.heap.push (seqObj "list" #[] 0)).update s.heap.objs.size (Obj.mapSeq (·++vs.toArray))).push (seqObj "list" vs.toArray 0)}
 rw [zz]
 generalize ((s.heap.push (seqObj "list" #[] 0)).update s.heap.objs.size (Obj.mapSeq (·++vs.toArray))).push (seqObj "list" vs.toArray 0)=h1 at kp gL
 refine wpAny_bind (wpAny_holding (wpAny_call_entry slot_list_sort ⟨_,gL,rfl⟩ entry_list_sort (Bm (s:={s with heap:=h1}) gL fW (fun i v hi=>⟨(hv i v hi).1.mono kp,(hv i v hi).2⟩) fun p hp hu=>⟨_,rfl,?_⟩) (args_list_sort _)))
 have ud:=Heap.lt_size gL
 have z1:(h1.update (s.heap.objs.size+1) (Obj.mapSeq fun _=>#[])).objs.size=h1.objs.size:=Heap.size_update _ _ _
 obtain ⟨e1,g1⟩:∃e,(h1.update (s.heap.objs.size+1) (Obj.mapSeq fun _=>#[])).get? (s.heap.objs.size+1)=some (seqObj "list" #[] e):=⟨_,get?_update_seq gL fun _=>#[]⟩
 have up:∀b u,b<h1.objs.size→(h1.update (s.heap.objs.size+1) (Obj.mapSeq fun _=>#[])).get? b=some u→(((h1.update (s.heap.objs.size+1) (Obj.mapSeq fun _=>#[])).push (seqObj "tuple" vs.toArray 0)).push (seqObj "list" #[] 0)).get? b=some u:=fun b u hb hu=>by
  rw [Heap.get?_push_ne _ _ _ (Nat.ne_of_lt (by rw [size_push',z1];exact Nat.lt_succ_of_lt hb)),Heap.get?_push_ne _ _ _ (Nat.ne_of_lt (by rw [z1];exact hb))]
  exact hu
 have g3:=up _ _ ud g1
 refine wpAny_pure ⟨_,rfl,h p _ _ hp hu (fun b o g=>?_) (get?_update_seq g3 fun _=>List.toArray (p.toList.map fun i=>vs.getD i Value.none))⟩
 have g':=kp b o g
 have ne:b≠s.heap.objs.size+1:=Nat.ne_of_lt (Nat.lt_succ_of_lt (Heap.lt_size g))
 show (Heap.update _ _ _).get? b=some o
 rw [Heap.get?_update_ne _ _ _ _ ne]
 refine up b o (Heap.lt_size g') ?_
 rw [Heap.get?_update_ne _ _ _ _ ne]
 exact g'
end
end My
namespace L2
open PySem PySem.W PyProof.Rows My
def Bo:List V→Hp→VK→Prop:=fun xs H Q=>∃(a:Addr) (vs:List V) (x y:Nat→Int),xs=[.ref a]∧H a=some (.lst vs)∧vs.length<64∧(∀(i:Nat) (v:V),vs[i]?=some v→(∃b,v=.ref b∧H b=some (.tup [.int (x i),.int (y i)]))∧0≤y i∧y i<1000) ∧
 ∀(p:Array Nat) (l:Addr),aT vs.length p→bu (fun i=>x i*1000+y i) p vs.length→H l=none→Q (.ref l) (upd H l (.lst (p.toList.map fun i=>vs.getD i .az)))
theorem ue{xs:List V}{us:List Value}(r:Vals xs us):∀(ns:List Nat),(∀i∈ns,i<xs.length)→Vals (ns.map fun i=>xs.getD i .az) (ns.map fun i=>us.getD i Value.none)
 | [],_=>.nil
 | i::ns,h=>by
  have hi:=h i List.mem_cons_self
  obtain ⟨u,e,ru⟩:=r.get (i:=i) (x:=xs[i]) (by simp [hi])
  refine .cons ?_ (ue r ns fun j hj=>h j (List.mem_cons_of_mem _ hj))
  dsimp only
  rw [show xs.getD i .az=xs[i] by simp [hi],show us.getD i Value.none=u by rw [List.getD_eq_getElem?_getD,e];rfl]
  exact ru
theorem uf{X:Cx}:bR X (.builtin "sorted") Bo:=by
 intro pins s σ H xs us Q I r h
 obtain ⟨a,vs,x,y,rfl,ha,fW,hv,k⟩:=h
 obtain ⟨u,rfl,ru⟩:=vals1 r
 cases ru
 obtain ⟨ae,rv,pl,hz⟩:=I.list (.of ha)
 have hl:=rv.length
 refine Bn (x:=x) (y:=y) pl.isList (by omega) (fun i v hi=>?_) fun p h' c hp hu kp g=>?_
 ·have dD:i<vs.length:=by
   have:=(List.getElem?_eq_some_iff.mp hi).1
   omega
  have gi:vs[i]?=some vs[i]:=by simp [dD]
  obtain ⟨⟨b,eb,hb⟩,Bp⟩:=hv i _ gi
  obtain ⟨u,eu,ru⟩:=rv.get gi
  rw [hi] at eu
  cases eu
  rw [eb] at ru
  cases ru
  obtain ⟨_,dv,r2,o,g,cl,e,d⟩:=(show aI X.prog X.w H s.heap b (.tup [.int (x i),.int (y i)]) from I.ao b _ hb)
  obtain ⟨u1,u2,rfl,q1,q2⟩:=vals2 r2
  obtain ⟨t1,rfl⟩:=q1
  obtain ⟨t2,rfl⟩:=q2
  exact ⟨⟨b,o,t1,t2,e,rfl,g,cl,d⟩,Bp⟩
 ·rw [←hl] at hp hu
  have sz:=hp.size
  refine ⟨.ref (s.heap.objs.size+1),_,I.laid (t':=s.toks) (o:=.lst (p.toList.map fun i=>vs.getD i .az)) kp (Nat.le_succ _) ⟨?_,p.toList.map fun i=>ae.getD i Value.none,c,?_,g⟩,rfl,k p _ hp hu (I.ao.fresh (Nat.le_succ _))⟩
  ·rw [List.length_map,Array.length_toList,sz]
   exact hz
  ·refine ue rv _ fun i hi=>?_
   have m:i∈List.toArray (List.range vs.length):=(Array.Perm.mem_iff hp).mp (Array.mem_toList_iff.mp hi)
   simpa using m
end L2
namespace My
open PySem L2
def Bq(K:PySem.W.Frag):R2:=fun x y H Q=>∃a b xs,x=.ref a∧y=.ref b∧aF K H a xs∧H b=some (.lst [])∧Q (.bl (!xs.isEmpty)) H
theorem Br{X:Cx}(hu:X.A.units+64<cLine):aZ X (compareOp .NotEq) (Bq X.K):=by
 intro pins s σ H x y v u Q I rx ry h
 obtain ⟨a,b,xs,rfl,rfl,h1,h2,q⟩:=h
 cases rx
 cases ry
 obtain ⟨us,r1,t1,_⟩:=I.list h1
 obtain ⟨vs,r2,t2,_⟩:=I.list (aF.of h2)
 have l1:=r1.length
 have l2:=r2.length
 cases xs with
 | nil=>
  refine SeqAt.RcNeAt.lists (e:=fun _=>true) t1.isList t2.isList (by simp at l1 l2 ⊢;omega) (by omega) (fun j z1 z2=>?_) _ _ _ _ ?_
  ·simp at l1
   have:us=[]:=List.length_eq_zero_iff.mp l1.symm
   subst this
   simp at z1
  ·rw [all_range]
   exact ⟨.bl false,H,I,rfl,q⟩
 | cons w ws=>
  refine SeqAt.RcNeAt.lists_lengths t1.isList t2.isList ?_ (by omega) _ _ _ _ ⟨.bl true,H,I,rfl,q⟩
  simp at l1 l2 ⊢
  omega
theorem oE{c:TT}{t u:TS}{D:Ends}{σ:St}{H:Hp}(M:St→Hp→Prop)(hM:∀σ H,M σ H→D.nx σ H)(k:∀R:St→Hp→Prop,(∀σ H,M σ H→R σ H)→ng c t u {D with nx:=R} σ H):ng c t u D σ H:=k D.nx hM
def Bs(K:PySem.W.Frag):Sp:=fun vs H Q _=>∃(P a l:Addr) (ns:List Int) (xs:List V),vs=[.ref P,.ref l]∧aP H P a∧aF K (er P H) a (ns.map V.int)∧l≠P∧H l=some (.lst xs)∧xs.length≤100 ∧
 ∀(r:Addr) (ys:List V) (H':Hp),au P H H'→aP H' P a→er P H r=none→r≠P→H' r=some (.lst ys)→ys.Perm xs→Q (.ref r) H'
def Bt(K:PySem.W.Frag):Sp:=fun vs H Q _=>∃(P a:Addr) (ns:List Int) (way size wide i j:Int),vs=[.ref P,.int way,.int size,.int wide,.int i,.int j]∧aP H P a∧aF K (er P H) a (ns.map V.int) ∧
 ∀(b:Bool) (H':Hp),au P H H'→aP H' P a→Q (.bl b) H'
theorem ug{α:Type}:∀(zs:List α) (k:Nat) (h:k<zs.length),(zs[k]::zs.eraseIdx k).Perm zs
 | _::_,0,_=>.refl _
 | z::zs,k+1,h=>(List.Perm.swap _ _ _).trans ((ug zs k (by simpa using h)).cons z)
def aE(H:Hp)(vs:List V)(L:List (Int×Int)):Prop:=vs.length=L.length∧∀(k:Nat) (v:V) (p:Int×Int),vs[k]?=some v→L[k]?=some p→∃b,v=.ref b∧H b=some (.tup [.int p.1,.int p.2])
theorem aE.nil(H:Hp):aE H [] []:=⟨rfl,fun k v p h=>by simp at h⟩
theorem aE.mono{H H':Hp}{vs:List V}{L:List (Int×Int)}(h:aE H vs L)(s:ag H H'):aE H' vs L:=⟨h.1,fun k v p h1 h2=>by
 obtain ⟨b,e,g⟩:=h.2 k v p h1 h2
 exact ⟨b,e,s _ _ g⟩⟩
theorem aE.a9{H H':Hp}{vs:List V}{L:List (Int×Int)}{r:Addr}{xs:List V}(h:aE H vs L)(e:H r=some (.lst xs))(k:∀b o,b≠r→H b=some o→H' b=some o):aE H' vs L:=⟨h.1,fun i v p h1 h2=>by
 obtain ⟨b,eb,g⟩:=h.2 i v p h1 h2
 refine ⟨b,eb,k b _ (fun z=>?_) g⟩
 rw [z,e] at g
 cases g⟩
theorem aE.push{H:Hp}{vs:List V}{L:List (Int×Int)}{b:Addr}{p:Int×Int}(h:aE H vs L)(e:H b=some (.tup [.int p.1,.int p.2])):aE H (vs++[.ref b]) (L++[p]):=⟨by simp [h.1],fun k v q h1 h2=>by
 have hl:=h.1
 by_cases z:k<vs.length
 ·rw [List.getElem?_append_left z] at h1
  rw [List.getElem?_append_left (by omega)] at h2
  exact h.2 k v q h1 h2
 ·have hk:=(List.getElem?_eq_some_iff.mp h1).1
  rw [List.length_append,List.length_singleton] at hk
  obtain rfl:k=vs.length:=by omega
  rw [List.getElem?_append_right (Nat.le_refl _),Nat.sub_self] at h1
  rw [List.getElem?_append_right (by omega),show vs.length-L.length=0 by omega] at h2
  cases h1
  cases h2
  exact ⟨b,rfl,e⟩⟩
structure cY (n:Nat) (L:List (Int×Int)):Prop where
 nd:L.Nodup
 lt:∀p∈L,0≤p.1∧p.1<p.2∧p.2<n
 bC:L.length≤n*n / 2
def lexLt(p q:Int×Int):Prop:=p.1<q.1∨p.1=q.1∧p.2<q.2
theorem Bu{M:List (Int×Int)}{p:Array Nat}(P:aT M.length p)(U:bu (fun i=>(M.getD i (0,0)).1*1000+(M.getD i (0,0)).2) p M.length)(nd:M.Nodup)(b:∀q∈M,0≤q.2∧q.2<1000) :
  (p.toList.map fun i=>M.getD i (0,0)).Perm M∧(p.toList.map fun i=>M.getD i (0,0)).Pairwise lexLt:=by
 have pm:p.toList.Perm (List.range M.length):=Array.perm_iff_toList_perm.mp P
 have pn:p.toList.Nodup:=pm.nodup_iff.mpr List.nodup_range
 have lt:∀i∈p.toList,i<M.length:=fun i hi=>List.mem_range.mp (pm.mem_iff.mp hi)
 refine ⟨?_,?_⟩
 ·have e:((List.range M.length).map fun i=>M.getD i (0,0))=M:=by
   refine List.ext_getElem (by simp) fun i h1 h2=>?_
   rw [List.getElem_map,List.getElem_range,getD_at h2]
  have:=pm.map fun i=>M.getD i (0,0)
  rw [e] at this
  exact this
 ·rw [List.pairwise_iff_getElem]
  intro i j hi hj rq
  rw [List.length_map] at hi hj
  rw [List.getElem_map,List.getElem_map]
  have sz:=P.size
  have li:p.toList[i]<M.length:=lt _ (List.getElem_mem _)
  have lj:p.toList[j]<M.length:=lt _ (List.getElem_mem _)
  have u:=U i j (by omega) (by rw [←sz,←Array.length_toList];exact hj)
  unfold vN at u
  have gi:p.getD i 0=p.toList[i]:=by
   have:i<p.size:=by rw [←Array.length_toList];exact hi
   simp [Array.getD,this]
  have gj:p.getD j 0=p.toList[j]:=by
   have:j<p.size:=by rw [←Array.length_toList];exact hj
   simp [Array.getD,this]
  rw [gi,gj] at u
  dsimp only at u
  rw [getD_at li,getD_at lj] at u
  rw [getD_at li,getD_at lj]
  have ne:M[p.toList[i]]≠M[p.toList[j]]:=fun e=>by
   have e1:=(List.getElem_inj nd).mp e
   have e2:=(List.getElem_inj pn).mp e1
   omega
  have b1:=b _ (List.getElem_mem li)
  have b2:=b _ (List.getElem_mem lj)
  generalize M[p.toList[i]]=x at u ne b1
  generalize M[p.toList[j]]=y at u ne b2
  obtain ⟨x1,x2⟩:=x
  obtain ⟨y1,y2⟩:=y
  unfold lexLt
  dsimp only at u b1 b2 ⊢
  by_cases z:x1<y1
  ·exact .inl z
  ·right
   have e1:x1=y1:=by omega
   subst e1
   refine ⟨rfl,?_⟩
   by_cases y:x2=y2
   ·subst y
    exact absurd rfl ne
   ·omega
theorem lH{α β:Type}{f:α→β}:∀{L:List α},L.Nodup→(∀p q,p∈L→q∈L→f p=f q→p=q)→(L.map f).Nodup
 | [],_,_=>List.nodup_nil
 | x::L,h,k=>by
  obtain ⟨h1,h2⟩:=List.nodup_cons.mp h
  refine List.nodup_cons.mpr ⟨fun m=>?_,lH h2 fun p q hp hq=>k p q (List.mem_cons_of_mem _ hp) (List.mem_cons_of_mem _ hq)⟩
  obtain ⟨y,hy,e⟩:=List.mem_map.mp m
  have:=k y x (List.mem_cons_of_mem _ hy) List.mem_cons_self e
  rw [this] at hy
  exact h1 hy
def b8(nm:Nat→Int)(p:Int×Int):Int×Int:=(min (nm p.1.toNat) (nm p.2.toNat),max (nm p.1.toNat) (nm p.2.toNat))
structure oF (n:Nat) (nm:Nat→Int):Prop where
 lt:∀i,i<n→0≤nm i∧nm i<n
 inj:∀i j,i<n→j<n→nm i=nm j→i=j
theorem Bv{n:Nat}{nm:Nat→Int}{L:List (Int×Int)}(h:cY n L)(N:oF n nm):cY n (L.map (b8 nm)) where
 nd:=by
  refine lH h.nd fun p q hp hq e=>?_
  have a:=h.lt p hp
  have b:=h.lt q hq
  obtain ⟨p1,p2⟩:=p
  obtain ⟨q1,q2⟩:=q
  obtain ⟨i,rfl⟩:=Int.eq_ofNat_of_zero_le (show 0≤p1 by dsimp only at a;omega)
  obtain ⟨j,rfl⟩:=Int.eq_ofNat_of_zero_le (show 0≤p2 by dsimp only at a;omega)
  obtain ⟨k,rfl⟩:=Int.eq_ofNat_of_zero_le (show 0≤q1 by dsimp only at b;omega)
  obtain ⟨l,rfl⟩:=Int.eq_ofNat_of_zero_le (show 0≤q2 by dsimp only at b;omega)
  dsimp only at a b
  have e1:=congrArg Prod.fst e
  have e2:=congrArg Prod.snd e
  unfold b8 at e1 e2
  simp only [Int.toNat_natCast] at e1 e2
  have ij:nm i≠nm j:=fun z=>by have:=N.inj i j (by omega) (by omega) z;omega
  have kl:nm k≠nm l:=fun z=>by have:=N.inj k l (by omega) (by omega) z;omega
  by_cases z:nm i=nm k
  ·have e3:nm j=nm l:=by omega
   have i1:=N.inj i k (by omega) (by omega) z
   have i2:=N.inj j l (by omega) (by omega) e3
   rw [i1,i2]
  ·have e3:nm i=nm l:=by omega
   have e4:nm j=nm k:=by omega
   have i1:=N.inj i l (by omega) (by omega) e3
   have i2:=N.inj j k (by omega) (by omega) e4
   omega
 lt:=fun p hp=>by
  obtain ⟨q,hq,rfl⟩:=List.mem_map.mp hp
  have a:=h.lt q hq
  have n1:=N.lt q.1.toNat (by omega)
  have n2:=N.lt q.2.toNat (by omega)
  have ne:nm q.1.toNat≠nm q.2.toNat:=fun z=>by have:=N.inj _ _ (by omega) (by omega) z;omega
  unfold b8
  dsimp only
  omega
 bC:=by rw [List.length_map];exact h.bC
theorem cY.perm{n:Nat}{L L':List (Int×Int)}(h:cY n L)(p:L'.Perm L):cY n L':=⟨p.nodup_iff.mpr h.nd,fun q hq=>h.lt q (p.mem_iff.mp hq),by rw [p.length_eq];exact h.bC⟩
def bU(H:Hp)(t:Addr)(n:Nat)(L:List (Int×Int)):Prop:=∃(lt:Addr) (us:List V),H t=some (.tup [.int (n:Int),.ref lt])∧H lt=some (.tup us)∧aE H us L
def Bw:Sp:=fun vs H Q _=>∃(l r:Addr) (n:Nat) (us ws:List V) (L:List (Int×Int)) (nm:Nat→Int),vs=[.int (n:Int),.ref l,.ref r]∧H l=some (.lst us)∧aE H us L∧cY n L∧n≤10∧H r=some (.lst ws)∧ws.length=n∧(∀i,i<n→ws[i]?=some (.int (nm i)))∧oF n nm ∧
 ∀(t:Addr) (L':List (Int×Int)) (H':Hp),ag H H'→H t=none→bU H' t n L'→cY n L'→L'.Pairwise lexLt→L'.Perm (L.map (b8 nm))→Q (.ref t) H'
theorem aE.pick{H:Hp}{us:List V}{M:List (Int×Int)}(h:aE H us M)(ns:List Nat)(hn:∀i∈ns,i<M.length):aE H (ns.map fun i=>us.getD i .az) (ns.map fun i=>M.getD i (0,0)):=⟨by simp,fun k v p h1 h2=>by
 have hl:=h.1
 have hk:k<ns.length:=by
  have:=(List.getElem?_eq_some_iff.mp h1).1
  simpa using this
 have hi:=hn ns[k] (List.getElem_mem hk)
 rw [List.getElem?_map,List.getElem?_eq_getElem hk] at h1 h2
 cases h1
 cases h2
 dsimp only
 have dD:ns[k]<us.length:=by omega
 rw [getD_at hi]
 have e:us.getD ns[k] .az=us[ns[k]]:=by simp [dD]
 rw [e]
 exact h.2 ns[k] _ _ (by simp [dD]) (by simp [hi])⟩
theorem Bx{K:PySem.W.Frag}{wi:TI}{ρ:St→St}{tt:TT}{te:TE}{σ:St}{H:Hp}{Q:VK}{P a l:Addr}{xs:List V}(hn:xs.length<sizeLine)(nl:l≠P)(el:H l=some (.lst xs))(pc:aP H P a)
  (eJ:∀R:It→Hp→Prop,R (fH K l) H→wi σ H R)
  (test:∀(i:Nat) (x:V),xs[i]?=some x→∀(Hc:Hp) (R:Bool→Hp→Prop),au P H Hc→aP Hc P a→(∀b H3,au P Hc H3→aP H3 P a→R b H3)→tt (some x::ρ σ) Hc R)
  (elem:∀(x:V) (Hc:Hp) (R:VK),R x Hc→te (some x::ρ σ) Hc R)
  (fin:∀(D:Addr) (ys:List V) (Hc:Hp),D≠P→er P H D=none→au P H Hc→aP Hc P a→ys.Sublist xs→Hc D=some (.lst ys)→Q (.ref D) Hc):dz wi ρ tt te σ H Q:=by
 refine eJ _ fun D nD=>?_
 have nP:=pc.ne nD
 have lD:l≠D:=fun e=>by rw [e,nD] at el;cases el
 refine ⟨fun i m ys Hc=>m=xs.length-i∧i≤xs.length∧Hc D=some (.lst ys)∧au P H Hc∧aP Hc P a∧ys.Sublist (xs.take i),⟨_,rfl,Nat.zero_le _,ak,(au.refl H).but nD,pc.upd nP,by simp⟩,?_⟩
 rintro i m ys Hc ⟨rfl,hi,eD,sH,uh,sub⟩
 refine ⟨eD,?_⟩
 have oG:=sH.at nl el
 by_cases aV:i<xs.length
 ·refine .inr ⟨⟨xs,xs[i],.of oG,by simp [aV]⟩,fun x H' hy=>?_⟩
  obtain ⟨rfl,hx⟩:=hy
  have ex:=hx xs (.of oG)
  refine test i x ex _ _ sH uh fun b H3 s3 p3=>?_
  have tk:xs.take (i+1)=xs.take i++[x]:=by rw [List.take_succ,ex];rfl
  have e3:=s3.at nP eD
  cases b with
  | true=>
   rw [if_pos rfl]
   refine elem x H3 _ ⟨e3,?_,xs.length-(i+1),by omega,rfl,aV,ak,(sH.trans s3).but nD,p3.upd nP,?_⟩
   ·have:=sub.length_le
    rw [List.length_take] at this
    omega
   ·rw [tk]
    exact sub.append (List.Sublist.refl _)
  | false=>
   rw [if_neg (by simp)]
   refine ⟨xs.length-(i+1),by omega,rfl,aV,e3,sH.trans s3,p3,?_⟩
   rw [tk]
   exact sub.trans (List.sublist_append_left _ _)
 ·have e:i=xs.length:=by omega
  subst e
  rw [List.take_length] at sub
  exact .inl ⟨⟨xs,.of oG,by omega⟩,fin D ys Hc nP (by rw [bK nP];exact nD) sH uh sub eD⟩
def bP(k:Nat)(d:List Nat):Prop:=d.Pairwise (fun a b=>b<a)∧∀x∈d,x<k
theorem bP.len:∀{d:List Nat} {k:Nat},bP k d→d.length≤k
 | [],_,_=>Nat.zero_le _
 | x::d,k,h=>by
  obtain ⟨h1,h2⟩:=List.pairwise_cons.mp h.1
  have:=bP.len (k:=x) ⟨h2,fun y hy=>h1 y hy⟩
  have:=h.2 x List.mem_cons_self
  rw [List.length_cons]
  omega
theorem bP.nil(k:Nat):bP k []:=⟨List.Pairwise.nil,fun x hx=>by cases hx⟩
theorem bP.sub{k:Nat}{d e:List Nat}(h:bP k d)(s:e.Sublist d):bP k e:=⟨h.1.sublist s,fun x hx=>h.2 x (s.subset hx)⟩
theorem bP.put{j k:Nat}{d:List Nat}(h:bP k d)(hk:k<j):bP j (k::d):=⟨List.pairwise_cons.mpr ⟨h.2,h.1⟩,fun x hx=>by
 rcases List.mem_cons.mp hx with rfl | hx
 ·exact hk
 ·have:=h.2 x hx
  omega⟩
theorem bP.nd{k:Nat}{d:List Nat}(h:bP k d):d.Nodup:=h.1.imp fun h=>by omega
def bG(d:List Nat):List V:=d.map fun(x:Nat)=>V.int (x:Int)
theorem oH:∀{d:List Nat} {ys:List V},ys.Sublist (bG d)→∃e:List Nat,e.Sublist d∧ys=bG e
 | [],ys,h=>⟨[],List.Sublist.refl _,by
  have h:ys.Sublist []:=h
  rw [List.sublist_nil.mp h]
  rfl⟩
 | x::d,ys,h=>by
  have h:ys.Sublist (V.int (x:Int)::bG d):=h
  cases h with
  | cons _ h=>
   obtain ⟨e,h1,h2⟩:=oH h
   exact ⟨e,h1.cons _,h2⟩
  | cons_cons _ h=>
   obtain ⟨e,h1,h2⟩:=oH h
   exact ⟨x::e,.cons_cons _ h1,by rw [h2];rfl⟩
structure eK (j:Nat) (L:List (Int×Int)):Prop where
 nd:L.Nodup
 lt:∀p∈L,0≤p.1∧p.1<p.2∧p.2<j
 bC:2*L.length≤j*(j-1)
theorem eK.nil:eK 1 []:=⟨List.nodup_nil,(fun p hp=>by cases hp),by simp⟩
theorem eK.ok{n:Nat}{L:List (Int×Int)}(h:eK n L):cY n L:=⟨h.nd,h.lt,by
 have:=h.bC
 have:n*(n-1)≤n*n:=Nat.mul_le_mul_left _ (by omega)
 omega⟩
theorem eK.more{j:Nat}{L:List (Int×Int)}{d:List Nat}(h:eK j L)(hd:bP j d):eK (j+1) (L++d.map fun(x:Nat)=>((x:Int),(j:Int))) where
 nd:=by
  refine List.nodup_append.mpr ⟨h.nd,lH hd.nd fun p q _ _ e=>by
   have:=congrArg Prod.fst e
   dsimp only at this
   omega,fun p hp q hq e=>?_⟩
  obtain ⟨x,_,rfl⟩:=List.mem_map.mp hq
  have:=h.lt p hp
  rw [e] at this
  dsimp only at this
  omega
 lt:=fun p hp=>by
  rcases List.mem_append.mp hp with hp | hp
  ·have:=h.lt p hp
   omega
  ·obtain ⟨x,hx,rfl⟩:=List.mem_map.mp hp
   have:=hd.2 x hx
   dsimp only
   omega
 bC:=by
  have a:=h.bC
  have b:=hd.len
  rw [List.length_append,List.length_map,Nat.add_sub_cancel]
  cases j with
  | zero=>
   rw [Nat.zero_mul] at a
   rw [Nat.mul_zero]
   omega
  | succ j=>
   rw [Nat.add_sub_cancel] at a
   have e:(j+1+1)*(j+1)=(j+1)*j+2*(j+1):=by grind
   rw [e]
   omega
def By(K:PySem.W.Frag):Sp:=fun vs H Q _=>∃(P a:Addr) (ns:List Int) (n:Nat),vs=[.ref P,.int (n:Int)]∧aP H P a∧aF K (er P H) a (ns.map V.int)∧1≤n∧n≤10 ∧
 ∀(r:Addr) (us:List V) (L:List (Int×Int)) (H':Hp),au P H H'→aP H' P a→er P H r=none→r≠P→H' r=some (.lst us)→aE (er P H') us L→cY n L→Q (.ref r) H'
def Bz(H:Hp)(vs:List V)(j:Nat)(D:Nat→List Nat):Prop:=vs.length=j∧∀k,k<j→bP k (D k)∧∃b,vs[k]?=some (.ref b)∧H b=some (.lst (bG (D k)))
theorem oI{P r:Addr}{H:Hp}{o:HO}:∀b o',b≠r→er P H b=some o'→er P (upd H r o) b=some o':=fun b o' nb e=>by
 by_cases z:b=P
 ·subst z
  unfold er at e
  rw [if_pos rfl] at e
  cases e
 ·rw [bK z] at e ⊢
  rw [ay nb]
  exact e
theorem aE.cat{H:Hp}{us zs:List V}{L M:List (Int×Int)}(h:aE H us L)(g:aE H zs M):aE H (us++zs) (L++M):=⟨by simp [h.1,g.1],fun k v p h1 h2=>by
 have hl:=h.1
 by_cases z:k<us.length
 ·rw [List.getElem?_append_left z] at h1
  rw [List.getElem?_append_left (by omega)] at h2
  exact h.2 k v p h1 h2
 ·rw [List.getElem?_append_right (by omega)] at h1
  rw [List.getElem?_append_right (by omega),show k-L.length=k-us.length by omega] at h2
  exact g.2 _ v p h1 h2⟩
theorem BA{d:List Nat}{i:Nat}{x:V}(h:(bG d)[i]?=some x):∃y,d[i]?=some y∧x=.int (y:Int):=by
 unfold bG at h
 rw [List.getElem?_map] at h
 cases e:d[i]? with
 | none=>rw [e] at h;cases h
 | some y=>rw [e] at h;cases h;exact ⟨y,rfl,rfl⟩
theorem jQ{P a b:Addr}{H:Hp}{xs:List V}(p:aP H P a)(e:H b=some (.tup xs)):er P H b=some (.tup xs):=by
 refine oy (fun z=>?_) e
 obtain ⟨x,y,eP,_⟩:=p
 rw [z,eP] at e
 cases e
structure bY (j i:Nat) (L:List (Int×Int)):Prop where
 nd:L.Nodup
 lt:∀p∈L,0≤p.1∧p.1<p.2∧(p.2<j∨p.2=j∧p.1<i)
 bC:2*L.length≤j*(j-1)+2*i
theorem bY.start:bY 0 0 []:=⟨List.nodup_nil,(fun p hp=>by cases hp),by simp⟩
theorem bY.skip{j i:Nat}{L:List (Int×Int)}(h:bY j i L):bY j (i+1) L:=⟨h.nd,fun p hp=>by
 have:=h.lt p hp
 omega,by
 have:=h.bC
 omega⟩
theorem bY.push{j i:Nat}{L:List (Int×Int)}(h:bY j i L)(hi:i<j):bY j (i+1) (L++[((i:Int),(j:Int))]) where
 nd:=by
  refine List.nodup_append.mpr ⟨h.nd,by simp,fun p hp q hq e=>?_⟩
  rw [List.mem_singleton.mp hq] at e
  have:=h.lt p hp
  rw [e] at this
  dsimp only at this
  omega
 lt:=fun p hp=>by
  rcases List.mem_append.mp hp with hp | hp
  ·have:=h.lt p hp
   omega
  ·rw [List.mem_singleton.mp hp]
   dsimp only
   omega
 bC:=by
  have:=h.bC
  rw [List.length_append,List.length_singleton]
  omega
theorem bY.next{j:Nat}{L:List (Int×Int)}(h:bY j j L):bY (j+1) 0 L:=⟨h.nd,fun p hp=>by
 have:=h.lt p hp
 omega,by
 have a:=h.bC
 rw [Nat.add_sub_cancel]
 cases j with
 | zero=>omega
 | succ j=>
  rw [Nat.add_sub_cancel] at a
  have e:(j+1+1)*(j+1)=(j+1)*j+2*(j+1):=by grind
  rw [e]
  omega⟩
theorem bY.ok{n:Nat}{L:List (Int×Int)}(h:bY n 0 L):cY n L:=⟨h.nd,fun p hp=>by
 have:=h.lt p hp
 omega,by
 have:=h.bC
 have:n*(n-1)≤n*n:=Nat.mul_le_mul_left _ (by omega)
 omega⟩
theorem BB(n:Nat):(ba n).Nodup:=lH List.nodup_range fun p q _ _ e=>by
 have:=V.int.inj e
 omega
theorem BC{n:Nat}{ys:List V}(h:ys.Perm (ba n)):∃nm:Nat→Int,ys.length=n∧(∀i,i<n→ys[i]?=some (.int (nm i)))∧oF n nm:=by
 have ln:ys.length=n:=by rw [h.length_eq];unfold ba;simp
 have nd:ys.Nodup:=h.nodup_iff.mpr (BB n)
 have each:∀i,∃x:Int,i<n→ys[i]?=some (.int x)∧0≤x∧x<n:=fun i=>by
  by_cases hi:i<n
  ·have dD:i<ys.length:=by omega
   have m:ys[i]∈ba n:=h.mem_iff.mp (List.getElem_mem dD)
   obtain ⟨k,hk,e⟩:=List.mem_map.mp m
   have:=List.mem_range.mp hk
   exact ⟨(k:Int),fun _=>⟨by rw [e];simp [dD],by omega,by omega⟩⟩
  ·exact ⟨0,fun z=>absurd z hi⟩
 obtain ⟨nm,hn⟩:=Classical.axiomOfChoice each
 refine ⟨nm,ln,fun i hi=>(hn i hi).1,fun i hi=>(hn i hi).2,fun i j hi hj e=>?_⟩
 have a:=(hn i hi).1
 have b:=(hn j hj).1
 rw [e] at a
 have dD:i<ys.length:=by omega
 have BD:j<ys.length:=by omega
 rw [List.getElem?_eq_getElem dD] at a
 rw [List.getElem?_eq_getElem BD] at b
 exact (List.getElem_inj nd).mp ((Option.some.inj a).trans (Option.some.inj b).symm)
def BE(K:PySem.W.Frag):Sp:=fun vs H Q _=>∃(P a:Addr) (ns:List Int) (most:Nat),vs=[.ref P,.int (most:Int)]∧aP H P a∧aF K (er P H) a (ns.map V.int)∧1≤most∧most≤10 ∧
 ∀(t:Addr) (n:Nat) (L:List (Int×Int)) (H':Hp),au P H H'→aP H' P a→er P H t=none→t≠P→bU (er P H') t n L→cY n L→L.Pairwise lexLt→1≤n→n≤most→Q (.ref t) H'
theorem aE.er{P a:Addr}{H:Hp}{us:List V}{L:List (Int×Int)}(h:aE H us L)(p:aP H P a):aE (er P H) us L:=⟨h.1,fun k v q h1 h2=>by
 obtain ⟨b,e,g⟩:=h.2 k v q h1 h2
 exact ⟨b,e,jQ p g⟩⟩
theorem bU.er{P a t:Addr}{H:Hp}{n:Nat}{L:List (Int×Int)}(h:bU H t n L)(p:aP H P a):bU (er P H) t n L:=by
 obtain ⟨lt,us,h1,h2,h3⟩:=h
 exact ⟨lt,us,jQ p h1,jQ p h2,h3.er p⟩
theorem bU.mono{t:Addr}{H H':Hp}{n:Nat}{L:List (Int×Int)}(h:bU H t n L)(s:ag H H'):bU H' t n L:=by
 obtain ⟨lt,us,h1,h2,h3⟩:=h
 exact ⟨lt,us,s _ _ h1,s _ _ h2,h3.mono s⟩
theorem BF{wi:TI}{ρ:St→St}{tt:TT}{te:TE}{σ:St}{H:Hp}{Q:VK}{xs:List V}(pr:Nat→Bool)(eJ:∀R:It→Hp→Prop,(∀J,fh J xs H→R J H)→wi σ H R)(hn:xs.length<sizeLine)
  (P:Addr→Nat→V→Hp→Prop) (mono:∀D i y H H' ys,P D i y H→H D=some (.lst ys)→(∀b o,b≠D→H b=some o→H' b=some o)→P D i y H')
  (test:∀(i:Nat) (x:V),xs[i]?=some x→∀(Hc:Hp) (R:Bool→Hp→Prop),ag H Hc→R (pr i) Hc→tt (some x::ρ σ) Hc R)
  (step:∀D (i:Nat) (x:V),xs[i]?=some x→∀(Hc:Hp) (R:VK),ag H Hc→(∃ys,Hc D=some (.lst ys))→(∀y H3,ag Hc H3→P D i y H3→R y H3)→te (some x::ρ σ) Hc R)
  (fin:∀D ys Hc,H D=none→ag H Hc→ys.length=((List.range xs.length).filter pr).length→(∀(k i:Nat) (y:V),ys[k]?=some y→((List.range xs.length).filter pr)[k]?=some i→P D i y Hc)→Hc D=some (.lst ys)→Q (.ref D) Hc):dz wi ρ tt te σ H Q:=by
 refine eJ _ fun J js=>?_
 intro D nD
 refine ⟨fun i m ys Hc=>m=xs.length-i∧i≤xs.length∧Hc D=some (.lst ys)∧ag H Hc∧ys.length=((List.range i).filter pr).length∧∀(k i':Nat) (y:V),ys[k]?=some y→((List.range i).filter pr)[k]?=some i'→P D i' y Hc,⟨_,rfl,Nat.zero_le _,ak,dB (ag.refl H) nD,rfl,fun k i y h=>by simp at h⟩,?_⟩
 rintro i m ys Hc ⟨rfl,hi,eD,sH,ly,hP⟩
 refine ⟨eD,?_⟩
 by_cases aV:i<xs.length
 ·refine .inr ⟨js.go i Hc sH aV,fun x H' hy=>?_⟩
  obtain ⟨rfl,hx⟩:=js.bW i Hc x H' sH hy
  refine test i x (hx aV) _ _ sH ?_
  have fs:(List.range (i+1)).filter pr=(List.range i).filter pr++(if pr i=true then [i] else []):=by
   rw [List.range_succ,List.filter_append]
   congr 1
   cases e:pr i <;> simp [e]
  have fl:((List.range i).filter pr).length≤i:=Nat.le_trans (List.length_filter_le _ _) (by simp)
  cases e:pr i with
  | true=>
   rw [if_pos rfl]
   refine step D i x (hx aV) _ _ sH ⟨_,eD⟩ fun y H3 s3 hp=>?_
   have e3:=s3 _ _ eD
   have a9:∀b o,b≠D→H3 b=some o→upd H3 D (.lst (ys++[y])) b=some o:=fun b o nb e=>by rw [ay nb];exact e
   refine ⟨e3,by omega,xs.length-(i+1),by omega,rfl,aV,ak,dB (sH.trans s3) nD,?_,fun k i' y' h1 h2=>?_⟩
   ·rw [fs,e,if_pos rfl,List.length_append,List.length_append,ly]
    rfl
   ·rw [fs,e,if_pos rfl] at h2
    by_cases z:k<ys.length
    ·rw [List.getElem?_append_left z] at h1
     rw [List.getElem?_append_left (by omega)] at h2
     refine mono D i' y' H' _ ys (hP k i' y' h1 h2) eD fun b o nb e=>a9 b o nb (s3 _ _ e)
    ·have hk:=(List.getElem?_eq_some_iff.mp h1).1
     rw [List.length_append,List.length_singleton] at hk
     obtain rfl:k=ys.length:=by omega
     rw [List.getElem?_append_right (Nat.le_refl _),Nat.sub_self] at h1
     rw [List.getElem?_append_right (by omega),show ys.length-((List.range i).filter pr).length=0 by omega] at h2
     cases h1
     cases h2
     exact mono D _ _ H3 _ ys hp e3 a9
  | false=>
   rw [if_neg (by simp)]
   refine ⟨xs.length-(i+1),by omega,rfl,aV,eD,sH,?_,fun k i' y' h1 h2=>?_⟩
   ·rw [fs,e,if_neg (by simp),List.append_nil]
    exact ly
   ·rw [fs,e,if_neg (by simp),List.append_nil] at h2
    exact hP k i' y' h1 h2
 ·have e:i=xs.length:=by omega
  subst e
  exact .inl ⟨js.stop _ Hc sH (Nat.le_refl _),fin D ys Hc nD sH ly hP eD⟩
end My
namespace L2
open PySem PySem.Spec PyProof.Rows
def BG(K:PySem.W.Frag):List V→Hp→VK→Prop:=fun xs H Q=>∃(a C tp:Addr) (cs:List Addr),xs=[.ref a,.ref tp]∧H a=some (dw a C)∧eo K C∧H tp=some (.tup (cs.map V.ref))∧(∀c∈cs,PySem.W.kitOne K (.ref C) (.ref c)=some false)∧Q (.bl false) H
theorem uj:∀{cs:List Addr} {us:List Value},Vals (cs.map V.ref) us→us=cs.map Value.ref
 | [],_,.nil=>rfl
 | c::cs,_,.cons r t=>by
  cases r
  rw [uj t]
  rfl
theorem um{K:PySem.W.Frag}{C:Addr}:∀{cs:List Addr},(∀c∈cs,PySem.W.kitOne K (.ref C) (.ref c)=some false)→PySem.W.kitAny K (.ref C) (cs.map Value.ref)=some false
 | [],_=>rfl
 | c::cs,h=>by
  show (match PySem.W.kitOne K (.ref C) (.ref c) with
   | some true=>some true
   | some false=>PySem.W.kitAny K (.ref C) (cs.map Value.ref)
   | none=>none)=some false
  rw [h c List.mem_cons_self]
  exact um fun x hx=>h x (List.mem_cons_of_mem _ hx)
theorem BH{X:Cx}{K:PySem.W.Frag}(hK:X.K=K:=by rfl):bR X (.builtin "isinstance") (BG K):=by
 intro pins s σ H xs us Q I r h
 subst hK
 obtain ⟨a,C,tp,cs,rfl,ea,cc,et,hn,q⟩:=h
 obtain ⟨u,v,rfl,rx,rt⟩:=vals2 r
 cases rx
 cases rt
 obtain ⟨k,_,_⟩:=(show aI X.prog X.w H s.heap a (.ext (ExcAt a C)) from I.ao a _ ea)
 obtain ⟨_,ae,rv,o,g,hc,n,hd⟩:=(show aI X.prog X.w H s.heap tp (.tup (cs.map V.ref)) from I.ao tp _ et)
 have ei:=uj rv
 subst ei
 obtain ⟨cl,dd,da,sl⟩:=o
 dsimp only at hc hd
 subst hc
 subst hd
 exact PySem.W.kia_tup (tw cc) I.bf k g (um hn) (fun z=>nomatch z) fun tk=>⟨.bl false,H,I.tok tk,rfl,q⟩
end L2
namespace My
open PySem L2
end My
namespace L2
open PySem PySem.Spec PyProof.Rows
section
variable (P:Program) (w:World)
end
section
variable {P:Program} {w:World} {H H':Hp} {h h':Heap} {a:Addr} {o:HO}
end
section
variable {P:Program} {w:World} {H:Hp} {h h':Heap} {x e:Addr} {o':HO}
end
section
variable {fs mY ex jf:List Addr} {H H1 H2:Hp} {h h1 h2 h':Heap} {a x e:Addr} {o:HO}
end
section
variable {X:Cx} {pins:List (Addr×Obj)} {σ:List (Option V)} {H H':Hp} {s:Shared} {h':Heap}
end
section
variable {X:Cx}
variable {a b:Expr} {ta tb:TE} {pos:Pos}
variable {tA m_:TT} {rest:List Expr}
end
section
variable {X:Cx} {pins:List (Addr×Obj)} {σ:St} {H:Hp} {s:Shared} {a:Addr} {xs ys:List V}
end
section
variable {X:Cx} {pins:List (Addr×Obj)} {σ:St} {H:Hp} {s:Shared} {E:Value→Shared→Prop}
end
section
variable {X:Cx} {st:Stmt} {rest:List Stmt} {t u:TS} {e:Expr} {te:TE} {pos:Pos}
end
section
variable {X:Cx} {pos:Pos}
end
section
variable {X:Cx} {pos:Pos}
end
section
variable {X:Cx} {tg:Expr}
end
section
variable {X:Cx} {a b c:Expr} {ta tb tc:TE} {pos:Pos}
end
section
variable {X:Cx} {a b c:Expr} {ta tb tc:TE} {pos:Pos}
end
section
variable {prog:Program} {w:World} {A:Around} {E:Value→Shared→Prop} {s:Shared} {K:PySem.W.Frag} {x dx C f:Addr} {mA:Str→Option Value} {name:Str} {v:Value}
end
section
variable {P:Program} {w:World} {H H':Hp} {h h':Heap} {a C dx:Addr} {fs mY:List (Str×V)}
end
section
variable {X:Cx} {pins:List (Addr×Obj)} {σ:St} {H:Hp} {s:Shared} {a C dx:Addr} {fs:List (Str×V)} {f:Str} {v:V} {A:Around} {E:Value→Shared→Prop}
end
section
variable {X:Cx} {o e value:Expr} {f:Str} {pos pos' kM:Pos} {ta tv:TE}
end
section
variable {X:Cx} {pins:List (Addr×Obj)} {σ:St} {H:Hp} {s:Shared} {A:Around} {E:Value→Shared→Prop} {Q:Value→Shared→Prop} {c:Value} {b:Bool}
end
section
variable {X:Cx} {e:Expr} {es:List Expr} {te:TE} {t:TA} {pos:Pos}
end
section
variable {X:Cx} {pins:List (Addr×Obj)} {σ:St} {H:Hp} {s s':Shared}
end
section
variable {X:Cx} {CX:b6} {k:Nat} {f C:Addr} {fd:FuncData} {ps:List Str} {sp:Sp} {bN:List V} {ds:List Value} {E:XK} {x m:Str} {p pos apos:Pos} {e o:Expr} {es:List Expr} {ta:TE} {t:TA}
end
section
variable {X:Cx} {CX:b6} {k:Nat} {f C:Addr} {fd:FuncData} {ps ks:List Str} {sp:Sp} {E:XK} {x m:Str} {p pos apos rR:Pos} {e o:Expr} {es:List Expr} {y_:List Keyword} {te ta:TE} {t tk:TA} {nm:Option Str}
variable {g:List Value→List Value→List Value} {gV:List V→List V→List V}
end
section
variable {X:Cx} {x:Str} {p pos:Pos} {e:Expr} {es:List Expr} {t:TA} {id T:String} {r:List V→Hp→VK→Prop}
end
section
variable {κ:Type} [DecidableEq κ]
def fX(ai:List (κ×V))(k:κ):Option V:=(ai.find? fun kv=>decide (kv.1=k)).map (·.2)
def putK(ai:List (κ×V))(k:κ)(v:V):List (κ×V):=
 if (ai.any fun kv=>decide (kv.1=k))=true then ai.map (fun kv=>if kv.1=k then (kv.1,v) else kv) else ai++[(k,v)]
theorem uo{p:κ×V}{r:List (κ×V)}{k:κ}(e:p.1=k):fX (p::r) k=some p.2:=by simp [fX,List.find?_cons,e]
theorem ur{p:κ×V}{r:List (κ×V)}{k:κ}(e:¬p.1=k):fX (p::r) k=fX r k:=by simp [fX,List.find?_cons,e]
theorem uu(k:κ):∀ai:List (κ×V),(ai.any fun kv=>decide (kv.1=k))=(fX ai k).isSome
 | []=>rfl
 | p::r=>by
  rw [List.any_cons]
  by_cases e:p.1=k
  ·simp only [uo e,decide_eq_true e,Bool.true_or,Option.isSome_some]
  ·rw [ur e,decide_eq_false e,Bool.false_or];exact uu k r
theorem uv(ai:List (κ×V))(k:κ)(v:V):(putK ai k v).length≤ai.length+1:=by
 unfold putK
 split
 ·rw [List.length_map];omega
 ·rw [List.length_append,List.length_cons,List.length_nil];omega
theorem gR.BI{o:Option V}{u:Option Value}(r:gR o u):o.isSome=u.isSome:=by
 cases o with
 | none=>cases u with
  | none=>rfl
  | some _=>exact (show False from r).elim
 | some _=>cases u with
  | none=>exact (show False from r).elim
  | some _=>rfl
theorem KV.any{ai:List (κ×V)}{vs:List (κ×Value)}(r:KV ai vs)(k:κ):(ai.any fun kv=>decide (kv.1=k))=vs.any fun kv=>decide (kv.1=k):=by
 unfold KV at r
 induction r with
 | nil=>rfl
 | cons h t ih=>rw [List.any_cons,List.any_cons,ih,h.1]
theorem KV.oJ{ai:List (κ×V)}{vs:List (κ×Value)}(r:KV ai vs)(k:κ){y:V}{u:Value}(ry:RelV y u) :
  KV (ai.map fun kv=>if kv.1=k then (kv.1,y) else kv) (vs.map fun kv=>if kv.1=k then (kv.1,u) else kv):=by
 unfold KV at r ⊢
 induction r with
 | nil=>exact .nil
 | @cons p q ps qs h t ih=>
  rw [List.map_cons,List.map_cons]
  refine .cons ?_ ih
  obtain ⟨h1,h2⟩:=h
  by_cases e:p.1=k
  ·rw [if_pos e,if_pos (h1.symm.trans e)];exact ⟨h1,ry⟩
  ·rw [if_neg e,if_neg (fun z=>e (h1.trans z))];exact ⟨h1,h2⟩
theorem KV.put{ai:List (κ×V)}{vs:List (κ×Value)}(r:KV ai vs)(k:κ){y:V}{u:Value}(ry:RelV y u):KV (putK ai k y) (stored vs k u):=by
 unfold putK stored
 rw [r.any k]
 by_cases e:(vs.any fun kv=>decide (kv.1=k))=true
 ·rw [if_pos e,if_pos e];exact r.oJ k ry
 ·rw [if_neg e,if_neg e];exact Paired.snoc r ⟨rfl,ry⟩
theorem KV.length{ai:List (κ×V)}{vs:List (κ×Value)}(r:KV ai vs):ai.length=vs.length:=Paired.length r
end
theorem uw{P:Program}{w:World}{k:Key}{u:Value}(r:RelV (kV k) u):(cg P w).is k u=true:=by
 cases k with
 | inl i=>obtain ⟨t,e⟩:=(show ∃t,u=Value.int i t from r);subst e;exact xU P w i t
 | inr x=>obtain ⟨t,e⟩:=(show ∃t,u=Value.str x t from r);subst e;exact xV P w x t
theorem ux{P:Program}{w:World}:∀{ks:List Key} {us:List Value},Vals (ks.map kV) us→ItemsAre (cg P w) ks us
 | [],_,r=>by rw [List.map_nil] at r;cases r;exact .nil
 | k::ks,_,r=>by
  rw [List.map_cons] at r
  cases r with
  | cons h t=>exact .cons (uw h) (ux t)
abbrev KT (H:Hp):List (List Key×V)→List (List Key×Addr×Value)→Prop:=Paired fun p q=>p.1=q.1∧H q.2.1=some (.tup (p.1.map kV))∧RelV p.2 q.2.2
theorem KT.val{H:Hp}{ai:List (List Key×V)}{xs:List (List Key×Addr×Value)}(r:KT H ai xs)(k:List Key):gR (fX ai k) ((atKey xs k).map (·.2)):=by
 induction r with
 | nil=>exact True.intro
 | @cons p q ps qs h t ih=>
  obtain ⟨h1,_,h2⟩:=h
  by_cases e:p.1=k
  ·have e':q.1=k:=h1.symm.trans e
   have b:atKey (q::qs) k=some q.2:=by simp [atKey,List.find?_cons,e']
   rw [uo e,b];exact h2
  ·have e':¬q.1=k:=fun z=>e (h1.trans z)
   have b:atKey (q::qs) k=atKey qs k:=by simp [atKey,List.find?_cons,e']
   rw [ur e,b];exact ih
theorem KT.oJ{H:Hp}{ai:List (List Key×V)}{xs:List (List Key×Addr×Value)}(r:KT H ai xs)(k:List Key){y:V}{u:Value}(ry:RelV y u) :
  KT H (ai.map fun kv=>if kv.1=k then (kv.1,y) else kv) (xs.map (putAt k u)):=by
 induction r with
 | nil=>exact .nil
 | @cons p q ps qs h t ih=>
  rw [List.map_cons,List.map_cons]
  refine .cons ?_ ih
  obtain ⟨h1,h2,h3⟩:=h
  unfold putAt
  by_cases e:p.1=k
  ·rw [if_pos e,if_pos (h1.symm.trans e)];exact ⟨h1,h2,ry⟩
  ·rw [if_neg e,if_neg (fun z=>e (h1.trans z))];exact ⟨h1,h2,h3⟩
theorem KT.put{H:Hp}{ai:List (List Key×V)}{xs:List (List Key×Addr×Value)}(r:KT H ai xs)(k:List Key){b:Addr}{y:V}{u:Value}(hb:H b=some (.tup (k.map kV)))(ry:RelV y u) :
  KT H (putK ai k y) (storedH xs k b u):=by
 have e:(ai.any fun kv=>decide (kv.1=k))=(atKey xs k).isSome:=by
  rw [uu,(r.val k).BI,Option.isSome_map]
 unfold putK storedH
 rw [e]
 by_cases q:(atKey xs k).isSome=true
 ·rw [if_pos q,if_pos q];exact r.oJ k ry
 ·rw [if_neg q,if_neg q];exact Paired.snoc r ⟨rfl,hb,ry⟩
theorem KT.keeps{H H':Hp}{ai:List (List Key×V)}{xs:List (List Key×Addr×Value)}(r:KT H ai xs)(ht:∀b ys,H b=some (.tup ys)→H' b=some (.tup ys)):KT H' ai xs:=
 Paired.mX r fun _ _ z=>⟨z.1,ht _ _ z.2.1,z.2.2⟩
section
variable {P:Program} {w:World} {H:Hp} {h:Heap} {a:Addr}
theorem uy{u:HO}(ok:aJ P w H h)(e:Rd H a u):aI P w H h a u:=e.ok ok
theorem uz{ai:List (Key×V)}(ok:aJ P w H h)(e:Rd H a (.dK ai)):ai.length≤sizeLine∧(a == sysModules)=false∧∃vs,KV ai vs∧h.DictOf (cg P w) a vs:=
 show aI P w H h a (.dK ai) from uy ok e
theorem BJ{ai:List (Key×V)}(ok:aJ P w H h)(e:H a=some (.dK ai)):ai.length≤sizeLine∧(a == sysModules)=false∧∃vs,KV ai vs∧h.DictOf (cg P w) a vs:=uz ok (.inl e)
theorem uA{ks:List Key}(ok:aJ P w H h)(e:H a=some (.tup (ks.map kV))):(tupleKind (cg P w)).is h ks a:=by
 obtain ⟨_,ae,r,o,h1,h2,n,h3⟩:=(show aI P w H h a (.tup (ks.map kV)) from ok a _ e)
 exact ⟨o,ae.toArray,n,h1,h2,h3,by simpa using ux r⟩
theorem BK{ai:List (List Key×V)}(ok:aJ P w H h)(e:Rd H a (.dT ai)):ai.length≤sizeLine∧(a == sysModules)=false ∧
  ∃xs,KT H ai xs∧h.DictOfH (tupleKind (cg P w)) a xs:=by
 obtain ⟨z,y,xs,r,o,es,ep,h1,h2,h3,h4,h5⟩:=(show aI P w H h a (.dT ai) from uy ok e)
 refine ⟨z,y,xs,r,o,es,ep,h1,h2,h3,h4,fun x hx=>?_,h5⟩
 have all:∀{l:List (List Key×V)} {m:List (List Key×Addr×Value)},KT H l m→∀x∈m,(tupleKind (cg P w)).is h x.1 x.2.1:=by
  intro l m q
  induction q with
  | nil=>intro x hx;exact nomatch hx
  | @cons p q ps qs hq t ih=>
   intro x hx
   rcases List.mem_cons.mp hx with e | hx
   ·subst e
    exact uA ok (by rw [←hq.1];exact hq.2.1)
   ·exact ih x hx
 exact all r x hx
theorem BL{ai:List (List Key×V)}(ok:aJ P w H h)(e:H a=some (.dT ai)):ai.length≤sizeLine∧(a == sysModules)=false ∧
  ∃xs,KT H ai xs∧h.DictOfH (tupleKind (cg P w)) a xs:=BK ok (.inl e)
end
def oK(H:Hp)(a:Addr)(y v:V)(H':Hp):Prop:=
 (∃ai k,H a=some (.dK ai)∧y=kV k∧ai.length<sizeLine∧H'=upd H a (.dK (putK ai k v))) ∨
 ∃ai k b,H a=some (.dT ai)∧y=.ref b∧H b=some (.tup (k.map kV))∧ai.length<sizeLine∧H'=upd H a (.dT (putK ai k v))
section
variable {X:Cx} {pins:List (Addr×Obj)} {σ:St} {H:Hp} {s:Shared} {a:Addr} {y v:V} {u r:Value} {o:Option V} {A:Around} {E:Value→Shared→Prop}
theorem Inv.big(I:Inv X pins σ H s):sysModules<s.heap.objs.size:=by
 have h:mainGlobals<s.heap.objs.size:=(I.mod.glob.keeps I.bk).lt
 exact Nat.lt_trans (by decide) h
theorem uB{h':Heap}{t':Nat}{ob:HO}(I:Inv X pins σ H s)(mu:je (H a))(hs:Heap.SameBut a s.heap h')(he:∃q,h'.get? a=some q)(new:aI X.prog X.w (upd H a ob) h' a ob) :
  Inv X pins σ (upd H a ob) {s with heap:=h',toks:=t'}:=
 I.write (x:=a) (e:=a) mu (.inl rfl) (fun b q hb z=>(hs.2 b hb).trans z) he new
theorem BM{P:Program}{w:World}{H':Hp}{h':Heap}{ai:List (Key×V)}{vs:List (Key×Value)}(z:ai.length≤sizeLine)(hd:(a == sysModules)=false)(rel:KV ai vs)(dd:h'.DictOf (cg P w) a vs) :
  aI P w H' h' a (.dK ai):=⟨z,hd,vs,rel,dd⟩
theorem BN{H':Hp}{Q:Unit→Shared→Prop}(hu:A.units+1<cLine)(I:Inv X pins σ H s)(g:oK H a y v H')(ry:RelV y u)(rv:RelV v r)(h:∀s',Inv X pins σ H' s'→Q () s') :
  wpAny (model X.prog X.w) A (setItem (.ref a) u r) Q E s:=by
 rcases g with ⟨ai,k,e,ey,l,eH⟩ | ⟨ai,k,b,e,ey,eb,l,eH⟩
 ·subst ey eH
  obtain ⟨z,hd,vs,rel,dd⟩:=BJ I.ao e
  have hz:vs.length≤sizeLine:=by rw [←rel.length];exact z
  have hl:(putK ai k v).length≤sizeLine:=by have:=uv ai k v;omega
  refine wpAny_setItem_pairs (hsz:=hz) (uw ry) dd fun h' fQ hs=>h _ ?_
  have he:∃q,h'.get? a=some q:=let ⟨q,_,_,hq,_⟩:=fQ;⟨q,hq⟩
  exact uB I (by rw [e];exact True.intro) hs he (BM hl hd (rel.put k rv) fQ)
 ·subst ey eH
  cases (show u=Value.ref b from ry)
  obtain ⟨z,hd,xs,rel,dd⟩:=BL I.ao e
  have hz:xs.length≤sizeLine:=by rw [←Paired.length rel];exact z
  have hl:(putK ai k v).length≤sizeLine:=by have:=uv ai k v;omega
  refine wpAny_setItem_heap (hsz:=hz) (tupleKind_room_in1 hu) (uA I.ao eb) dd fun h' fQ hs=>h _ ?_
  obtain ⟨q,es,ep,hq,h2,h3,h4,_,h5⟩:=fQ
  refine uB I (by rw [e];exact True.intro) hs ⟨q,hq⟩ ⟨hl,hd,_,(rel.put k eb rv).keeps fun c ys ec=>?_,q,es,ep,hq,h2,h3,h4,h5⟩
  rw [ay (xW ec e (fun z=>nomatch z))]
  exact ec
end
section
variable {X:Cx} {pins:List (Addr×Obj)} {σ:St} {H:Hp} {s:Shared} {a:Addr} {ai:List (Key×V)} {k:Key} {u:Value} {A:Around} {E:Value→Shared→Prop}
theorem BO{Q:Value→Shared→Prop}(I:Inv X pins σ H s)(e:Rd H a (.dK ai))(h:∀t s',Inv X pins σ H s'→Q (.int ai.length t) s'):wpAny (model X.prog X.w) A (call (.builtin "len") [.ref a]) Q E s:=by
 obtain ⟨z,hd,vs,rel,dd⟩:=uz I.ao e
 refine call_len_dict hd dd (by rw [←rel.length];rw [sizeLine_eq] at z;omega) ?_
 rw [←rel.length]
 exact h _ _ (I.tok _)
end
def BP(td ty tv:TE):TS:=fun D σ H=>tv σ H fun v H1=>td σ H1 fun x H2=>ty σ H2 fun y H3=>∃a H4,x=.ref a∧oK H3 a y v H4∧D.nx σ H4
section
variable {X:Cx} {o i e value:Expr} {pos pos' kM:Pos} {td ty tv:TE}
theorem oM(hu:X.A.units+1<cLine)(ho:PE X o td)(hi:PE X i ty)(hv:PE X value tv)(hs:swapsWith value (some (.Subscript o i pos')) pos.line X.env=pure false) :
  PS X (.Assign [.Subscript o i pos'] value pos) (BP td ty tv):=by
 intro pins s σ H D I h
 refine wpAny_Assign_Subscript (av (hv pins s σ H _ I h) fun r s1 ⟨v,H1,I1,rv,q1⟩=>av (ho pins s1 σ H1 _ I1 q1) fun u s2 ⟨x,H2,I2,rx,q2⟩=>av (hi pins s2 σ H2 _ I2 q2) fun iv s3 ⟨y,H3,I3,ry,a,H4,ex,g,q3⟩=>?_) hs
 subst ex
 obtain rfl:u=Value.ref a:=rx
 exact BN hu I3 g ry rv fun s4 I4=>⟨σ,H4,I4,q3⟩
end
theorem BQ{P:Program}{w:World}{H:Hp}(h:Heap)(hb:sysModules<h.objs.size):aI P w H (h.push {cls:=.type "dict",data:=.dict #[]}) h.objs.size (.dK []):=
 ⟨Nat.zero_le _,beq_eq_false_iff_ne.mpr (Ne.symm (Nat.ne_of_lt hb)),[],.nil,Heap.DictOf.new h⟩
def BR:TE:=fun _ H Q=>∀p,H p=none→Q (.ref p) (upd H p (.dK []))
section
variable {X:Cx} {pos:Pos}
theorem uC:PE X (.Dict [] [] pos) BR:=fun pins s σ H Q I h=>
 wpAny_Dict_empty ⟨.ref s.heap.objs.size,_,I.laid (a:=s.heap.objs.size) (o:=.dK []) (t':=s.toks) (fun _ _ q=>Heap.get?_push_of_some _ q) (Nat.le_refl _) (BQ s.heap I.big),rfl,h _ (I.ao.fresh (Nat.le_refl _))⟩
end
section
variable {X:Cx} {pins:List (Addr×Obj)} {σ:St} {H:Hp} {s:Shared} {a:Addr} {y d:V} {u r:Value} {o:Option V} {A:Around} {E:Value→Shared→Prop}
end
section
variable {X:Cx} {o e f:Expr} {apos cK:Pos} {td ty tx:TE}
end
section
variable {X:Cx} {pins:List (Addr×Obj)} {σ:St} {H:Hp} {s:Shared} {a:Addr} {ai:List (Key×V)} {A:Around} {E:Value→Shared→Prop}
end
section
variable {X:Cx} {pins:List (Addr×Obj)} {σ:St} {H:Hp} {s:Shared} {a:Addr} {y:V} {u:Value} {A:Around} {E:Value→Shared→Prop}
end
end L2
namespace kR
open PySem PySem.W PySem.Calls PyProof.Rows
section
variable {prog:Program} {w:World} {A:Around} {E:Value→Shared→Prop} {s:Shared} {K:Frag}
end
end kR
namespace L2
open PySem PySem.Spec PyProof.Rows
section
variable {P:Program} {w:World} {K:PySem.W.Frag} {mg:Str→Option Value} {base:Heap}
end
section
variable {X:Cx}
theorem BS:bR X (.builtin "len") (fun xs H Q=>∃a ai,xs=[V.ref a]∧H a=some (.dK ai)∧Q (.int ai.length) H):=by
 intro pins s σ H xs us Q I r h
 obtain ⟨a,ai,rfl,ha,q⟩:=h
 obtain ⟨u,rfl,ru⟩:=vals1 r
 cases ru
 exact BO I (.inl ha) fun t s' I'=>⟨.int ai.length,H,I',⟨t,rfl⟩,q⟩
end
section
variable {κ:Type} [DecidableEq κ]
end
def oN(o:Obj):Nat:=match o.data with
 | .dict _ ep=>ep
 | _=>0
def hJ(a:Addr)(o:Obj)(ai:List (Key×V)):It:=
 ⟨fun i H=>H a=some (.aM o (.dK ai))∧i<ai.length,fun i H x H'=>H'=H∧∃kv,ai[i]?=some kv∧x=kV kv.1,fun i H=>H a=some (.aM o (.dK ai))∧ai.length≤i⟩
theorem BU{k:Key}{v:Value}(h:fw k v=true):RelV (kV k) v:=by
 rcases dF h with ⟨i,t,rfl,rfl⟩ | ⟨x,t,rfl,rfl⟩
 ·exact ⟨t,rfl⟩
 ·exact ⟨t,rfl⟩
theorem uD{ai:List (Key×V)}{vs:List (Key×Value)}:∀{i:Nat} {kv:Key×V},KV ai vs→ai[i]?=some kv→∃v,vs[i]?=some (kv.1,v)
 | _,_,.nil,h=>by simp at h
 | 0,kv,.cons (b:=b) r _,h=>by
  simp at h
  subst h
  obtain ⟨k,v⟩:=b
  have e:_=k:=r.1
  exact ⟨v,by rw [e];rfl⟩
 | i+1,kv,.cons _ t,h=>by
  simp at h
  obtain ⟨v,e⟩:=uD t h
  exact ⟨v,by simpa using e⟩
section
variable {X:Cx} {pins:List (Addr×Obj)} {σ:St} {H:Hp} {s:Shared}
theorem Inv.oO{a:Addr}{o:Obj}{ai:List (Key×V)}(I:Inv X pins σ H s)(h:H a=some (.aM o (.dK ai))):∃vs,KV ai vs∧s.heap.DictAt (cg X.prog X.w) a vs (oN o):=by
 obtain ⟨g,_,_,vs,r,o',es,ep,g',c,d,rest⟩:=(show aI X.prog X.w H s.heap a (.aM o (.dK ai)) from I.ao a _ h)
 rw [g] at g'
 cases g'
 refine ⟨vs,r,o,es,g,c,?_,rest⟩
 rw [d]
 unfold oN
 rw [d]
end
theorem BV{P:Program}{w:World}{K:PySem.W.Frag}{tg:Expr}(a it:Addr)(o:Obj)(ai:List (Key×V)):Turn P w K tg (hJ a o ai) [it] it (fun i h=>h.IsKeyIter it a i ai.length (oN o)) where
 mem:=by simp
 obj:=fun i h st b hb=>by
  have e:b=it:=by simpa using hb
  subst e
  obtain ⟨o,e,c,d⟩:=st
  exact ⟨o,e,fun v z=>by rw [d] at z;cases z⟩
 keep:=fun i h h' st k=>by
  obtain ⟨o,e,c,d⟩:=st
  exact ⟨o,k it (by simp) o e,c,d⟩
 item:=by
  intro X hP hw hK hc i pins s σ H E I hf st hg
  subst hP hw hK
  obtain ⟨eH,hi⟩:=hg
  obtain ⟨vs,r,hm⟩:=I.oO eH
  have lr:ai.length=vs.length:=Paired.length r
  have ek:ai[i]?=some ai[i]:=by simp [hi]
  obtain ⟨v,ev⟩:=uD r ek
  obtain ⟨f0,f1,f2,f3,f4,f5⟩:=hf it (by simp)
  rw [lr] at st
  refine wpAny_pyNext_dict_item st hm ev fun key h' hk cT sb=>?_
  have I1:Inv X pins σ H {s with heap:=h'}:=I.turned (t':=s.toks) (fun b o hb e=>(sb.2 b hb).trans e) f0 f1 f3 f4 f5
  obtain ⟨o',e,c,d⟩:=id cT
  rw [←lr] at cT
  exact ⟨key,rfl,kG (s:={s with heap:=h'}) e c d (by decide) ⟨kV ai[i].1,H,I1,BU hk,⟨rfl,_,ek,rfl⟩,cT,fun b hb=>(hf b hb).1⟩⟩
 done:=by
  intro X hP hw hK hc i pins s σ H E I hf st hg
  subst hP hw hK
  obtain ⟨eH,hi⟩:=hg
  obtain ⟨vs,r,hm⟩:=I.oO eH
  have lr:ai.length=vs.length:=Paired.length r
  obtain ⟨f0,f1,f2,f3,f4,f5⟩:=hf it (by simp)
  rw [lr] at st
  exact wpAny_pyNext_dict_end (I.ok.hd hc) st hm (by simp;omega) fun h' eb=>⟨rfl,I.turned (t':=s.toks) (fun b o hb e=>eb b o hb e) f0 f1 f3 f4 f5⟩
 self:=fun _ _ _ _ _ st h=>wpAny_pyIter_keyiter st h
section
variable {X:Cx} {tg:Expr}
def BW(tl:TE):TI:=fun σ H R=>tl σ H fun x H1=>∃a ai,x=.ref a∧((H1 a=some (.dK ai)∧∀o,R (hJ a o ai) (upd H1 a (.aM o (.dK ai))))∨∃o,H1 a=some (.aM o (.dK ai))∧R (hJ a o ai) H1)
theorem BX{l:Expr}{tl:TE}(hl:PE X l tl):PI X tg l (BW tl):=by
 intro pins s σ H R I h
 refine av (hl pins s σ H _ I h) fun v s1 ⟨x,H1,I1,r1,q1⟩=>?_
 obtain ⟨a,ai,e,q⟩:=q1
 subst e
 cases r1
 have main:∀{H2:Hp} {o:Obj},Inv X pins σ H2 s1→H2 a=some (.aM o (.dK ai))→R (hJ a o ai) H2→wpAny (model X.prog X.w) X.A (pyIter (.ref a)) (nj X pins σ tg R) X.xe s1:=fun{H2 o} I2 eH q=>by
  obtain ⟨vs,r,hm⟩:=I2.oO eH
  obtain ⟨_,_,sys,_⟩:=(show aI X.prog X.w H2 s1.heap a (.aM o (.dK ai)) from I2.ao a _ eH)
  have lr:ai.length=vs.length:=Paired.length r
  refine wpAny_pyIter_dict sys hm ?_
  refine ⟨s1.heap.objs.size,[s1.heap.objs.size],_,_,H2,rfl,I2.kept (t':=s1.toks) fun b o e=>Heap.get?_push_of_some _ e,BV a _ o ai,⟨_,Heap.get?_push_size _ rfl,rfl,by rw [lr];rfl⟩,fun b hb=>?_,q⟩
  have e:b=s1.heap.objs.size:=by simpa using hb
  subst e
  exact I2.jo (Nat.le_refl _) (I2.ao.fresh (Nat.le_refl _))
 rcases q with ⟨eH,q⟩ | ⟨o,eH,q⟩
 ·obtain ⟨hz,sys,vs,r,o,es,ep,g,c,d,rest⟩:=(show aI X.prog X.w H1 s1.heap a (.dK ai) from I1.ao a _ eH)
  refine main (H2:=upd H1 a (.aM o (.dK ai))) ?_ ak (q o)
  exact I1.write (t':=s1.toks) (x:=a) (e:=a) (by rw [eH];exact trivial) (.inl rfl) (fun b u _ e=>e) ⟨o,g⟩ ⟨g,hz,sys,vs,r,o,es,ep,g,c,d,rest⟩
 ·exact main I1 eH q
end
theorem uE:∀{us:List Value} {ns:List Int},IntsAre us ns→Vals (ns.map V.int) us
 | _,_,.nil=>.nil
 | _,_,.cons a u r=>.cons ⟨u,rfl⟩ (uE r)
def BY:List V→Hp→VK→Prop:=fun xs H Q=>∃(a:Addr) (zs:List Int),xs=[.ref a]∧H a=some (.lst (zs.map V.int))∧zs.length<64∧∀(ws:List Int) (D:Addr),ws.Perm zs→ws.Pairwise (·≤·)→H D=none→Q (.ref D) (upd H D (.lst (ws.map V.int)))
theorem uF{X:Cx}:bR X (.builtin "sorted") BY:=by
 intro pins s σ H xs us Q I r h
 obtain ⟨a,zs,rfl,ha,fW,k⟩:=h
 obtain ⟨u,rfl,ru⟩:=vals1 r
 cases ru
 obtain ⟨ae,rv,pl,hz⟩:=I.list (.of ha)
 have hl:=rv.length
 rw [List.length_map] at hl
 refine sorted_ints pl.isList (intsAre_of rv) (by omega) fun out uG a1 a2 a3=>?_
 obtain ⟨e,he⟩:=sortedAll_at s.heap ae out
 refine ⟨.ref (s.heap.objs.size+1),_,I.laid (t':=s.toks) (o:=.lst (uG.map .int)) (fun _ _=>sortedAll_old) (Nat.le_succ _) ⟨?_,out.toList,e,uE a1,?_⟩,rfl,k uG _ a2 a3 (I.ao.fresh (Nat.le_succ _))⟩
 ·rw [List.length_map,a2.length_eq]
  rw [sizeLine_eq];omega
 ·simpa using he
end L2
namespace My
open PySem L2
def dk(ks:List Nat):List (Key×V):=ks.map fun k:Nat=>((Sum.inl (k:Int):Key),V.bl true)
def bH(ks:List Nat)(k:Nat):List Nat:=if k∈ks then ks else ks++[k]
theorem BZ{a b:Nat}:((Sum.inl (a:Int):Key)=Sum.inl (b:Int))↔a=b:=by
 constructor
 ·intro h
  have:=Sum.inl.inj h
  omega
 ·rintro rfl;rfl
theorem B0(ks:List Nat):(dk ks).length=ks.length:=List.length_map _
theorem B1(ks:List Nat)(k:Nat):((dk ks).any fun kv=>decide (kv.1=(Sum.inl (k:Int):Key)))=decide (k∈ks):=by
 rw [Bool.eq_iff_iff,List.any_eq_true,decide_eq_true_iff]
 constructor
 ·rintro ⟨kv,h1,h2⟩
  obtain ⟨j,hj,rfl⟩:=List.mem_map.mp h1
  have:=BZ.mp (of_decide_eq_true h2)
  subst this
  exact hj
 ·intro h
  exact ⟨_,List.mem_map.mpr ⟨k,h,rfl⟩,decide_eq_true rfl⟩
theorem B2(ks:List Nat)(k:Nat):putK (dk ks) (Sum.inl (k:Int):Key) (V.bl true)=dk (bH ks k):=by
 unfold putK bH
 rw [B1]
 by_cases h:k∈ks
 ·rw [if_pos (decide_eq_true h),if_pos h]
  unfold dk
  rw [List.map_map]
  refine List.map_congr_left fun j _=>?_
  show (if _ then _ else _)=_
  split <;> rfl
 ·rw [if_neg (by rw [decide_eq_true_iff];exact h),if_neg h]
  unfold dk
  rw [List.map_append]
  rfl
theorem lI{ks:List Nat}{k j:Nat}:j∈bH ks k↔j∈ks∨j=k:=by
 unfold bH
 by_cases h:k∈ks
 ·rw [if_pos h]
  constructor
  ·exact .inl
  ·rintro (e | rfl)
   ·exact e
   ·exact h
 ·rw [if_neg h,List.mem_append,List.mem_singleton]
theorem B3{ks:List Nat}{k:Nat}(h:ks.Nodup):(bH ks k).Nodup:=by
 unfold bH
 by_cases m:k∈ks
 ·rw [if_pos m];exact h
 ·rw [if_neg m]
  refine List.nodup_append.mpr ⟨h,(by simp),fun a ha b hb=>?_⟩
  rw [List.mem_singleton] at hb
  subst hb
  rintro rfl
  exact m ha
def dU(n:Nat)(ks:List Nat):Prop:=ks.Nodup∧∀k∈ks,k<n
theorem dU.nil(n:Nat):dU n []:=⟨List.nodup_nil,fun _ h=>by cases h⟩
theorem dU.add{n k:Nat}{ks:List Nat}(h:dU n ks)(hk:k<n):dU n (bH ks k):=⟨B3 h.1,fun j hj=>by
 rcases lI.mp hj with e | rfl
 ·exact h.2 j e
 ·exact hk⟩
theorem oP:∀{n:Nat} {ks:List Nat},ks.Nodup→(∀k∈ks,k<n)→ks.length≤n
 | 0,ks,_,h=>by
  cases ks with
  | nil=>exact Nat.le_refl _
  | cons a r=>exact absurd (h a (List.mem_cons_self ..)) (Nat.not_lt_zero _)
 | n+1,ks,nd,h=>by
  have e:=oP (n:=n) (ks:=ks.erase n) (nd.erase n) (fun k hk=>by
   have m:=(List.Nodup.mem_erase_iff nd).mp hk
   have:=h k m.2
   have:=m.1
   omega)
  by_cases hm:n∈ks
  ·have:=List.length_erase_of_mem hm
   omega
  ·rw [List.erase_of_not_mem hm] at e
   omega
theorem dU.len{n:Nat}{ks:List Nat}(h:dU n ks):ks.length≤n:=oP h.1 h.2
structure bg (H:Hp) (D:Addr) (n:Nat) (ds:Nat→Addr) (un:Nat→Prop) (f:Nat→List Nat):Prop where
 lst:H D=some (.lst ((List.range n).map fun i=>V.ref (ds i)))
 inj:∀i j,i<n→j<n→ds i=ds j→i=j
 ne:∀i,i<n→ds i≠D
 at':∀i,i<n→un i→H (ds i)=some (.dK (dk (f i)))
 pl:∀i,i<n→dU n (f i)
def bL(f:Nat→List Nat)(i:Nat)(ks:List Nat):Nat→List Nat:=fun j=>if j=i then ks else f j
theorem bg.put{H:Hp}{D:Addr}{n:Nat}{ds:Nat→Addr}{un:Nat→Prop}{f:Nat→List Nat}(h:bg H D n ds un f){i j:Nat}(hi:i<n)(hj:j<n)(ui:un i)(hn:n≤1000) :
  oK H (ds i) (.int (j:Int)) (.bl true) (upd H (ds i) (.dK (dk (bH (f i) j))))∧bg (upd H (ds i) (.dK (dk (bH (f i) j)))) D n ds un (bL f i (bH (f i) j)):=by
 refine ⟨.inl ⟨dk (f i),Sum.inl (j:Int),h.at' i hi ui,rfl,?_,by rw [B2]⟩,?_,h.inj,h.ne,fun k hk uk=>?_,fun k hk=>?_⟩
 ·rw [B0]
  have:=(h.pl i hi).len
  exact Nat.lt_of_le_of_lt this (Nat.lt_of_le_of_lt hn (by rw [sizeLine_eq];decide))
 ·rw [ay (Ne.symm (h.ne i hi))]
  exact h.lst
 ·unfold bL
  by_cases e:k=i
  ·subst e
   rw [if_pos rfl,ak]
  ·rw [if_neg e,ay (fun z=>e (h.inj k i hk hi z))]
   exact h.at' k hk uk
 ·unfold bL
  by_cases e:k=i
  ·rw [if_pos e];exact (h.pl i hi).add hj
  ·rw [if_neg e];exact h.pl k hk
theorem bg.ix{H:Hp}{D:Addr}{n:Nat}{ds:Nat→Addr}{un:Nat→Prop}{f:Nat→List Nat}(h:bg H D n ds un f){i:Nat}(hi:i<n):cJ ((List.range n).map fun i=>V.ref (ds i)) (i:Int)=some (V.ref (ds i)):=
 e_ (by rw [List.getElem?_map,List.getElem?_range hi];rfl)
def fY(n:Nat)(L:List (Int×Int)):Prop:=∀p∈L,0≤p.1∧p.1<(n:Int)∧0≤p.2∧p.2<(n:Int)
def fi(n:Nat)(L:List (Int×Int))(f:Nat→List Nat):Prop:=∀i j:Nat,i<n→(j∈f i↔((i:Int),(j:Int))∈L∨((j:Int),(i:Int))∈L)
theorem fi.nil(n:Nat):fi n [] (fun _=>[]):=fun i j _=>by simp
theorem fi.more{n:Nat}{L:List (Int×Int)}{f:Nat→List Nat}(h:fi n L f){i j:Nat}(hi:i<n)(hj:j<n):fi n (L++[((i:Int),(j:Int))]) (bL (bL f i (bH (f i) j)) j (bH (bL f i (bH (f i) j) j) i)):=fun a b ha=>by
 have e1:∀x y:Nat,y∈bL f i (bH (f i) j) x↔y∈f x∨(x=i∧y=j):=fun x y=>by
  unfold bL
  by_cases e:x=i
  ·subst e
   rw [if_pos rfl,lI]
   simp
  ·rw [if_neg e]
   simp [e]
 have e2:b∈bL (bL f i (bH (f i) j)) j (bH (bL f i (bH (f i) j) j) i) a↔b∈bL f i (bH (f i) j) a∨(a=j∧b=i):=by
  unfold bL
  by_cases e:a=j
  ·subst e
   rw [if_pos rfl,lI]
   simp
  ·rw [if_neg e]
   simp [e]
 rw [e2,e1,h a b ha]
 simp only [List.mem_append,List.mem_singleton,Prod.mk.injEq]
 constructor
 ·rintro ((e | e) | ⟨rfl,rfl⟩)
  ·rcases e with e | e
   ·exact .inl (.inl e)
   ·exact .inr (.inl e)
  ·exact .inl (.inr ⟨by omega,by omega⟩)
  ·exact .inr (.inr ⟨rfl,rfl⟩)
 ·rintro ((e | ⟨e1,e2⟩) | (e | ⟨e1,e2⟩))
  ·exact .inl (.inl (.inl e))
  ·exact .inl (.inr ⟨by omega,by omega⟩)
  ·exact .inl (.inl (.inr e))
  ·exact .inr ⟨by omega,by omega⟩
def B4:Sp:=fun vs H Q _=>∃(t:Addr) (n:Nat) (L:List (Int×Int)),vs=[.ref t]∧bU H t n L∧fY n L∧n≤1000 ∧
 ∀(H':Hp) (D:Addr) (ds:Nat→Addr) (f:Nat→List Nat),ag H H'→H D=none→(∀i,i<n→H (ds i)=none)→bg H' D n ds (fun _=>True) f→fi n L f→Q (.ref D) H'
end My
namespace L2
open PySem PySem.Spec PyProof.Rows
def B5(K:PySem.W.Frag):R2:=fun x y H Q=>∃(a b:Addr) (xs ys:List Int),x=.ref a∧y=.ref b∧aF K H a (xs.map V.int)∧aF K H b (ys.map V.int)∧Q (.bl (decide (xs=ys))) H
theorem uH{X:Cx}(hu:X.A.units+64<cLine):aZ X (compareOp .Eq) (B5 X.K):=by
 intro pins s σ H x y v u Q I rx ry h
 obtain ⟨a,b,xs,ys,rfl,rfl,h1,h2,q⟩:=h
 cases rx
 cases ry
 obtain ⟨us,r1,t1,_⟩:=I.list h1
 obtain ⟨vs,r2,t2,_⟩:=I.list h2
 have l1:=r1.length
 have l2:=r2.length
 rw [List.length_map] at l1 l2
 by_cases hl:xs.length=ys.length
 ·refine SeqAt.RcAt.lists (e:=fun j=>cV (.int (xs.getD j 0)) (.int (ys.getD j 0))) t1.isList t2.isList (by simp;omega) (by omega) (fun j z1 z2=>?_) _ _ _ _ ?_
  ·have HV:j<us.length:=by simpa using z1
   have HW:j<vs.length:=by simpa using z2
   have ex:(xs.map V.int)[j]?=some (.int (xs.getD j 0)):=by
    rw [List.getElem?_map,List.getD_eq_getElem?_getD]
    simp [show j<xs.length by omega]
   have ey:(ys.map V.int)[j]?=some (.int (ys.getD j 0)):=by
    rw [List.getElem?_map,List.getD_eq_getElem?_getD]
    simp [show j<ys.length by omega]
   obtain ⟨x',jf,rx⟩:=r1.get ex
   obtain ⟨y',oz,ry⟩:=r2.get ey
   have e1:us.toArray[j]=x':=by simpa using (List.getElem?_eq_some_iff.mp jf).2
   have e2:vs.toArray[j]=y':=by simpa using (List.getElem?_eq_some_iff.mp oz).2
   rw [e1,e2]
   exact nH rx ry rfl rfl
  ·rw [show us.toArray.size=xs.length by simp;omega,Bf hl]
   exact ⟨.bl (decide (xs=ys)),H,I,rfl,q⟩
 ·rw [decide_eq_false (fun e=>hl (by rw [e]))] at q
  refine SeqAt.RcAt.lists_lengths t1.isList t2.isList ?_ (by omega) _ _ _ _ ⟨.bl false,H,I,rfl,q⟩
  simp
  omega
end L2
namespace My
open PySem L2
def iN(k:Nat):Int:=(k:Int)
def bw(zs:List Int)(n:Nat):Prop:=zs.Perm ((List.range n).map iN)
instance (zs:List Int) (n:Nat):Decidable (bw zs n):=by unfold bw;exact inferInstance
theorem B6(n:Nat):((List.range n).map iN).Pairwise (·≤·):=by
 rw [List.pairwise_map]
 exact List.Pairwise.imp (fun h=>by unfold iN;omega) List.pairwise_lt_range
theorem B7{ws zs:List Int}{n:Nat}(p:ws.Perm zs)(o:ws.Pairwise (·≤·)):decide (ws=(List.range n).map iN)=decide (bw zs n):=by
 by_cases h:bw zs n
 ·rw [decide_eq_true h]
  refine decide_eq_true ?_
  exact (p.trans h).eq_of_pairwise (fun a b _ _ h1 h2=>by omega) o (B6 n)
 ·rw [decide_eq_false h]
  refine decide_eq_false fun e=>h ?_
  subst e
  exact p.symm
def B8:Sp:=fun vs H Q _=>∃(a:Addr) (zs:List Int) (n:Nat),vs=[.ref a,.int (n:Int)]∧H a=some (.lst (zs.map V.int))∧zs.length<64∧n≤1000∧(∀H',ag H H'→Q (.bl (decide (bw zs n))) H')
def B9(N:Addr):Sp:=fun vs H Q E=>∃(a:Addr) (zs:List Int) (n:Nat),vs=[.ref a,.int (n:Int)]∧H a=some (.lst (zs.map V.int))∧zs.length<64∧n≤1000 ∧
 (¬bw zs n→∀H',ag H H'→E (.ref N) none H')∧(bw zs n→∀H',ag H H'→Q .az H')
def B_(H:Hp)(a:Addr)(n:Nat)(o:List Nat):Prop:=H a=some (.lst (o.map fun k:Nat=>V.int (k:Int)))∧o.Perm (List.range n)
def Ca:Sp:=fun vs H Q _=>∃(a:Addr) (n:Nat) (o:List Nat),vs=[.ref a]∧B_ H a n o∧n≤1000 ∧
 ∀(r:Addr) (H':Hp),ag H H'→H r=none→H' r=some (.lst ((List.range n).map fun p=>V.int (o.idxOf p:Int)))→Q (.ref r) H'
theorem Cb{H H1:Hp}(s:ag H H1){D:Addr}(e:H1 D=none):H D=none:=by
 cases z:H D with
 | none=>rfl
 | some o=>rw [s _ _ z] at e;cases e
theorem lJ{H H1:Hp}(s:ag H H1){D:Addr}{o:HO}(e:H1 D=none):ag H (upd H1 D o):=dB s (Cb s e)
theorem uI{n k:Nat}(h:k<n):dP n (k:Int)=some k:=by
 unfold dP
 rw [if_pos (by omega),if_pos (by omega),Int.toNat_natCast]
def cZ(o:List Nat)(k p:Nat):Int:=if o.idxOf p<k then (o.idxOf p:Int) else 0
theorem lK{n:Nat}{o:List Nat}(h:o.Perm (List.range n)):o.Nodup:=h.nodup_iff.mpr List.nodup_range
theorem jR{n:Nat}{o:List Nat}(h:o.Perm (List.range n)):o.length=n:=by rw [h.length_eq,List.length_range]
theorem eL{n:Nat}{o:List Nat}(h:o.Perm (List.range n)){p:Nat}:p∈o↔p<n:=by rw [h.mem_iff,List.mem_range]
theorem eN{o:List Nat}(nd:o.Nodup){k:Nat}(hk:k<o.length):o.idxOf o[k]=k:=nd.idxOf_getElem k hk
theorem jS{o:List Nat}{p:Nat}(h:p∈o):∃hk:o.idxOf p<o.length,o[o.idxOf p]=p:=⟨List.idxOf_lt_length_of_mem h,List.getElem_idxOf _⟩
theorem Cc{n:Nat}{o:List Nat}(h:o.Perm (List.range n)){k:Nat}(hk:k<o.length):((List.range n).map fun p=>V.int (cZ o k p)).set o[k] (.int (k:Int))=(List.range n).map fun p=>V.int (cZ o (k+1) p):=by
 have nd:=lK h
 refine List.ext_getElem (by simp) fun q h1 h2=>?_
 have hq:q<n:=by simpa using h2
 rw [List.getElem_set]
 by_cases e:o[k]=q
 ·rw [if_pos e]
  simp only [List.getElem_map,List.getElem_range]
  unfold cZ
  rw [←e,eN nd hk,if_pos (Nat.lt_succ_self k)]
 ·rw [if_neg e]
  simp only [List.getElem_map,List.getElem_range]
  unfold cZ
  have ne:o.idxOf q≠k:=fun z=>by
   obtain ⟨hz,ez⟩:=jS ((eL h).mpr hq)
   subst z
   exact e ez
  by_cases z:o.idxOf q<k
  ·rw [if_pos z,if_pos (by omega)]
  ·rw [if_neg z,if_neg (by omega)]
theorem Cd(n:Nat)(o:List Nat):(List.replicate n [V.int 0]).flatten=(List.range n).map fun p=>V.int (cZ o 0 p):=by
 have e:∀n:Nat,(List.replicate n [V.int 0]).flatten=List.replicate n (V.int 0):=fun n=>by
  induction n with
  | zero=>rfl
  | succ n ih=>rw [List.replicate_succ,List.flatten_cons,ih];rfl
 rw [e]
 refine List.ext_getElem (by simp) fun q h1 h2=>?_
 simp [cZ]
theorem Ce{n:Nat}{o:List Nat}(h:o.Perm (List.range n)):(List.range n).map (fun p=>V.int (cZ o o.length p))=(List.range n).map fun p=>V.int (o.idxOf p:Int):=by
 refine List.map_congr_left fun p hp=>?_
 unfold cZ
 rw [if_pos (List.idxOf_lt_length_of_mem ((eL h).mpr (List.mem_range.mp hp)))]
def fj(n:Nat)(ds:Nat→Addr)(un:Nat→Prop)(H H':Hp):Prop:=∀b o,H b=some o→(∀i,i<n→un i→b≠ds i)→H' b=some o
theorem fj.refl{n:Nat}{ds:Nat→Addr}{un:Nat→Prop}{H:Hp}:fj n ds un H H:=fun _ _ h _=>h
theorem fj.put{n:Nat}{ds:Nat→Addr}{un:Nat→Prop}{H H1:Hp}(h:fj n ds un H H1){i:Nat}(hi:i<n)(ui:un i){o:HO}:fj n ds un H (upd H1 (ds i) o):=fun b u e k=>by
 rw [ay (k i hi ui)]
 exact h b u e k
theorem take_snoc{α:Type}{xs:List α}{i:Nat}{x:α}(h:xs[i]?=some x):xs.take (i+1)=xs.take i++[x]:=by rw [List.take_succ,h];rfl
def bZ(n:Nat)(f:Nat→List Nat)(ps:List Nat)(i j:Nat)(g:Nat→List Nat):Prop:=∀a b:Nat,a<n→(b∈g a↔b∈f a∨(a≠b∧(a∈ps.take i∧b∈ps∨ps[i]?=some a∧b∈ps.take j)))
theorem bZ.start(n:Nat)(f:Nat→List Nat)(ps:List Nat):bZ n f ps 0 0 f:=fun a b _=>by simp
theorem bZ.row{n:Nat}{f g:Nat→List Nat}{ps:List Nat}{i:Nat}(h:bZ n f ps i ps.length g):bZ n f ps (i+1) 0 g:=fun a b ha=>by
 rw [h a b ha,List.take_length]
 cases e:ps[i]? with
 | none=>
  have:ps.length≤i:=List.getElem?_eq_none_iff.mp e
  rw [List.take_of_length_le this,List.take_of_length_le (by omega)]
  simp
 | some x=>
  rw [take_snoc e]
  simp only [List.mem_append,List.mem_singleton,Option.some.injEq,List.take_zero,List.not_mem_nil,and_false,or_false]
  constructor
  ·rintro (z | ⟨z,z1 | z1⟩)
   ·exact .inl z
   ·exact .inr ⟨z,.inl z1.1,z1.2⟩
   ·exact .inr ⟨z,.inr z1.1.symm,z1.2⟩
  ·rintro (z | ⟨z,z1 | z1,z2⟩)
   ·exact .inl z
   ·exact .inr ⟨z,.inl ⟨z1,z2⟩⟩
   ·exact .inr ⟨z,.inr ⟨z1.symm,z2⟩⟩
theorem bZ.same{n:Nat}{f g:Nat→List Nat}{ps:List Nat}{i j x:Nat}(h:bZ n f ps i j g)(hi:ps[i]?=some x)(hj:ps[j]?=some x):bZ n f ps i (j+1) g:=fun a b ha=>by
 rw [h a b ha,take_snoc hj]
 simp only [List.mem_append,List.mem_singleton,hi,Option.some.injEq]
 constructor
 ·rintro (z | ⟨z,z1 | z1⟩)
  ·exact .inl z
  ·exact .inr ⟨z,.inl z1⟩
  ·exact .inr ⟨z,.inr ⟨z1.1,.inl z1.2⟩⟩
 ·rintro (z | ⟨z,z1 | ⟨z1,z2 | z2⟩⟩)
  ·exact .inl z
  ·exact .inr ⟨z,.inl z1⟩
  ·exact .inr ⟨z,.inr ⟨z1,z2⟩⟩
  ·exact absurd (z1.symm.trans z2.symm) z
theorem bZ.put{n:Nat}{f g:Nat→List Nat}{ps:List Nat}{i j x y:Nat}(h:bZ n f ps i j g)(hi:ps[i]?=some x)(hj:ps[j]?=some y)(ne:x≠y):bZ n f ps i (j+1) (bL g x (bH (g x) y)):=fun a b ha=>by
 have e1:b∈bL g x (bH (g x) y) a↔b∈g a∨(a=x∧b=y):=by
  unfold bL
  by_cases e:a=x
  ·subst e
   rw [if_pos rfl,lI]
   simp
  ·rw [if_neg e]
   simp [e]
 rw [e1,h a b ha,take_snoc hj]
 simp only [List.mem_append,List.mem_singleton,hi,Option.some.injEq]
 constructor
 ·rintro ((z | ⟨z,z1 | z1⟩) | ⟨rfl,rfl⟩)
  ·exact .inl z
  ·exact .inr ⟨z,.inl z1⟩
  ·exact .inr ⟨z,.inr ⟨z1.1,.inl z1.2⟩⟩
  ·exact .inr ⟨ne,.inr ⟨rfl,.inr rfl⟩⟩
 ·rintro (z | ⟨z,z1 | ⟨z1,z2 | z2⟩⟩)
  ·exact .inl (.inl z)
  ·exact .inl (.inr ⟨z,.inl z1⟩)
  ·exact .inl (.inr ⟨z,.inr ⟨z1,z2⟩⟩)
  ·exact .inr ⟨z1.symm,z2⟩
theorem bZ.done{n:Nat}{f g:Nat→List Nat}{ps:List Nat}(h:bZ n f ps ps.length 0 g):∀a b:Nat,a<n→(b∈g a↔b∈f a∨(a≠b∧a∈ps∧b∈ps)):=fun a b ha=>by
 rw [h a b ha,List.take_length]
 simp
def Cf:Sp:=fun vs H Q _=>∃(D pl:Addr) (n:Nat) (ds:Nat→Addr) (un:Nat→Prop) (f:Nat→List Nat) (ps:List Nat),vs=[.ref D,.ref pl]∧bg H D n ds un f∧H pl=some (.lst (ps.map fun k:Nat=>V.int (k:Int)))∧(∀p∈ps,p<n∧un p)∧n≤1000 ∧
 ∀(H':Hp) (g:Nat→List Nat),fj n ds un H H'→bg H' D n ds un g→(∀a b:Nat,a<n→(b∈g a↔b∈f a∨(a≠b∧a∈ps∧b∈ps)))→Q .az H'
theorem bg.mono{H H':Hp}{D:Addr}{n:Nat}{ds:Nat→Addr}{un:Nat→Prop}{f:Nat→List Nat}(h:bg H D n ds un f)(s:ag H H'):bg H' D n ds un f:=⟨s _ _ h.lst,h.inj,h.ne,fun i hi ui=>s _ _ (h.at' i hi ui),h.pl⟩
theorem bg.less{H:Hp}{D:Addr}{n:Nat}{ds:Nat→Addr}{un uJ:Nat→Prop}{f:Nat→List Nat}(h:bg H D n ds un f)(k:∀i,i<n→uJ i→un i):bg H D n ds uJ f:=⟨h.lst,h.inj,h.ne,fun i hi ui=>h.at' i hi (k i hi ui),h.pl⟩
theorem bg.upd{H:Hp}{D:Addr}{n:Nat}{ds:Nat→Addr}{un:Nat→Prop}{f:Nat→List Nat}(h:bg H D n ds un f){x:Addr}{o:HO}(n1:x≠D)(n2:∀i,i<n→un i→ds i≠x):bg (upd H x o) D n ds un f:=⟨by rw [ay (Ne.symm n1)];exact h.lst,h.inj,h.ne,fun i hi ui=>by rw [ay (n2 i hi ui)];exact h.at' i hi ui,h.pl⟩
theorem Cg{a:Addr}{o:Obj}{ai:List (Key×V)}{H1:Hp}(h:H1 a=some (.aM o (.dK ai))):fh (hJ a o ai) (ai.map fun kv=>kV kv.1) H1 where
 go:=fun i Hc s hi=>⟨s _ _ h,by simpa using hi⟩
 bW:=fun i Hc x H' s y=>⟨y.1,fun _=>by
  obtain ⟨kv,e,rfl⟩:=y.2
  rw [List.getElem?_map,e]
  rfl⟩
 stop:=fun i Hc s hi=>⟨s _ _ h,by simpa using hi⟩
theorem Ci(ks:List Nat):(dk ks).map (fun kv=>kV kv.1)=ks.map fun k:Nat=>V.int (k:Int):=by
 unfold dk
 rw [List.map_map]
 rfl
theorem Cj(ks:List Nat):(List.range ks.length).map (fun i=>ks.getD i 0)=ks:=by
 refine List.ext_getElem (by simp) fun i h1 h2=>?_
 simp [List.getD_eq_getElem?_getD,h2]
theorem Ck(ks:List Nat)(pr:Nat→Bool):((List.range ks.length).filter fun i=>pr (ks.getD i 0)).map (fun i=>ks.getD i 0)=ks.filter pr:=by
 have e:=List.filter_map (f:=fun i=>ks.getD i 0) (l:=List.range ks.length) (p:=pr)
 rw [Cj] at e
 exact e.symm
theorem Cm{ρ:St→St}{tt:TT}{te:TE}{σ:St}{H:Hp}{Q:VK}{ks:List Nat}{a:Addr}{ob:Obj}(h:H a=some (.aM ob (.dK (dk ks))))(pr:Nat→Bool)(hl:ks.length<sizeLine)
  (test:∀k∈ks,∀(Hc:Hp) (R:Bool→Hp→Prop),ag H Hc→R (pr k) Hc→tt (some (.int (k:Int))::ρ σ) Hc R)
  (step:∀k∈ks,∀(Hc:Hp) (R:VK),R (.int (k:Int)) Hc→te (some (.int (k:Int))::ρ σ) Hc R)
  (fin:∀D Hc,H D=none→ag H Hc→Hc D=some (.lst ((ks.filter pr).map fun k:Nat=>V.int (k:Int)))→Q (.ref D) Hc):dz (fun _ H R=>R (hJ a ob (dk ks)) H) ρ tt te σ H Q:=by
 have at':∀{i:Nat} {x:V},(ks.map fun k:Nat=>V.int (k:Int))[i]?=some x→i<ks.length∧x=.int ((ks.getD i 0:Nat):Int)∧ks.getD i 0∈ks:=fun{i x} hx=>by
  have hi:i<ks.length:=by
   have:=(List.getElem?_eq_some_iff.mp hx).1
   simpa using this
  rw [List.getElem?_map] at hx
  simp [hi] at hx
  rw [getD_at hi]
  exact ⟨hi,hx.symm,List.getElem_mem hi⟩
 refine BF (xs:=ks.map fun k:Nat=>V.int (k:Int)) (fun i=>pr (ks.getD i 0)) (fun R k=>k _ (by rw [←Ci];exact Cg h)) (by rw [List.length_map];exact hl) (fun _ i y _=>y=.int ((ks.getD i 0:Nat):Int)) (fun _ _ _ _ _ _ h _ _=>h) ?_ ?_ ?_
 ·intro i x hx Hc R sc hR
  obtain ⟨_,rfl,m⟩:=at' hx
  exact test _ m Hc R sc hR
 ·intro D i x hx Hc R sc _ kc
  obtain ⟨_,rfl,m⟩:=at' hx
  exact step _ m Hc R (kc _ Hc (ag.refl _) rfl)
 ·intro D ys Hc nD sc ly hP eD
  refine fin D Hc nD sc ?_
  rw [eD,←Ck ks pr,List.map_map]
  rw [List.length_map] at ly hP
  congr 2
  refine List.ext_getElem (by simpa using ly) fun k h1 h2=>?_
  have h3:k<((List.range ks.length).filter fun i=>pr (ks.getD i 0)).length:=by simpa using h2
  rw [List.getElem_map]
  exact hP k _ _ (List.getElem?_eq_getElem h1) (List.getElem?_eq_getElem h3)
theorem uK{ws:List Int}{ks:List Nat}(p:ws.Perm (ks.map iN)):∃ms:List Nat,ws=ms.map iN∧ms.Perm ks:=by
 refine ⟨ws.map Int.toNat,?_,?_⟩
 ·rw [List.map_map]
  conv=>lhs;rw [←List.map_id ws]
  refine List.map_congr_left fun z hz=>?_
  obtain ⟨k,_,rfl⟩:=List.mem_map.mp (p.mem_iff.mp hz)
  show iN k=iN (Int.toNat (iN k))
  unfold iN
  rw [Int.toNat_natCast]
 ·have:=p.map Int.toNat
  rw [List.map_map] at this
  have e:ks.map (Int.toNat ∘ iN)=ks:=by
   conv=>rhs;rw [←List.map_id ks]
   exact List.map_congr_left fun k _=>Int.toNat_natCast k
  rw [e] at this
  exact this
structure hU (n:Nat) (o:List Nat) (p:Nat) (ms:List Nat):Prop where
 up:ms.Pairwise (· < ·)
 lt:∀q∈ms,q<n
 la:∀q∈ms,o.idxOf p<o.idxOf q
theorem Cn{n:Nat}{o:List Nat}{p:Nat}{ks ms:List Nat}(hk:dU n ks)(h:ms.Perm (ks.filter fun q=>decide (o.idxOf p<o.idxOf q)))(s:(ms.map iN).Pairwise (·≤·)):hU n o p ms:=by
 have m:∀q∈ms,q∈ks∧o.idxOf p<o.idxOf q:=fun q hq=>by
  have:=List.mem_filter.mp (h.mem_iff.mp hq)
  exact ⟨this.1,by simpa using this.2⟩
 refine ⟨?_,fun q hq=>hk.2 q (m q hq).1,fun q hq=>(m q hq).2⟩
 have nd:ms.Nodup:=h.nodup_iff.mpr (hk.1.filter _)
 rw [List.pairwise_map] at s
 refine List.Pairwise.imp₂ (fun a b h1 h2=>?_) s nd
 have h1:(a:Int)≤(b:Int):=h1
 have h2:a≠b:=h2
 omega
def uL(H:Hp)(D:Addr)(n:Nat)(rs:Nat→Addr)(g:Nat→List Nat):Prop:=H D=some (.lst ((List.range n).map fun p=>V.ref (rs p)))∧∀p,p<n→H (rs p)=some (.lst ((g p).map fun k:Nat=>V.int (k:Int)))
def Co(N:Addr):Sp:=fun vs H Q E=>∃(t a:Addr) (n:Nat) (L:List (Int×Int)) (zs:List Int),vs=[.ref t,.ref a]∧bU H t n L∧fY n L∧n≤60∧H a=some (.lst (zs.map V.int))∧zs.length<64 ∧
 (¬bw zs n→∀H',ag H H'→E (.ref N) none H') ∧
 ∀o:List Nat,zs=o.map iN→o.Perm (List.range n)→∀(H':Hp) (D:Addr) (rs:Nat→Addr) (g:Nat→List Nat),ag H H'→H D=none→(∀p,p<n→H (rs p)=none)→uL H' D n rs g→(∀p,p<n→hU n o p (g p))→Q (.ref D) H'
theorem Cp{zs:List Int}{n:Nat}(h:bw zs n):∃o:List Nat,zs=o.map iN∧o.Perm (List.range n):=uK h
def c_(rs:Nat→Addr)(p:Nat)(x:Addr):Nat→Addr:=fun q=>if q=p then x else rs q
theorem Cq(n:Nat)(rs:Nat→Addr)(p:Nat)(x:Addr):((List.range n).map fun q=>V.ref (rs q)).set p (.ref x)=(List.range n).map fun q=>V.ref (c_ rs p x q):=by
 refine List.ext_getElem (by simp) fun q h1 h2=>?_
 rw [List.getElem_set,List.getElem_map,List.getElem_range,List.getElem_map,List.getElem_range]
 unfold c_
 by_cases e:p=q
 ·subst e
  rw [if_pos rfl,if_pos rfl]
 ·rw [if_neg e,if_neg (Ne.symm e)]
theorem uN{rs:Nat→Addr}{p:Nat}{x:Addr}:c_ rs p x p=x:=if_pos rfl
theorem Cr{rs:Nat→Addr}{p q:Nat}{x:Addr}(h:q≠p):c_ rs p x q=rs q:=if_neg h
theorem Cs{f:Nat→List Nat}{p:Nat}{x:List Nat}:bL f p x p=x:=if_pos rfl
theorem Ct{f:Nat→List Nat}{p q:Nat}{x:List Nat}(h:q≠p):bL f p x q=f q:=if_neg h
theorem oQ{n:Nat}{g:Nat→V}{p:Nat}(h:p<n):cJ ((List.range n).map g) (p:Int)=some (g p):=e_ (by rw [List.getElem?_map,List.getElem?_range h];rfl)
theorem Cu(o ks:List Nat)(p:Nat):(ks.filter fun q=>decide ((o.idxOf p:Int)<(o.idxOf q:Int)))=ks.filter fun q=>decide (o.idxOf p<o.idxOf q):=by
 refine List.filter_congr fun q _=>?_
 rw [Bool.eq_iff_iff,decide_eq_true_iff,decide_eq_true_iff]
 omega
theorem uO{n:Nat}{o:List Nat}(h:o.Perm (List.range n)){p q:Nat}(hp:p<n)(hq:q<n)(ne:p≠q):o.idxOf p≠o.idxOf q:=fun z=>by
 obtain ⟨h1,e1⟩:=jS ((eL h).mpr hp)
 obtain ⟨h2,e2⟩:=jS ((eL h).mpr hq)
 refine ne ?_
 rw [←e1,←e2]
 congr 1
theorem uP{wi:TI}{ρ:St→St}{tt:TT}{te:TE}{σ:St}{H:Hp}{Q:VK}(h:wi σ H fun J H1=>dz (fun _ H R=>R J H) ρ tt te σ H1 Q):dz wi ρ tt te σ H Q:=h
end My
namespace L2
open PySem PySem.Spec PyProof.Rows
section
variable {X:Cx} {pins:List (Addr×Obj)} {σ:St} {H:Hp} {s:Shared}
def lN(H:Hp):Nat→V→V→Prop
 | 0,v,u=>∃i j,v=.int i∧u=.int j
 | n+1,v,u=>(∃i j,v=.int i∧u=.int j)∨∃p q xs ys,v=.ref p∧u=.ref q∧H p=some (.tup xs)∧H q=some (.tup ys)∧∀(k:Nat) (x y:V),xs[k]?=some x→ys[k]?=some y→lN H n x y
theorem Cv(I:Inv X pins σ H s):∀(n:Nat) (A:Around) (v u:V) (a b:Value),lN H n v u→RelV v a→RelV u b→A.units+n<cLine→∃c,SeqAt.EqAt A s a b c:=by
 have uQ:∀(A:Around) (v u:V) (a b:Value),(∃i j,v=.int i∧u=.int j)→RelV v a→RelV u b→∃c,SeqAt.EqAt A s a b c:=by
  rintro A _ _ a b ⟨i,j,rfl,rfl⟩ ra rb
  exact ⟨_,nH ra rb rfl rfl⟩
 intro n
 induction n with
 | zero=>exact fun A v u a b h ra rb _=>uQ A v u a b h ra rb
 | succ n ih=>
  intro A v u a b h ra rb hu
  rcases h with h | ⟨p,q,xs,ys,rfl,rfl,e,e',k⟩
  ·exact uQ A v u a b h ra rb
  cases ra
  cases rb
  by_cases pq:p=q
  ·subst pq;exact ⟨_,SeqAt.EqAt.same _⟩
  obtain ⟨us,r1,t1,_⟩:=I.tuple (.of e)
  obtain ⟨vs,r2,t2,_⟩:=I.tuple (.of e')
  have one:∀j (z1:j<us.toArray.size) (z2:j<vs.toArray.size),∃c,SeqAt.EqAt A.in1 s us.toArray[j] vs.toArray[j] c:=fun j z1 z2=>by
   obtain ⟨x,y,ex,ey,rx,ry⟩:=tX r1 r2 (by simpa using z1) (by simpa using z2)
   exact ih A.in1 x y _ _ (k j x y ex ey) rx ry (by rw [Around.in1_units];omega)
  have z:=SeqAt.RcAt.tuples (A:=A) (e:=fun j=>if h:j<us.toArray.size∧j<vs.toArray.size then Classical.choose (one j h.1 h.2) else false) t1 t2 (by omega) (fun j z1 z2=>by
   rw [dif_pos ⟨z1,z2⟩]
   exact Classical.choose_spec (one j z1 z2))
  exact ⟨_,SeqAt.EqAt.of_refs pq z⟩
def Cw(n:Nat):R2:=fun x y H Q=>∃p q xs ys,x=.ref p∧y=.ref q∧H p=some (.tup xs)∧H q=some (.tup ys)∧(∀(k:Nat) (x y:V),xs[k]?=some x→ys[k]?=some y→lN H n x y)∧∀b:Bool,Q (.bl b) H
theorem Cy{n:Nat}(hu:X.A.units+64<cLine)(hn:n<60:=by decide):aZ X (compareOp .Eq) (Cw n):=by
 intro pins s σ H x y v u Q I rx ry h
 obtain ⟨p,q,xs,ys,rfl,rfl,e,e',k,c⟩:=h
 cases rx
 cases ry
 obtain ⟨us,r1,t1,_⟩:=I.tuple (.of e)
 obtain ⟨vs,r2,t2,_⟩:=I.tuple (.of e')
 have one:∀j (z1:j<us.toArray.size) (z2:j<vs.toArray.size),∃c,SeqAt.EqAt X.A.in1 s us.toArray[j] vs.toArray[j] c:=fun j z1 z2=>by
  obtain ⟨x,y,ex,ey,rx,ry⟩:=tX r1 r2 (by simpa using z1) (by simpa using z2)
  exact Cv I n X.A.in1 x y _ _ (k j x y ex ey) rx ry (by rw [Around.in1_units];omega)
 refine SeqAt.eq_tupleAt (e:=fun j=>if h:j<us.toArray.size∧j<vs.toArray.size then Classical.choose (one j h.1 h.2) else false) t1 t2 (by omega) (fun j z1 z2=>?_) ⟨.bl _,H,I,rfl,c _⟩
 rw [dif_pos ⟨z1,z2⟩]
 exact Classical.choose_spec (one j z1 z2)
end
end L2
namespace My
open PySem L2
theorem Cz{H:Hp}{t t' lt lt':Addr}{n n':Nat}{us jT:List V}{L L':List (Int×Int)}(e1:H lt=some (.tup us))(jH:H lt'=some (.tup jT))(h:aE H us L)(h':aE H jT L'):∀(k:Nat) (x y:V),([V.int (n:Int),.ref lt])[k]?=some x→([V.int (n':Int),.ref lt'])[k]?=some y→lN H 2 x y:=by
 intro k x y hx hy
 match k with
 | 0=>cases hx;cases hy;exact .inl ⟨_,_,rfl,rfl⟩
 | 1=>
  cases hx;cases hy
  refine .inr ⟨lt,lt',us,jT,rfl,rfl,e1,jH,fun j x y hx hy=>?_⟩
  have a1:j<L.length:=by rw [←h.1];exact (List.getElem?_eq_some_iff.mp hx).1
  have a2:j<L'.length:=by rw [←h'.1];exact (List.getElem?_eq_some_iff.mp hy).1
  obtain ⟨b,rfl,eb⟩:=h.2 j x L[j] hx (by simp [a1])
  obtain ⟨b',rfl,CA⟩:=h'.2 j y L'[j] hy (by simp [a2])
  refine .inr ⟨b,b',_,_,rfl,rfl,eb,CA,fun i x y hx hy=>?_⟩
  match i with
  | 0=>cases hx;cases hy;exact ⟨_,_,rfl,rfl⟩
  | 1=>cases hx;cases hy;exact ⟨_,_,rfl,rfl⟩
  | i+2=>cases hx
 | k+2=>cases hx
theorem oR{n:Nat}{o:List Nat}(h:o.Perm (List.range n)){p:Nat}{ms:List Nat}(k:hU n o p ms):ms.length≤n-1-o.idxOf p:=by
 have nd:(ms.map fun q=>o.idxOf q-(o.idxOf p+1)).Nodup:=by
  rw [List.nodup_iff_pairwise_ne,List.pairwise_map]
  refine List.Pairwise.imp_of_mem (fun{a b} ha hb lt=>?_) k.up
  have h1:=k.la a ha
  have h2:=k.la b hb
  have ne:=uO h (k.lt a ha) (k.lt b hb) (Nat.ne_of_lt lt)
  omega
 have:=oP (n:=n-1-o.idxOf p) nd (fun x hx=>by
  obtain ⟨q,hq,rfl⟩:=List.mem_map.mp hx
  have h1:=k.la q hq
  have h2:=(jS ((eL h).mpr (k.lt q hq))).1
  rw [jR h] at h2
  omega)
 rwa [List.length_map] at this
theorem uR{f g:Nat→Nat}:∀{l:List Nat},(∀p∈l,f p≤g p)→(l.map f).sum≤(l.map g).sum
 | [],_=>Nat.le_refl _
 | a::r,h=>by
  have h1:=h a (List.mem_cons_self ..)
  have h2:=uR (l:=r) fun p hp=>h p (List.mem_cons_of_mem _ hp)
  simp only [List.map_cons,List.sum_cons]
  omega
theorem CB{n:Nat}{o:List Nat}(h:o.Perm (List.range n))(n9:n≤9){g:Nat→List Nat}(k:∀p,p<n→hU n o p (g p)):((List.range n).map fun p=>(g p).length).sum≤36:=by
 have a:=uR (l:=List.range n) (f:=fun p=>(g p).length) (g:=fun p=>n-1-o.idxOf p) fun p hp=>oR h (k p (List.mem_range.mp hp))
 have b:((List.range n).map fun p=>n-1-o.idxOf p).sum=(o.map fun p=>n-1-o.idxOf p).sum:=((h.map _).symm).sum_nat
 have c:(o.map fun p=>n-1-o.idxOf p)=(List.range n).map fun k=>n-1-k:=by
  have nd:=lK h
  refine List.ext_getElem (by simp [jR h]) fun i h1 h2=>?_
  rw [List.getElem_map,List.getElem_map,List.getElem_range,eN nd (by simpa using h1)]
 have d:∀n:Nat,n≤9→((List.range n).map fun k=>n-1-k).sum≤36:=by decide
 rw [c] at b
 have:=d n n9
 omega
def oS(N:Addr)(R:Nat→Hp→V→Prop):Sp:=fun vs H Q E=>∃(t a:Addr) (n:Nat) (L:List (Int×Int)) (zs:List Int),vs=[.ref t,.ref a]∧bU H t n L∧fY n L∧n≤9∧H a=some (.lst (zs.map V.int))∧zs.length<64 ∧
 (¬bw zs n→∀H',ag H H'→E (.ref N) none H')∧(bw zs n→∀H' v,ag H H'→R n H' v→Q v H')
def CD(n:Nat)(H:Hp)(v:V):Prop:=∃(t:Addr) (L:List (Int×Int)),v=.ref t∧bU H t n L
def CF(_:Nat)(_:Hp)(v:V):Prop:=∃b:Bool,v=.bl b
def CG(_:Nat)(_:Hp)(v:V):Prop:=∃i:Int,v=.int i
def fk(p q:Nat):Int×Int:=(if (q:Int)<(p:Int) then (q:Int) else (p:Int),if (q:Int)>(p:Int) then (q:Int) else (p:Int))
theorem CH{n p q:Nat}(hp:p<n)(hq:q<n):0≤(fk p q).2∧(fk p q).2<(n:Int):=by
 unfold fk
 dsimp only
 split <;> omega
structure lO (H:Hp) (n:Nat) (g:Nat→List Nat) (k:Nat) (xs:List V) (M:List (Int×Int)):Prop where
 at':aE H xs M
 len:M.length=((List.range k).map fun p=>(g p).length).sum
 lt:∀p∈M,0≤p.2∧p.2<(n:Int)
theorem aE.app{H:Hp}{xs ys:List V}{M N:List (Int×Int)}(h:aE H xs M)(h':aE H ys N):aE H (xs++ys) (M++N):=by
 have l1:=h.1
 have l2:=h'.1
 refine ⟨by simp [l1,l2],fun k v p h1 h2=>?_⟩
 by_cases e:k<xs.length
 ·rw [List.getElem?_append_left e] at h1
  rw [List.getElem?_append_left (by omega)] at h2
  exact h.2 k v p h1 h2
 ·rw [List.getElem?_append_right (by omega)] at h1
  rw [List.getElem?_append_right (by omega),←l1] at h2
  exact h'.2 _ v p h1 h2
theorem lO.more{H H':Hp}{n:Nat}{g:Nat→List Nat}{k:Nat}{xs ys:List V}{M:List (Int×Int)}(h:lO H n g k xs M)(s:aE H xs M→aE H' xs M)(hk:k<n)(hg:∀q∈g k,q<n)(hy:aE H' ys ((g k).map (fk k))):lO H' n g (k+1) (xs++ys) (M++(g k).map (fk k)):=⟨(s h.at').app hy,by rw [List.length_append,h.len,List.length_map,List.range_succ,List.map_append,List.sum_append];simp,fun p hp=>by
 rcases List.mem_append.mp hp with e | e
 ·exact h.lt p e
 ·obtain ⟨q,hq,rfl⟩:=List.mem_map.mp e
  exact CH hk (hg q hq)⟩
theorem CI{g:Nat→Nat}{n k:Nat}(h:k≤n):((List.range k).map g).sum≤((List.range n).map g).sum:=by
 induction n with
 | zero=>rw [Nat.le_zero.mp h];exact Nat.le_refl _
 | succ n ih=>
  by_cases e:k=n+1
  ·subst e;exact Nat.le_refl _
  ·have:=ih (by omega)
   rw [List.range_succ,List.map_append,List.sum_append]
   omega
end My
namespace L2
open PySem PySem.Spec PyProof.Rows
theorem CJ{X:Cx}{E:XK}(L:jE X E):PassesOwn (model X.prog X.w) X.A X.env X.xe:=by
 rw [L.xe]
 exact PassesOwn.leaving
end L2
namespace My
open PySem L2
def CK:Sp:=fun vs H Q _=>∃m:Nat,vs=[.int (m:Int)]∧m≤1000∧Q (.int ((m:Int)*m+3*m+1)) H
def CL:Sp:=fun vs H Q _=>∃(t:Addr) (n:Nat) (L:List (Int×Int)),vs=[.ref t]∧bU H t n L∧n≤9∧Q .az H
end My
namespace L2
open PySem PySem.Spec PyProof.Rows
def uS(K:PySem.W.Frag):R2:=fun x y H Q=>∃a b xs ys,x=.ref a∧y=.ref b∧bo K H a xs∧bo K H b ys∧ys≠[]∧xs.length+ys.length≤sizeLine ∧
 (xs=[]→Q (.ref b) H)∧(xs≠[]→∀p,H p=none→Q (.ref p) (upd H p (.tup (xs++ys))))
theorem CM{X:Cx}:aZ X (binaryOp .Add) (uS X.K):=by
 intro pins s σ H x y v u Q I rx ry h
 by_cases hx:∃a b xs ys,x=.ref a∧y=.ref b∧bo X.K H a xs∧bo X.K H b ys∧xs=[]∧Q (.ref b) H
 ·obtain ⟨a,b,xs,ys,rfl,rfl,ha,hb,rfl,q⟩:=hx
  cases rx
  cases ry
  obtain ⟨ae,r1,p1,_⟩:=I.tuple ha
  obtain ⟨dv,r2,p2,_⟩:=I.tuple hb
  have e0:ae=[]:=r1.kO.mpr rfl
  subst e0
  obtain ⟨⟨cls,dd,data,sl⟩,ho,hc,n,hd⟩:=id p1
  obtain ⟨⟨ze,du,data2,cI⟩,fN,jz,n2,hd2⟩:=id p2
  simp only at hc hd jz hd2
  subst hc hd jz hd2
  exact concat_meets ⟨_,ho,rfl⟩ ⟨_,fN,rfl⟩ noFill_tuple_add seq_tuple_add PySem.F.slot_tuple_add PySem.F.entry_tuple_add (PySem.F.args_tuple_add_2 _ _)
   (tuple_addW0 a b _ dv.toArray n n2 dd du sl cI (by simp)) ⟨ho,fN,⟨.ref b,H,I,rfl,q⟩⟩
 ·obtain ⟨a,b,xs,ys,rfl,rfl,ha,hb,hy,hz,q1,q2⟩:=h
  have ne:xs≠[]:=fun z=>hx ⟨a,b,xs,ys,rfl,rfl,ha,hb,z,q1 z⟩
  exact zk pins s σ H _ _ v u Q I rx ry ⟨a,b,xs,ys,rfl,rfl,ha,hb,ne,hz,fun z=>absurd z hy,fun _=>q2 ne⟩
end L2
namespace My
open PySem L2
def lQ(H:Hp)(k:Nat)(xs:List V):Prop:=∀x∈xs,∃(b:Addr) (us:List V),x=.ref b∧H b=some (.tup us)∧us.length≤k
theorem lQ.mono{H H':Hp}{k:Nat}{xs:List V}(h:lQ H k xs)(s:ag H H'):lQ H' k xs:=fun x hx=>by
 obtain ⟨b,us,e,e1,l⟩:=h x hx
 exact ⟨b,us,e,s _ _ e1,l⟩
def CN:Sp:=fun vs H Q _=>∃n:Nat,vs=[.int (n:Int)]∧n≤9∧∀(D:Addr) (xs:List V) (H':Hp),ag H H'→H' D=some (.lst xs)→xs.length=2 ^ n→Q (.ref D) H'
end My
namespace L2
open PySem PySem.Spec PyProof.Rows
theorem CO{X:Cx}{K:PySem.W.Frag}(hk:X.K=K:=by rfl):aZ X (binaryOp .Add) (uS K):=by
 subst hk
 exact CM
end L2
namespace My
open PySem L2
def CP(N:Addr):Sp:=fun vs H Q E=>∃(t a w:Addr) (n:Nat) (L:List (Int×Int)) (zs:List Int),vs=[.ref t,.ref a,.ref w]∧bU H t n L∧fY n L∧n≤9∧H a=some (.lst (zs.map V.int))∧zs.length<64∧H w=some (.dK []) ∧
 (¬bw zs n→∀H',ag H H'→E (.ref N) none H')∧(bw zs n→∀H',ag H H'→Q (.bl false) H')
end My
namespace L2
open PySem PySem.Spec PyProof.Rows
theorem CQ{X:Cx}{K:PySem.W.Frag}(hk:X.K=K:=by rfl):aZ X (compareOp .In) (sA K false):=by
 subst hk
 exact zw
end L2
namespace My
open PySem L2
def CS(N:Addr):Sp:=fun vs H Q E=>∃(w:Nat) (t a:Addr) (n:Nat) (L:List (Int×Int)) (zs:List Int),vs=[.int (w:Int),.ref t,.ref a]∧bU H t n L∧fY n L∧n≤9∧H a=some (.lst (zs.map V.int))∧zs.length<64 ∧
 (¬bw zs n→∀H',ag H H'→E (.ref N) none H')∧(bw zs n→∀H' v,ag H H'→Q v H')
def CT:Sp:=fun vs H Q _=>∃(w:Nat) (t a:Addr) (n:Nat) (L:List (Int×Int)) (zs:List Int),vs=[.int (w:Int),.ref t,.ref a]∧bU H t n L∧fY n L∧n≤9∧H a=some (.lst (zs.map V.int))∧zs.length<64∧¬bw zs n∧∀H',ag H H'→Q (.bl true) H'
def oT:V→Nat
 | .int i=>i.toNat
 | _=>0
theorem CU{ys:List V}{n:Nat}(p:ys.Perm (ba n)):∃o:List Nat,ys=o.map (fun k:Nat=>V.int (k:Int))∧o.Perm (List.range n):=by
 refine ⟨ys.map oT,?_,?_⟩
 ·rw [List.map_map]
  conv=>lhs;rw [←List.map_id ys]
  refine List.map_congr_left fun y hy=>?_
  obtain ⟨k,_,rfl⟩:=List.mem_map.mp (p.mem_iff.mp hy)
  show V.int (k:Int)=V.int (((k:Int).toNat:Nat):Int)
  rw [Int.toNat_natCast]
 ·have:=p.map oT
  unfold ba at this
  rw [List.map_map] at this
  have e:(List.range n).map (oT ∘ fun i:Nat=>V.int (i:Int))=List.range n:=by
   conv=>rhs;rw [←List.map_id (List.range n)]
   exact List.map_congr_left fun k _=>Int.toNat_natCast k
  rw [e] at this
  exact this
theorem CV{zs:List Int}{n:Nat}(h:bw zs n):zs.length=n:=by
 have:=h.length_eq
 rwa [List.length_map,List.length_range] at this
theorem oU{zs:List Int}{n:Nat}(h:bw zs n){z:Int}:z∈zs↔∃k:Nat,k<n∧z=(k:Int):=by
 rw [h.mem_iff,List.mem_map]
 constructor
 ·rintro ⟨k,hk,rfl⟩
  exact ⟨k,List.mem_range.mp hk,rfl⟩
 ·rintro ⟨k,hk,rfl⟩
  exact ⟨k,List.mem_range.mpr hk,rfl⟩
def b9(H:Hp)(n:Nat)(x:V):Prop:=∃(b:Addr) (zs:List Int),x=.ref b∧H b=some (.lst (zs.map V.int))∧zs.length<64∧¬bw zs n
theorem b9.mono{H H':Hp}{n:Nat}{x:V}(h:b9 H n x)(s:ag H H'):b9 H' n x:=by
 obtain ⟨b,zs,e,e1,r⟩:=h
 exact ⟨b,zs,e,s _ _ e1,r⟩
theorem jU{zs:List Int}{n:Nat}(h:zs.length≠n):¬bw zs n:=fun k=>h (CV k)
theorem CW{zs:List Int}{n:Nat}(h:(n:Int)∈zs):¬bw zs n:=fun k=>by
 obtain ⟨j,hj,e⟩:=(oU k).mp h
 omega
theorem CY{zs:List Int}{n:Nat}(h:(-1:Int)∈zs):¬bw zs n:=fun k=>by
 obtain ⟨j,hj,e⟩:=(oU k).mp h
 omega
theorem CZ{o:List Nat}{n at' j:Nat}(ho:o.Perm (List.range n))(ha:at'<o.length)(hj:j<o.length)(ne:j≠at'):¬bw ((o.take at').map iN++[iN o[j]]++(o.drop (at'+1)).map iN) n:=fun k=>by
 have nd:=lK ho
 have m:iN o[at']∈(o.take at').map iN++[iN o[j]]++(o.drop (at'+1)).map iN:=(oU k).mpr ⟨_,(eL ho).mp (List.getElem_mem ha),rfl⟩
 have inj:∀{a b:Nat},iN a=iN b→a=b:=fun{a b} e=>by unfold iN at e;omega
 rcases List.mem_append.mp m with m | m
 ·rcases List.mem_append.mp m with m | m
  ·obtain ⟨x,hx,e⟩:=List.mem_map.mp m
   have:=inj e
   subst this
   obtain ⟨i,hi,e⟩:=List.mem_iff_getElem.mp hx
   rw [List.getElem_take] at e
   have h1:=eN nd (k:=i) (by rw [List.length_take] at hi;omega)
   rw [e,eN nd ha] at h1
   rw [List.length_take] at hi
   omega
  ·have e:=inj (List.mem_singleton.mp m)
   have h1:=eN nd ha
   rw [e,eN nd hj] at h1
   exact ne h1
 ·obtain ⟨x,hx,e⟩:=List.mem_map.mp m
  have:=inj e
  subst this
  obtain ⟨i,hi,e⟩:=List.mem_iff_getElem.mp hx
  rw [List.getElem_drop] at e
  rw [List.length_drop] at hi
  have h1:=eN nd (k:=at'+1+i) (by omega)
  rw [e,eN nd ha] at h1
  omega
theorem C0(xs:List V)(k:Nat)(h:k≤xs.length):eZ xs none (some (k:Int))=xs.take k:=by
 unfold eZ HT.bS
 simp only
 rw [if_neg (by omega),Int.toNat_natCast,Nat.min_eq_left h,Nat.sub_zero]
 rfl
theorem C1(xs:List V)(k:Nat)(h:k≤xs.length):eZ xs (some (k:Int)) none=xs.drop k:=by
 unfold eZ HT.bS
 simp only
 rw [if_neg (by omega),Int.toNat_natCast,Nat.min_eq_left h]
 exact List.take_of_length_le (by rw [List.length_drop];exact Nat.le_refl _)
theorem C2(o:List Nat):(o.map fun k:Nat=>V.int (k:Int))=(o.map iN).map V.int:=by rw [List.map_map];rfl
theorem C3{o:List Nat}{n a:Nat}(lo:o.length=n)(ha:a<n)(h1:1<n):∃j,∃hj:j<o.length,j≠a∧cJ ((o.map iN).map V.int) ((a:Int)-1)=some (V.int (iN o[j])):=by
 have ll:((o.map iN).map V.int).length=n:=by rw [List.length_map,List.length_map,lo]
 have get:∀j,(hj:j<o.length)→((o.map iN).map V.int)[j]?=some (V.int (iN o[j])):=fun j hj=>by
  rw [List.getElem?_map,List.getElem?_map,List.getElem?_eq_getElem hj]
  rfl
 by_cases e:a=0
 ·subst e
  refine ⟨n-1,by omega,by omega,?_⟩
  unfold cJ
  rw [ll]
  unfold dP
  rw [if_neg (by omega),if_pos (by omega),show (((0:Nat):Int)-1+(n:Int)).toNat=n-1 by omega]
  exact get (n-1) (by omega)
 ·refine ⟨a-1,by omega,by omega,?_⟩
  rw [show (a:Int)-1=((a-1:Nat):Int) by omega]
  exact e_ (get (a-1) (by omega))
end My
set_option maxRecDepth 100000
set_option maxHeartbeats 4000000
namespace My
open PySem L2
def top(i:Nat):Stmt:=PySem.Challenge.pw_bandwright_k19_no_orders.main.body.getD i (.Pass ⟨0,0,0,0⟩)
abbrev lR:Stmt:=top 11
abbrev lS:Stmt:=top 13
abbrev lT:Stmt:=top 15
abbrev lU:Stmt:=top 16
abbrev lW:Stmt:=top 17
abbrev lY:Stmt:=top 18
abbrev lZ:Stmt:=top 19
abbrev l4:Stmt:=top 20
abbrev l5:Stmt:=top 21
abbrev l6:Stmt:=top 22
abbrev l7:Stmt:=top 25
abbrev l8:Stmt:=top 28
abbrev l9:Stmt:=top 31
abbrev l_:Stmt:=top 32
abbrev ma:Stmt:=top 34
abbrev md:Stmt:=top 36
abbrev me:Stmt:=top 37
abbrev mf:Stmt:=top 38
abbrev mh:Stmt:=top 39
abbrev mi:Stmt:=top 40
abbrev mj:Stmt:=top 42
abbrev ml:Stmt:=top 41
abbrev mn:Stmt:=top 43
abbrev mq:Stmt:=top 44
abbrev mr:Stmt:=top 45
structure mw where
 fZ:Addr
 hV:FuncData
 f9:Addr
 hW:FuncData
 f_:Addr
 hZ:FuncData
 gb:Addr
 h6:FuncData
 gc:Addr
 h7:FuncData
 gd:Addr
 h8:FuncData
 gf:Addr
 h9:FuncData
 gg:Addr
 h_:FuncData
 gh:Addr
 ia:FuncData
 gk:Addr
 ib:FuncData
 gm:Addr
 ic:FuncData
 gp:Addr
 ie:FuncData
 gq:Addr
 ig:FuncData
 gr:Addr
 ik:FuncData
 gs:Addr
 il:FuncData
 gu:Addr
 iq:FuncData
 gv:Addr
 ir:FuncData
 gw:Addr
 iu:FuncData
 gx:Addr
 iw:FuncData
 gy:Addr
 iy:FuncData
 gz:Addr
 iz:FuncData
 gA:Addr
 iA:FuncData
 gB:Addr
 iB:FuncData
 gC:Addr
 iC:FuncData
 fm:Addr
 gD:FuncData
 dW:Addr
 dX:Addr
 fo:Addr
 dY:Addr
 dZ:Addr
 aA:Addr
 dc:Addr
 d0:Addr
 d5:Addr
structure Txt (K:PySem.W.Frag) (mg:Str→Option Value) (t:mw):Prop where
 iD:aB K "is_whole" "is_whole" lR t.fZ t.hV
 uT:Binds K t.hV ["thing"] []
 uU:mg "is_whole" = some (.ref t.fZ)
 iE:aB K "neighbours" "neighbours" lS t.f9 t.hW
 uV:Binds K t.hW ["shape"] []
 uW:mg "neighbours" = some (.ref t.f9)
 iF:aB K "is_order" "is_order" lT t.f_ t.hZ
 uX:Binds K t.hZ ["thing","n"] []
 uY:mg "is_order" = some (.ref t.f_)
 iG:aB K "check_order" "check_order" lU t.gb t.h6
 uZ:Binds K t.h6 ["order","n"] []
 u0:mg "check_order" = some (.ref t.gb)
 iH:aB K "turns_of" "turns_of" lW t.gc t.h7
 u_:Binds K t.h7 ["order"] []
 va:mg "turns_of" = some (.ref t.gc)
 iI:aB K "link_all" "link_all" lY t.gd t.h8
 vb:Binds K t.h8 ["linked","places"] []
 vc:mg "link_all" = some (.ref t.gd)
 fq:aB K "later" "later" lZ t.gf t.h9
 mx:Binds K t.h9 ["shape","order"] []
 my:mg "later" = some (.ref t.gf)
 gE:aB K "filled" "filled" l4 t.gg t.h_
 oV:Binds K t.h_ ["shape","order"] []
 oW:mg "filled" = some (.ref t.gg)
 iJ:aB K "place_deeds" "place_deeds" l5 t.gh t.ia
 vd:Binds K t.ia ["many"] []
 ve:mg "place_deeds" = some (.ref t.gh)
 gF:aB K "deeds" "deeds" l6 t.gk t.ib
 oX:Binds K t.ib ["shape","order"] []
 oY:mg "deeds" = some (.ref t.gk)
 iK:aB K "check_size" "check_size" l7 t.gm t.ic
 vf:Binds K t.ic ["shape"] []
 vg:mg "check_size" = some (.ref t.gm)
 iL:aB K "rising_tuples" "rising_tuples" l8 t.gp t.ie
 vh:Binds K t.ie ["n"] []
 vi:mg "rising_tuples" = some (.ref t.gp)
 iM:aB K "keeps_to_costs" "keeps_to_costs" l9 t.gq t.ig
 vj:Binds K t.ig ["shape","done","worth_of"] []
 vk:mg "keeps_to_costs" = some (.ref t.gq)
 iO:aB K "shows_fewest" "shows_fewest" l_ t.gr t.ik
 vm:Binds K t.ik ["shape","order","worths"] []
 vn:mg "shows_fewest" = some (.ref t.gr)
 iP:aB K "is_perfect" "is_perfect" ma t.gs t.il
 vo:Binds K t.il ["shape","order"] []
 vp:mg "is_perfect" = some (.ref t.gs)
 iQ:aB K "_law_fill" "_law_fill" md t.gu t.iq
 vq:Binds K t.iq ["_law_cell","_law_at"] []
 vt:mg "_law_fill" = some (.ref t.gu)
 b3:aB K "_law_next" "_law_next" me t.gv t.ir
 de:Binds K t.ir ["_law_pen","_law_many"] []
 df:mg "_law_next" = some (.ref t.gv)
 gG:aB K "_law_turned" "_law_turned" mf t.gw t.iu
 oZ:Binds K t.iu ["_law_pen","_law_some"] []
 o4:mg "_law_turned" = some (.ref t.gw)
 iR:aB K "_law_tied_by" "_law_tied_by" mh t.gx t.iw
 vv:Binds K t.iw ["_law_pen","_law_way","_law_size","_law_wide","_law_i","_law_j"] []
 vw:mg "_law_tied_by" = some (.ref t.gx)
 iS:aB K "_law_grown_links" "_law_grown_links" mi t.gy t.iy
 vx:Binds K t.iy ["_law_pen","_law_size"] []
 vy:mg "_law_grown_links" = some (.ref t.gy)
 iT:aB K "_law_named" "_law_named" mj t.gz t.iz
 vz:Binds K t.iz ["_law_size","_law_links","_law_names"] []
 vA:mg "_law_named" = some (.ref t.gz)
 iU:aB K "_law_drawn" "_law_drawn" ml t.gA t.iA
 vB:Binds K t.iA ["_law_pen","_law_most"] []
 vC:mg "_law_drawn" = some (.ref t.gA)
 gH:aB K "_law_asked" "_law_asked" mn t.gB t.iB
 o5:Binds K t.iB ["_law_way","_law_shape","_law_order"] []
 o6:mg "_law_asked" = some (.ref t.gB)
 iV:aB K "_law_refused" "_law_refused" mq t.gC t.iC
 vD:Binds K t.iC ["_law_way","_law_shape","_law_order"] []
 vE:mg "_law_refused" = some (.ref t.gC)
 iW:aB K "law" "law" mr t.fm t.gD
 C4:Binds K t.gD ["script"] []
 vF:mg "law" = some (.ref t.fm)
 vG:mg "NoWorld" = some (.ref t.dW)
 vH:mg "NoOver" = some (.ref t.dX)
 vI:mg "WrightError" = some (.ref t.fo)
 vJ:mg "NoFit" = some (.ref t.dY)
 vK:mg "NoShape" = some (.ref t.dZ)
 o7:mg "NoOrder" = some (.ref t.aA)
 o8:mg "NoSize" = some (.ref t.dc)
 vL:mg "NoLink" = some (.ref t.d0)
 vM:mg "Tied" = some (.ref t.d5)
 dE:mg "len" = none
 gI:mg "isinstance" = none
 vO:mg "int" = none
 vP:mg "bool" = none
 mz:mg "tuple" = none
 ft:mg "list" = none
 cN:mg "range" = none
 mB:mg "all" = none
 o9:mg "enumerate" = none
 o_:mg "min" = none
 pb:mg "max" = none
 jV:mg "sorted" = none
 vQ:mg "sum" = none
 vR:mg "ValueError" = none
 vS:∃u,mg "MOST" = some u∧RelV (.int 9) u
 pd:PySem.W.excIn K t.aA [.type "ValueError",.type "Exception",.type "BaseException",.type "object"] "ValueError.__new__" = true
 vT:PySem.W.excIn K t.dc [.type "ValueError",.type "Exception",.type "BaseException",.type "object"] "ValueError.__new__" = true
 vU:PySem.W.excIn K t.fo [.type "ValueError",.type "Exception",.type "BaseException",.type "object"] "ValueError.__new__" = true
 C5:PySem.W.mroIn K t.aA (.ref t.aA)=some true
 vV:PySem.W.mroIn K t.aA (.ref t.fo)=some true
 vW:PySem.W.kitOne K (.ref t.aA) (.type "ValueError")=some true
 vX:PySem.W.kitOne K (.ref t.aA) (.ref t.aA)=some true
 vY:PySem.W.kitOne K (.ref t.aA) (.ref t.dW)=some false
 vZ:PySem.W.kitOne K (.ref t.aA) (.ref t.dX)=some false
 v_:PySem.W.kitOne K (.ref t.aA) (.ref t.dY)=some false
 wa:PySem.W.kitOne K (.ref t.aA) (.ref t.dZ)=some false
 wc:PySem.W.kitOne K (.ref t.aA) (.ref t.dc)=some false
 wd:PySem.W.kitOne K (.ref t.aA) (.ref t.d0)=some false
 we:PySem.W.kitOne K (.ref t.aA) (.ref t.d5)=some false
 wg:PySem.W.hasDictIn K t.aA=true
 wj:PySem.W.findIn K (.ref t.aA) "__getattribute__" = some (some (.builtin "BaseException.__getattribute__"))
 wk:PySem.W.findIn K (.ref t.aA) "__getattr__" = some none
 wm:PySem.W.findIn K (.ref t.aA) "__class__" = some (some (.builtin "object.__class__"))
 wo:PySem.W.mroIn K t.aA (.type "object")=some true
 wq:PySem.W.mroIn K t.aA (.type "BaseException")=some true
section
variable {P:Program} {w:World} {K:PySem.W.Frag} {mg:Str→Option Value} {base:Heap} {t:mw}
theorem C6:aY ["thing"] ["thing"] (aO lR):=⟨rfl,rfl,rfl,by decide +kernel,rfl,by decide +kernel,by decide +kernel⟩
theorem C7(T:Txt K mg t):aN P w K mg base bt 1 t.fZ t.hV ["thing"] AX:=by
 have S:=C6
 refine T.iD.ok S (fun vs H Q E h=>?_) (fun aC A outer s H vs Q E hr h=>?_)
 ·obtain ⟨v,rfl,_⟩:=h
  rfl
 ·obtain ⟨v,rfl,ha,k⟩:=h
  refine ⟨_,(@ax _ _ _ (@aR _ _ _ _ (@kA _ _ _ _ _ _ _ (a7 (jF (K:=K)) rfl T.gI boot_isinstance (@aa _ _ _ _ _ (by rfl) (pv 0) (@aa _ _ _ _ _ (by rfl) (kx (v:=.ty "int") rfl T.vO boot_int rfl) aj))) (@ky _ _ _ _ _ (@rk _ _ _ _ (a7 (jF (K:=K)) rfl T.gI boot_isinstance (@aa _ _ _ _ _ (by rfl) (pv 0) (@aa _ _ _ _ _ (by rfl) (kx (v:=.ty "bool") rfl T.vP boot_bool rfl) aj)))))))),?_⟩
  obtain ⟨Ty,ty,k1,k2,_⟩:=ha.n5 (K:=K)
  refine ⟨_,rfl,_,_,_,_,rfl,rfl,ty,k1,_,rfl,bB (fun h1=>?_) (fun h1=>?_)⟩
  ·refine ⟨_,rfl,_,_,_,_,rfl,rfl,ty,k2,_,rfl,?_⟩
   have e:(!g_ v)=g9 v:=by
    cases h2:g_ v with
    | true=>rw [AW h2];rfl
    | false=>rw [h2,Bool.or_false] at h1;rw [h1];rfl
   show Q (.bl (!g_ v)) H
   rw [e]
   exact k
  ·have e:g9 v=false:=by
    cases h2:g9 v with
    | true=>rw [h2] at h1;exact absurd rfl h1
    | false=>rfl
   rw [e] at k
   exact k
theorem C8:aY ["shape","linked","i","j"] ["shape"] (aO lS):=⟨rfl,rfl,rfl,by decide +kernel,rfl,by decide +kernel,by decide +kernel⟩
theorem C9(T:Txt K mg t):aN P w K mg base bt 1 t.f9 t.hW ["shape"] B4:=by
 have S:=C8
 refine T.iE.ok S (fun vs H Q E h=>?_) (fun aC A outer s H vs Q E hr h=>?_)
 ·obtain ⟨tp,n,L,rfl,_⟩:=h
  rfl
 ·obtain ⟨tp,n,L,rfl,⟨lt,us,bQ,elt,hL⟩,ok,n9,kk⟩:=h
  have hu:=Nat.lt_of_le_of_lt (Nat.add_le_add_left (show 1≤64 by decide) _) hr.units
  have C_:((List.range n).map fun i:Nat=>V.int (0+(i:Int))).length=n:=by rw [List.length_map,List.length_range]
  refine ⟨_,(@ar _ _ _ _ _ (tP (i0:=1) (N:=["place"]) (ρ:=(fun σ=>[])) ⟨rfl,rfl,by decide +kernel,by decide +kernel,(List.forall_mem_nil _),dA (by rfl),rfl,by decide +kernel,rfl,(fun σ j v h=>match j,h with | j,h=>by cases h),(fun _ _=>rfl)⟩ rfl S.nd rfl (Or.inl rfl) (fI rfl T.cN (@aa _ _ _ _ _ (by rfl) (@aL _ _ _ _ _ _ _ dQ (pv 0) aq (fun _ _=>rfl)) aj)) (fun s₃ H₃ fp=>.nil) (fun s₃ H₃ fp=>uC))
   (@ar _ _ _ _ _ (b5 PassesOwn.never rfl (yB (@aL _ _ _ _ _ _ _ dQ (pv 0) aq (fun _ _=>rfl))) (kD rfl (eR (bD (i:=2) S.nd rfl (Or.inl rfl)) (eR (bD (i:=3) S.nd rfl (Or.inl rfl)) kC)))
    (@ar _ _ _ _ _ (oM hu (@aL _ _ _ _ _ _ _ a_ (pv 1) (pv 2) (fun _ _=>rfl)) (pv 3) d8 rfl)
   (@ax _ _ _ (oM hu (@aL _ _ _ _ _ _ _ a_ (pv 1) (pv 3) (fun _ _=>rfl)) (pv 2) d8 rfl))))
   (@ax _ _ _ (@aR _ _ _ _ (pv 1))))),?_⟩
  refine bX (jL (tW (xs:=(List.range n).map fun i:Nat=>V.int (0+(i:Int))) (n:=n) C_ (fun R h=>⟨_,rfl,tp,_,_,_,rfl,rfl,.of bQ,rfl,(n:Int),rfl,by omega,by omega,h _ _ (ag.refl _) (by rw [Int.toNat_natCast];exact AY)⟩) (cu (by omega)) (fun _ i y Hx=>Hx y=some (.dK (dk []))∧H y=none) ?_ ?_ ?_))
  ·intro D i y Ha Hb ys ⟨h1,h2⟩ hy e f
   exact ⟨f y _ hy h1,h2⟩
  ·intro D i x hx Hc R sc _ kc
   refine fun p np=>kc p _ (dB (ag.refl _) np) np ⟨_,ak⟩ ⟨ak,?_⟩
   cases e:H p with
   | none=>rfl
   | some o=>rw [sc _ _ e] at np;cases np
  ·intro D ds H1 nD s1 inj hA eD
   have K0:bg H1 D n ds (fun _=>True) (fun _=>[]):=⟨eD,inj,fun i hi=>(hA i hi).2,fun i hi _=>(hA i hi).1.1,fun i _=>dU.nil n⟩
   have fr:∀i,i<n→H (ds i)=none:=fun i hi=>(hA i hi).1.2
   dsimp only [aG]
   refine bX ⟨_,rfl,tp,_,_,_,rfl,rfl,.of (s1 _ _ bQ),rfl,lt,rfl,⟨_,.of (s1 _ _ elt)⟩,?_⟩
   refine yI (K:=K) (a:=lt) (xs:=us) (fun k σ Hc=>∃(f:Nat→List Nat) (v2 v3:Option V),σ=[some (.ref tp),some (.ref D),v2,v3]∧ag H Hc∧bg Hc D n ds (fun _=>True) f∧fi n (L.take k) f) ⟨_,_,_,rfl,s1,K0,fi.nil n⟩ (fun k σ Hc _ ⟨_,_,_,_,sc,_⟩=>.of (sc _ _ elt)) ?_ ?_
   ·rintro k x σ Hc hx ⟨f,v2,v3,rfl,sc,KL,nb⟩
    have hk:k<L.length:=by
     rw [←hL.1]
     exact (List.getElem?_eq_some_iff.mp hx).1
    obtain ⟨b,rfl,eb⟩:=hL.2 k x L[k] hx (by simp [hk])
    have pk:=ok L[k] (List.getElem_mem hk)
    have tk:L.take (k+1)=L.take k++[L[k]]:=by rw [List.take_succ,List.getElem?_eq_getElem hk];rfl
    generalize L[k]=p at eb pk tk
    obtain ⟨p1,p2⟩:=p
    dsimp only at pk eb
    obtain ⟨i,rfl⟩:=Int.eq_ofNat_of_zero_le pk.1
    obtain ⟨j,rfl⟩:=Int.eq_ofNat_of_zero_le pk.2.2.1
    have hi:i<n:=by omega
    have hj:j<n:=by omega
    refine ⟨b,_,rfl,.of (sc _ _ eb),rfl,_,_,rfl,_,_,rfl,rfl,?_⟩
    obtain ⟨q1,K1⟩:=KL.put hi hj trivial n9
    obtain ⟨q2,K2⟩:=K1.put hj hi trivial n9
    refine ⟨_,rfl,_,rfl,D,_,_,_,rfl,rfl,.of KL.lst,KL.ix hi,_,rfl,_,_,rfl,q1,?_⟩
    refine ⟨_,rfl,_,rfl,D,_,_,_,rfl,rfl,.of K1.lst,K1.ix hj,_,rfl,_,_,rfl,q2,?_⟩
    have off:∀(Hx:Hp) (i:Nat) (o:HO),i<n→ag H Hx→ag H (upd Hx (ds i) o):=fun Hx i o hi sx a u e=>by
     rw [ay (fun z=>by rw [z,fr i hi] at e;cases e)]
     exact sx _ _ e
    exact ⟨_,_,_,rfl,off _ _ _ hj (off _ _ _ hi sc),K2,by rw [tk];exact nb.more hi hj⟩
   ·rintro σ Hc ⟨f,v2,v3,rfl,sc,KL,nb⟩
    rw [hL.1,List.take_length] at nb
    exact ⟨_,rfl,kk _ _ _ _ sc nD fr KL nb⟩
theorem Dc:aY ["thing","n"] ["thing","n"] (aO lT):=⟨rfl,rfl,rfl,by decide +kernel,rfl,by decide +kernel,by decide +kernel⟩
theorem De(T:Txt K mg t):aN P w K mg base bt 2 t.f_ t.hZ ["thing","n"] B8:=by
 have S:=Dc
 have Df:=C7 (P:=P) (w:=w) (base:=base) T
 refine T.iF.ok S (fun vs H Q E h=>?_) (fun aC A outer s H vs Q E hr h=>?_)
 ·obtain ⟨a,zs,n,rfl,_⟩:=h
  rfl
 ·obtain ⟨a,zs,n,rfl,ea,bx,n1,k⟩:=h
  have eO:=hr.units
  refine ⟨_,(@ar _ _ _ _ _ (@bp _ _ _ _ _ _ _ _ (PW.pt (@pw_or _ _ _ _ _ _ _ (@jj _ _ _ _ (gW (a7 (jF (K:=K)) rfl T.gI boot_isinstance (@aa _ _ _ _ _ (by rfl) (pv 0) (@aa _ _ _ _ _ (by rfl) (kx (v:=.ty "list") rfl T.ft boot_list rfl) aj))))) (@pw_or1 _ _ _ _ (@jj _ _ _ _ (gW (a7 (oi (K:=K) rfl) rfl T.mB boot_all (@aa _ _ _ _ _ (by rfl) (eA (N:=["place"]) (ρ:=(fun σ=>[])) ⟨rfl,rfl,by decide +kernel,by decide +kernel,(List.forall_mem_nil _),dA (by rfl),rfl,by decide +kernel,rfl,(fun σ j v h=>match j,h with | j,h=>by cases h),(fun _ _=>rfl)⟩ rfl (cp (pv 0)) (fun s₃ H₃ fp=>.nil) (fun s₃ H₃ fp=>(aH Df (hr.mono (by decide)) rfl T.uU T.iD.kp T.uT .nil a8 (@aa _ _ _ _ _ (by rfl) (pv 0) aj)))) aj))))))) (@ax _ _ _ (@aR _ _ _ _ d8)) bz)
   (@ax _ _ _ (@aR _ _ _ _ (@dI _ _ _ _ _ _ _ _ (uH eO) (a7 uF rfl T.jV PyProof.Rows.boot_sorted (@aa _ _ _ _ _ (by rfl) (pv 0) aj)) (cH (om rfl) rfl T.ft boot_list (@aa _ _ _ _ _ (by rfl) (cH lp rfl T.cN lq (@aa _ _ _ _ _ (by rfl) (pv 1) aj)) aj)) (aS _))))),?_⟩
  refine ⟨_,rfl,_,_,_,true,rfl,rfl,.of (.lst ea),AV,true,rfl,kW ?_⟩
  unfold rj tB
  refine ox (AZ (xs:=zs.map V.int) (fun R h=>⟨_,rfl,a,rfl,⟨_,.of ea⟩,h _ _ (ag.refl _) (hE (.of ea))⟩) (by rw [List.length_map];exact cu (by omega)) (fun _ i y _=>y=.bl true) (fun _ _ _ _ _ _ h _ _=>h) ?_ ?_)
  ·intro D i v hi Hc R sc _ kc
   obtain ⟨z,rfl⟩:∃z:Int,v=.int z:=by
    rw [List.getElem?_map] at hi
    cases e:zs[i]? with
    | none=>rw [e] at hi;cases hi
    | some z=>rw [e] at hi;exact ⟨z,(Option.some.inj hi).symm⟩
   exact ⟨_,rfl,.int z,rfl,.int z,kc _ Hc (ag.refl _) rfl⟩
  ·intro D ys Hc sc iX hP eD
   refine ⟨D,List.replicate ys.length true,rfl,.of (by rw [eD];exact congrArg _ (congrArg _ (A_ hP))),?_⟩
   rw [Ba]
   refine ⟨true,rfl,kW ?_⟩
   dsimp only [fE]
   have Dg:=sc _ _ ea
   refine ⟨_,rfl,a,zs,rfl,Dg,bx,fun ws D2 p o n2=>?_⟩
   refine ⟨_,rfl,(n:Int),rfl,fun p1 iY=>⟨p1,n,rfl,ak,by omega,fun l nl=>?_⟩⟩
   have d1:D2≠p1:=fun z=>by rw [←z,ak] at iY;cases iY
   have d2:D2≠l:=fun z=>by rw [←z,ay d1,ak] at nl;cases nl
   refine ⟨D2,l,ws,(List.range n).map iN,rfl,rfl,.of ?_,.of ?_,?_⟩
   ·rw [ay d2,ay d1,ak]
   ·rw [ak]
    unfold ba
    rw [List.map_map]
    rfl
   ·rw [B7 p o]
    exact k _ (lJ (lJ (lJ sc n2) iY) nl)
theorem Dh:aY ["order","n"] ["order","n"] (aO lU):=⟨rfl,rfl,rfl,by decide +kernel,rfl,by decide +kernel,by decide +kernel⟩
theorem Di(T:Txt K mg t):aN P w K mg base (bO P w) 3 t.gb t.h6 ["order","n"] (B9 t.aA):=by
 have S:=Dh
 have Dj:=De (P:=P) (w:=w) (base:=base) T
 refine T.iG.fg S (fun vs H Q E h=>?_) (fun aC A outer s H vs Q E hr h L=>?_)
 ·obtain ⟨a,zs,n,rfl,_⟩:=h
  rfl
 ·obtain ⟨a,zs,n,rfl,ea,bx,n1,kE,k⟩:=h
  refine ⟨_,(@ax _ _ _ (@bp _ _ _ _ _ _ _ _ (@jj _ _ _ _ (gW (aH Dj (hr.mono (by decide)) rfl T.uY T.iF.kp T.uX .nil a8 (@aa _ _ _ _ _ (by rfl) (pv 0) (@aa _ _ _ _ _ (by rfl) (pv 1) aj))))) (@ax _ _ _ (sQ L rfl PySem.F.excBase_ValueError T.pd rfl T.o7 (@aa _ _ _ _ _ (by rfl) rh aj))) bz)),?_⟩
  refine ⟨_,rfl,_,rfl,a,zs,n,rfl,ea,bx,n1,fun H1 s1=>⟨_,rfl,bB (fun hb=>?_) (fun hb=>?_)⟩⟩
  ·exact ⟨by show 1≤sizeLine;decide,kE (by simpa using hb) _ s1⟩
  ·exact k (by simpa using hb) _ s1
theorem Dk:aY ["order","turns","turn","place"] ["order"] (aO lW):=⟨rfl,rfl,rfl,by decide +kernel,rfl,by decide +kernel,by decide +kernel⟩
theorem Dl(T:Txt K mg t):aN P w K mg base bt 1 t.gc t.h7 ["order"] Ca:=by
 have S:=Dk
 refine T.iH.ok S (fun vs H Q E h=>?_) (fun aC A outer s H vs Q E hr h=>?_)
 ·obtain ⟨a,n,o,rfl,_⟩:=h
  rfl
 ·obtain ⟨a,n,o,rfl,⟨ea,ho⟩,n1,kk⟩:=h
  have lo:=jR ho
  have lm:(o.map fun k:Nat=>V.int (k:Int)).length=n:=by rw [List.length_map,lo]
  refine ⟨_,(@ar _ _ _ _ _ (@aK _ _ 1 _ _ _ _ (by rfl) (by first | exact .inl rfl | exact .inr rfl | assumption) S.nd rfl (Or.inl rfl) (@aD _ _ _ _ _ _ _ _ zL (@bE _ _ _ _ (@aa _ _ _ _ _ (by rfl) aq aj)) (a7 en rfl T.dE boot_len (@aa _ _ _ _ _ (by rfl) (pv 0) aj))))
   (@ar _ _ _ _ _ (b5 PassesOwn.never rfl (tU rfl T.o9 (@aa _ _ _ _ _ (by rfl) (pv 0) aj)) (kD rfl (eR (bD (i:=2) S.nd rfl (Or.inl rfl)) (eR (bD (i:=3) S.nd rfl (Or.inl rfl)) kC)))
    (@ax _ _ _ (@jm _ _ _ _ _ _ (pv 2) (jk (pv 1) (pv 3) set_list) (by rfl) (by rfl) (by rfl))))
   (@ax _ _ _ (@aR _ _ _ _ (pv 1))))),?_⟩
  refine ⟨by show 1≤sizeLine;decide,fun l nl=>?_⟩
  have al:a≠l:=fun z=>by rw [z,nl] at ea;cases ea
  refine ⟨_,rfl,a,_,rfl,.inl (.of (by rw [ay al];exact ea)),l,_,_,rfl,rfl,ak,by omega,by rw [lm];omega,?_,fun c nc=>?_⟩
  ·rw [lm,Int.toNat_natCast]
   show 1*n≤sizeLine
   rw [sizeLine_eq];omega
  rw [lm,Int.toNat_natCast,Cd n o]
  have wt:H c=none:=none_of (aw nl) nc
  have s0:ag H (upd (upd H l (.lst [.int 0])) c (.lst ((List.range n).map fun p=>V.int (cZ o 0 p)))):=(aw nl).trans (aw nc)
  have e0:upd (upd H l (.lst [.int 0])) c (.lst ((List.range n).map fun p=>V.int (cZ o 0 p))) c=_:=ak
  generalize upd (upd H l (.lst [.int 0])) c (.lst ((List.range n).map fun p=>V.int (cZ o 0 p)))=H0 at s0 e0 ⊢
  dsimp only [aG]
  refine bX ⟨_,rfl,a,rfl,⟨_,.of (s0 _ _ ea)⟩,?_⟩
  refine tV (K:=K) (l:=a) (xs:=o.map fun k:Nat=>V.int (k:Int)) (fun i σ Hc=>ag H Hc∧∃(v2 v3:Option V),σ=[some (.ref a),some (.ref c),v2,v3]∧Hc c=some (.lst ((List.range n).map fun p=>V.int (cZ o i p))))
   ⟨s0,_,_,rfl,e0⟩ (fun i σ Hc ⟨z,_⟩=>.of (z _ _ ea)) ?_ ?_
  ·rintro i x σ Hc Tt hx ⟨sc,v2,v3,rfl,ec⟩ nT
   have hi:i<o.length:=by
    have:=(List.getElem?_eq_some_iff.mp hx).1
    simpa using this
   have ex:x=.int ((o[i]:Nat):Int):=by
    rw [List.getElem?_map] at hx
    simp [hi] at hx
    exact hx.symm
   subst ex
   have hp:o[i]<n:=(eL ho).mp (List.getElem_mem hi)
   have sT:ag Hc (upd Hc Tt (.tup [.int (i:Int),.int ((o[i]:Nat):Int)])):=aw nT
   have eT:upd Hc Tt (.tup [.int (i:Int),.int ((o[i]:Nat):Int)]) Tt=_:=ak
   generalize upd Hc Tt (.tup [.int (i:Int),.int ((o[i]:Nat):Int)])=H1 at sT eT ⊢
   refine ⟨Tt,_,rfl,.of eT,rfl,_,_,rfl,_,_,rfl,rfl,?_⟩
   refine ⟨_,rfl,_,rfl,_,rfl,c,_,_,o[i],rfl,rfl,sT _ _ ec,by rw [List.length_map,List.length_range];exact uI hp,?_⟩
   exact ⟨dB (sc.trans sT) wt,_,_,rfl,by rw [ak,Cc ho hi]⟩
  ·rintro σ Hc ⟨sc,v2,v3,rfl,ec⟩
   rw [List.length_map,Ce ho] at ec
   exact ⟨_,rfl,kk c Hc sc wt ec⟩
theorem Dm:aY ["linked","places","one","other"] ["linked","places"] (aO lY):=⟨rfl,rfl,rfl,by decide +kernel,rfl,by decide +kernel,by decide +kernel⟩
theorem Dn(T:Txt K mg t):aN P w K mg base bt 1 t.gd t.h8 ["linked","places"] Cf:=by
 have S:=Dm
 refine T.iI.ok S (fun vs H Q E h=>?_) (fun aC A outer s H vs Q E hr h=>?_)
 ·obtain ⟨D,pl,n,ds,un,f,ps,rfl,_⟩:=h
  rfl
 ·obtain ⟨D,pl,n,ds,un,f,ps,rfl,KL,iZ,Dp,n9,kk⟩:=h
  have hu:=Nat.lt_of_le_of_lt (Nat.add_le_add_left (show 1≤64 by decide) _) hr.units
  have a9:∀i,i<n→un i→pl≠ds i:=fun i hi ui z=>by
   rw [z,KL.at' i hi ui] at iZ
   cases iZ
  have wu:∀{i:Nat} {x:V},(ps.map fun k:Nat=>V.int (k:Int))[i]?=some x→∃p:Nat,ps[i]?=some p∧x=.int (p:Int)∧p<n∧un p:=fun{i x} hx=>by
   rw [List.getElem?_map] at hx
   cases e:ps[i]? with
   | none=>rw [e] at hx;cases hx
   | some p=>
    rw [e] at hx
    exact ⟨p,rfl,(Option.some.inj hx).symm,Dp p (List.mem_of_getElem? e)⟩
  refine ⟨_,(@ax _ _ _ (b5 PassesOwn.never rfl (cp (pv 1)) (bD (i:=2) S.nd rfl (Or.inl rfl))
    (@ax _ _ _ (b5 PassesOwn.never rfl (cp (pv 1)) (bD (i:=3) S.nd rfl (Or.inl rfl))
    (@ax _ _ _ (@bp _ _ _ _ _ _ _ _ (@br _ _ _ _ _ _ _ _ nB (pv 2) (pv 3) (aS _)) (@ax _ _ _ (oM hu (@aL _ _ _ _ _ _ _ a_ (pv 0) (pv 2) (fun _ _=>rfl)) (pv 3) d8 rfl)) bz)))))),?_⟩
  refine ⟨_,rfl,pl,rfl,⟨_,.of iZ⟩,?_⟩
  refine jv (K:=K) (a:=pl) (xs:=ps.map fun k:Nat=>V.int (k:Int)) (fun i σ Hc=>∃(g:Nat→List Nat) (v2 v3:Option V),σ=[some (.ref D),some (.ref pl),v2,v3]∧fj n ds un H Hc∧bg Hc D n ds un g∧bZ n f ps i 0 g) ⟨f,_,_,rfl,.refl,KL,bZ.start n f ps⟩ (fun i σ Hc _ ⟨_,_,_,_,oc,_⟩=>.of (oc _ _ iZ a9)) ?_ ?_
  ·rintro i x σ Hc hx ⟨g,v2,v3,rfl,oc,Kc,la⟩
   obtain ⟨p,hp,rfl,pn,up⟩:=wu hx
   refine ⟨_,rfl,pl,rfl,⟨_,.of (oc _ _ iZ a9)⟩,?_⟩
   refine jv (K:=K) (a:=pl) (xs:=ps.map fun k:Nat=>V.int (k:Int)) (fun j σ Hd=>∃(g:Nat→List Nat) (v3:Option V),σ=[some (.ref D),some (.ref pl),some (.int (p:Int)),v3]∧fj n ds un H Hd∧bg Hd D n ds un g∧bZ n f ps i j g) ⟨g,_,rfl,oc,Kc,la⟩ (fun i σ Hc _ ⟨_,_,_,oc,_⟩=>.of (oc _ _ iZ a9)) ?_ ?_
   ·rintro j y σ Hd hy ⟨g,v3,rfl,od,Kd,la⟩
    obtain ⟨q,hq,rfl,qn,uq⟩:=wu hy
    refine ⟨_,rfl,_,rfl,rfl,_,rfl,bB (fun hb=>?_) (fun hb=>?_)⟩
    ·have ne:p≠q:=fun z=>by
      subst z
      rw [oo,decide_eq_true rfl] at hb
      cases hb
     obtain ⟨q1,K1⟩:=Kd.put pn qn up n9
     exact ⟨_,rfl,_,rfl,D,_,_,_,rfl,rfl,.of Kd.lst,Kd.ix pn,_,rfl,_,_,rfl,q1,_,_,rfl,od.put pn up,K1,la.put hp hq ne⟩
    ·have e:p=q:=by
      by_cases z:(p:Int)=(q:Int)
      ·omega
      ·exact absurd (by rw [oo,decide_eq_false z];rfl) hb
     subst e
     exact ⟨_,_,rfl,od,Kd,la.same hp hq⟩
   ·rintro σ Hd ⟨g,v3,rfl,od,Kd,la⟩
    rw [List.length_map] at la
    exact ⟨g,_,_,rfl,od,Kd,la.row⟩
  ·rintro σ Hc ⟨g,v2,v3,rfl,oc,Kc,la⟩
   rw [List.length_map] at la
   exact kk _ g oc Kc la.done
theorem Dq:aY ["shape","order","linked","turns","told","place"] ["shape","order"] (aO lZ):=⟨rfl,rfl,rfl,by decide +kernel,rfl,by decide +kernel,by decide +kernel⟩
theorem ph(T:Txt K mg t):aN P w K mg base (bO P w) 4 t.gf t.h9 ["shape","order"] (Co t.aA):=by
 have S:=Dq
 have Dr:=Di (P:=P) (w:=w) (base:=base) T
 have Ds:=C9 (P:=P) (w:=w) (base:=base) T
 have Dt:=Dl (P:=P) (w:=w) (base:=base) T
 have Du:=Dn (P:=P) (w:=w) (base:=base) T
 refine T.fq.fg S (fun vs H Q E h=>?_) (fun aC A outer s H vs Q E hr h L=>?_)
 ·obtain ⟨tp,a,n,L,zs,rfl,_⟩:=h
  rfl
 ·obtain ⟨tp,a,n,Lk,zs,rfl,hS,hL,HX,ea,bx,kE,kk⟩:=h
  obtain ⟨lt,us,bQ,elt,gJ⟩:=id hS
  refine ⟨_,(@ar _ _ _ _ _ (dm (aH Dr (hr.mono (by decide)) rfl T.u0 T.iG.kp T.uZ .nil (dy L) (@aa _ _ _ _ _ (by rfl) (pv 1) (@aa _ _ _ _ _ (by rfl) (@aL _ _ _ _ _ _ _ dQ (pv 0) aq (fun _ _=>rfl)) aj))))
   (bV.gX (@ar _ _ _ _ _ (@aK _ _ 2 _ _ _ _ (by rfl) (by first | exact .inl rfl | exact .inr rfl | assumption) S.nd rfl (Or.inl rfl) (aH Ds (hr.mono (by decide)) rfl T.uW T.iE.kp T.uV .nil a8 (@aa _ _ _ _ _ (by rfl) (pv 0) aj)))
   (@ar _ _ _ _ _ (@aK _ _ 3 _ _ _ _ (by rfl) (by first | exact .inl rfl | exact .inr rfl | assumption) S.nd rfl (Or.inr rfl) (aH Dt (hr.mono (by decide)) rfl T.va T.iH.kp T.u_ .nil a8 (@aa _ _ _ _ _ (by rfl) (pv 1) aj)))
   (@ar _ _ _ _ _ (tP (i0:=4) (N:=["place"]) (ρ:=(fun σ=>[])) ⟨rfl,rfl,by decide +kernel,by decide +kernel,(List.forall_mem_nil _),dA (by rfl),rfl,by decide +kernel,rfl,(fun σ j v h=>match j,h with | j,h=>by cases h),(fun _ _=>rfl)⟩ rfl S.nd rfl (Or.inl rfl) (cp (pv 1)) (fun s₃ H₃ fp=>.nil) (fun s₃ H₃ fp=>(@bE _ _ _ _ aj)))
   (@ar _ _ _ _ _ (b5 PassesOwn.never rfl (cp (pv 1)) (bD (i:=5) S.nd rfl (Or.inr rfl))
    (@ar _ _ _ _ _ (@jm _ _ _ _ _ _ (a7 uF rfl T.jV PyProof.Rows.boot_sorted (@aa _ _ _ _ _ (by rfl) (eA (N:=["other","turns","place"]) (ρ:=(fun σ=>[σ[3]?.join,σ[5]?.join])) ⟨rfl,rfl,by decide +kernel,by decide +kernel,(List.forall_mem_cons.mpr ⟨rfl,(List.forall_mem_cons.mpr ⟨rfl,(List.forall_mem_nil _)⟩)⟩),dA (by rfl),rfl,by decide +kernel,rfl,(fun σ j v h=>match j,h with | 0,h=>⟨3,_,rfl,rfl,join_some h,Or.inr (Or.inl rfl),.inl rfl,.inl rfl⟩ | 1,h=>⟨5,_,rfl,rfl,join_some h,Or.inr (Or.inl rfl),.inl rfl,.inl rfl⟩ | j+2,h=>by cases h),(fun _ _=>rfl)⟩ rfl (BX (@aL _ _ _ _ _ _ _ a_ (pv 2) (pv 5) (fun _ _=>rfl))) (fun s₃ H₃ fp=>(.one (@br _ _ _ _ _ _ _ _ fL (@aL _ _ _ _ _ _ _ (tR (K:=K)) (pv 1) (pv 0) (fun _ _=>rfl)) (@aL _ _ _ _ _ _ _ (tR (K:=K)) (pv 1) (pv 2) (fun _ _=>rfl)) (aS _)))) (fun s₃ H₃ fp=>(pv 0))) aj)) (jk (pv 4) (pv 5) set_list) (by rfl) (by rfl) (by rfl))
   (@ax _ _ _ (dm (aH Du (hr.mono (by decide)) rfl T.vc T.iI.kp T.vb .nil a8 (@aa _ _ _ _ _ (by rfl) (pv 2) (@aa _ _ _ _ _ (by rfl) (@aL _ _ _ _ _ _ _ a_ (pv 4) (pv 5) (fun _ _=>rfl)) aj)))))))
   (@ax _ _ _ (@aR _ _ _ _ (pv 4))))))))),?_⟩
  refine ⟨_,rfl,_,rfl,tp,_,_,_,rfl,rfl,.of bQ,rfl,a,zs,n,rfl,ea,bx,by omega,fun no H1 s1=>kE no H1 s1,fun yes H1 s1=>?_⟩
  obtain ⟨o,rfl,ho⟩:=Cp yes
  have kk:=kk o rfl ho
  have lo:=jR ho
  have nd:=lK ho
  have bM:H a=some (.lst (o.map fun k:Nat=>V.int (k:Int))):=by rw [ea,List.map_map];rfl
  have lm:(o.map fun k:Nat=>V.int (k:Int)).length=n:=by rw [List.length_map,lo]
  refine ⟨_,rfl,tp,n,Lk,rfl,⟨lt,us,s1 _ _ bQ,s1 _ _ elt,gJ.mono s1⟩,hL,by omega,fun H2 D ds f s2 nD Dv KL nb=>?_⟩
  have HY:=none_of s1 nD
  have wx:∀i,i<n→H (ds i)=none:=fun i hi=>none_of s1 (Dv i hi)
  have i3:=s1.trans s2
  dsimp only [aG]
  refine ⟨_,rfl,a,n,o,rfl,⟨i3 _ _ bM,ho⟩,by omega,fun tr H3 s3 Dw e3=>?_⟩
  have cO:=i3.trans s3
  have HZ:=none_of i3 Dw
  have K3:=KL.mono s3
  dsimp only [aG]
  refine bX (jL (tW (xs:=o.map fun k:Nat=>V.int (k:Int)) (n:=n) lm (fun R h=>⟨_,rfl,a,rfl,⟨_,.of (cO _ _ bM)⟩,h _ _ (ag.refl _) (hE (.of (cO _ _ bM)))⟩) (cu (by omega)) (fun _ i y Hx=>H3 y=none) (fun _ _ _ _ _ _ h _ _ _=>h) ?_ ?_))
  ·intro D' i x hx Hc R sc _ kc
   refine ⟨by show 0≤sizeLine;exact Nat.zero_le _,fun p np=>kc p _ (aw np) np ⟨_,ak⟩ (none_of sc np)⟩
  ·intro c Dx H4 nc s4 _ hA ec
   have i4:=cO.trans s4
   have wz:=none_of cO nc
   have K4:=K3.mono s4
   have e4:=s4 _ _ e3
   have cD:c≠D:=fun z=>by rw [z,K3.lst] at nc;cases nc
   have Dy:c≠tr:=fun z=>by rw [z,e3] at nc;cases nc
   dsimp only [aG]
   refine bX ⟨_,rfl,a,rfl,⟨_,.of (i4 _ _ bM)⟩,?_⟩
   refine jv (K:=K) (a:=a) (xs:=o.map fun k:Nat=>V.int (k:Int)) (fun k σ Hc=>∃(rs:Nat→Addr) (f g:Nat→List Nat) (v5:Option V),σ=[some (.ref tp),some (.ref a),some (.ref D),some (.ref tr),some (.ref c),v5]∧ag H Hc∧bg Hc D n ds (fun p=>k≤o.idxOf p) f∧Hc tr=some (.lst ((List.range n).map fun p=>V.int (o.idxOf p:Int)))∧Hc c=some (.lst ((List.range n).map fun p=>V.ref (rs p))) ∧
     ∀p,p<n→o.idxOf p<k→H (rs p)=none∧rs p≠c∧Hc (rs p)=some (.lst ((g p).map fun k:Nat=>V.int (k:Int)))∧hU n o p (g p)) ⟨Dx,f,fun _=>[],_,rfl,i4,K4.less (fun _ _ _=>trivial),e4,ec,fun p _ h=>absurd h (Nat.not_lt_zero _)⟩ (fun k σ Hc _ ⟨_,_,_,_,_,sc,_⟩=>.of (sc _ _ bM)) ?_ ?_
   ·rintro k x σ Hc hx ⟨rs,f,g,v5,rfl,sc,Kc,pA,mC,done⟩
    have hk:k<o.length:=by
     have:=(List.getElem?_eq_some_iff.mp hx).1
     simpa using this
    have ex:x=.int ((o[k]:Nat):Int):=by
     rw [List.getElem?_map] at hx
     simp [hk] at hx
     exact hx.symm
    subst ex
    have hp:o[k]<n:=(eL ho).mp (List.getElem_mem hk)
    have ip:o.idxOf o[k]=k:=eN nd hk
    generalize o[k]=p at hp ip ⊢
    dsimp only [aG]
    have wA:=Kc.at' p hp (by omega)
    refine bX (jL (ox (uP ⟨_,rfl,_,rfl,D,_,_,_,rfl,rfl,.of Kc.lst,Kc.ix hp,ds p,dk (f p),rfl,.inl ⟨wA,fun ob=>?_⟩⟩)))
    have Kf:bg (upd Hc (ds p) (.aM ob (.dK (dk (f p))))) D n ds (fun q=>k+1≤o.idxOf q) f:=(Kc.less (fun i hi (ui:k+1≤o.idxOf i)=>show k≤o.idxOf i by omega)).upd (Kc.ne p hp) (fun i hi (ui:k+1≤o.idxOf i) z=>by
     have:=Kc.inj i p hi hp z
     subst this
     omega)
    have pB:∀{b:Addr} {xs:List V},Hc b=some (.lst xs)→b≠ds p:=fun{b xs} e z=>by rw [z,wA] at e;cases e
    have mD:upd Hc (ds p) (.aM ob (.dK (dk (f p)))) tr=_:=(ay (pB pA)).trans pA
    have mE:upd Hc (ds p) (.aM ob (.dK (dk (f p)))) c=_:=(ay (pB mC)).trans mC
    have sf:ag H (upd Hc (ds p) (.aM ob (.dK (dk (f p))))):=fun b u e=>by
     rw [ay (fun z=>by rw [z,wx p hp] at e;cases e)]
     exact sc _ _ e
    have pC:∀q,q<n→o.idxOf q<k→H (rs q)=none∧rs q≠c∧upd Hc (ds p) (.aM ob (.dK (dk (f p)))) (rs q)=some (.lst ((g q).map fun k:Nat=>V.int (k:Int)))∧hU n o q (g q):=fun q hq mF=>by
     obtain ⟨d1,d2,d3,d4⟩:=done q hq mF
     exact ⟨d1,d2,(ay (pB d3)).trans d3,d4⟩
    have wB:upd Hc (ds p) (.aM ob (.dK (dk (f p)))) (ds p)=some (.aM ob (.dK (dk (f p)))):=ak
    generalize upd Hc (ds p) (.aM ob (.dK (dk (f p))))=Hf at Kf mD mE sf pC wB ⊢
    have mG:=Kc.pl p hp
    refine Cm wB (fun q=>decide ((o.idxOf p:Int)<(o.idxOf q:Int))) (Nat.lt_of_le_of_lt mG.len (cu (by omega))) ?_ ?_ ?_
    ·intro q hq Hx R sx hR
     have qn:=mG.2 q hq
     exact ⟨_,rfl,_,rfl,tr,_,_,_,rfl,rfl,.of (sx _ _ mD),oQ qn,_,rfl,_,rfl,tr,_,_,_,rfl,rfl,.of (sx _ _ mD),oQ hp,_,_,rfl,rfl,_,rfl,hR⟩
    ·intro q hq Hx R hR
     exact ⟨_,rfl,hR⟩
    ·intro D1 H1 H_ wC wD
     rw [Cu] at wD
     have fl:((f p).filter fun q=>decide (o.idxOf p<o.idxOf q)).length≤n:=Nat.le_trans (List.length_filter_le _ _) mG.len
     refine ⟨D1,((f p).filter fun q=>decide (o.idxOf p<o.idxOf q)).map iN,rfl,by rw [wD,List.map_map];rfl,by rw [List.length_map];omega,fun ws D2 pw so wF=>?_⟩
     obtain ⟨ms,rfl,pm⟩:=uK pw
     have pD:=Cn mG pm so
     have gK:ag Hf (upd H1 D2 (.lst ((ms.map iN).map V.int))):=lJ wC wF
     have wG:upd H1 D2 (.lst ((ms.map iN).map V.int)) D2=some (.lst (ms.map fun k:Nat=>V.int (k:Int))):=by rw [ak,List.map_map];rfl
     have pE:Hf D2=none:=none_of wC wF
     have Dz:H D2=none:=none_of sf pE
     generalize upd H1 D2 (.lst ((ms.map iN).map V.int))=Hg at gK wG ⊢
     have wH:D2≠c:=fun z=>by rw [z,mE] at pE;cases pE
     refine ⟨_,rfl,_,rfl,c,_,_,p,rfl,rfl,gK _ _ mE,by rw [List.length_map,List.length_range];exact uI hp,?_⟩
     rw [Cq]
     have Kg:=Kf.mono gK
     have Kh:bg (upd Hg c (.lst ((List.range n).map fun q=>V.ref (c_ rs p D2 q)))) D n ds (fun q=>k+1≤o.idxOf q) f:=Kg.upd cD (fun i hi ui z=>by
      have:=Kg.at' i hi ui
      rw [z,gK _ _ mE] at this
      cases this)
     have sh:ag H (upd Hg c (.lst ((List.range n).map fun q=>V.ref (c_ rs p D2 q)))):=dB (sf.trans gK) wz
     have pF:upd Hg c (.lst ((List.range n).map fun q=>V.ref (c_ rs p D2 q))) c=_:=ak
     have wI:upd Hg c (.lst ((List.range n).map fun q=>V.ref (c_ rs p D2 q))) tr=_:=(ay (Ne.symm Dy)).trans (gK _ _ mD)
     have pG:upd Hg c (.lst ((List.range n).map fun q=>V.ref (c_ rs p D2 q))) D2=_:=(ay wH).trans wG
     have wJ:∀q,q<n→o.idxOf q<k→upd Hg c (.lst ((List.range n).map fun q=>V.ref (c_ rs p D2 q))) (rs q)=some (.lst ((g q).map fun k:Nat=>V.int (k:Int))):=fun q hq mF=>by
      obtain ⟨d1,d2,d3,d4⟩:=pC q hq mF
      exact (ay d2).trans (gK _ _ d3)
     generalize upd Hg c (.lst ((List.range n).map fun q=>V.ref (c_ rs p D2 q)))=Hh at Kh sh pF wI pG wJ ⊢
     refine ⟨_,rfl,_,rfl,_,rfl,c,_,_,_,rfl,rfl,.of pF,oQ hp,?_⟩
     rw [uN]
     refine ⟨D,D2,n,ds,_,f,ms,rfl,Kh,pG,fun q hq=>⟨pD.lt q hq,by have:=pD.la q hq;omega⟩,by omega,fun H5 g5 off K5 con=>?_⟩
     have a9:∀{b:Addr} {xs:List V},Hh b=some (.lst xs)→H5 b=some (.lst xs):=fun{b xs} e=>off _ _ e fun i hi ui z=>by
      rw [z,Kh.at' i hi ui] at e
      cases e
     refine ⟨c_ rs p D2,g5,bL g p ms,_,rfl,fun b u e=>off _ _ (sh _ _ e) (fun i hi _ z=>by rw [z,wx i hi] at e;cases e),K5,a9 wI,a9 pF,fun q hq mF=>?_⟩
     by_cases e:q=p
     ·subst e
      rw [uN,Cs]
      exact ⟨Dz,wH,a9 pG,pD⟩
     ·rw [Cr e,Ct e]
      have ne:=uO ho hq hp e
      have wK:o.idxOf q<k:=by omega
      obtain ⟨d1,d2,d3,d4⟩:=pC q hq wK
      exact ⟨d1,d2,a9 (wJ q hq wK),d4⟩
   ·rintro σ Hc ⟨rs,f,g,v5,rfl,sc,Kc,pA,mC,done⟩
    rw [lm] at done
    have lt:∀p,p<n→o.idxOf p<n:=fun p hp=>by
     have:=(jS ((eL ho).mpr hp)).1
     omega
    exact ⟨_,rfl,kk Hc c rs g sc wz (fun p hp=>(done p hp (lt p hp)).1) ⟨mC,fun p hp=>(done p hp (lt p hp)).2.2.1⟩ fun p hp=>(done p hp (lt p hp)).2.2.2⟩
theorem DA:aY ["shape","order","links","place","others"] ["shape","order"] (aO l4):=⟨rfl,rfl,rfl,by decide +kernel,rfl,by decide +kernel,by decide +kernel⟩
theorem wL(T:Txt K mg t):aN P w K mg base (bO P w) 5 t.gg t.h_ ["shape","order"] (oS t.aA CD):=by
 have S:=DA
 have jW:=ph (P:=P) (w:=w) (base:=base) T
 refine T.gE.fg S (fun vs H Q E h=>?_) (fun aC A outer s H vs Q E hr h L=>?_)
 ·obtain ⟨tp,a,n,L,zs,rfl,_⟩:=h
  rfl
 ·obtain ⟨tp,a,n,Lk,zs,rfl,hS,hL,n9,ea,bx,kE,kk⟩:=h
  obtain ⟨lt,us,bQ,elt,gJ⟩:=id hS
  refine ⟨_,(@ar _ _ _ _ _ (@aK _ _ 2 _ _ _ _ (by rfl) (by first | exact .inl rfl | exact .inr rfl | assumption) S.nd rfl (Or.inl rfl) (@bE _ _ _ _ aj))
   (@ar _ _ _ _ _ (b5 (CJ L) rfl (tU rfl T.o9 (@aa _ _ _ _ _ (by rfl) (aH jW (hr.mono (by decide)) rfl T.my T.fq.kp T.mx .nil (dy L) (@aa _ _ _ _ _ (by rfl) (pv 0) (@aa _ _ _ _ _ (by rfl) (pv 1) aj))) aj)) (kD rfl (eR (bD (i:=3) S.nd rfl (Or.inr rfl)) (eR (bD (i:=4) S.nd rfl (Or.inl rfl)) kC)))
    (@ax _ _ _ (dm (fb PySem.F.plainAttrs_list PySem.F.slot_list_extend PySem.F.type_list_extend sI (pv 2) (@aa _ _ _ _ _ (by rfl) (eA (N:=["other","place"]) (ρ:=(fun σ=>[σ[3]?.join])) ⟨rfl,rfl,by decide +kernel,by decide +kernel,(List.forall_mem_cons.mpr ⟨rfl,(List.forall_mem_nil _)⟩),dA (by rfl),rfl,by decide +kernel,rfl,(fun σ j v h=>match j,h with | 0,h=>⟨3,_,rfl,rfl,join_some h,Or.inr (Or.inl rfl),.inl rfl,.inl rfl⟩ | j+1,h=>by cases h),(fun _ _=>rfl)⟩ rfl (cp (pv 4)) (fun s₃ H₃ fp=>.nil) (fun s₃ H₃ fp=>(@dJ _ _ _ _ _ (@aa _ _ _ _ _ (by rfl) (a7 (rL rfl) rfl T.o_ boot_min (@aa _ _ _ _ _ (by rfl) (pv 1) (@aa _ _ _ _ _ (by rfl) (pv 0) aj))) (@aa _ _ _ _ _ (by rfl) (a7 (rK rfl) rfl T.pb boot_max (@aa _ _ _ _ _ (by rfl) (pv 1) (@aa _ _ _ _ _ (by rfl) (pv 0) aj))) aj))))) aj)))))
   (@ax _ _ _ (@aR _ _ _ _ (@dJ _ _ _ _ _ (@aa _ _ _ _ _ (by rfl) (@aL _ _ _ _ _ _ _ dQ (pv 0) aq (fun _ _=>rfl)) (@aa _ _ _ _ _ (by rfl) (cH nM rfl T.mz boot_tuple (@aa _ _ _ _ _ (by rfl) (a7 uf rfl T.jV PyProof.Rows.boot_sorted (@aa _ _ _ _ _ (by rfl) (pv 2) aj)) aj)) aj))))))),?_⟩
  refine ⟨Nat.zero_le _,fun l nl=>?_⟩
  have s0:ag H (upd H l (.lst [])):=aw nl
  have el:upd H l (.lst []) l=some (.lst []):=ak
  generalize upd H l (.lst [])=H0 at s0 el ⊢
  dsimp only [aG]
  refine bX ⟨_,rfl,_,rfl,tp,a,n,Lk,zs,rfl,hS.mono s0,hL,by omega,s0 _ _ ea,bx,fun no H1 s1=>kE no H1 (s0.trans s1),fun o ez ho H1 D rs g s1 nD wM la ok=>?_⟩
  have kk:=kk (by rw [ez];exact ho.map iN)
  have bC:=CB ho n9 ok
  have i5:∀p,p<n→rs p≠l:=fun p hp z=>by
   have:=wM p hp
   rw [z,el] at this
   cases this
  have DB:D≠l:=fun z=>by rw [z,el] at nD;cases nD
  have i6:((List.range n).map fun p=>V.ref (rs p)).length=n:=by rw [List.length_map,List.length_range]
  refine ⟨D,rfl,⟨_,.of la.1⟩,?_⟩
  refine tV (K:=K) (l:=D) (xs:=(List.range n).map fun p=>V.ref (rs p)) (fun k σ Hc=>∃(xs:List V) (M:List (Int×Int)) (v3 v4:Option V),σ=[some (.ref tp),some (.ref a),some (.ref l),v3,v4]∧ag H Hc∧uL Hc D n rs g∧Hc l=some (.lst xs)∧lO Hc n g k xs M)
   ⟨[],[],_,_,rfl,s0.trans s1,la,s1 _ _ el,⟨⟨rfl,fun k v p h=>by cases h⟩,rfl,fun p h=>by cases h⟩⟩ (fun k σ Hc ⟨_,_,_,_,_,_,z,_⟩=>.of z.1) ?_ ?_
  ·rintro k x σ Hc Tt hx ⟨xs,M,v3,v4,rfl,sc,lc,i7,so⟩ nT
   have hk:k<n:=by
    have:=(List.getElem?_eq_some_iff.mp hx).1
    rw [i6] at this
    exact this
   have ex:x=.ref (rs k):=by
    rw [List.getElem?_map,List.getElem?_range hk] at hx
    exact (Option.some.inj hx).symm
   subst ex
   have sT:ag Hc (upd Hc Tt (.tup [.int (k:Int),.ref (rs k)])):=aw nT
   have eT:upd Hc Tt (.tup [.int (k:Int),.ref (rs k)]) Tt=_:=ak
   generalize upd Hc Tt (.tup [.int (k:Int),.ref (rs k)])=H2 at sT eT ⊢
   have ek:=ok k hk
   have lg:(g k).length≤9:=Nat.le_trans (oR ho ek) (by omega)
   have e2:=sT _ _ (lc.2 k hk)
   refine ⟨Tt,_,rfl,.of eT,rfl,_,_,rfl,_,_,rfl,rfl,?_⟩
   refine ⟨_,rfl,.inl ⟨rfl,_,.of (sT _ _ i7)⟩,lC (xs:=(g k).map fun k:Nat=>V.int (k:Int)) (fun R h=>⟨_,rfl,rs k,rfl,⟨_,.of e2⟩,h _ _ (ag.refl _) (hE (.of e2))⟩) (by rw [List.length_map];exact cu (by omega)) (fun _ i y Hz=>∃(b:Addr) (q:Nat),y=.ref b∧(g k)[i]?=some q∧Hz b=some (.tup [.int (fk k q).1,.int (fk k q).2])) (fun Dd i y Ha Hb ys ⟨b,x,h1,h2,h3⟩ e f=>⟨b,x,h1,h2,f b _ (fun z=>by rw [z,e] at h3;cases h3) h3⟩) ?_ ?_⟩
   ·intro Dd i x hx Hz R sz _ kz
    obtain ⟨q,hq,rfl⟩:∃q:Nat,(g k)[i]?=some q∧x=.int (q:Int):=by
     rw [List.getElem?_map] at hx
     cases e:(g k)[i]? with
     | none=>rw [e] at hx;cases hx
     | some q=>rw [e] at hx;exact ⟨q,rfl,(Option.some.inj hx).symm⟩
    refine ⟨_,rfl,_,rfl,_,_,rfl,_,rfl,_,rfl,_,_,rfl,by show 2≤sizeLine;decide,fun tp b_=>?_⟩
    exact kz _ _ (aw b_) ⟨tp,q,rfl,hq,ak⟩
   ·intro Dd ys H3 wN s3 gM iX jX
    rw [List.length_map] at gM
    have lM:M.length≤36:=by
     rw [so.len]
     exact Nat.le_trans (CI (g:=fun p=>(g p).length) (Nat.le_of_lt hk)) bC
    have lx:=so.at'.1
    have pH:=s3 _ _ (sT _ _ i7)
    refine ⟨l,Dd,xs,ys,rfl,rfl,pH,jX,Nat.le_trans (show _≤100 by omega) (by decide),?_⟩
    have k9:∀b o,b≠l→H3 b=some o→upd H3 l (.lst (xs++ys)) b=some o:=fun b o nb e=>by rw [ay nb];exact e
    have mH:=sc.trans (sT.trans s3)
    refine ⟨xs++ys,M++(g k).map (fk k),_,_,rfl,fun b u e=>k9 b u (fun z=>by rw [z,nl] at e;cases e) (mH _ _ e),⟨k9 _ _ DB (s3 _ _ (sT _ _ lc.1)),fun p hp=>k9 _ _ (i5 p hp) (s3 _ _ (sT _ _ (lc.2 p hp)))⟩,ak,so.more (fun h=>((h.mono sT).mono s3).a9 pH k9) hk ek.lt ?_⟩
    refine aE.a9 (H:=H3) ⟨by rw [gM,List.length_map],fun i v p h1 h2=>?_⟩ pH k9
    obtain ⟨b,q,rfl,hq,e⟩:=iX i v h1
    rw [List.getElem?_map,hq] at h2
    cases h2
    exact ⟨b,rfl,e⟩
  ·rintro σ Hc ⟨xs,M,v3,v4,rfl,sc,lc,i7,so⟩
   rw [i6] at so
   have lM:M.length≤36:=by rw [so.len];exact bC
   have lx:=so.at'.1
   refine ⟨_,rfl,tp,_,_,_,rfl,rfl,.of (sc _ _ bQ),rfl,_,rfl,l,xs,fun i=>(M.getD i (0,0)).1,fun i=>(M.getD i (0,0)).2,rfl,i7,by omega,fun i v hv=>?_,fun p l' hp hu pI=>?_⟩
   ·have hi:i<M.length:=by rw [←lx];exact (List.getElem?_eq_some_iff.mp hv).1
    obtain ⟨b,rfl,eb⟩:=so.at'.2 i v M[i] hv (by simp [hi])
    dsimp only
    rw [getD_at hi]
    have:=so.lt M[i] (List.getElem_mem hi)
    exact ⟨⟨b,rfl,eb⟩,this.1,by omega⟩
   ·have sl:ag Hc (upd Hc l' (.lst (p.toList.map fun i=>xs.getD i .az))):=aw pI
    rw [lx] at hp
    have hP:aE Hc (p.toList.map fun i=>xs.getD i .az) (p.toList.map fun i=>M.getD i (0,0)):=so.at'.pick _ fun i hi=>by
     have:p.toList.Perm (List.range M.length):=Array.perm_iff_toList_perm.mp hp
     exact List.mem_range.mp (this.mem_iff.mp hi)
    generalize (p.toList.map fun i=>xs.getD i .az)=zs at sl hP ⊢
    refine ⟨l',zs,rfl,.inl ⟨.of ak,fun lt pJ=>?_⟩⟩
    have cI:=sl.trans (aw (o:=.tup zs) pJ)
    have elt:upd (upd Hc l' (.lst zs)) lt (.tup zs) lt=some (.tup zs):=ak
    generalize upd (upd Hc l' (.lst zs)) lt (.tup zs)=Hd at cI elt ⊢
    refine ⟨by show 2≤sizeLine;decide,fun tp b_=>?_⟩
    have st:ag Hd (upd Hd tp (.tup [.int (n:Int),.ref lt])):=aw b_
    exact kk _ _ (sc.trans (cI.trans st)) ⟨tp,_,rfl,lt,zs,ak,st _ _ elt,(hP.mono cI).mono st⟩
theorem DC:aY ["shape","order"] ["shape","order"] (aO ma):=⟨rfl,rfl,rfl,by decide +kernel,rfl,by decide +kernel,by decide +kernel⟩
theorem DD(T:Txt K mg t):aN P w K mg base (bO P w) 6 t.gs t.il ["shape","order"] (oS t.aA CF):=by
 have S:=DC
 have pK:=wL (P:=P) (w:=w) (base:=base) T
 refine T.iP.fg S (fun vs H Q E h=>?_) (fun aC A outer s H vs Q E hr h L=>?_)
 ·obtain ⟨tp,a,n,L,zs,rfl,_⟩:=h
  rfl
 ·obtain ⟨tp,a,n,Lk,zs,rfl,hS,hL,n9,ea,bx,kE,kk⟩:=h
  have eO:=hr.units
  refine ⟨_,(@ax _ _ _ (@aR _ _ _ _ (@dI _ _ _ _ _ _ _ _ (Cy (n:=2) eO) (aH pK (hr.mono (by decide)) rfl T.oW T.gE.kp T.oV .nil (dy L) (@aa _ _ _ _ _ (by rfl) (pv 0) (@aa _ _ _ _ _ (by rfl) (pv 1) aj))) (pv 0) (aS _)))),?_⟩
  refine ⟨_,rfl,_,rfl,tp,a,n,Lk,zs,rfl,hS,hL,n9,ea,bx,kE,fun yes H1 v s1 ⟨t1,L1,ev,ud,Ia,e1,e2,h1⟩=>?_⟩
  subst ev
  obtain ⟨lt,us,bQ,elt,gJ⟩:=hS.mono s1
  exact ⟨_,rfl,t1,tp,_,_,rfl,rfl,e1,bQ,Cz (t:=t1) (t':=tp) e2 elt h1 gJ,fun b=>kk yes _ _ s1 ⟨b,rfl⟩⟩
theorem DE:aY ["many"] ["many"] (aO l5):=⟨rfl,rfl,rfl,by decide +kernel,rfl,by decide +kernel,by decide +kernel⟩
theorem DF(T:Txt K mg t):aN P w K mg base bt 1 t.gh t.ia ["many"] CK:=by
 have S:=DE
 refine T.iJ.ok S (fun vs H Q E h=>?_) (fun aC A outer s H vs Q E hr h=>?_)
 ·obtain ⟨m,rfl,_⟩:=h
  rfl
 ·obtain ⟨m,rfl,m1,k⟩:=h
  refine ⟨_,(@ax _ _ _ (@aR _ _ _ _ (@aD _ _ _ _ _ _ _ _ cU (@aD _ _ _ _ _ _ _ _ cU (@aD _ _ _ _ _ _ _ _ dr (pv 0) (pv 0)) (@aD _ _ _ _ _ _ _ _ dr aq (pv 0))) aq))),?_⟩
  exact ⟨_,rfl,_,rfl,_,_,rfl,rfl,.inl ⟨by omega,by omega⟩,_,rfl,_,_,rfl,rfl,.inl ⟨by omega,by omega⟩,_,_,rfl,rfl,_,_,rfl,rfl,k⟩
theorem DG:aY ["shape"] ["shape"] (aO l7):=⟨rfl,rfl,rfl,by decide +kernel,rfl,by decide +kernel,by decide +kernel⟩
theorem DH(T:Txt K mg t):aN P w K mg base (bO P w) 1 t.gm t.ic ["shape"] CL:=by
 have S:=DG
 obtain ⟨uM,hM,rM⟩:=T.vS
 refine T.iK.fg S (fun vs H Q E h=>?_) (fun aC A outer s H vs Q E hr h L=>?_)
 ·obtain ⟨tp,n,Lk,rfl,_⟩:=h
  rfl
 ·obtain ⟨tp,n,Lk,rfl,⟨lt,us,bQ,elt,gJ⟩,n9,k⟩:=h
  refine ⟨_,(@ax _ _ _ (@bp _ _ _ _ _ _ _ _ (@br _ _ _ _ _ _ _ _ fL (@aL _ _ _ _ _ _ _ dQ (pv 0) aq (fun _ _=>rfl)) (d9 (v:=.int 9) rfl hM rM) (aS _)) (@ax _ _ _ (sQ L rfl PySem.F.excBase_ValueError T.vT rfl T.o8 (@aa _ _ _ _ _ (by rfl) rh aj))) bz)),?_⟩
  refine ⟨_,rfl,tp,_,_,_,rfl,rfl,.of bQ,rfl,_,_,rfl,rfl,_,rfl,bB (fun hc=>?_) (fun hc=>?_)⟩
  ·have hc:(9:Int)<(n:Int):=of_decide_eq_true hc
   omega
  ·exact k
theorem DI:aY ["shape","order"] ["shape","order"] (aO l6):=⟨rfl,rfl,rfl,by decide +kernel,rfl,by decide +kernel,by decide +kernel⟩
theorem wO(T:Txt K mg t):aN P w K mg base (bO P w) 5 t.gk t.ib ["shape","order"] (oS t.aA CG):=by
 have S:=DI
 have jW:=ph (P:=P) (w:=w) (base:=base) T
 have DJ:=DF (P:=P) (w:=w) (base:=base) T
 refine T.gF.fg S (fun vs H Q E h=>?_) (fun aC A outer s H vs Q E hr h L=>?_)
 ·obtain ⟨tp,a,n,L,zs,rfl,_⟩:=h
  rfl
 ·obtain ⟨tp,a,n,Lk,zs,rfl,hS,hL,n9,ea,bx,kE,kk⟩:=h
  refine ⟨_,(@ax _ _ _ (@aR _ _ _ _ (a7 (A5 (K:=K) rfl) rfl T.vQ boot_sum (@aa _ _ _ _ _ (by rfl) (eA (N:=["others"]) (ρ:=(fun σ=>[])) ⟨rfl,rfl,by decide +kernel,by decide +kernel,(List.forall_mem_nil _),dA (by rfl),rfl,by decide +kernel,rfl,(fun σ j v h=>match j,h with | j,h=>by cases h),(fun _ _=>rfl)⟩ rfl (cp (aH jW (hr.mono (by decide)) rfl T.my T.fq.kp T.mx .nil (dy L) (@aa _ _ _ _ _ (by rfl) (pv 0) (@aa _ _ _ _ _ (by rfl) (pv 1) aj)))) (fun s₃ H₃ fp=>.nil) (fun s₃ H₃ fp=>(aH DJ (hr.mono (by decide)) rfl T.ve T.iJ.kp T.vd .nil a8 (@aa _ _ _ _ _ (by rfl) (a7 (A8 (K:=K)) rfl T.dE boot_len (@aa _ _ _ _ _ (by rfl) (pv 0) aj)) aj)))) aj)))),?_⟩
  refine A9 (ox (uP ⟨_,rfl,_,rfl,tp,a,n,Lk,zs,rfl,hS,hL,by omega,ea,bx,kE,fun o ez ho H1 D rs g s1 nD wM la ok=>⟨D,rfl,⟨_,.of la.1⟩,?_⟩⟩))
  have kk:=kk (by rw [ez];exact ho.map iN)
  have i6:((List.range n).map fun p=>V.ref (rs p)).length=n:=by rw [List.length_map,List.length_range]
  refine lC (xs:=(List.range n).map fun p=>V.ref (rs p)) (fun R h=>h _ _ (ag.refl _) (hE (.of la.1))) (by rw [i6];exact cu (by omega)) (fun _ i y _=>y=.int (((g i).length:Int)*(g i).length+3*(g i).length+1)) (fun _ _ _ _ _ _ h _ _=>h) ?_ ?_
  ·intro D' k x hx Hc R sc _ kc
   have hk:k<n:=by
    have:=(List.getElem?_eq_some_iff.mp hx).1
    rw [i6] at this
    exact this
   have ex:x=.ref (rs k):=by
    rw [List.getElem?_map,List.getElem?_range hk] at hx
    exact (Option.some.inj hx).symm
   subst ex
   have lg:(g k).length≤9:=Nat.le_trans (oR ho (ok k hk)) (by omega)
   refine ⟨_,rfl,rs k,_,rfl,.inl (.of (sc _ _ (la.2 k hk))),(g k).length,by rw [List.length_map];rfl,by omega,kc _ Hc (ag.refl _) rfl⟩
  ·intro D' ys Hc DK sc gM iX pL
   rw [i6] at gM
   have ey:ys=((List.range n).map fun i=>((g i).length:Int)*(g i).length+3*(g i).length+1).map V.int:=by
    refine List.ext_getElem (by simp [gM]) fun i h1 h2=>?_
    rw [List.getElem_map,List.getElem_map,List.getElem_range]
    exact iX i _ (List.getElem?_eq_getElem h1)
   exact ⟨D',_,rfl,.of (by rw [pL,ey]),kk _ _ (s1.trans sc) ⟨_,rfl⟩⟩
theorem DL:aY ["n","told","place"] ["n"] (aO l8):=⟨rfl,rfl,rfl,by decide +kernel,rfl,by decide +kernel,by decide +kernel⟩
theorem DM(T:Txt K mg t):aN P w K mg base bt 1 t.gp t.ie ["n"] CN:=by
 have S:=DL
 refine T.iL.ok S (fun vs H Q E h=>?_) (fun aC A outer s H vs Q E hr h=>?_)
 ·obtain ⟨n,rfl,_⟩:=h
  rfl
 ·obtain ⟨n,rfl,n9,kk⟩:=h
  refine ⟨_,(@ar _ _ _ _ _ (@aK _ _ 1 _ _ _ _ (by rfl) (by first | exact .inl rfl | exact .inr rfl | assumption) S.nd rfl (Or.inl rfl) (@bE _ _ _ _ (@aa _ _ _ _ _ (by rfl) (@dJ _ _ _ _ _ aj) aj)))
   (@ar _ _ _ _ _ (b5 PassesOwn.never rfl (fI rfl T.cN (@aa _ _ _ _ _ (by rfl) (pv 0) aj)) (bD (i:=2) S.nd rfl (Or.inr rfl))
    (@ax _ _ _ (@aK _ _ 1 _ _ _ _ (by rfl) (by first | exact .inl rfl | exact .inr rfl | assumption) S.nd rfl (Or.inl rfl) (@aD _ _ _ _ _ _ _ _ cW (pv 1) (eA (N:=["each","place"]) (ρ:=(fun σ=>[σ[2]?.join])) ⟨rfl,rfl,by decide +kernel,by decide +kernel,(List.forall_mem_cons.mpr ⟨rfl,(List.forall_mem_nil _)⟩),dA (by rfl),rfl,by decide +kernel,rfl,(fun σ j v h=>match j,h with | 0,h=>⟨2,_,rfl,rfl,join_some h,Or.inr (Or.inl rfl),.inl rfl,.inl rfl⟩ | j+1,h=>by cases h),(fun _ _=>rfl)⟩ rfl (cp (pv 1)) (fun s₃ H₃ fp=>.nil) (fun s₃ H₃ fp=>(@aD _ _ _ _ _ _ _ _ (CO (K:=K)) (pv 0) (@dJ _ _ _ _ _ (@aa _ _ _ _ _ (by rfl) (pv 1) aj)))))))))
   (@ax _ _ _ (@aR _ _ _ _ (pv 1))))),?_⟩
  refine ⟨Nat.zero_le _,fun b nb=>⟨by show 1≤sizeLine;decide,fun l nl=>?_⟩⟩
  have s0:ag H (upd (upd H b (.tup [])) l (.lst [.ref b])):=(aw nb).trans (aw nl)
  have lb:b≠l:=fun z=>by rw [z,ak] at nl;cases nl
  have eb:upd (upd H b (.tup [])) l (.lst [.ref b]) b=some (.tup []):=by rw [ay lb,ak]
  have el:upd (upd H b (.tup [])) l (.lst [.ref b]) l=some (.lst [.ref b]):=ak
  generalize upd (upd H b (.tup [])) l (.lst [.ref b])=H0 at s0 eb el ⊢
  dsimp only [aG]
  refine bX ⟨_,rfl,(n:Int),rfl,by omega,by omega,?_⟩
  rw [Int.toNat_natCast]
  refine fJ (fun k σ Hc=>∃(D:Addr) (xs:List V) (v2:Option V),σ=[some (.int (n:Int)),some (.ref D),v2]∧ag H Hc∧Hc D=some (.lst xs)∧lQ Hc k xs∧xs.length=2 ^ k) ⟨l,_,_,rfl,s0,el,fun x hx=>by rw [List.mem_singleton] at hx;exact ⟨b,[],hx,eb,Nat.le_refl _⟩,rfl⟩ ?_ ?_
  ·rintro k σ Hc hk ⟨D,xs,v2,rfl,sc,eD,tu,lx⟩
   have p2:2 ^ k≤512:=Nat.le_trans (Nat.pow_le_pow_right (by decide) (show k≤9 by omega)) (by decide)
   dsimp only [aG]
   refine jL ⟨_,rfl,lC (xs:=xs) (fun R h=>⟨_,rfl,D,rfl,⟨_,.of eD⟩,h _ _ (ag.refl _) (hE (.of eD))⟩) (cu (by omega)) (fun _ i y Hz=>∃(b:Addr) (us:List V),y=.ref b∧Hz b=some (.tup us)∧us.length≤k+1) (fun Dd i y Ha Hb ys ⟨b,us,h1,h2,h3⟩ e f=>⟨b,us,h1,f b _ (fun z=>by rw [z,e] at h2;cases h2) h2,h3⟩) ?_ ?_⟩
   ·intro Dd i x hx Hz R sz _ kz
    obtain ⟨b,us,rfl,eb,lu⟩:=tu x (List.mem_of_getElem? hx)
    refine ⟨_,rfl,_,rfl,by show 1≤sizeLine;decide,fun q nq=>?_⟩
    have pM:=sz _ _ eb
    have bq:b≠q:=fun z=>by rw [z,nq] at pM;cases pM
    have DN:upd Hz q (.tup [V.int (0+(k:Int))]) b=some (.tup us):=(ay bq).trans pM
    refine ⟨b,q,us,_,rfl,rfl,.of DN,.of ak,by simp,Nat.le_trans (show _≤100 by simp;omega) (by decide),fun e=>?_,fun ne p np=>?_⟩
    ·exact kz _ _ (aw nq) ⟨q,_,rfl,ak,by simp⟩
    ·exact kz _ _ ((aw nq).trans (aw np)) ⟨p,_,rfl,ak,by simp;omega⟩
   ·intro Dd ys Hd wN sd gM iX jX
    refine ⟨D,Dd,xs,ys,rfl,rfl,sd _ _ eD,jX,Nat.le_trans (show _≤2000 by omega) (by decide),fun l2 jY=>?_⟩
    refine ⟨l2,_,_,rfl,(sc.trans sd).trans (aw jY),ak,fun x hx=>?_,by rw [List.length_append,gM,lx,Nat.pow_succ];omega⟩
    rcases List.mem_append.mp hx with h | h
    ·obtain ⟨b,us,e,eb,lu⟩:=((tu.mono sd).mono (aw (o:=.lst (xs++ys)) jY)) x h
     exact ⟨b,us,e,eb,by omega⟩
    ·obtain ⟨i,hi,rfl⟩:=List.mem_iff_getElem.mp h
     obtain ⟨b,us,e,eb,lu⟩:=iX i _ (List.getElem?_eq_getElem hi)
     exact ⟨b,us,e,(aw jY) _ _ eb,lu⟩
  ·rintro σ Hc ⟨D,xs,v2,rfl,sc,eD,tu,lx⟩
   exact ⟨_,rfl,kk D xs Hc sc eD lx⟩
theorem DO:aY ["shape","done","worth_of"] ["shape","done","worth_of"] (aO l9):=⟨rfl,rfl,rfl,by decide +kernel,rfl,by decide +kernel,by decide +kernel⟩
theorem DP(T:Txt K mg t):aN P w K mg base bt 2 t.gq t.ig ["shape","done","worth_of"] (fun _ _ _ _=>False):=by
 have S:=DO
 exact T.iM.ok S (fun vs H Q E h=>h.elim) (fun aC A outer s H vs Q E hr h=>h.elim)
theorem DQ:aY ["shape","order","worths","many","tuples"] ["shape","order","worths"] (aO l_):=⟨rfl,rfl,rfl,by decide +kernel,rfl,by decide +kernel,by decide +kernel⟩
theorem DR(T:Txt K mg t):aN P w K mg base (bO P w) 6 t.gr t.ik ["shape","order","worths"] (CP t.aA):=by
 have S:=DQ
 have DS:=DH (P:=P) (w:=w) (base:=base) T
 have pN:=wO (P:=P) (w:=w) (base:=base) T
 have DT:=DM (P:=P) (w:=w) (base:=base) T
 have DU:=DP (P:=P) (w:=w) (base:=base) T
 refine T.iO.fg S (fun vs H Q E h=>?_) (fun aC A outer s H vs Q E hr h L=>?_)
 ·obtain ⟨tp,a,w,n,L,zs,rfl,_⟩:=h
  rfl
 ·obtain ⟨tp,a,w,n,Lk,zs,rfl,hS,hL,n9,ea,bx,ew,kE,kk⟩:=h
  obtain ⟨lt,us,bQ,elt,gJ⟩:=id hS
  refine ⟨_,(@ar _ _ _ _ _ (dm (aH DS (hr.mono (by decide)) rfl T.vg T.iK.kp T.vf .nil (dy L) (@aa _ _ _ _ _ (by rfl) (pv 0) aj)))
   (@ar _ _ _ _ _ (@aK _ _ 3 _ _ _ _ (by rfl) (by first | exact .inl rfl | exact .inr rfl | assumption) S.nd rfl (Or.inl rfl) (aH pN (hr.mono (by decide)) rfl T.oY T.gF.kp T.oX .nil (dy L) (@aa _ _ _ _ _ (by rfl) (pv 0) (@aa _ _ _ _ _ (by rfl) (pv 1) aj))))
   (@ar _ _ _ _ _ (@aK _ _ 4 _ _ _ _ (by rfl) (by first | exact .inl rfl | exact .inr rfl | assumption) S.nd rfl (Or.inl rfl) (aH DT (hr.mono (by decide)) rfl T.vi T.iL.kp T.vh .nil a8 (@aa _ _ _ _ _ (by rfl) (@aL _ _ _ _ _ _ _ dQ (pv 0) aq (fun _ _=>rfl)) aj)))
   (@ar _ _ _ _ _ (@bp _ _ _ _ _ _ _ _ (PW.pt (@pw_or _ _ _ _ _ _ _ (@br _ _ _ _ _ _ _ _ nB (a7 BS rfl T.dE boot_len (@aa _ _ _ _ _ (by rfl) (pv 2) aj)) (a7 en rfl T.dE boot_len (@aa _ _ _ _ _ (by rfl) (pv 4) aj)) (aS _)) (@pw_or1 _ _ _ _ (@jj _ _ _ _ (gW (a7 (oi (K:=K) rfl) rfl T.mB boot_all (@aa _ _ _ _ _ (by rfl) (eA (N:=["done","worths"]) (ρ:=(fun σ=>[σ[2]?.join])) ⟨rfl,rfl,by decide +kernel,by decide +kernel,(List.forall_mem_cons.mpr ⟨rfl,(List.forall_mem_nil _)⟩),dA (by rfl),rfl,by decide +kernel,rfl,(fun σ j v h=>match j,h with | 0,h=>⟨2,_,rfl,rfl,join_some h,Or.inr (Or.inl rfl),.inl rfl,.inl rfl⟩ | j+1,h=>by cases h),(fun _ _=>rfl)⟩ rfl (cp (pv 4)) (fun s₃ H₃ fp=>.nil) (fun s₃ H₃ fp=>(@dI _ _ _ _ _ _ _ _ (CQ (K:=K)) (pv 0) (pv 1) rfl))) aj))))))) (@ax _ _ _ (@aR _ _ _ _ d8)) bz)
   (@ar _ _ _ _ _ (@bp _ _ _ _ _ _ _ _ (PW.pt (@pw_or _ _ _ _ _ _ _ (@br _ _ _ _ _ _ _ _ fL (@aL _ _ _ _ _ _ _ a_ (pv 2) (cH nM rfl T.mz boot_tuple (@aa _ _ _ _ _ (by rfl) (cH lp rfl T.cN lq (@aa _ _ _ _ _ (by rfl) (@aL _ _ _ _ _ _ _ dQ (pv 0) aq (fun _ _=>rfl)) aj)) aj)) (fun _ _=>rfl)) aq (aS _)) (@pw_or1 _ _ _ _ (@br _ _ _ _ _ _ _ _ nB (@aL _ _ _ _ _ _ _ a_ (pv 2) (@dJ _ _ _ _ _ aj) (fun _ _=>rfl)) (pv 3) (aS _))))) (@ax _ _ _ (@aR _ _ _ _ d8)) bz)
   (@ax _ _ _ (@aR _ _ _ _ (a7 (oi (K:=K) rfl) rfl T.mB boot_all (@aa _ _ _ _ _ (by rfl) (eA (N:=["done","shape","worths"]) (ρ:=(fun σ=>[σ[0]?.join,σ[2]?.join])) ⟨rfl,rfl,by decide +kernel,by decide +kernel,(List.forall_mem_cons.mpr ⟨rfl,(List.forall_mem_cons.mpr ⟨rfl,(List.forall_mem_nil _)⟩)⟩),dA (by rfl),rfl,by decide +kernel,rfl,(fun σ j v h=>match j,h with | 0,h=>⟨0,_,rfl,rfl,join_some h,Or.inr (Or.inl rfl),.inl rfl,.inl rfl⟩ | 1,h=>⟨2,_,rfl,rfl,join_some h,Or.inr (Or.inl rfl),.inl rfl,.inl rfl⟩ | j+2,h=>by cases h),(fun _ _=>rfl)⟩ rfl (cp (pv 4)) (fun s₃ H₃ fp=>.nil) (fun s₃ H₃ fp=>(aH DU (hr.mono (by decide)) rfl T.vk T.iM.kp T.vj .nil a8 (@aa _ _ _ _ _ (by rfl) (pv 1) (@aa _ _ _ _ _ (by rfl) (pv 0) (@aa _ _ _ _ _ (by rfl) (pv 2) aj)))))) aj))))))))),?_⟩
  refine ⟨_,rfl,tp,n,Lk,rfl,hS,n9,?_⟩
  refine ⟨_,rfl,_,rfl,tp,a,n,Lk,zs,rfl,hS,hL,n9,ea,bx,kE,fun yes H1 v s1 ⟨i,ei⟩=>?_⟩
  subst ei
  dsimp only [aG]
  refine ⟨_,rfl,tp,_,_,_,rfl,rfl,.of (s1 _ _ bQ),rfl,n,rfl,n9,fun D xs H2 s2 eD lx=>?_⟩
  dsimp only [aG]
  refine bX ⟨_,rfl,w,[],rfl,s2 _ _ (s1 _ _ ew),_,rfl,D,xs,rfl,.inl (.of eD),rfl,_,rfl,bB (fun hb=>?_) (fun hb=>?_)⟩
  ·exact jD (kk yes _ (s1.trans s2))
  ·refine absurd ?_ hb
   have p0:0<2 ^ n:=Nat.pow_pos (by decide)
   have ne:¬((([]:List (Key×V)).length:Nat):Int)=(xs.length:Int):=by
    show ¬((0:Nat):Int)=_
    omega
   rw [oo,decide_eq_false ne]
   rfl
theorem DV:aY ["_law_cell","_law_at","_law_x"] ["_law_cell","_law_at"] (aO md):=⟨rfl,rfl,rfl,by decide +kernel,rfl,by decide +kernel,by decide +kernel⟩
theorem DW(T:Txt K mg t):aN P w K mg base bt 1 t.gu t.iq ["_law_cell","_law_at"] Bb:=by
 have S:=DV
 refine T.iQ.ok S (fun vs H Q E h=>?_) (fun aC A outer s H vs Q E hr h=>?_)
 ·obtain ⟨c,a,rfl,_⟩:=h
  rfl
 ·obtain ⟨c,a,rfl,ha,k⟩:=h
  refine ⟨_,(@ar _ _ _ _ _ (@bp _ _ _ _ _ _ _ _ (@br _ _ _ _ _ _ _ _ yS (pv 0) (@aD _ _ _ _ _ _ _ _ yM aq aq) (aS _)) (@ax _ _ _ (@aR _ _ _ _ (pv 0))) bz)
   (@ar _ _ _ _ _ (@aK _ _ 2 _ _ _ _ (by rfl) (by first | exact .inl rfl | exact .inr rfl | assumption) S.nd rfl (Or.inl rfl) (@aD _ _ _ _ _ _ _ _ fK (@aD _ _ _ _ _ _ _ _ cU (@aD _ _ _ _ _ _ _ _ cU (@aD _ _ _ _ _ _ _ _ dr (@aD _ _ _ _ _ _ _ _ fK (pv 0) aq) aq) (@aD _ _ _ _ _ _ _ _ dr (pv 1) aq)) aq) aq))
   (@ar _ _ _ _ _ (@aK _ _ 2 _ _ _ _ (by rfl) (by first | exact .inl rfl | exact .inr rfl | assumption) S.nd rfl (Or.inl rfl) (@aD _ _ _ _ _ _ _ _ fK (@aD _ _ _ _ _ _ _ _ cU (@aD _ _ _ _ _ _ _ _ cU (@aD _ _ _ _ _ _ _ _ dr (pv 2) (pv 2)) (@aD _ _ _ _ _ _ _ _ dr aq (pv 2))) (pv 1)) aq))
   (@ax _ _ _ (@aR _ _ _ _ (@aD _ _ _ _ _ _ _ _ cU (@aD _ _ _ _ _ _ _ _ dr (pv 2) aq) (@aD _ _ _ _ _ _ _ _ fK (@aD _ _ _ _ _ _ _ _ cU (@aD _ _ _ _ _ _ _ _ dr (pv 2) (pv 2)) (@aD _ _ _ _ _ _ _ _ dr aq (pv 1))) aq))))))),?_⟩
  refine ⟨_,rfl,_,_,rfl,rfl,⟨by decide,by decide,by decide⟩,_,_,rfl,rfl,_,rfl,bB (fun h=>?_) (fun h=>?_)⟩
  ·have h:=of_decide_eq_true h
   exact ⟨_,rfl,k _ (Int.le_trans (by decide) h)⟩
  ·refine ⟨_,rfl,_,_,rfl,rfl,(by show (0:Int)<2147483647;decide),_,_,rfl,rfl,.inr ⟨by decide,by decide⟩,_,rfl,_,_,rfl,rfl,.inr ⟨by decide,by decide⟩,_,_,rfl,rfl,_,_,rfl,rfl,_,_,rfl,rfl,(by show (0:Int)<2147483629;decide),?_⟩
   have b0:=Int.emod_nonneg (c % 2147483647*48271+a*69621+11) (show (2147483629:Int)≠0 by decide)
   have b1:=Int.emod_lt_of_pos (c % 2147483647*48271+a*69621+11) (show (0:Int)<2147483629 by decide)
   generalize (c % 2147483647*48271+a*69621+11) % 2147483629=x at b0 b1 ⊢
   refine ⟨_,rfl,_,rfl,_,_,rfl,rfl,.inl ⟨by omega,by omega⟩,_,rfl,_,_,rfl,rfl,.inl ⟨by decide,by decide⟩,_,_,rfl,rfl,_,rfl,_,_,rfl,rfl,_,_,rfl,rfl,(by show (0:Int)<2147483587;decide),?_⟩
   have c0:=Int.emod_nonneg (x*x+48271*x+a) (show (2147483587:Int)≠0 by decide)
   have c1:=Int.emod_lt_of_pos (x*x+48271*x+a) (show (0:Int)<2147483587 by decide)
   generalize (x*x+48271*x+a) % 2147483587=y at c0 c1 ⊢
   refine ⟨_,rfl,_,_,rfl,rfl,.inr ⟨by decide,by decide⟩,_,rfl,_,rfl,_,_,rfl,rfl,.inl ⟨by omega,by omega⟩,_,rfl,_,_,rfl,rfl,.inl ⟨by decide,by decide⟩,_,_,rfl,rfl,_,_,rfl,rfl,(by show (0:Int)<2147483579;decide),_,_,rfl,rfl,k _ (Int.add_nonneg (Int.mul_nonneg (Int.emod_nonneg _ (by decide)) (by decide)) (Int.emod_nonneg _ (by decide)))⟩
theorem DX:aY ["_law_pen","_law_many","_law_at","_law_cell","_law_found"] ["_law_pen","_law_many"] (aO me):=⟨rfl,rfl,rfl,by decide +kernel,rfl,by decide +kernel,by decide +kernel⟩
theorem jZ(T:Txt K mg t):aN P w K mg base bt 2 t.gv t.ir ["_law_pen","_law_many"] (Bc K):=by
 have S:=DX
 have DY:=DW (P:=P) (w:=w) (base:=base) T
 refine T.b3.ok S (fun vs H Q E h=>?_) (fun aC A outer s H vs Q E hr h=>?_)
 ·obtain ⟨P0,a,ns,many,rfl,_⟩:=h
  rfl
 ·obtain ⟨P0,a,ns,many,rfl,⟨x,y,eP,hx,hy⟩,hS,m1,mm,k⟩:=h
  have eO:=hr.units
  refine ⟨_,(@ar _ _ _ _ _ (@bp _ _ _ _ _ _ _ _ (@br _ _ _ _ _ _ _ _ rJ (@aL _ _ _ _ _ _ _ a_ (pv 0) aq (fun _ _=>rfl)) (pv 1) (aS _)) (@ar _ _ _ _ _ (@aK _ _ 2 _ _ _ _ (by rfl) (by first | exact .inl rfl | exact .inr rfl | assumption) S.nd rfl (Or.inl rfl) (@aL _ _ _ _ _ _ _ a_ (pv 0) aq (fun _ _=>rfl)))
   (@ar _ _ _ _ _ (@aK _ _ 3 _ _ _ _ (by rfl) (by first | exact .inl rfl | exact .inr rfl | assumption) S.nd rfl (Or.inl rfl) aq)
   (@ar _ _ _ _ _ (@bp _ _ _ _ _ _ _ _ (@br _ _ _ _ _ _ _ _ rJ (pv 2) (a7 en rfl T.dE boot_len (@aa _ _ _ _ _ (by rfl) (@aL _ _ _ _ _ _ _ a_ (pv 0) aq (fun _ _=>rfl)) aj)) (aS _)) (@ax _ _ _ (@aK _ _ 3 _ _ _ _ (by rfl) (by first | exact .inl rfl | exact .inr rfl | assumption) S.nd rfl (Or.inl rfl) (@aL _ _ _ _ _ _ _ a_ (@aL _ _ _ _ _ _ _ a_ (pv 0) aq (fun _ _=>rfl)) (pv 2) (fun _ _=>rfl)))) (@ax _ _ _ (@bp _ _ _ _ _ _ _ _ (@br _ _ _ _ _ _ _ _ fL (a7 en rfl T.dE boot_len (@aa _ _ _ _ _ (by rfl) (@aL _ _ _ _ _ _ _ a_ (pv 0) aq (fun _ _=>rfl)) aj)) aq (aS _)) (@ax _ _ _ (@aK _ _ 3 _ _ _ _ (by rfl) (by first | exact .inl rfl | exact .inr rfl | assumption) S.nd rfl (Or.inl rfl) (@aD _ _ _ _ _ _ _ _ cU (@aD _ _ _ _ _ _ _ _ fK (@aL _ _ _ _ _ _ _ a_ (@aL _ _ _ _ _ _ _ a_ (pv 0) aq (fun _ _=>rfl)) (@aD _ _ _ _ _ _ _ _ fK (@aD _ _ _ _ _ _ _ _ dr (pv 2) aq) (a7 en rfl T.dE boot_len (@aa _ _ _ _ _ (by rfl) (@aL _ _ _ _ _ _ _ a_ (pv 0) aq (fun _ _=>rfl)) aj))) (fun _ _=>rfl)) aq) (@aD _ _ _ _ _ _ _ _ dr (pv 2) aq)))) bz)))
   (@ar _ _ _ _ _ (@jm _ _ _ _ _ _ (@aD _ _ _ _ _ _ _ _ cU (pv 2) aq) (jk (pv 0) aq set_list) (by rfl) (by rfl) (by rfl))
   (@ax _ _ _ (@jm _ _ _ _ _ _ (aH DY (hr.mono (by decide)) rfl T.vt T.iQ.kp T.vq .nil a8 (@aa _ _ _ _ _ (by rfl) (pv 3) (@aa _ _ _ _ _ (by rfl) (pv 2) aj))) (jk (pv 0) aq set_list) (by rfl) (by rfl) (by rfl))))))) bz)
   (@ar _ _ _ _ _ (@aK _ _ 4 _ _ _ _ (by rfl) (by first | exact .inl rfl | exact .inr rfl | assumption) S.nd rfl (Or.inl rfl) (@aD _ _ _ _ _ _ _ _ fK (@aL _ _ _ _ _ _ _ a_ (pv 0) aq (fun _ _=>rfl)) (pv 1)))
   (@ar _ _ _ _ _ (@jm _ _ _ _ _ _ (@aD _ _ _ _ _ _ _ _ AN (@aL _ _ _ _ _ _ _ a_ (pv 0) aq (fun _ _=>rfl)) (pv 1)) (jk (pv 0) aq set_list) (by rfl) (by rfl) (by rfl))
   (@ax _ _ _ (@aR _ _ _ _ (pv 4)))))),?_⟩
  have mI:=hG.seq hS
  refine ⟨_,rfl,P0,_,_,_,rfl,rfl,.of eP,rfl,_,rfl,_,_,rfl,rfl,_,rfl,bB (fun aV=>?_) (fun aV=>?_)⟩
  ·refine ⟨_,rfl,P0,_,_,_,rfl,rfl,.of eP,rfl,?_⟩
   refine ⟨_,rfl,_,rfl,P0,_,_,_,rfl,rfl,.of eP,rfl,a,ns.map V.int,rfl,.inl mI,_,_,rfl,rfl,_,rfl,bB (fun h1=>?_) (fun h1=>?_)⟩
   ·have h1:x<((ns.map V.int).length:Int):=of_decide_eq_true h1
    obtain ⟨v,hv,mv⟩:=tN (xs:=ns.map V.int) hx h1
    obtain ⟨c,_,rfl⟩:=List.mem_map.mp mv
    refine ⟨_,rfl,P0,_,_,_,rfl,rfl,.of eP,rfl,_,rfl,a,ns.map V.int,_,_,rfl,rfl,mI,hv,?_⟩
    refine ⟨_,rfl,_,_,rfl,rfl,_,rfl,P0,_,1,1,rfl,rfl,eP,rfl,?_⟩
    refine ⟨_,rfl,_,rfl,c,x,rfl,hx,fun r j4=>⟨_,rfl,P0,_,2,2,rfl,rfl,ak,rfl,?_⟩⟩
    have q0:=Int.emod_nonneg (r) (show many≠0 by omega)
    have q1:=Int.emod_lt_of_pos (r) (show 0<many by omega)
    have q2:=Int.ediv_nonneg (j4) (show 0≤many by omega)
    refine ⟨_,rfl,P0,_,_,_,rfl,rfl,.of ak,rfl,_,rfl,_,_,rfl,rfl,(show 0<many by omega),?_⟩
    refine ⟨_,rfl,P0,_,_,_,rfl,rfl,.of ak,rfl,_,rfl,_,_,rfl,rfl,⟨show 0<many by omega,mm⟩,_,rfl,P0,_,2,2,rfl,rfl,ak,rfl,?_⟩
    exact ⟨_,rfl,k _ _ q0 q1 (((au.refl H).trans au.dR).trans (au.dR.trans au.dR)) ⟨x+1,r / many,ak,by omega,q2⟩⟩
   ·refine ⟨_,rfl,P0,_,_,_,rfl,rfl,.of eP,rfl,a,ns.map V.int,rfl,.inl mI,_,_,rfl,rfl,_,rfl,?_⟩
    have mJ:=eP
    have wQ:=mI
    have sl:=ag.refl H
    refine bB (fun h2=>?_) (fun h2=>?_)
    ·have hl:0<(ns.map V.int).length:=by
      have:=of_decide_eq_true h2
      omega
     have DZ:=Int.emod_nonneg (x*7) (show ((ns.map V.int).length:Int)≠0 by omega)
     have D3:=Int.emod_lt_of_pos (x*7) (show (0:Int)<((ns.map V.int).length:Int) by omega)
     obtain ⟨v,hv,mv⟩:=tN (xs:=ns.map V.int) DZ D3
     obtain ⟨c,_,rfl⟩:=List.mem_map.mp mv
     refine ⟨_,rfl,P0,_,_,_,rfl,rfl,.of mJ,rfl,_,rfl,_,_,rfl,rfl,.inr ⟨by decide,by decide⟩,_,rfl,P0,_,_,_,rfl,rfl,.of mJ,rfl,a,ns.map V.int,rfl,.inl wQ,_,_,rfl,rfl,(show (0:Int)<((ns.map V.int).length:Int) by omega),a,ns.map V.int,_,_,rfl,rfl,wQ,hv,_,_,rfl,rfl,(show (0:Int)<1000003 by decide),_,rfl,_,_,rfl,rfl,.inr ⟨by decide,by decide⟩,_,_,rfl,rfl,?_⟩
     refine ⟨_,rfl,_,_,rfl,rfl,_,rfl,P0,_,1,1,rfl,rfl,mJ,rfl,?_⟩
     refine ⟨_,rfl,_,rfl,_,x,rfl,hx,fun r j4=>⟨_,rfl,P0,_,2,2,rfl,rfl,ak,rfl,?_⟩⟩
     have q0:=Int.emod_nonneg (r) (show many≠0 by omega)
     have q1:=Int.emod_lt_of_pos (r) (show 0<many by omega)
     have q2:=Int.ediv_nonneg (j4) (show 0≤many by omega)
     refine ⟨_,rfl,P0,_,_,_,rfl,rfl,.of ak,rfl,_,rfl,_,_,rfl,rfl,(show 0<many by omega),?_⟩
     refine ⟨_,rfl,P0,_,_,_,rfl,rfl,.of ak,rfl,_,rfl,_,_,rfl,rfl,⟨show 0<many by omega,mm⟩,_,rfl,P0,_,2,2,rfl,rfl,ak,rfl,?_⟩
     exact ⟨_,rfl,k _ _ q0 q1 (((au.of sl).trans au.dR).trans (au.dR.trans au.dR)) ⟨x+1,r / many,ak,by omega,q2⟩⟩
    ·
     refine ⟨_,rfl,_,_,rfl,rfl,_,rfl,P0,_,1,1,rfl,rfl,mJ,rfl,?_⟩
     refine ⟨_,rfl,_,rfl,0,x,rfl,hx,fun r j4=>⟨_,rfl,P0,_,2,2,rfl,rfl,ak,rfl,?_⟩⟩
     have q0:=Int.emod_nonneg (r) (show many≠0 by omega)
     have q1:=Int.emod_lt_of_pos (r) (show 0<many by omega)
     have q2:=Int.ediv_nonneg (j4) (show 0≤many by omega)
     refine ⟨_,rfl,P0,_,_,_,rfl,rfl,.of ak,rfl,_,rfl,_,_,rfl,rfl,(show 0<many by omega),?_⟩
     refine ⟨_,rfl,P0,_,_,_,rfl,rfl,.of ak,rfl,_,rfl,_,_,rfl,rfl,⟨show 0<many by omega,mm⟩,_,rfl,P0,_,2,2,rfl,rfl,ak,rfl,?_⟩
     exact ⟨_,rfl,k _ _ q0 q1 (((au.of sl).trans au.dR).trans (au.dR.trans au.dR)) ⟨x+1,r / many,ak,by omega,q2⟩⟩
  ·dsimp only [fE]
   have q0:=Int.emod_nonneg (y) (show many≠0 by omega)
   have q1:=Int.emod_lt_of_pos (y) (show 0<many by omega)
   have q2:=Int.ediv_nonneg (hy) (show 0≤many by omega)
   refine ⟨_,rfl,P0,_,_,_,rfl,rfl,.of eP,rfl,_,rfl,_,_,rfl,rfl,(show 0<many by omega),?_⟩
   refine ⟨_,rfl,P0,_,_,_,rfl,rfl,.of eP,rfl,_,rfl,_,_,rfl,rfl,⟨show 0<many by omega,mm⟩,_,rfl,P0,_,2,2,rfl,rfl,eP,rfl,?_⟩
   exact ⟨_,rfl,k _ _ q0 q1 (au.dR) ⟨x,y / many,ak,hx,q2⟩⟩
theorem D4:aY ["_law_pen","_law_some","_law_left","_law_found"] ["_law_pen","_law_some"] (aO mf):=⟨rfl,rfl,rfl,by decide +kernel,rfl,by decide +kernel,by decide +kernel⟩
theorem wR(T:Txt K mg t):aN P w K mg base bt 3 t.gw t.iu ["_law_pen","_law_some"] (Bs K):=by
 have S:=D4
 have cb:=jZ (P:=P) (w:=w) (base:=base) T
 refine T.gG.ok S (fun vs H Q E h=>?_) (fun aC A outer s H vs Q E hr h=>?_)
 ·obtain ⟨P0,a,l,ns,xs,rfl,_⟩:=h
  rfl
 ·obtain ⟨P0,a,l,ns,xs,rfl,pc,hS,nl,el,Ib,kk⟩:=h
  have eO:=hr.units
  refine ⟨_,(@ar _ _ _ _ _ (@aK _ _ 2 _ _ _ _ (by rfl) (by first | exact .inl rfl | exact .inr rfl | assumption) S.nd rfl (Or.inl rfl) (cH nK rfl T.ft boot_list (@aa _ _ _ _ _ (by rfl) (pv 1) aj)))
   (@ar _ _ _ _ _ (@aK _ _ 3 _ _ _ _ (by rfl) (by first | exact .inl rfl | exact .inr rfl | assumption) S.nd rfl (Or.inl rfl) (@bE _ _ _ _ aj))
   (@ar _ _ _ _ _ (@yv _ _ _ _ _ _ PassesOwn.never (@br _ _ _ _ _ _ _ _ (Br eO) (pv 2) (@bE _ _ _ _ aj) (aS _)) (@ax _ _ _ (dm (fb PySem.F.plainAttrs_list PySem.F.slot_list_append PySem.F.type_list_append fP (pv 3) (@aa _ _ _ _ _ (by rfl) (fb PySem.F.plainAttrs_list PySem.F.slot_list_pop PySem.F.type_list_pop zI (pv 2) (@aa _ _ _ _ _ (by rfl) (aH cb (hr.mono (by decide)) rfl T.df T.b3.kp T.de .nil a8 (@aa _ _ _ _ _ (by rfl) (pv 0) (@aa _ _ _ _ _ (by rfl) (a7 en rfl T.dE boot_len (@aa _ _ _ _ _ (by rfl) (pv 2) aj)) aj))) aj)) aj)))))
   (@ax _ _ _ (@aR _ _ _ _ (pv 3)))))),?_⟩
  refine ⟨_,rfl,l,xs,rfl,.inl (.of el),fun l1 n1=>?_⟩
  have s1:ag H (upd H l1 (.lst xs)):=aw n1
  have e1:upd H l1 (.lst xs) l1=some (.lst xs):=ak
  dsimp only [aG]
  generalize upd H l1 (.lst xs)=H1 at s1 e1 ⊢
  refine ⟨by show 0≤sizeLine;decide,fun l2 n2=>?_⟩
  have s2:ag H1 (upd H1 l2 (.lst [])):=aw n2
  have e2:upd H1 l2 (.lst []) l2=some (.lst []):=ak
  dsimp only [aG]
  generalize upd H1 l2 (.lst [])=H2 at s2 e2 ⊢
  have wU:l1≠P0:=pc.ne n1
  have mK:l2≠P0:=(pc.mono s1).ne n2
  have wV:H l2=none:=none_of s1 n2
  have wW:l1≠l2:=fun e=>by rw [e,n2] at e1;cases e1
  refine bX ⟨fun m σ Hc=>∃zs ys:List V,σ=[some (.ref P0),some (.ref l),some (.ref l1),some (.ref l2)]∧m=zs.length∧Hc l1=some (.lst zs)∧Hc l2=some (.lst ys)∧(zs++ys).Perm xs∧au P0 H Hc∧aP Hc P0 a,⟨_,xs,[],rfl,rfl,s2 _ _ e1,e2,by rw [List.append_nil],au.of (s1.trans s2),(pc.mono s1).mono s2⟩,?_⟩
  rintro m σ Hc ⟨zs,ys,rfl,rfl,ez,ey,pm,sc,p1⟩
  have lz:zs.length≤100:=by
   have:=pm.length_eq
   rw [List.length_append] at this
   omega
  have ly:ys.length≤100:=by
   have:=pm.length_eq
   rw [List.length_append] at this
   omega
  refine ⟨_,rfl,by show 0≤sizeLine;decide,fun le D5=>?_⟩
  have s3:ag Hc (upd Hc le (.lst [])):=aw D5
  have e3:upd Hc le (.lst []) le=some (.lst []):=ak
  generalize upd Hc le (.lst [])=H3 at s3 e3 ⊢
  refine ⟨l1,le,zs,rfl,rfl,.of (s3 _ _ ez),e3,_,rfl,bB (fun hz=>?_) (fun hz=>?_)⟩
  ·have z0:1≤zs.length:=by
    cases zs with
    | nil=>cases hz
    | cons=>simp
   have mH:=sc.trans (au.of s3)
   refine ⟨_,fun _ _ h=>h,?_⟩
   refine ⟨_,rfl,.inl ⟨rfl,_,.of (s3 _ _ ey)⟩,_,rfl,.inl ⟨rfl,_,.of (s3 _ _ ez)⟩,_,rfl,_,rfl,l1,zs,rfl,.inl (.of (s3 _ _ ez)),P0,a,ns,(zs.length:Int),rfl,p1.mono s3,ag.seq mH hS,by omega,bT.of_lt (by omega) (by omega),fun c H4 c0 c1 s4 p4=>?_⟩
   obtain ⟨k,rfl⟩:=Int.eq_ofNat_of_zero_le c0
   have hk:k<zs.length:=by omega
   have D6:=s4.at wU (s3 _ _ ez)
   have D7:=s4.at mK (s3 _ _ ey)
   have sx:seqIndex? (k:Int) zs.length=some k:=by
    unfold seqIndex?
    simp
    omega
   refine ⟨l1,zs,(k:Int),k,zs[k],rfl,rfl,D6,by omega,by omega,sx,by simp [hk],?_⟩
   have nn:l2≠l1:=fun e=>wW e.symm
   refine ⟨l2,ys,zs[k],rfl,rfl,by rw [ay nn];exact D7,cu (by omega),?_⟩
   refine ⟨_,?_,zs.eraseIdx k,ys++[zs[k]],rfl,rfl,by rw [ay wW,ak],ak,?_,?_,?_⟩
   ·rw [List.length_eraseIdx_of_lt hk]
    omega
   ·refine List.Perm.trans ?_ pm
    rw [←List.append_assoc]
    refine (List.perm_append_comm).trans ?_
    show (zs[k]::(zs.eraseIdx k++ys)).Perm (zs++ys)
    exact (ug zs k hk).append_right ys
   ·exact ((mH.trans s4).but n1).but wV
   ·exact ((p4.upd wU).upd mK)
  ·have z0:zs=[]:=by
    cases zs with
    | nil=>rfl
    | cons=>exact absurd rfl hz
   subst z0
   refine ⟨_,rfl,kk l2 ys H3 (sc.trans (au.of s3)) (p1.mono s3) ?_ mK (s3 _ _ ey) pm⟩
   rw [bK mK]
   exact wV
theorem D8:aY ["_law_pen","_law_way","_law_size","_law_wide","_law_i","_law_j"] ["_law_pen","_law_way","_law_size","_law_wide","_law_i","_law_j"] (aO mh):=⟨rfl,rfl,rfl,by decide +kernel,rfl,by decide +kernel,by decide +kernel⟩
theorem D9(T:Txt K mg t):aN P w K mg base bt 3 t.gx t.iw ["_law_pen","_law_way","_law_size","_law_wide","_law_i","_law_j"] (Bt K):=by
 have S:=D8
 have cb:=jZ (P:=P) (w:=w) (base:=base) T
 refine T.iR.ok S (fun vs H Q E h=>?_) (fun aC A outer s H vs Q E hr h=>?_)
 ·obtain ⟨P0,a,ns,way,size,wide,i,j,rfl,_⟩:=h
  rfl
 ·obtain ⟨P0,a,ns,way,size,wide,i,j,rfl,pc,hS,kk⟩:=h
  refine ⟨_,(@ar _ _ _ _ _ (@bp _ _ _ _ _ _ _ _ (@br _ _ _ _ _ _ _ _ cq (pv 1) aq (aS _)) (@ax _ _ _ (@aR _ _ _ _ (@dI _ _ _ _ _ _ _ _ cq (aH cb (hr.mono (by decide)) rfl T.df T.b3.kp T.de .nil a8 (@aa _ _ _ _ _ (by rfl) (pv 0) (@aa _ _ _ _ _ (by rfl) aq aj))) aq (aS _)))) bz)
   (@ar _ _ _ _ _ (@bp _ _ _ _ _ _ _ _ (@br _ _ _ _ _ _ _ _ cq (pv 1) aq (aS _)) (@ax _ _ _ (@aR _ _ _ _ (@dI _ _ _ _ _ _ _ _ cq (aH cb (hr.mono (by decide)) rfl T.df T.b3.kp T.de .nil a8 (@aa _ _ _ _ _ (by rfl) (pv 0) (@aa _ _ _ _ _ (by rfl) aq aj))) aq (aS _)))) bz)
   (@ar _ _ _ _ _ (@bp _ _ _ _ _ _ _ _ (@br _ _ _ _ _ _ _ _ cq (pv 1) aq (aS _)) (@ax _ _ _ (@aR _ _ _ _ (@dI _ _ _ _ _ _ _ _ fL (aH cb (hr.mono (by decide)) rfl T.df T.b3.kp T.de .nil a8 (@aa _ _ _ _ _ (by rfl) (pv 0) (@aa _ _ _ _ _ (by rfl) aq aj))) aq (aS _)))) bz)
   (@ar _ _ _ _ _ (@bp _ _ _ _ _ _ _ _ (@br _ _ _ _ _ _ _ _ cq (pv 1) aq (aS _)) (@ax _ _ _ (@aR _ _ _ _ (yg (@dI _ _ _ _ _ _ _ _ cq (@aD _ _ _ _ _ _ _ _ jw (pv 5) (pv 4)) aq (aS _)) (@ky _ _ _ _ _ (@dI _ _ _ _ _ _ _ _ cq (@aD _ _ _ _ _ _ _ _ jw (pv 5) (pv 4)) (@aD _ _ _ _ _ _ _ _ jw (pv 2) aq) (aS _)))))) bz)
   (@ax _ _ _ (@aR _ _ _ _ (@dI _ _ _ _ _ _ _ _ yR (@aD _ _ _ _ _ _ _ _ jw (pv 5) (pv 4)) (pv 3) (aS _)))))))),?_⟩
  refine ⟨_,rfl,rfl,_,rfl,bB (fun _=>?_) (fun _=>?_)⟩
  ·exact ⟨_,rfl,P0,a,ns,2,rfl,pc,hS,by decide,bT.of_lt (by decide) (by decide),fun c H1 _ _ s1 p1=>⟨rfl,kk _ H1 s1 p1⟩⟩
  dsimp only [fE]
  refine ⟨_,rfl,rfl,_,rfl,bB (fun _=>?_) (fun _=>?_)⟩
  ·exact ⟨_,rfl,P0,a,ns,4,rfl,pc,hS,by decide,bT.of_lt (by decide) (by decide),fun c H1 _ _ s1 p1=>⟨rfl,kk _ H1 s1 p1⟩⟩
  dsimp only [fE]
  refine ⟨_,rfl,rfl,_,rfl,bB (fun _=>?_) (fun _=>?_)⟩
  ·exact ⟨_,rfl,P0,a,ns,4,rfl,pc,hS,by decide,bT.of_lt (by decide) (by decide),fun c H1 _ _ s1 p1=>⟨_,_,rfl,rfl,kk _ H1 s1 p1⟩⟩
  dsimp only [fE]
  refine ⟨_,rfl,rfl,_,rfl,bB (fun _=>?_) (fun _=>?_)⟩
  ·refine ⟨_,rfl,_,rfl,_,_,rfl,rfl,rfl,_,rfl,bB (fun _=>?_) (fun _=>?_)⟩
   ·exact kk _ H (au.refl _) pc
   ·exact ⟨_,rfl,_,rfl,_,_,rfl,rfl,_,rfl,_,_,rfl,rfl,rfl,kk _ H (au.refl _) pc⟩
  dsimp only [fE]
  exact ⟨_,rfl,_,rfl,_,_,rfl,rfl,_,rfl,_,_,rfl,rfl,kk _ H (au.refl _) pc⟩
theorem D_:aY ["_law_size","_law_links","_law_names","_law_found","_law_i","_law_j","_law_one"] ["_law_size","_law_links","_law_names"] (aO mj):=⟨rfl,rfl,rfl,by decide +kernel,rfl,by decide +kernel,by decide +kernel⟩
theorem Ea(T:Txt K mg t):aN P w K mg base bt 3 t.gz t.iz ["_law_size","_law_links","_law_names"] Bw:=by
 have S:=D_
 refine T.iT.ok S (fun vs H Q E h=>?_) (fun aC A outer s H vs Q E hr h=>?_)
 ·obtain ⟨l,r,n,us,ws,L,nm,rfl,_⟩:=h
  rfl
 ·obtain ⟨l,r,n,us,ws,L,nm,rfl,el,hL,ok,j6,j7,lw,hw,N,kk⟩:=h
  refine ⟨_,(@ar _ _ _ _ _ (@aK _ _ 3 _ _ _ _ (by rfl) (by first | exact .inl rfl | exact .inr rfl | assumption) S.nd rfl (Or.inl rfl) (@bE _ _ _ _ aj))
   (@ar _ _ _ _ _ (b5 PassesOwn.never rfl (cp (pv 1)) (kD rfl (eR (bD (i:=4) S.nd rfl (Or.inl rfl)) (eR (bD (i:=5) S.nd rfl (Or.inl rfl)) kC)))
    (@ar _ _ _ _ _ (@aK _ _ 6 _ _ _ _ (by rfl) (by first | exact .inl rfl | exact .inr rfl | assumption) S.nd rfl (Or.inl rfl) (a7 (rL rfl) rfl T.o_ boot_min (@aa _ _ _ _ _ (by rfl) (@aL _ _ _ _ _ _ _ a_ (pv 2) (pv 4) (fun _ _=>rfl)) (@aa _ _ _ _ _ (by rfl) (@aL _ _ _ _ _ _ _ a_ (pv 2) (pv 5) (fun _ _=>rfl)) aj))))
   (@ax _ _ _ (dm (fb PySem.F.plainAttrs_list PySem.F.slot_list_append PySem.F.type_list_append fP (pv 3) (@aa _ _ _ _ _ (by rfl) (@dJ _ _ _ _ _ (@aa _ _ _ _ _ (by rfl) (pv 6) (@aa _ _ _ _ _ (by rfl) (a7 (rK rfl) rfl T.pb boot_max (@aa _ _ _ _ _ (by rfl) (@aL _ _ _ _ _ _ _ a_ (pv 2) (pv 4) (fun _ _=>rfl)) (@aa _ _ _ _ _ (by rfl) (@aL _ _ _ _ _ _ _ a_ (pv 2) (pv 5) (fun _ _=>rfl)) aj))) aj))) aj))))))
   (@ax _ _ _ (@aR _ _ _ _ (@dJ _ _ _ _ _ (@aa _ _ _ _ _ (by rfl) (pv 0) (@aa _ _ _ _ _ (by rfl) (cH nM rfl T.mz boot_tuple (@aa _ _ _ _ _ (by rfl) (a7 uf rfl T.jV PyProof.Rows.boot_sorted (@aa _ _ _ _ _ (by rfl) (pv 3) aj)) aj)) aj))))))),?_⟩
  refine ⟨by show 0≤sizeLine;decide,fun fd cx=>?_⟩
  have s0:ag H (upd H fd (.lst [])):=aw cx
  have wX:upd H fd (.lst []) fd=some (.lst []):=ak
  dsimp only [aG]
  generalize upd H fd (.lst [])=H1 at s0 wX ⊢
  refine ⟨_,rfl,l,rfl,⟨_,.of (s0 _ _ el)⟩,?_⟩
  refine jv (K:=K) (a:=l) (xs:=us) (fun k σ Hc=>∃(xs:List V) (v4 v5 v6:Option V),σ=[some (.int (n:Int)),some (.ref l),some (.ref r),some (.ref fd),v4,v5,v6]∧ag H Hc∧Hc fd=some (.lst xs)∧aE Hc xs ((L.take k).map (b8 nm))) ⟨[],_,_,_,rfl,s0,wX,aE.nil _⟩ (fun k σ Hc _ ⟨_,_,_,_,_,sc,_⟩=>.of (sc _ _ el)) ?_ ?_
  ·rintro k x σ Hc hx ⟨xs,v4,v5,v6,rfl,sc,ef,hX⟩
   have hk:k<L.length:=by
    rw [←hL.1]
    exact (List.getElem?_eq_some_iff.mp hx).1
   obtain ⟨b,rfl,eb⟩:=(hL.mono sc).2 k x L[k] hx (by simp [hk])
   have pk:=ok.lt L[k] (List.getElem_mem hk)
   have tk:(L.take (k+1)).map (b8 nm)=(L.take k).map (b8 nm)++[b8 nm L[k]]:=by
    rw [List.take_succ,List.getElem?_eq_getElem hk,List.map_append]
    rfl
   have lX:=hX.1
   rw [List.length_map,List.length_take] at lX
   have bC:L.length≤50:=Nat.le_trans ok.bC (by
    have:n*n≤10*10:=Nat.mul_le_mul j6 j6
    omega)
   generalize L[k]=p at eb pk tk
   obtain ⟨p1,p2⟩:=p
   dsimp only at pk
   obtain ⟨i,rfl⟩:=Int.eq_ofNat_of_zero_le pk.1
   obtain ⟨j,rfl⟩:=Int.eq_ofNat_of_zero_le (show 0≤p2 by omega)
   have wY:cJ ws (i:Int)=some (.int (nm i)):=e_ (hw i (by omega))
   have at2:cJ ws (j:Int)=some (.int (nm j)):=e_ (hw j (by omega))
   have mL:=sc _ _ j7
   refine ⟨b,_,rfl,.of eb,rfl,_,_,rfl,_,_,rfl,rfl,?_⟩
   refine ⟨_,rfl,_,rfl,r,ws,_,.int (nm i),rfl,rfl,.of mL,wY,_,rfl,_,rfl,r,ws,_,.int (nm j),rfl,rfl,.of mL,at2,nm i,nm j,rfl,?_⟩
   dsimp only [aG]
   refine ⟨_,rfl,.inl ⟨rfl,_,.of ef⟩,_,rfl,_,rfl,_,rfl,r,ws,_,.int (nm i),rfl,rfl,.of mL,wY,_,rfl,_,rfl,r,ws,_,.int (nm j),rfl,rfl,.of mL,at2,nm i,nm j,rfl,by show 2≤sizeLine;decide,fun tp b_=>?_⟩
   have eq:b8 nm ((i:Int),(j:Int))=(if nm j<nm i then nm j else nm i,if nm j>nm i then nm j else nm i):=by
    unfold b8
    simp only [Int.toNat_natCast]
    refine Prod.ext ?_ ?_
    ·show min (nm i) (nm j)=_
     split <;> omega
    ·show max (nm i) (nm j)=_
     split <;> omega
   have st:ag Hc (upd Hc tp (.tup [.int (if nm j<nm i then nm j else nm i),.int (if nm j>nm i then nm j else nm i)])):=aw b_
   have bQ:upd Hc tp (.tup [.int (if nm j<nm i then nm j else nm i),.int (if nm j>nm i then nm j else nm i)]) tp=some (.tup [.int (b8 nm ((i:Int),(j:Int))).1,.int (b8 nm ((i:Int),(j:Int))).2]):=by rw [ak,eq]
   generalize upd Hc tp (.tup [.int (if nm j<nm i then nm j else nm i),.int (if nm j>nm i then nm j else nm i)])=Hd at st bQ ⊢
   have cf:=st _ _ ef
   refine ⟨fd,xs,_,rfl,rfl,cf,cu (by omega),xs++[.ref tp],_,_,_,rfl,dB (sc.trans st) cx,ak,?_⟩
   rw [tk]
   exact ((hX.mono st).push bQ).a9 cf fun b o nb e=>by rw [ay nb];exact e
  ·rintro σ Hc ⟨xs,v4,v5,v6,rfl,sc,ef,hX⟩
   rw [hL.1,List.take_length] at hX
   have mM:=Bv ok N
   have lX:=hX.1
   have bC:L.length≤50:=Nat.le_trans ok.bC (by
    have:n*n≤10*10:=Nat.mul_le_mul j6 j6
    omega)
   have lM:(L.map (b8 nm)).length=L.length:=List.length_map ..
   have small:∀q∈L.map (b8 nm),0≤q.2∧q.2<1000:=fun q hq=>by
    have:=mM.lt q hq
    omega
   generalize hM:L.map (b8 nm)=M at hX mM lX lM small kk
   dsimp only
   refine ⟨_,rfl,_,rfl,fd,xs,fun i=>(M.getD i (0,0)).1,fun i=>(M.getD i (0,0)).2,rfl,ef,by omega,fun i v hv=>?_,fun p l' hp hu pI=>?_⟩
   ·have hi:i<M.length:=by
     rw [←lX]
     exact (List.getElem?_eq_some_iff.mp hv).1
    obtain ⟨b,rfl,eb⟩:=hX.2 i v M[i] hv (by simp [hi])
    dsimp only
    rw [getD_at hi]
    exact ⟨⟨b,rfl,eb⟩,small _ (List.getElem_mem hi)⟩
   rw [lX] at hp hu
   obtain ⟨pm,pw⟩:=Bu hp hu mM.nd small
   have sl:ag Hc (upd Hc l' (.lst (p.toList.map fun i=>xs.getD i .az))):=aw pI
   have hP:aE Hc (p.toList.map fun i=>xs.getD i .az) (p.toList.map fun i=>M.getD i (0,0)):=hX.pick _ fun i hi=>by
    have:p.toList.Perm (List.range M.length):=Array.perm_iff_toList_perm.mp hp
    exact List.mem_range.mp (this.mem_iff.mp hi)
   generalize (p.toList.map fun i=>xs.getD i .az)=zs at sl hP ⊢
   refine ⟨l',zs,rfl,.inl ⟨.of ak,fun lt pJ=>?_⟩⟩
   have cI:=sl.trans (aw (o:=.tup zs) pJ)
   have elt:upd (upd Hc l' (.lst zs)) lt (.tup zs) lt=some (.tup zs):=ak
   generalize upd (upd Hc l' (.lst zs)) lt (.tup zs)=Hd at cI elt ⊢
   refine ⟨by show 2≤sizeLine;decide,fun tp b_=>?_⟩
   have st:ag Hd (upd Hd tp (.tup [.int (n:Int),.ref lt])):=aw b_
   have sT:=sc.trans (cI.trans st)
   exact kk tp _ _ sT (none_of (sc.trans cI) b_) ⟨lt,zs,ak,st _ _ elt,(hP.mono cI).mono st⟩ (mM.perm pm) pw pm
theorem Eb:aY ["_law_pen","_law_size","_law_ahead","_law_found","_law_j","_law_at","_law_some"] ["_law_pen","_law_size"] (aO mi):=⟨rfl,rfl,rfl,by decide +kernel,rfl,by decide +kernel,by decide +kernel⟩
theorem Ec(T:Txt K mg t):aN P w K mg base bt 3 t.gy t.iy ["_law_pen","_law_size"] (By K):=by
 have S:=Eb
 have cb:=jZ (P:=P) (w:=w) (base:=base) T
 refine T.iS.ok S (fun vs H Q E h=>?_) (fun aC A outer s H vs Q E hr h=>?_)
 ·obtain ⟨P0,a,ns,n,rfl,_⟩:=h
  rfl
 ·obtain ⟨P0,a,ns,n,rfl,pc,hS,n1,j6,kk⟩:=h
  refine ⟨_,(@ar _ _ _ _ _ (@aK _ _ 2 _ _ _ _ (by rfl) (by first | exact .inl rfl | exact .inr rfl | assumption) S.nd rfl (Or.inl rfl) (@bE _ _ _ _ (@aa _ _ _ _ _ (by rfl) (@bE _ _ _ _ aj) aj)))
   (@ar _ _ _ _ _ (@aK _ _ 3 _ _ _ _ (by rfl) (by first | exact .inl rfl | exact .inr rfl | assumption) S.nd rfl (Or.inl rfl) (@bE _ _ _ _ aj))
   (@ar _ _ _ _ _ (b5 PassesOwn.never rfl (yF rfl T.cN (@aa _ _ _ _ _ (by rfl) aq (@aa _ _ _ _ _ (by rfl) (pv 1) aj))) (bD (i:=4) S.nd rfl (Or.inr rfl))
    (@ar _ _ _ _ _ (@aK _ _ 5 _ _ _ _ (by rfl) (by first | exact .inl rfl | exact .inr rfl | assumption) S.nd rfl (Or.inl rfl) (aH cb (hr.mono (by decide)) rfl T.df T.b3.kp T.de .nil a8 (@aa _ _ _ _ _ (by rfl) (pv 0) (@aa _ _ _ _ _ (by rfl) (pv 4) aj))))
   (@ar _ _ _ _ _ (@aK _ _ 6 _ _ _ _ (by rfl) (by first | exact .inl rfl | exact .inr rfl | assumption) S.nd rfl (Or.inl rfl) (@aD _ _ _ _ _ _ _ _ cW (@bE _ _ _ _ (@aa _ _ _ _ _ (by rfl) (pv 5) aj)) (eA (N:=["_law_i","_law_pen"]) (ρ:=(fun σ=>[σ[0]?.join])) ⟨rfl,rfl,by decide +kernel,by decide +kernel,(List.forall_mem_cons.mpr ⟨rfl,(List.forall_mem_nil _)⟩),dA (by rfl),rfl,by decide +kernel,rfl,(fun σ j v h=>match j,h with | 0,h=>⟨0,_,rfl,rfl,join_some h,Or.inr (Or.inl rfl),.inl rfl,.inl rfl⟩ | j+1,h=>by cases h),(fun _ _=>rfl)⟩ rfl (cp (@aL _ _ _ _ _ _ _ a_ (pv 2) (pv 5) (fun _ _=>rfl))) (fun s₃ H₃ fp=>(.one (@br _ _ _ _ _ _ _ _ fL (aH cb (hr.mono (by decide)) rfl T.df T.b3.kp T.de .nil a8 (@aa _ _ _ _ _ (by rfl) (pv 1) (@aa _ _ _ _ _ (by rfl) aq aj))) aq (aS _)))) (fun s₃ H₃ fp=>(pv 0)))))
   (@ar _ _ _ _ _ (@bp _ _ _ _ _ _ _ _ (@br _ _ _ _ _ _ _ _ cq (aH cb (hr.mono (by decide)) rfl T.df T.b3.kp T.de .nil a8 (@aa _ _ _ _ _ (by rfl) (pv 0) (@aa _ _ _ _ _ (by rfl) aq aj))) aq (aS _)) (@ax _ _ _ (@aK _ _ 6 _ _ _ _ (by rfl) (by first | exact .inl rfl | exact .inr rfl | assumption) S.nd rfl (Or.inl rfl) (@bE _ _ _ _ aj))) bz)
   (@ar _ _ _ _ _ (dm (fb PySem.F.plainAttrs_list PySem.F.slot_list_append PySem.F.type_list_append fP (pv 2) (@aa _ _ _ _ _ (by rfl) (pv 6) aj)))
   (@ax _ _ _ (dm (fb PySem.F.plainAttrs_list PySem.F.slot_list_extend PySem.F.type_list_extend sI (pv 3) (@aa _ _ _ _ _ (by rfl) (eA (N:=["_law_i","_law_j"]) (ρ:=(fun σ=>[σ[4]?.join])) ⟨rfl,rfl,by decide +kernel,by decide +kernel,(List.forall_mem_cons.mpr ⟨rfl,(List.forall_mem_nil _)⟩),dA (by rfl),rfl,by decide +kernel,rfl,(fun σ j v h=>match j,h with | 0,h=>⟨4,_,rfl,rfl,join_some h,Or.inr (Or.inl rfl),.inl rfl,.inl rfl⟩ | j+1,h=>by cases h),(fun _ _=>rfl)⟩ rfl (cp (pv 6)) (fun s₃ H₃ fp=>.nil) (fun s₃ H₃ fp=>(@dJ _ _ _ _ _ (@aa _ _ _ _ _ (by rfl) (pv 0) (@aa _ _ _ _ _ (by rfl) (pv 1) aj))))) aj)))))))))
   (@ax _ _ _ (@aR _ _ _ _ (pv 3)))))),?_⟩
  refine ⟨by show 0≤sizeLine;decide,fun l0 i5=>⟨by show 1≤sizeLine;decide,fun la j8=>?_⟩⟩
  have s1:ag H (upd H l0 (.lst [])):=aw i5
  have e0:upd H l0 (.lst []) l0=some (.lst []):=ak
  generalize upd H l0 (.lst [])=H1 at s1 e0 j8 ⊢
  have s2:ag H1 (upd H1 la (.lst [.ref l0])):=aw j8
  have ea:upd H1 la (.lst [.ref l0]) la=some (.lst [.ref l0]):=ak
  dsimp only [aG]
  generalize upd H1 la (.lst [.ref l0])=H2 at s2 ea ⊢
  refine ⟨by show 0≤sizeLine;decide,fun fd cx=>?_⟩
  have s3:ag H2 (upd H2 fd (.lst [])):=aw cx
  have ef:upd H2 fd (.lst []) fd=some (.lst []):=ak
  dsimp only [aG]
  generalize upd H2 fd (.lst [])=H3 at s3 ef ⊢
  have cO:=s1.trans (s2.trans s3)
  have j9:la≠P0:=(pc.mono s1).ne j8
  have cP:fd≠P0:=((pc.mono s1).mono s2).ne cx
  have Ed:l0≠P0:=pc.ne i5
  have Ee:H la=none:=none_of s1 j8
  have mO:H fd=none:=none_of (s1.trans s2) cx
  have af:la≠fd:=fun e=>by rw [e,cx] at ea;cases ea
  refine ⟨_,rfl,_,_,rfl,⟨by decide,by decide,by omega,by omega⟩,?_⟩
  rw [show ((n:Int)-1).toNat=n-1 by omega]
  refine fJ (fun k σ Hc=>∃(vs us:List V) (L:List (Int×Int)) (D:Nat→List Nat) (v4 v5 v6:Option V),σ=[some (.ref P0),some (.int (n:Int)),some (.ref la),some (.ref fd),v4,v5,v6]∧au P0 H Hc∧aP Hc P0 a∧Hc la=some (.lst vs)∧Bz (er P0 Hc) vs (k+1) D∧(∀(i:Nat) (b:Addr),vs[i]?=some (V.ref b)→b≠la∧b≠fd)∧Hc fd=some (.lst us)∧aE (er P0 Hc) us L∧eK (k+1) L) ?_ ?_ ?_
  ·refine ⟨[.ref l0],[],[],fun _=>[],_,_,_,rfl,au.of cO,pc.mono cO,s3 _ _ ea,⟨rfl,fun k hk=>⟨bP.nil k,l0,by rw [show k=0 by omega];rfl,?_⟩⟩,fun i b hb=>?_,ef,aE.nil _,eK.nil⟩
   ·rw [bK Ed]
    exact s3 _ _ (s2 _ _ e0)
   ·match i,hb with
    | 0,hb=>
     cases hb
     exact ⟨(fun e=>by rw [e,j8] at e0;cases e0),(fun e=>by rw [←e] at cx;rw [s2 _ _ e0] at cx;cases cx)⟩
    | i+1,hb=>simp at hb
  ·rintro k σ Hc hk ⟨vs,us,L,D,v4,v5,v6,rfl,sc,p1,mP,ah,ap,cf,hL,ok⟩
   refine ⟨_,rfl,_,rfl,P0,a,ns,1+(k:Int),rfl,p1,ag.seq sc hS,by omega,bT.of_lt (by omega) (by omega),fun c H4 c0 c1 s4 p4=>?_⟩
   obtain ⟨c,rfl⟩:=Int.eq_ofNat_of_zero_le c0
   have hc:c<k+1:=by omega
   obtain ⟨fc,b,Ef,j_⟩:=ah.2 c hc
   have Eg:b≠P0:=fun z=>by
    rw [z] at j_
    unfold er at j_
    rw [if_pos rfl] at j_
    cases j_
   have Eh:=ah.1
   have Ei:=sc.trans s4
   have Ej:=s4.at j9 mP
   have wZ:H4 b=some (.lst (bG (D c))):=hG _ _ (s4 _ _ j_)
   dsimp only [aG]
   simp only [List.set_cons_zero,List.set_cons_succ]
   refine ⟨_,rfl,by show 1≤sizeLine;decide,fun i8 w5=>?_⟩
   have s5:ag H4 (upd H4 i8 (.lst [.int (c:Int)])):=aw w5
   have e5:upd H4 i8 (.lst [.int (c:Int)]) i8=some (.lst [.int (c:Int)]):=ak
   have Ek:i8≠P0:=p4.ne w5
   generalize upd H4 i8 (.lst [.int (c:Int)])=H5 at s5 e5 ⊢
   have lD:(D c).length≤10:=Nat.le_trans fc.len (by omega)
   have lV:(bG (D c)).length≤10:=by unfold bG;rw [List.length_map];exact lD
   have w6:=Ei.trans (au.of s5)
   refine Bx (K:=K) (l:=b) (xs:=bG (D c)) (cu (by omega)) Eg (s5 _ _ wZ) (p4.mono s5) (fun R h=>⟨_,rfl,_,rfl,la,vs,_,.ref b,rfl,rfl,.of (s5 _ _ Ej),e_ Ef,b,rfl,⟨_,.of (s5 _ _ wZ)⟩,h⟩) (fun i x hx Hx R sx px k=>⟨_,rfl,P0,a,ns,3,rfl,px,ag.seq (w6.trans sx) hS,by decide,bT.of_lt (by decide) (by decide),fun c' H' _ _ s' p'=>⟨_,_,rfl,rfl,_,rfl,k _ H' s' p'⟩⟩) (fun x Hx R h=>⟨_,rfl,h⟩) fun D' ys Hx DK Ic sx px sub pL=>?_
   obtain ⟨e,k8,rfl⟩:=oH sub
   have fe:=(fc.sub k8).put hc
   have Ie:(bG e).length≤10:=Nat.le_trans sub.length_le lV
   refine ⟨i8,D',_,_,rfl,rfl,sx.at Ek e5,pL,Nat.le_trans (show _≤100 by simp;omega) (by decide),fun c2 n2=>?_⟩
   have s6:ag Hx (upd Hx c2 (.lst ([.int (c:Int)]++bG e))):=aw n2
   have e6:upd Hx c2 (.lst ([.int (c:Int)]++bG e)) c2=some (.lst (bG (c::e))):=ak
   have w9:=(w6.trans sx).trans (au.of s6)
   have p6:=px.mono s6
   have gN:au P0 H4 (upd Hx c2 (.lst ([.int (c:Int)]++bG e))):=(au.of s5).trans (sx.trans (au.of s6))
   have pO:c2≠P0:=px.ne n2
   have f2:er P0 Hc c2=none:=none_of (s4.trans ((au.of s5).trans sx)) (by rw [bK pO];exact n2)
   dsimp only [aG]
   generalize upd Hx c2 (.lst ([.int (c:Int)]++bG e))=H6 at s6 e6 w9 p6 gN ⊢
   simp only [List.set_cons_zero,List.set_cons_succ]
   refine bX (oE (fun σ Hy=>∃(lc:Addr) (d:List Nat),σ=[some (.ref P0),some (.int (n:Int)),some (.ref la),some (.ref fd),some (.int (1+(k:Int))),some (.int (c:Int)),some (.ref lc)]∧au P0 Hc Hy∧aP Hy P0 a∧Hy lc=some (.lst (bG d))∧bP (k+1) d∧lc≠P0∧er P0 Hc lc=none) ?_ ?_)
   ·rintro σ Hy ⟨lc,d,rfl,sy,py,i7,pP,i9,mQ⟩
    have ly:lc≠la:=fun z=>by rw [z,bK j9,mP] at mQ;cases mQ
    have lf:lc≠fd:=fun z=>by rw [z,bK cP,cf] at mQ;cases mQ
    have pQ:=sy.at j9 mP
    have El:=sy.at cP cf
    have Ig:d.length≤10:=Nat.le_trans pP.len (by omega)
    dsimp only
    refine ⟨_,rfl,.inl ⟨rfl,_,.of pQ⟩,_,rfl,la,vs,_,rfl,rfl,pQ,cu (by omega),?_⟩
    have e7:upd Hy la (.lst (vs++[.ref lc])) la=some (.lst (vs++[.ref lc])):=ak
    have k7:∀b o,b≠la→Hy b=some o→upd Hy la (.lst (vs++[.ref lc])) b=some o:=fun b o nb e=>by rw [ay nb];exact e
    have p7:=py.upd (o:=.lst (vs++[.ref lc])) j9
    have r7:=oI (P:=P0) (H:=Hy) (r:=la) (o:=.lst (vs++[.ref lc]))
    have w_:au P0 H (upd Hy la (.lst (vs++[.ref lc]))):=(sc.trans sy).but Ee
    generalize upd Hy la (.lst (vs++[.ref lc]))=H7 at e7 k7 p7 r7 w_ ⊢
    have pR:=k7 fd _ (fun z=>af z.symm) El
    have pS:=k7 lc _ ly i7
    have Em:(bG d).length=d.length:=by unfold bG;rw [List.length_map]
    refine ⟨_,rfl,.inl ⟨rfl,_,.of pR⟩,lC (xs:=bG d) (fun R h=>⟨_,rfl,lc,rfl,⟨_,.of pS⟩,h _ _ (ag.refl _) (hE (.of pS))⟩) (cu (by omega)) (fun _ i y Hz=>∃(b:Addr) (x:Nat),y=.ref b∧d[i]?=some x∧Hz b=some (.tup [.int (x:Int),.int (1+(k:Int))])) (fun Dd i y Ha Hb ys ⟨b,x,h1,h2,h3⟩ e f=>⟨b,x,h1,h2,f b _ (fun z=>by rw [z,e] at h3;cases h3) h3⟩) ?_ ?_⟩
    ·intro Dd i x hx Hz R sz _ kz
     obtain ⟨y,hy,rfl⟩:=BA hx
     refine ⟨_,rfl,_,rfl,by show 2≤sizeLine;decide,fun tp b_=>?_⟩
     exact kz _ _ (aw b_) ⟨tp,y,rfl,hy,ak⟩
    ·intro Dd zs H8 wN s8 Eo Ep jX
     have lL:=hL.1
     have l2:us.length≤50:=by
      have:=ok.bC
      have:(k+1)*(k+1-1)≤10*10:=Nat.mul_le_mul (by omega) (by omega)
      omega
     refine ⟨fd,Dd,us,zs,rfl,rfl,s8 _ _ pR,jX,Nat.le_trans (show _≤100 by omega) (by decide),?_⟩
     have k9:∀b o,b≠fd→H8 b=some o→upd H8 fd (.lst (us++zs)) b=some o:=fun b o nb e=>by rw [ay nb];exact e
     have p8:=p7.mono s8
     have r9:=oI (P:=P0) (H:=H8) (r:=fd) (o:=.lst (us++zs))
     have xa:er P0 H8 fd=some (.lst us):=by rw [bK cP];exact s8 _ _ pR
     have Er:er P0 Hy la=some (.lst vs):=by rw [bK j9];exact pQ
     refine ⟨vs++[.ref lc],us++zs,L++d.map fun(x:Nat)=>((x:Int),((k+1:Nat):Int)),fun i=>if i=k+1 then d else D i,_,_,_,rfl,(w_.trans (au.of s8)).but mO,p8.upd cP,k9 la _ af (s8 _ _ e7),⟨by simp [Eh],fun i hi=>?_⟩,fun i b' ka=>?_,ak,?_,ok.more pP⟩
     ·dsimp only
      by_cases z:i=k+1
      ·subst z
       rw [if_pos rfl]
       refine ⟨pP,lc,by rw [List.getElem?_append_right (by omega),show k+1-vs.length=0 by omega];rfl,?_⟩
       exact r9 _ _ lf (by rw [bK i9];exact s8 _ _ pS)
      ·rw [if_neg z]
       obtain ⟨f1,b1,v1,h1⟩:=ah.2 i (by omega)
       obtain ⟨a1,a2⟩:=ap i b1 v1
       refine ⟨f1,b1,by rw [List.getElem?_append_left (by omega)];exact v1,?_⟩
       exact r9 _ _ a2 (lE s8 _ _ (r7 _ _ a1 (sy _ _ h1)))
     ·by_cases z:i<vs.length
      ·rw [List.getElem?_append_left z] at ka
       exact ap i b' ka
      ·have dD:=(List.getElem?_eq_some_iff.mp ka).1
       rw [List.length_append,List.length_singleton] at dD
       rw [List.getElem?_append_right (by omega),show i-vs.length=0 by omega] at ka
       cases ka
       exact ⟨ly,lf⟩
     ·refine aE.cat ?_ ?_
      ·exact (((hL.mono sy).a9 Er r7).mono (lE s8)).a9 xa r9
      ·refine aE.a9 (H:=er P0 H8) ⟨by rw [Eo,Em,List.length_map],fun i v p h1 h2=>?_⟩ xa r9
       obtain ⟨b',x,rfl,hx,e'⟩:=Ep i v h1
       rw [List.getElem?_map,hx] at h2
       cases h2
       refine ⟨b',rfl,?_⟩
       rw [show (((k+1:Nat):Int))=1+(k:Int) by omega]
       exact jQ p8 e'
   ·intro R hR
    refine ⟨_,rfl,P0,a,ns,9,rfl,p6,ag.seq w9 hS,by decide,bT.of_lt (by decide) (by decide),fun c' H7 _ _ s7 p7=>⟨rfl,_,rfl,bB (fun _=>?_) (fun _=>?_)⟩⟩
    ·refine ⟨by show 0≤sizeLine;decide,fun lc i9=>?_⟩
     have nP:=p7.ne i9
     have xb:=s4.trans (gN.trans s7)
     exact hR _ _ ⟨lc,[],rfl,xb.trans (au.of (aw i9)),p7.mono (aw i9),ak,bP.nil _,nP,none_of xb (by rw [bK nP];exact i9)⟩
    ·exact hR _ _ ⟨c2,c::e,rfl,s4.trans (gN.trans s7),p7,s7.at pO e6,fe,pO,f2⟩
  ·rintro σ Hc ⟨vs,us,L,D,v4,v5,v6,rfl,sc,p1,mP,ah,ap,cf,hL,ok⟩
   rw [show n-1+1=n by omega] at ok
   exact ⟨_,rfl,kk fd us L Hc sc p1 (by rw [bK cP];exact mO) cP cf hL ok.ok⟩
theorem Es:aY ["_law_pen","_law_most","_law_size","_law_way","_law_wide","_law_links","_law_j","_law_i"] ["_law_pen","_law_most"] (aO ml):=⟨rfl,rfl,rfl,by decide +kernel,rfl,by decide +kernel,by decide +kernel⟩
theorem Et(T:Txt K mg t):aN P w K mg base bt 4 t.gA t.iA ["_law_pen","_law_most"] (BE K):=by
 have S:=Es
 have cb:=jZ (P:=P) (w:=w) (base:=base) T
 have Eu:=D9 (P:=P) (w:=w) (base:=base) T
 have Ew:=Ec (P:=P) (w:=w) (base:=base) T
 have pU:=wR (P:=P) (w:=w) (base:=base) T
 have Ex:=Ea (P:=P) (w:=w) (base:=base) T
 refine T.iU.ok S (fun vs H Q E h=>?_) (fun aC A outer s H vs Q E hr h=>?_)
 ·obtain ⟨P0,a,ns,most,rfl,_⟩:=h
  rfl
 ·obtain ⟨P0,a,ns,most,rfl,pc,hS,m1,Ih,kk⟩:=h
  refine ⟨_,(@ar _ _ _ _ _ (@aK _ _ 2 _ _ _ _ (by rfl) (by first | exact .inl rfl | exact .inr rfl | assumption) S.nd rfl (Or.inl rfl) (@aD _ _ _ _ _ _ _ _ cU aq (aH cb (hr.mono (by decide)) rfl T.df T.b3.kp T.de .nil a8 (@aa _ _ _ _ _ (by rfl) (pv 0) (@aa _ _ _ _ _ (by rfl) (pv 1) aj)))))
   (@ar _ _ _ _ _ (@aK _ _ 3 _ _ _ _ (by rfl) (by first | exact .inl rfl | exact .inr rfl | assumption) S.nd rfl (Or.inl rfl) (aH cb (hr.mono (by decide)) rfl T.df T.b3.kp T.de .nil a8 (@aa _ _ _ _ _ (by rfl) (pv 0) (@aa _ _ _ _ _ (by rfl) aq aj))))
   (@ar _ _ _ _ _ (@aK _ _ 4 _ _ _ _ (by rfl) (by first | exact .inl rfl | exact .inr rfl | assumption) S.nd rfl (Or.inl rfl) (aH cb (hr.mono (by decide)) rfl T.df T.b3.kp T.de .nil a8 (@aa _ _ _ _ _ (by rfl) (pv 0) (@aa _ _ _ _ _ (by rfl) (pv 2) aj))))
   (@ar _ _ _ _ _ (@aK _ _ 5 _ _ _ _ (by rfl) (by first | exact .inl rfl | exact .inr rfl | assumption) S.nd rfl (Or.inl rfl) (@bE _ _ _ _ aj))
   (@ar _ _ _ _ _ (b5 PassesOwn.never rfl (fI rfl T.cN (@aa _ _ _ _ _ (by rfl) (pv 2) aj)) (bD (i:=6) S.nd rfl (Or.inl rfl))
    (@ax _ _ _ (b5 PassesOwn.never rfl (fI rfl T.cN (@aa _ _ _ _ _ (by rfl) (pv 6) aj)) (bD (i:=7) S.nd rfl (Or.inl rfl))
    (@ax _ _ _ (@bp _ _ _ _ _ _ _ _ (gW (aH Eu (hr.mono (by decide)) rfl T.vw T.iR.kp T.vv .nil a8 (@aa _ _ _ _ _ (by rfl) (pv 0) (@aa _ _ _ _ _ (by rfl) (pv 3) (@aa _ _ _ _ _ (by rfl) (pv 2) (@aa _ _ _ _ _ (by rfl) (pv 4) (@aa _ _ _ _ _ (by rfl) (pv 7) (@aa _ _ _ _ _ (by rfl) (pv 6) aj)))))))) (@ax _ _ _ (dm (fb PySem.F.plainAttrs_list PySem.F.slot_list_append PySem.F.type_list_append fP (pv 5) (@aa _ _ _ _ _ (by rfl) (@dJ _ _ _ _ _ (@aa _ _ _ _ _ (by rfl) (pv 7) (@aa _ _ _ _ _ (by rfl) (pv 6) aj))) aj)))) bz)))))
   (@ar _ _ _ _ _ (@bp _ _ _ _ _ _ _ _ (@br _ _ _ _ _ _ _ _ cq (pv 3) aq (aS _)) (@ax _ _ _ (@aK _ _ 5 _ _ _ _ (by rfl) (by first | exact .inl rfl | exact .inr rfl | assumption) S.nd rfl (Or.inl rfl) (aH Ew (hr.mono (by decide)) rfl T.vy T.iS.kp T.vx .nil a8 (@aa _ _ _ _ _ (by rfl) (pv 0) (@aa _ _ _ _ _ (by rfl) (pv 2) aj))))) bz)
   (@ax _ _ _ (@aR _ _ _ _ (aH Ex (hr.mono (by decide)) rfl T.vA T.iT.kp T.vz .nil a8 (@aa _ _ _ _ _ (by rfl) (pv 2) (@aa _ _ _ _ _ (by rfl) (pv 5) (@aa _ _ _ _ _ (by rfl) (aH pU (hr.mono (by decide)) rfl T.o4 T.gG.kp T.oZ .nil a8 (@aa _ _ _ _ _ (by rfl) (pv 0) (@aa _ _ _ _ _ (by rfl) (cH (om rfl) rfl T.ft boot_list (@aa _ _ _ _ _ (by rfl) (cH lp rfl T.cN lq (@aa _ _ _ _ _ (by rfl) (pv 2) aj)) aj)) aj))) aj)))))))))))),?_⟩
  refine ⟨_,rfl,_,rfl,P0,a,ns,(most:Int),rfl,pc,hS,by omega,bT.of_lt (by omega) (by omega),fun c H1 c0 c1 s1 p1=>⟨_,_,rfl,rfl,?_⟩⟩
  obtain ⟨c,rfl⟩:=Int.eq_ofNat_of_zero_le c0
  dsimp only [aG]
  rw [show 1+(c:Int)=((c+1:Nat):Int) by omega]
  have n1:1≤c+1:=by omega
  have nm:c+1≤most:=by omega
  generalize c+1=n at n1 nm ⊢
  have kd:aF K (er P0 H1) a (ns.map V.int):=ag.seq s1 hS
  refine ⟨_,rfl,P0,a,ns,6,rfl,p1,kd,by decide,bT.of_lt (by decide) (by decide),fun way H2 _ _ s2 p2=>?_⟩
  have i3:=s1.trans s2
  dsimp only [aG]
  refine ⟨_,rfl,_,rfl,P0,a,ns,(n:Int),rfl,p2,ag.seq i3 hS,by omega,bT.of_lt (by omega) (by omega),fun wide H3 _ _ s3 p3=>?_⟩
  have cO:=i3.trans s3
  dsimp only [aG]
  refine ⟨by show 0≤sizeLine;decide,fun fd cx=>?_⟩
  have s4:ag H3 (upd H3 fd (.lst [])):=aw cx
  have ef:upd H3 fd (.lst []) fd=some (.lst []):=ak
  dsimp only [aG]
  generalize upd H3 fd (.lst [])=H4 at s4 ef ⊢
  have i4:=cO.trans (au.of s4)
  have p4:=p3.mono s4
  have cP:fd≠P0:=p3.ne cx
  have xc:er P0 H fd=none:=none_of cO (by rw [bK cP];exact cx)
  have mO:H fd=none:=by rw [bK cP] at xc;exact xc
  refine ⟨_,rfl,(n:Int),rfl,by omega,by omega,?_⟩
  rw [Int.toNat_natCast]
  refine fJ (fun j σ Hc=>∃(us:List V) (L:List (Int×Int)) (v6 v7:Option V),σ=[some (.ref P0),some (.int (most:Int)),some (.int (n:Int)),some (.int way),some (.int wide),some (.ref fd),v6,v7]∧au P0 H Hc∧aP Hc P0 a∧Hc fd=some (.lst us)∧aE (er P0 Hc) us L∧bY j 0 L) ⟨[],[],_,_,rfl,i4,p4,ef,aE.nil _,bY.start⟩ ?_ ?_
  ·rintro j σ Hc hj ⟨us,L,v6,v7,rfl,sc,p5,cf,hL,ok⟩
   dsimp only [aG]
   simp only [List.set_cons_zero,List.set_cons_succ]
   refine ⟨_,rfl,(j:Int),by rw [Int.zero_add],by omega,by omega,?_⟩
   rw [Int.toNat_natCast]
   refine fJ (fun i σ Hd=>∃(us:List V) (L:List (Int×Int)) (v7:Option V),σ=[some (.ref P0),some (.int (most:Int)),some (.int (n:Int)),some (.int way),some (.int wide),some (.ref fd),some (.int (0+(j:Int))),v7]∧au P0 H Hd∧aP Hd P0 a∧Hd fd=some (.lst us)∧aE (er P0 Hd) us L∧bY j i L) ⟨us,L,_,rfl,sc,p5,cf,hL,ok⟩ ?_ ?_
   ·rintro i σ Hd hi ⟨us,L,v7,rfl,sd,p6,cf,hL,ok⟩
    refine ⟨_,rfl,_,rfl,_,rfl,_,rfl,_,rfl,_,rfl,P0,a,ns,way,(n:Int),wide,0+(i:Int),0+(j:Int),rfl,p6,ag.seq sd hS,fun b He se pe=>?_⟩
    have pV:=se.at cP cf
    have xf:=hL.mono se
    have lL:=hL.1
    have l2:us.length≤100:=by
     have:=ok.bC
     have:j*(j-1)≤10*10:=Nat.mul_le_mul (by omega) (by omega)
     omega
    cases b with
    | true=>
     refine ⟨true,rfl,jD ?_⟩
     refine ⟨_,rfl,.inl ⟨rfl,_,.of pV⟩,_,rfl,_,rfl,by show 2≤sizeLine;decide,fun tp b_=>?_⟩
     have st:ag He (upd He tp (.tup [.int (0+(i:Int)),.int (0+(j:Int))])):=aw b_
     have et:upd He tp (.tup [.int (0+(i:Int)),.int (0+(j:Int))]) tp=some (.tup [.int (i:Int),.int (j:Int)]):=by rw [ak,Int.zero_add,Int.zero_add]
     generalize upd He tp (.tup [.int (0+(i:Int)),.int (0+(j:Int))])=Hf at st et ⊢
     have pf:=pe.mono st
     have xg:=st _ _ pV
     refine ⟨fd,us,_,rfl,rfl,xg,cu (by omega),us++[.ref tp],L++[((i:Int),(j:Int))],_,rfl,((sd.trans se).trans (au.of st)).but mO,pf.upd cP,ak,?_,ok.push hi⟩
     refine aE.a9 (H:=er P0 Hf) ((xf.mono (lE st)).push (jQ pf et)) (by rw [bK cP];exact xg) oI
    | false=>
     exact ⟨false,rfl,kW ⟨us,L,_,rfl,sd.trans se,pe,pV,xf,ok.skip⟩⟩
   ·rintro σ Hd ⟨us,L,v7,rfl,sd,p6,cf,hL,ok⟩
    exact ⟨us,L,_,_,rfl,sd,p6,cf,hL,ok.next⟩
  ·rintro σ Hc ⟨us,L,v6,v7,rfl,sc,p5,cf,hL,ok⟩
   dsimp only
   refine bX (oE (fun σ Hy=>∃(lk:Addr) (us:List V) (L:List (Int×Int)),σ=[some (.ref P0),some (.int (most:Int)),some (.int (n:Int)),some (.int way),some (.int wide),some (.ref lk),v6,v7]∧au P0 H Hy∧aP Hy P0 a∧lk≠P0∧Hy lk=some (.lst us)∧aE (er P0 Hy) us L∧cY n L) ?_ ?_)
   ·rintro σ Hy ⟨lk,us,L,rfl,sy,py,Ey,Ez,hL,ok⟩
    dsimp only
    refine ⟨_,rfl,_,rfl,_,rfl,_,rfl,(n:Int),rfl,fun pr EA=>?_⟩
    have s6:ag Hy (upd Hy pr (.cj 0 (n:Int))):=aw EA
    refine ⟨pr,n,rfl,ak,by omega,fun l0 n0=>?_⟩
    have s7:=s6.trans (aw (o:=.lst (ba n)) n0)
    have e0:upd (upd Hy pr (.cj 0 (n:Int))) l0 (.lst (ba n)) l0=some (.lst (ba n)):=ak
    have i5:l0≠P0:=(py.mono s6).ne n0
    generalize upd (upd Hy pr (.cj 0 (n:Int))) l0 (.lst (ba n))=Hz at s7 e0 ⊢
    have lu:(ba n).length=n:=by unfold ba;simp
    refine ⟨P0,a,l0,ns,ba n,rfl,py.mono s7,ag.seq (sy.trans (au.of s7)) hS,i5,e0,by omega,fun r ys Hw sw pw fr nr j7 pm=>?_⟩
    obtain ⟨EB,ly,hy,NO⟩:=BC pm
    have mR:=(au.of s7).trans sw
    refine ⟨lk,r,n,us,ys,L,EB,rfl,mR.at Ey Ez,(hL.mono mR).mono hG,ok,by omega,j7,ly,hy,NO,fun tt L' Hv sv xh sh pW EC Ii=>?_⟩
    have nt:tt≠P0:=pw.ne xh
    exact kk tt n L' Hv ((sy.trans mR).trans (au.of sv)) (pw.mono sv) (none_of (sy.trans mR) (by rw [bK nt];exact xh)) nt (sh.er (pw.mono sv)) pW EC n1 nm
   ·intro R hR
    refine ⟨_,rfl,rfl,_,rfl,bB (fun _=>?_) (fun _=>?_)⟩
    ·refine ⟨_,rfl,_,rfl,P0,a,ns,n,rfl,p5,ag.seq sc hS,n1,by omega,fun r jT L' Hy sy py fr nr j7 ED pW=>?_⟩
     exact hR _ _ ⟨r,jT,L',rfl,sc.trans sy,py,nr,j7,ED,pW⟩
    ·exact hR _ _ ⟨fd,us,L,rfl,sc,p5,cP,cf,hL,ok.ok⟩
theorem EE:aY ["_law_way","_law_shape","_law_order"] ["_law_way","_law_shape","_law_order"] (aO mn):=⟨rfl,rfl,rfl,by decide +kernel,rfl,by decide +kernel,by decide +kernel⟩
theorem xi(T:Txt K mg t):aN P w K mg base (bO P w) 7 t.gB t.iB ["_law_way","_law_shape","_law_order"] (CS t.aA):=by
 have S:=EE
 have pK:=wL (P:=P) (w:=w) (base:=base) T
 have jW:=ph (P:=P) (w:=w) (base:=base) T
 have pN:=wO (P:=P) (w:=w) (base:=base) T
 have EF:=DD (P:=P) (w:=w) (base:=base) T
 have EG:=DR (P:=P) (w:=w) (base:=base) T
 refine T.gH.fg S (fun vs H Q E h=>?_) (fun aC A outer s H vs Q E hr h L=>?_)
 ·obtain ⟨wy,tp,a,n,Lk,zs,rfl,_⟩:=h
  rfl
 ·obtain ⟨wy,tp,a,n,Lk,zs,rfl,hS,hL,n9,ea,bx,kE,kk⟩:=h
  refine ⟨_,(@ar _ _ _ _ _ (@bp _ _ _ _ _ _ _ _ (@br _ _ _ _ _ _ _ _ cq (pv 0) aq (aS _)) (@ax _ _ _ (@aR _ _ _ _ (aH pK (hr.mono (by decide)) rfl T.oW T.gE.kp T.oV .nil (dy L) (@aa _ _ _ _ _ (by rfl) (pv 1) (@aa _ _ _ _ _ (by rfl) (pv 2) aj))))) bz)
   (@ar _ _ _ _ _ (@bp _ _ _ _ _ _ _ _ (@br _ _ _ _ _ _ _ _ cq (pv 0) aq (aS _)) (@ax _ _ _ (@aR _ _ _ _ (aH jW (hr.mono (by decide)) rfl T.my T.fq.kp T.mx .nil (dy L) (@aa _ _ _ _ _ (by rfl) (pv 1) (@aa _ _ _ _ _ (by rfl) (pv 2) aj))))) bz)
   (@ar _ _ _ _ _ (@bp _ _ _ _ _ _ _ _ (@br _ _ _ _ _ _ _ _ cq (pv 0) aq (aS _)) (@ax _ _ _ (@aR _ _ _ _ (aH pN (hr.mono (by decide)) rfl T.oY T.gF.kp T.oX .nil (dy L) (@aa _ _ _ _ _ (by rfl) (pv 1) (@aa _ _ _ _ _ (by rfl) (pv 2) aj))))) bz)
   (@ar _ _ _ _ _ (@bp _ _ _ _ _ _ _ _ (@br _ _ _ _ _ _ _ _ cq (pv 0) aq (aS _)) (@ax _ _ _ (@aR _ _ _ _ (aH EF (hr.mono (by decide)) rfl T.vp T.iP.kp T.vo .nil (dy L) (@aa _ _ _ _ _ (by rfl) (pv 1) (@aa _ _ _ _ _ (by rfl) (pv 2) aj))))) bz)
   (@ax _ _ _ (@aR _ _ _ _ (aH EG (hr.mono (by decide)) rfl T.vn T.iO.kp T.vm .nil (dy L) (@aa _ _ _ _ _ (by rfl) (pv 1) (@aa _ _ _ _ _ (by rfl) (pv 2) (@aa _ _ _ _ _ (by rfl) uC aj)))))))))),?_⟩
  refine ⟨_,rfl,rfl,_,rfl,bB (fun _=>?_) (fun _=>?_)⟩
  ·exact ⟨_,rfl,_,rfl,tp,a,n,Lk,zs,rfl,hS,hL,n9,ea,bx,kE,fun yes H1 v s1 _=>kk yes _ _ s1⟩
  refine ⟨_,rfl,rfl,_,rfl,bB (fun _=>?_) (fun _=>?_)⟩
  ·exact ⟨_,rfl,_,rfl,tp,a,n,Lk,zs,rfl,hS,hL,by omega,ea,bx,kE,fun o ez ho H1 D rs g s1 _ _ _ _=>kk (by rw [ez];exact ho.map iN) _ _ s1⟩
  refine ⟨_,rfl,rfl,_,rfl,bB (fun _=>?_) (fun _=>?_)⟩
  ·exact ⟨_,rfl,_,rfl,tp,a,n,Lk,zs,rfl,hS,hL,n9,ea,bx,kE,fun yes H1 v s1 _=>kk yes _ _ s1⟩
  refine ⟨_,rfl,rfl,_,rfl,bB (fun _=>?_) (fun _=>?_)⟩
  ·exact ⟨_,rfl,_,rfl,tp,a,n,Lk,zs,rfl,hS,hL,n9,ea,bx,kE,fun yes H1 v s1 _=>kk yes _ _ s1⟩
  refine ⟨_,rfl,_,rfl,fun q nq=>?_⟩
  have sq:ag H (upd H q (.dK [])):=aw nq
  exact ⟨tp,a,q,n,Lk,zs,rfl,hS.mono sq,hL,n9,sq _ _ ea,bx,ak,fun no H1 s1=>kE no H1 (sq.trans s1),fun yes H1 s1=>kk yes _ _ (sq.trans s1)⟩
theorem Txt.pX{K:PySem.W.Frag}{mg:Str→Option Value}{t:mw}(T:Txt K mg t):eo K t.aA:=⟨T.wg,T.wj,T.wk,T.wm,T.wo,T.wq⟩
theorem EH:aY ["_law_way","_law_shape","_law_order","_law_handed","_law_found","e","_law_others"] ["_law_way","_law_shape","_law_order"] (aO mq):=⟨rfl,rfl,rfl,by decide +kernel,rfl,by decide +kernel,by decide +kernel⟩
theorem EI(T:Txt K mg t):aN P w K mg base bt 8 t.gC t.iC ["_law_way","_law_shape","_law_order"] CT:=by
 have S:=EH
 have pY:=xi (P:=P) (w:=w) (base:=base) T
 refine T.iV.ok S (fun vs H0 Q E h=>?_) (fun aC A outer s H0 vs Q E hr h=>?_)
 ·obtain ⟨wy,tp,a,n,Lk,zs,rfl,_⟩:=h
  rfl
 ·obtain ⟨wy,EJ,a,n,Lk,zs,rfl,hS,hL,n9,ea,bx,bad,k0⟩:=h
  have eO:=hr.units
  refine ⟨_,(@ar _ _ _ _ _ (@aK _ _ 3 _ _ _ _ (by rfl) (by first | exact .inl rfl | exact .inr rfl | assumption) S.nd rfl (Or.inl rfl) (cH nK rfl T.ft boot_list (@aa _ _ _ _ _ (by rfl) (pv 2) aj)))
   (@ar _ _ _ _ _ (@aK _ _ 4 _ _ _ _ (by rfl) (by first | exact .inl rfl | exact .inr rfl | assumption) S.nd rfl (Or.inl rfl) d8)
   (@ar _ _ _ _ _ (Ar rfl rfl S.nd (i:=5) rfl rfl (Aj (Ah pY (hr.mono (by decide)) rfl T.o6 T.gH.kp T.o5 .nil (@aa _ _ _ _ _ (by rfl) (pv 0) (@aa _ _ _ _ _ (by rfl) (pv 1) (@aa _ _ _ _ _ (by rfl) (pv 3) aj)))))
    (fun ea=>(@ar _ _ _ _ _ (@aK _ _ 6 _ _ _ _ (by rfl) (by first | exact .inl rfl | exact .inr rfl | assumption) S.nd rfl (Or.inl rfl) (a7 (BH (K:=K)) rfl T.gI boot_isinstance (@aa _ _ _ _ _ (by rfl) (pv 5) (@aa _ _ _ _ _ (by rfl) (@dJ _ _ _ _ _ (@aa _ _ _ _ _ (by rfl) (d9 (v:=.ref _) rfl T.vJ rfl) (@aa _ _ _ _ _ (by rfl) (d9 (v:=.ref _) rfl T.vL rfl) (@aa _ _ _ _ _ (by rfl) (d9 (v:=.ref _) rfl T.vH rfl) (@aa _ _ _ _ _ (by rfl) (d9 (v:=.ref _) rfl T.vK rfl) (@aa _ _ _ _ _ (by rfl) (d9 (v:=.ref _) rfl T.o8 rfl) (@aa _ _ _ _ _ (by rfl) (d9 (v:=.ref _) rfl T.vG rfl) (@aa _ _ _ _ _ (by rfl) (d9 (v:=.ref _) rfl T.vM rfl) aj)))))))) aj))))
   (@ax _ _ _ (@aK _ _ 4 _ _ _ _ (by rfl) (by first | exact .inl rfl | exact .inr rfl | assumption) S.nd rfl (Or.inl rfl) (@kA _ _ _ _ _ _ _ (a7 (jF (K:=K)) rfl T.gI boot_isinstance (@aa _ _ _ _ _ (by rfl) (pv 5) (@aa _ _ _ _ _ (by rfl) (d9 (v:=.ref _) rfl T.o7 rfl) aj))) (@kA _ _ _ _ _ _ _ (a7 (jF (K:=K)) rfl T.gI boot_isinstance (@aa _ _ _ _ _ (by rfl) (pv 5) (@aa _ _ _ _ _ (by rfl) (kx (v:=.ty "ValueError") rfl T.vR AK rfl) aj))) (@ky _ _ _ _ _ (@rk _ _ _ _ (pv 6))))))))) rfl T.vI T.vU PySem.F.excBase_ValueError.hasBase)
   (@ax _ _ _ (@aR _ _ _ _ (@kA _ _ _ _ _ _ _ (pv 4) (@ky _ _ _ _ _ (@dI _ _ _ _ _ _ _ _ (uH eO) (pv 3) (pv 2) (aS _))))))))),?_⟩
  refine ⟨_,rfl,a,_,rfl,.inl (.of ea),fun hd EK=>?_⟩
  have sh:ag H0 (upd H0 hd (.lst (zs.map V.int))):=aw EK
  have eh:upd H0 hd (.lst (zs.map V.int)) hd=some (.lst (zs.map V.int)):=ak
  generalize upd H0 hd (.lst (zs.map V.int))=Hh at sh eh ⊢
  dsimp only [aG]
  refine ⟨_,rfl,_,rfl,_,rfl,wy,EJ,hd,n,Lk,zs,rfl,hS.mono sh,hL,n9,eh,bx,fun _ H xj=>⟨_,rfl,⟨T.pd,T.vV⟩,fun bM EL=>?_⟩,fun e=>absurd e bad⟩
  have s0:=sh.trans xj
  have ty:fR K (upd H bM (dw bM t.aA)) (.ref bM) (.ref t.aA):=.exc ak T.pX
  have sx:ag H (upd H bM (dw bM t.aA)):=aw EL
  have pZ:upd H bM (dw bM t.aA) bM=some (dw bM t.aA):=ak
  generalize upd H bM (dw bM t.aA)=H1 at ty sx pZ ⊢
  refine ⟨_,rfl,by show 7≤sizeLine;decide,fun tp b_=>?_⟩
  have st:ag H1 (upd H1 tp (.tup [.ref t.dY,.ref t.d0,.ref t.dX,.ref t.dZ,.ref t.dc,.ref t.dW,.ref t.d5])):=aw b_
  refine ⟨bM,t.aA,tp,[t.dY,t.d0,t.dX,t.dZ,t.dc,t.dW,t.d5],rfl,st _ _ pZ,T.pX,ak,fun c hc=>?_,?_⟩
  ·rcases List.mem_cons.mp hc with rfl | hc
   ·exact T.v_
   rcases List.mem_cons.mp hc with rfl | hc
   ·exact T.wd
   rcases List.mem_cons.mp hc with rfl | hc
   ·exact T.vZ
   rcases List.mem_cons.mp hc with rfl | hc
   ·exact T.wa
   rcases List.mem_cons.mp hc with rfl | hc
   ·exact T.wc
   rcases List.mem_cons.mp hc with rfl | hc
   ·exact T.vY
   rw [List.mem_singleton.mp hc]
   exact T.we
  have p9:fR K (upd H1 tp (.tup [.ref t.dY,.ref t.d0,.ref t.dX,.ref t.dZ,.ref t.dc,.ref t.dW,.ref t.d5])) (.ref bM) (.ref t.aA):=.exc (st _ _ pZ) T.pX
  have s3:=s0.trans (sx.trans st)
  have e3:=st _ _ (sx _ _ (xj _ _ eh))
  generalize upd H1 tp (.tup [.ref t.dY,.ref t.d0,.ref t.dX,.ref t.dZ,.ref t.dc,.ref t.dW,.ref t.d5])=H2 at st p9 s3 e3 ⊢
  dsimp only [aG]
  refine ⟨_,rfl,_,_,_,true,rfl,rfl,p9,T.vX,true,rfl,jD ?_⟩
  refine ⟨_,rfl,_,_,_,true,rfl,rfl,p9,T.vW,true,rfl,jD ?_⟩
  refine ⟨_,rfl,_,rfl,_,rfl,true,rfl,jD ?_⟩
  refine ⟨_,rfl,_,rfl,hd,a,zs,zs,rfl,rfl,.of e3,.of (s3 _ _ ea),?_⟩
  rw [decide_eq_true rfl]
  exact k0 H2 s3
theorem EM:aY ["script","_law_pen","_law_k","_law_shape","_law_order","_law_at","_law_front","_law_back","_law_bad","_law_some","_law_way"] ["script"] (aO mr):=⟨rfl,rfl,rfl,by decide +kernel,rfl,by decide +kernel,by decide +kernel⟩
theorem EN(T:Txt K mg t):aN P w K mg base bt 9 t.fm t.gD ["script"] (lB K):=by
 have S:=EM
 have cb:=jZ (P:=P) (w:=w) (base:=base) T
 have EO:=Et (P:=P) (w:=w) (base:=base) T
 have pU:=wR (P:=P) (w:=w) (base:=base) T
 have ER:=EI (P:=P) (w:=w) (base:=base) T
 have pY:=xi (P:=P) (w:=w) (base:=base) T
 refine T.iW.ok S (fun vs H Q E h=>?_) (fun aC A outer s H vs Q E hr h=>?_)
 ·obtain ⟨a,ns,rfl,_⟩:=h
  rfl
 ·obtain ⟨a,ns,rfl,hS,hlen,kQ⟩:=h
  have eO:=hr.units
  have hu:=hr.yY
  refine ⟨_,(@ar _ _ _ _ _ (@aK _ _ 1 _ _ _ _ (by rfl) (by first | exact .inl rfl | exact .inr rfl | assumption) S.nd rfl (Or.inl rfl) (@bE _ _ _ _ (@aa _ _ _ _ _ (by rfl) (pv 0) (@aa _ _ _ _ _ (by rfl) aq (@aa _ _ _ _ _ (by rfl) aq aj)))))
   (@ar _ _ _ _ _ (b5 PassesOwn.never rfl (fI rfl T.cN (@aa _ _ _ _ _ (by rfl) aq aj)) (bD (i:=2) S.nd rfl (Or.inl rfl))
    (@ar _ _ _ _ _ (@aK _ _ 3 _ _ _ _ (by rfl) (by first | exact .inl rfl | exact .inr rfl | assumption) S.nd rfl (Or.inl rfl) (aH EO (hr.mono (by decide)) rfl T.vC T.iU.kp T.vB .nil a8 (@aa _ _ _ _ _ (by rfl) (pv 1) (@aa _ _ _ _ _ (by rfl) aq aj))))
   (@ar _ _ _ _ _ (@aK _ _ 4 _ _ _ _ (by rfl) (by first | exact .inl rfl | exact .inr rfl | assumption) S.nd rfl (Or.inl rfl) (aH pU (hr.mono (by decide)) rfl T.o4 T.gG.kp T.oZ .nil a8 (@aa _ _ _ _ _ (by rfl) (pv 1) (@aa _ _ _ _ _ (by rfl) (cH (om rfl) rfl T.ft boot_list (@aa _ _ _ _ _ (by rfl) (cH lp rfl T.cN lq (@aa _ _ _ _ _ (by rfl) (@aL _ _ _ _ _ _ _ dQ (pv 3) aq (fun _ _=>rfl)) aj)) aj)) aj))))
   (@ar _ _ _ _ _ (@aK _ _ 5 _ _ _ _ (by rfl) (by first | exact .inl rfl | exact .inr rfl | assumption) S.nd rfl (Or.inl rfl) (aH cb (hr.mono (by decide)) rfl T.df T.b3.kp T.de .nil a8 (@aa _ _ _ _ _ (by rfl) (pv 1) (@aa _ _ _ _ _ (by rfl) (a7 en rfl T.dE boot_len (@aa _ _ _ _ _ (by rfl) (pv 4) aj)) aj))))
   (@ar _ _ _ _ _ (yr (i:=6) (j:=7) rfl S.nd rfl rfl (by decide) rfl rfl (@aa _ _ _ _ _ (by rfl) (@sg _ _ _ _ _ _ _ _ _ _ sm (pv 4) r0 (r6 (pv 5))) (@aa _ _ _ _ _ (by rfl) (@sg _ _ _ _ _ _ _ _ _ _ sm (pv 4) (r6 (@aD _ _ _ _ _ _ _ _ cU (pv 5) aq)) r0) aj)) rfl)
   (@ar _ _ _ _ _ (@aK _ _ 8 _ _ _ _ (by rfl) (by first | exact .inl rfl | exact .inr rfl | assumption) S.nd rfl (Or.inl rfl) (@bE _ _ _ _ (@aa _ _ _ _ _ (by rfl) (@aD _ _ _ _ _ _ _ _ cW (pv 6) (pv 7)) (@aa _ _ _ _ _ (by rfl) (@aD _ _ _ _ _ _ _ _ cW (pv 4) (@bE _ _ _ _ (@aa _ _ _ _ _ (by rfl) (@aL _ _ _ _ _ _ _ a_ (pv 4) (pv 5) (fun _ _=>rfl)) aj))) (@aa _ _ _ _ _ (by rfl) (@aD _ _ _ _ _ _ _ _ cW (@aD _ _ _ _ _ _ _ _ cW (pv 6) (@bE _ _ _ _ (@aa _ _ _ _ _ (by rfl) (@aL _ _ _ _ _ _ _ dQ (pv 3) aq (fun _ _=>rfl)) aj))) (pv 7)) (@aa _ _ _ _ _ (by rfl) (@aD _ _ _ _ _ _ _ _ cW (@aD _ _ _ _ _ _ _ _ cW (pv 6) (@bE _ _ _ _ (@aa _ _ _ _ _ (by rfl) (@yK _ _ _ _ _ _ yO aq) aj))) (pv 7)) (@aa _ _ _ _ _ (by rfl) (@aD _ _ _ _ _ _ _ _ cW (pv 4) (@bE _ _ _ _ (@aa _ _ _ _ _ (by rfl) (@aL _ _ _ _ _ _ _ dQ (pv 3) aq (fun _ _=>rfl)) aj))) (@aa _ _ _ _ _ (by rfl) (@bE _ _ _ _ aj) (@aa _ _ _ _ _ (by rfl) (@aD _ _ _ _ _ _ _ _ cW (pv 4) (pv 4)) aj)))))))))
   (@ar _ _ _ _ _ (@bp _ _ _ _ _ _ _ _ (@br _ _ _ _ _ _ _ _ fL (a7 en rfl T.dE boot_len (@aa _ _ _ _ _ (by rfl) (pv 4) aj)) aq (aS _)) (@ax _ _ _ (dm (fb PySem.F.plainAttrs_list PySem.F.slot_list_append PySem.F.type_list_append fP (pv 8) (@aa _ _ _ _ _ (by rfl) (@aD _ _ _ _ _ _ _ _ cW (@aD _ _ _ _ _ _ _ _ cW (pv 6) (@bE _ _ _ _ (@aa _ _ _ _ _ (by rfl) (@aL _ _ _ _ _ _ _ a_ (pv 4) (@aD _ _ _ _ _ _ _ _ jw (pv 5) aq) (fun _ _=>rfl)) aj))) (pv 7)) aj)))) bz)
   (@ar _ _ _ _ _ (b5 PassesOwn.never rfl (cp (pv 8)) (bD (i:=9) S.nd rfl (Or.inl rfl))
    (@ax _ _ _ (b5 PassesOwn.never rfl (fI rfl T.cN (@aa _ _ _ _ _ (by rfl) aq aj)) (bD (i:=10) S.nd rfl (Or.inl rfl))
    (@ax _ _ _ (@bp _ _ _ _ _ _ _ _ (@jj _ _ _ _ (gW (aH ER (hr.mono (by decide)) rfl T.vE T.iV.kp T.vD .nil a8 (@aa _ _ _ _ _ (by rfl) (pv 10) (@aa _ _ _ _ _ (by rfl) (pv 3) (@aa _ _ _ _ _ (by rfl) (pv 9) aj)))))) (@ax _ _ _ (@aR _ _ _ _ d8)) bz)))))
   (@ax _ _ _ (b5 PassesOwn.never rfl (fI rfl T.cN (@aa _ _ _ _ _ (by rfl) aq aj)) (bD (i:=10) S.nd rfl (Or.inl rfl))
    (@ax _ _ _ (dm (aH pY (hr.mono (by decide)) rfl T.o6 T.gH.kp T.o5 .nil Aa (@aa _ _ _ _ _ (by rfl) (pv 10) (@aa _ _ _ _ _ (by rfl) (pv 3) (@aa _ _ _ _ _ (by rfl) (cH nK rfl T.ft boot_list (@aa _ _ _ _ _ (by rfl) (pv 4) aj)) aj))))))))))))))))
   (@ax _ _ _ (@aR _ _ _ _ d8)))),?_⟩
  refine ⟨_,rfl,by show 3≤sizeLine;decide,fun P0 nP=>?_⟩
  have p0:aP (upd H P0 (.lst [.ref a,.int 0,.int 0])) P0 a:=⟨0,0,ak,by decide,by decide⟩
  have xk:aF K (er P0 (upd H P0 (.lst [.ref a,.int 0,.int 0]))) a (ns.map V.int):=by
   rw [tS]
   exact ag.seq (fun b o e=>oy (b4 e nP) e) hS
  generalize upd H P0 (.lst [.ref a,.int 0,.int 0])=H0 at p0 xk ⊢
  refine ⟨3,rfl,by decide,by decide,?_⟩
  refine fJ (fun i σ Hc=>∃(v2 v3 v4 v5 v6 v7 v8 v9 v10:Option V),σ=[some (.ref a),some (.ref P0),v2,v3,v4,v5,v6,v7,v8,v9,v10]∧au P0 H0 Hc∧aP Hc P0 a) ⟨_,_,_,_,_,_,_,_,_,rfl,au.refl _,p0⟩ ?_ ?_
  ·rintro i σ Hc hi ⟨v2,v3,v4,v5,v6,v7,v8,v9,v10,rfl,sT,pc⟩
   have kd:aF K (er P0 Hc) a (ns.map V.int):=ag.seq sT xk
   dsimp only [aG]
   refine ⟨_,rfl,P0,a,ns,9,rfl,pc,kd,by decide,by decide,fun tp n L H1 s1 p1 b_ ES xl ok _ n1 n9=>?_⟩
   dsimp only [aG]
   obtain ⟨lt,us,bQ,elt,gJ⟩:=id xl
   have xm:=hG _ _ bQ
   refine ⟨_,rfl,_,rfl,tp,_,_,_,rfl,rfl,.of xm,rfl,(n:Int),rfl,fun q1 xn=>⟨q1,n,rfl,ak,by omega,fun l nl=>?_⟩⟩
   have sl:ag H1 (upd (upd H1 q1 (.cj 0 (n:Int))) l (.lst (ba n))):=(aw xn).trans (aw nl)
   have el:upd (upd H1 q1 (.cj 0 (n:Int))) l (.lst (ba n)) l=some (.lst (ba n)):=ak
   have lP:l≠P0:=p1.ne (none_of (aw xn) nl)
   generalize upd (upd H1 q1 (.cj 0 (n:Int))) l (.lst (ba n))=H2 at sl el ⊢
   have s2:=s1.trans (au.of sl)
   have p2:=p1.mono sl
   have lu:(ba n).length=n:=by unfold ba;simp
   refine ⟨P0,a,l,ns,ba n,rfl,p2,ag.seq s2 kd,lP,el,by omega,fun r ys H3 s3 p3 nr rP er pm=>?_⟩
   obtain ⟨o,rfl,ho⟩:=CU pm
   have lo:=jR ho
   have cO:=s2.trans s3
   dsimp only [aG]
   refine ⟨_,rfl,_,rfl,r,_,rfl,.inl (.of er),P0,a,ns,((o.map fun k:Nat=>V.int (k:Int)).length:Int),rfl,p3,ag.seq cO kd,?_,?_,fun at' H4 a0 a1 s4 p4=>?_⟩
   ·rw [List.length_map,lo];omega
   ·exact bT.of_lt (by rw [List.length_map,lo];omega) (by rw [List.length_map,lo];omega)
   rw [List.length_map,lo] at a1
   obtain ⟨at',rfl⟩:=Int.eq_ofNat_of_zero_le a0
   have ha:at'<n:=by omega
   have i4:=cO.trans s4
   have ke:=s4.at rP er
   have ET:H4 tp=some (.tup [.int (n:Int),.ref lt]):=(s3.trans s4).at ES (sl _ _ xm)
   dsimp only [aG]
   rw [C2] at ke
   have lz:((o.map iN).map V.int).length=n:=by rw [List.length_map,List.length_map,lo]
   refine bX ⟨_,rfl,_,rfl,_,rfl,r,_,rfl,.of ke,fun f nf=>?_⟩
   rw [C0 _ at' (by omega),←List.map_take]
   have sf:ag H4 (upd H4 f (.lst (((o.map iN).take at').map V.int))):=aw nf
   have ef:upd H4 f (.lst (((o.map iN).take at').map V.int)) f=_:=ak
   generalize upd H4 f (.lst (((o.map iN).take at').map V.int))=H5 at sf ef ⊢
   refine ⟨_,rfl,_,rfl,_,_,rfl,rfl,_,rfl,r,_,rfl,.of (sf _ _ ke),fun b nb=>?_⟩
   rw [show ((at':Nat):Int)+1=((at'+1:Nat):Int) by omega,C1 _ (at'+1) (by omega),←List.map_drop]
   have sb:ag H5 (upd H5 b (.lst (((o.map iN).drop (at'+1)).map V.int))):=aw nb
   have eb:upd H5 b (.lst (((o.map iN).drop (at'+1)).map V.int)) b=_:=ak
   generalize upd H5 b (.lst (((o.map iN).drop (at'+1)).map V.int))=H6 at sb eb ⊢
   have kf:=sb _ _ ef
   have gN:=sf.trans sb
   have kg:=gN _ _ ke
   have xo:=gN _ _ ET
   have bh:(((o.map iN).take at')).length=at':=by rw [List.length_take,List.length_map,lo];omega
   have bj:(((o.map iN).drop (at'+1))).length=n-(at'+1):=by rw [List.length_drop,List.length_map,lo]
   have lor:(o.map iN).length=n:=by rw [List.length_map,lo]
   generalize EU:(o.map iN).take at'=fr at kf bh ⊢
   generalize EV:(o.map iN).drop (at'+1)=bk at eb bj ⊢
   refine ⟨_,_,rfl,?_⟩
   dsimp only
   have S0:ag H6 H6:=ag.refl _
   refine bX (jL ⟨_,rfl,_,rfl,f,b,_,_,rfl,rfl,(S0 _ _ kf),(S0 _ _ eb),Nat.le_trans (show _≤100 by simp only [List.length_map,List.length_append,List.length_cons,List.length_nil,bh,bj,lor];omega) (by decide),fun cy iY=>?_⟩)
   have t1:ag H6 (upd H6 cy (.lst (fr.map V.int++bk.map V.int))):=aw iY
   have e1:upd H6 cy (.lst (fr.map V.int++bk.map V.int)) cy=some (.lst ((fr++bk:List Int).map V.int)):=by rw [ak];simp only [List.map_append]
   have u1:H6 cy=none:=none_of S0 iY
   generalize upd H6 cy (.lst (fr.map V.int++bk.map V.int))=G1 at t1 e1 ⊢
   have S1:=S0.trans t1
   have c1:b9 G1 n (.ref cy):=⟨cy,_,rfl,e1,by simp only [List.length_map,List.length_append,List.length_cons,List.length_nil,bh,bj,lor];omega,jU (by simp only [List.length_append,List.length_cons,List.length_nil,bh,bj,lor];omega)⟩
   refine ⟨_,rfl,_,rfl,_,rfl,r,_,_,.int (iN o[at']),rfl,rfl,.of (S1 _ _ kg),e_ (by rw [List.getElem?_map,List.getElem?_map,List.getElem?_eq_getElem (by omega)];rfl),by show 1≤sizeLine;decide,fun du xp=>?_⟩
   have t2:ag G1 (upd G1 du (.lst ([V.int (iN o[at'])]))):=aw xp
   have e2:upd G1 du (.lst ([V.int (iN o[at'])])) du=some (.lst (([iN o[at']]:List Int).map V.int)):=ak
   have u2:H6 du=none:=none_of S1 xp
   generalize upd G1 du (.lst ([V.int (iN o[at'])]))=G2 at t2 e2 ⊢
   have S2:=S1.trans t2
   have c1:=c1.mono t2
   have e1:=t2 _ _ e1
   refine ⟨r,du,_,_,rfl,rfl,(S2 _ _ kg),e2,Nat.le_trans (show _≤100 by simp only [List.length_map,List.length_append,List.length_cons,List.length_nil,bh,bj,lor];omega) (by decide),fun cz xq=>?_⟩
   have t3:ag G2 (upd G2 cz (.lst ((o.map iN).map V.int++[iN o[at']].map V.int))):=aw xq
   have e3:upd G2 cz (.lst ((o.map iN).map V.int++[iN o[at']].map V.int)) cz=some (.lst ((o.map iN++[iN o[at']]:List Int).map V.int)):=by rw [ak];simp only [List.map_append]
   have u3:H6 cz=none:=none_of S2 xq
   generalize upd G2 cz (.lst ((o.map iN).map V.int++[iN o[at']].map V.int))=G3 at t3 e3 ⊢
   have S3:=S2.trans t3
   have c1:=c1.mono t3
   have e2:=t3 _ _ e2
   have c2:b9 G3 n (.ref cz):=⟨cz,_,rfl,e3,by simp only [List.length_map,List.length_append,List.length_cons,List.length_nil,bh,bj,lor];omega,jU (by simp only [List.length_append,List.length_cons,List.length_nil,bh,bj,lor];omega)⟩
   refine ⟨_,rfl,_,rfl,tp,_,_,_,rfl,rfl,.of (S3 _ _ xo),rfl,by show 1≤sizeLine;decide,fun i_ xr=>?_⟩
   have t4:ag G3 (upd G3 i_ (.lst ([V.int (n:Int)]))):=aw xr
   have e4:upd G3 i_ (.lst ([V.int (n:Int)])) i_=some (.lst (([(n:Int)]:List Int).map V.int)):=ak
   have u4:H6 i_=none:=none_of S3 xr
   generalize upd G3 i_ (.lst ([V.int (n:Int)]))=G4 at t4 e4 ⊢
   have S4:=S3.trans t4
   have c1:=c1.mono t4
   have c2:=c2.mono t4
   have e3:=t4 _ _ e3
   refine ⟨f,i_,_,_,rfl,rfl,(S4 _ _ kf),e4,Nat.le_trans (show _≤100 by simp only [List.length_map,List.length_append,List.length_cons,List.length_nil,bh,bj,lor];omega) (by decide),fun ja xt=>?_⟩
   have t5:ag G4 (upd G4 ja (.lst (fr.map V.int++[(n:Int)].map V.int))):=aw xt
   have e5:upd G4 ja (.lst (fr.map V.int++[(n:Int)].map V.int)) ja=some (.lst ((fr++[(n:Int)]:List Int).map V.int)):=by rw [ak];simp only [List.map_append]
   have u5:H6 ja=none:=none_of S4 xt
   generalize upd G4 ja (.lst (fr.map V.int++[(n:Int)].map V.int))=G5 at t5 e5 ⊢
   have S5:=S4.trans t5
   have c1:=c1.mono t5
   have c2:=c2.mono t5
   have e4:=t5 _ _ e4
   refine ⟨_,rfl,ja,b,_,_,rfl,rfl,e5,(S5 _ _ eb),Nat.le_trans (show _≤100 by simp only [List.length_map,List.length_append,List.length_cons,List.length_nil,bh,bj,lor];omega) (by decide),fun cA xu=>?_⟩
   have t6:ag G5 (upd G5 cA (.lst ((fr++[(n:Int)]).map V.int++bk.map V.int))):=aw xu
   have e6:upd G5 cA (.lst ((fr++[(n:Int)]).map V.int++bk.map V.int)) cA=some (.lst ((fr++[(n:Int)]++bk:List Int).map V.int)):=by rw [ak];simp only [List.map_append]
   have u6:H6 cA=none:=none_of S5 xu
   generalize upd G5 cA (.lst ((fr++[(n:Int)]).map V.int++bk.map V.int))=G6 at t6 e6 ⊢
   have S6:=S5.trans t6
   have c1:=c1.mono t6
   have c2:=c2.mono t6
   have e5:=t6 _ _ e5
   have c3:b9 G6 n (.ref cA):=⟨cA,_,rfl,e6,by simp only [List.length_map,List.length_append,List.length_cons,List.length_nil,bh,bj,lor];omega,CW (by simp)⟩
   refine ⟨_,rfl,_,rfl,by show 1≤sizeLine;decide,fun jb xv=>?_⟩
   have t7:ag G6 (upd G6 jb (.lst ([V.int (-1)]))):=aw xv
   have e7:upd G6 jb (.lst ([V.int (-1)])) jb=some (.lst (([(-1:Int)]:List Int).map V.int)):=ak
   have u7:H6 jb=none:=none_of S6 xv
   generalize upd G6 jb (.lst ([V.int (-1)]))=G7 at t7 e7 ⊢
   have S7:=S6.trans t7
   have c1:=c1.mono t7
   have c2:=c2.mono t7
   have c3:=c3.mono t7
   have e6:=t7 _ _ e6
   refine ⟨f,jb,_,_,rfl,rfl,(S7 _ _ kf),e7,Nat.le_trans (show _≤100 by simp only [List.length_map,List.length_append,List.length_cons,List.length_nil,bh,bj,lor];omega) (by decide),fun jc xw=>?_⟩
   have t8:ag G7 (upd G7 jc (.lst (fr.map V.int++[(-1:Int)].map V.int))):=aw xw
   have e8:upd G7 jc (.lst (fr.map V.int++[(-1:Int)].map V.int)) jc=some (.lst ((fr++[(-1:Int)]:List Int).map V.int)):=by rw [ak];simp only [List.map_append]
   have u8:H6 jc=none:=none_of S7 xw
   generalize upd G7 jc (.lst (fr.map V.int++[(-1:Int)].map V.int))=G8 at t8 e8 ⊢
   have S8:=S7.trans t8
   have c1:=c1.mono t8
   have c2:=c2.mono t8
   have c3:=c3.mono t8
   have e7:=t8 _ _ e7
   refine ⟨_,rfl,jc,b,_,_,rfl,rfl,e8,(S8 _ _ eb),Nat.le_trans (show _≤100 by simp only [List.length_map,List.length_append,List.length_cons,List.length_nil,bh,bj,lor];omega) (by decide),fun cB xx=>?_⟩
   have t9:ag G8 (upd G8 cB (.lst ((fr++[(-1:Int)]).map V.int++bk.map V.int))):=aw xx
   have e9:upd G8 cB (.lst ((fr++[(-1:Int)]).map V.int++bk.map V.int)) cB=some (.lst ((fr++[(-1:Int)]++bk:List Int).map V.int)):=by rw [ak];simp only [List.map_append]
   have u9:H6 cB=none:=none_of S8 xx
   generalize upd G8 cB (.lst ((fr++[(-1:Int)]).map V.int++bk.map V.int))=G9 at t9 e9 ⊢
   have S9:=S8.trans t9
   have c1:=c1.mono t9
   have c2:=c2.mono t9
   have c3:=c3.mono t9
   have e8:=t9 _ _ e8
   have c4:b9 G9 n (.ref cB):=⟨cB,_,rfl,e9,by simp only [List.length_map,List.length_append,List.length_cons,List.length_nil,bh,bj,lor];omega,CY (by simp)⟩
   refine ⟨_,rfl,_,rfl,tp,_,_,_,rfl,rfl,.of (S9 _ _ xo),rfl,by show 1≤sizeLine;decide,fun jd xy=>?_⟩
   have gO:ag G9 (upd G9 jd (.lst ([V.int (n:Int)]))):=aw xy
   have mS:upd G9 jd (.lst ([V.int (n:Int)])) jd=some (.lst (([(n:Int)]:List Int).map V.int)):=ak
   have Ij:H6 jd=none:=none_of S9 xy
   generalize upd G9 jd (.lst ([V.int (n:Int)]))=mT at gO mS ⊢
   have p_:=S9.trans gO
   have c1:=c1.mono gO
   have c2:=c2.mono gO
   have c3:=c3.mono gO
   have c4:=c4.mono gO
   have e9:=gO _ _ e9
   refine ⟨r,jd,_,_,rfl,rfl,(p_ _ _ kg),mS,Nat.le_trans (show _≤100 by simp only [List.length_map,List.length_append,List.length_cons,List.length_nil,bh,bj,lor];omega) (by decide),fun cC xA=>?_⟩
   have gP:ag mT (upd mT cC (.lst ((o.map iN).map V.int++[(n:Int)].map V.int))):=aw xA
   have mU:upd mT cC (.lst ((o.map iN).map V.int++[(n:Int)].map V.int)) cC=some (.lst ((o.map iN++[(n:Int)]:List Int).map V.int)):=by rw [ak];simp only [List.map_append]
   have Ik:H6 cC=none:=none_of p_ xA
   generalize upd mT cC (.lst ((o.map iN).map V.int++[(n:Int)].map V.int))=kh at gP mU ⊢
   have xB:=p_.trans gP
   have c1:=c1.mono gP
   have c2:=c2.mono gP
   have c3:=c3.mono gP
   have c4:=c4.mono gP
   have mS:=gP _ _ mS
   have c5:b9 kh n (.ref cC):=⟨cC,_,rfl,mU,by simp only [List.length_map,List.length_append,List.length_cons,List.length_nil,bh,bj,lor];omega,jU (by simp only [List.length_append,List.length_cons,List.length_nil,bh,bj,lor];omega)⟩
   refine ⟨Nat.zero_le _,fun cE xC=>?_⟩
   have fu:ag kh (upd kh cE (.lst ([]))):=aw xC
   have mV:upd kh cE (.lst ([])) cE=some (.lst (([]:List Int).map V.int)):=ak
   have Il:H6 cE=none:=none_of xB xC
   generalize upd kh cE (.lst ([]))=ki at fu mV ⊢
   have mW:=xB.trans fu
   have c1:=c1.mono fu
   have c2:=c2.mono fu
   have c3:=c3.mono fu
   have c4:=c4.mono fu
   have c5:=c5.mono fu
   have mU:=fu _ _ mU
   have c6:b9 ki n (.ref cE):=⟨cE,_,rfl,mV,by simp only [List.length_map,List.length_append,List.length_cons,List.length_nil,bh,bj,lor];omega,jU (by simp only [List.length_append,List.length_cons,List.length_nil,bh,bj,lor];omega)⟩
   refine ⟨_,rfl,_,rfl,r,r,_,_,rfl,rfl,(mW _ _ kg),(mW _ _ kg),Nat.le_trans (show _≤100 by simp only [List.length_map,List.length_append,List.length_cons,List.length_nil,bh,bj,lor];omega) (by decide),fun cF xD=>?_⟩
   have eQ:ag ki (upd ki cF (.lst ((o.map iN).map V.int++(o.map iN).map V.int))):=aw xD
   have xE:upd ki cF (.lst ((o.map iN).map V.int++(o.map iN).map V.int)) cF=some (.lst ((o.map iN++o.map iN:List Int).map V.int)):=by rw [ak];simp only [List.map_append]
   have Im:H6 cF=none:=none_of mW xD
   generalize upd ki cF (.lst ((o.map iN).map V.int++(o.map iN).map V.int))=fv at eQ xE ⊢
   have EW:=mW.trans eQ
   have c1:=c1.mono eQ
   have c2:=c2.mono eQ
   have c3:=c3.mono eQ
   have c4:=c4.mono eQ
   have c5:=c5.mono eQ
   have c6:=c6.mono eQ
   have mV:=eQ _ _ mV
   have c7:b9 fv n (.ref cF):=⟨cF,_,rfl,xE,by simp only [List.length_map,List.length_append,List.length_cons,List.length_nil,bh,bj,lor];omega,jU (by simp only [List.length_append,List.length_cons,List.length_nil,bh,bj,lor];omega)⟩
   refine ⟨by show 7≤sizeLine;decide,fun c nc=>?_⟩
   have tc:ag fv (upd fv c (.lst [.ref cy,.ref cz,.ref cA,.ref cB,.ref cC,.ref cE,.ref cF])):=aw nc
   have ec:upd fv c (.lst [.ref cy,.ref cz,.ref cA,.ref cB,.ref cC,.ref cE,.ref cF]) c=some (.lst [.ref cy,.ref cz,.ref cA,.ref cB,.ref cC,.ref cE,.ref cF]):=ak
   generalize upd fv c (.lst [.ref cy,.ref cz,.ref cA,.ref cB,.ref cC,.ref cE,.ref cF])=Hb at tc ec ⊢
   have xF:∀x∈([.ref cy,.ref cz,.ref cA,.ref cB,.ref cC,.ref cE,.ref cF]:List V),b9 Hb n x:=by
    exact List.forall_mem_cons.mpr ⟨c1.mono tc,List.forall_mem_cons.mpr ⟨c2.mono tc,List.forall_mem_cons.mpr ⟨c3.mono tc,List.forall_mem_cons.mpr ⟨c4.mono tc,List.forall_mem_cons.mpr ⟨c5.mono tc,List.forall_mem_cons.mpr ⟨c6.mono tc,List.forall_mem_cons.mpr ⟨c7.mono tc,List.forall_mem_nil _⟩⟩⟩⟩⟩⟩⟩
   have Sz:=EW
   dsimp only [aG]
   have kj:=gN.trans Sz
   have qa:=kj _ _ ke
   have pz:aP fv P0 a:=p4.mono kj
   have EX:bU fv tp n L:=((((xl.mono hG).mono sl).er p2).mono (s3.trans s4)).mono hG |>.mono kj
   refine bX (oE (fun σ Hy=>∃xs:List V,σ=[some (.ref a),some (.ref P0),some (.int (0+(i:Int))),some (.ref tp),some (.ref r),some (.int (at':Int)),some (.ref f),some (.ref b),some (.ref c),v9,v10]∧ag fv Hy∧Hy c=some (.lst xs)∧∀x∈xs,b9 Hy n x) ?_ ?_)
   ·rintro σ Hy ⟨xs,rfl,sy,xG,EY⟩
    dsimp only
    have xH:=EX.mono sy
    have EZ:=sy _ _ qa
    have xI:fY n L:=fun p hp=>by
     have:=ok.lt p hp
     exact ⟨this.1,by omega,by omega,this.2.2⟩
    refine bX ⟨_,rfl,c,rfl,⟨_,.of xG⟩,?_⟩
    refine jv (K:=K) (a:=c) (xs:=xs) (fun k σ Hd=>∃(v9 v10:Option V),σ=[some (.ref a),some (.ref P0),some (.int (0+(i:Int))),some (.ref tp),some (.ref r),some (.int (at':Int)),some (.ref f),some (.ref b),some (.ref c),v9,v10]∧ag Hy Hd) ⟨_,_,rfl,ag.refl _⟩ (fun k σ Hd _ ⟨_,_,_,sd⟩=>.of (sd _ _ xG)) ?_ ?_
    ·rintro k x σ Hd hx ⟨v9,v10,rfl,sd⟩
     obtain ⟨bb,zs,rfl,E1,bx,bad⟩:=(EY x (List.mem_of_getElem? hx)).mono sd
     dsimp only [aG]
     refine ⟨5,rfl,by decide,by decide,?_⟩
     refine fJ (fun w σ He=>∃(v10:Option V),σ=[some (.ref a),some (.ref P0),some (.int (0+(i:Int))),some (.ref tp),some (.ref r),some (.int (at':Int)),some (.ref f),some (.ref b),some (.ref c),some (.ref bb),v10]∧ag Hd He) ⟨_,rfl,ag.refl _⟩ ?_ ?_
     ·rintro w σ He hw ⟨v10,rfl,se⟩
      dsimp only [aG]
      refine ⟨_,rfl,_,rfl,_,rfl,w,tp,bb,n,L,zs,by rw [Int.zero_add];rfl,(xH.mono sd).mono se,xI,n9,se _ _ E1,bx,bad,fun H5 s5=>⟨true,rfl,kW ?_⟩⟩
      exact ⟨_,rfl,se.trans s5⟩
     ·rintro σ He ⟨v10,rfl,se⟩
      exact ⟨_,_,rfl,sd.trans se⟩
    ·rintro σ Hd ⟨v9,v10,rfl,sd⟩
     refine ⟨5,rfl,by decide,by decide,?_⟩
     refine fJ (fun w σ He=>∃(v9 v10:Option V),σ=[some (.ref a),some (.ref P0),some (.int (0+(i:Int))),some (.ref tp),some (.ref r),some (.int (at':Int)),some (.ref f),some (.ref b),some (.ref c),v9,v10]∧ag Hd He) ⟨_,_,rfl,ag.refl _⟩ ?_ ?_
     ·rintro w σ He hw ⟨v9,v10,rfl,se⟩
      dsimp only [aG]
      refine ⟨_,rfl,_,rfl,_,rfl,r,_,rfl,.inl (.of (se _ _ (sd _ _ EZ))),fun l2 jY=>?_⟩
      have xJ:ag He (upd He l2 (.lst ((o.map iN).map V.int))):=aw jY
      refine ⟨w,tp,l2,n,L,o.map iN,by rw [Int.zero_add];rfl,((xH.mono sd).mono se).mono xJ,xI,n9,ak,by rw [lor];omega,fun no=>absurd (ho.map iN) no,fun _ H' v s'=>?_⟩
      exact ⟨_,_,rfl,se.trans (xJ.trans s')⟩
     ·rintro σ He ⟨v9,v10,rfl,se⟩
      have sE:=au.of (P:=P0) (kj.trans (sy.trans (sd.trans se)))
      exact ⟨_,_,_,_,_,_,_,_,_,rfl,sT.trans (i4.trans sE),p4.mono (kj.trans (sy.trans (sd.trans se)))⟩
   ·intro R hR
    refine ⟨_,rfl,r,_,rfl,.inl (.of (tc _ _ qa)),_,_,rfl,rfl,_,rfl,bB (fun hb=>?_) (fun hb=>?_)⟩
    ·have hb:(1:Int)<(((o.map iN).map V.int).length:Int):=of_decide_eq_true hb
     rw [lz] at hb
     obtain ⟨j,hj,E2,ej⟩:=C3 lo ha (by omega)
     refine ⟨_,rfl,.inl ⟨rfl,_,.of ec⟩,_,rfl,_,rfl,_,rfl,_,_,rfl,rfl,r,_,_,_,rfl,rfl,.of (tc _ _ qa),ej,by show 1≤sizeLine;decide,fun x1 E3=>?_⟩
     have w1:ag Hb (upd Hb x1 (.lst [V.int (iN o[j])])):=aw E3
     have y1:upd Hb x1 (.lst [V.int (iN o[j])]) x1=some (.lst (([iN o[j]]:List Int).map V.int)):=ak
     generalize upd Hb x1 (.lst [V.int (iN o[j])])=J1 at w1 y1 ⊢
     refine ⟨f,x1,_,_,rfl,rfl,w1 _ _ (tc _ _ (Sz _ _ kf)),y1,Nat.le_trans (show _≤100 by simp only [List.length_map,List.length_append,List.length_cons,List.length_nil,bh,bj,lor];omega) (by decide),fun x2 E4=>?_⟩
     have w2:ag J1 (upd J1 x2 (.lst (fr.map V.int++[iN o[j]].map V.int))):=aw E4
     have y2:upd J1 x2 (.lst (fr.map V.int++[iN o[j]].map V.int)) x2=some (.lst ((fr++[iN o[j]]).map V.int)):=by rw [ak];simp only [List.map_append]
     generalize upd J1 x2 (.lst (fr.map V.int++[iN o[j]].map V.int))=J2 at w2 y2 ⊢
     have E5:=tc.trans (w1.trans w2)
     refine ⟨_,rfl,x2,b,_,_,rfl,rfl,y2,E5 _ _ (Sz _ _ eb),Nat.le_trans (show _≤100 by simp only [List.length_map,List.length_append,List.length_cons,List.length_nil,bh,bj,lor];omega) (by decide),fun x3 xK=>?_⟩
     have w3:ag J2 (upd J2 x3 (.lst ((fr++[iN o[j]]).map V.int++bk.map V.int))):=aw xK
     have y3:upd J2 x3 (.lst ((fr++[iN o[j]]).map V.int++bk.map V.int)) x3=some (.lst ((fr++[iN o[j]]++bk).map V.int)):=by rw [ak];simp only [List.map_append]
     generalize upd J2 x3 (.lst ((fr++[iN o[j]]).map V.int++bk.map V.int))=J3 at w3 y3 ⊢
     have wb:=(w1.trans w2).trans w3
     have xM:=wb _ _ ec
     have Io:x3≠c:=fun z=>by
      have:=(w1.trans w2) _ _ ec
      rw [←z,xK] at this
      cases this
     have c8:b9 J3 n (.ref x3):=⟨x3,_,rfl,y3,by simp only [List.length_append,List.length_cons,List.length_nil,bh,bj];omega,by
      rw [←EU,←EV,←List.map_take,←List.map_drop]
      exact CZ ho (by omega) hj E2⟩
     refine ⟨c,_,_,rfl,rfl,xM,cu (by show 7≤1000;decide),?_⟩
     have off:∀b' o',b'≠c→J3 b'=some o'→upd J3 c (.lst ([.ref cy,.ref cz,.ref cA,.ref cB,.ref cC,.ref cE,.ref cF]++[.ref x3])) b'=some o':=fun b' o' ne e=>by rw [ay ne];exact e
     have lift:∀{x:V},b9 J3 n x→b9 (upd J3 c (.lst ([.ref cy,.ref cz,.ref cA,.ref cB,.ref cC,.ref cE,.ref cF]++[.ref x3]))) n x:=fun{x} h=>by
      obtain ⟨b',zs,e1,e2,e3,e4⟩:=h
      refine ⟨b',zs,e1,off _ _ (fun z=>?_) e2,e3,e4⟩
      rw [z,xM] at e2
      cases zs <;> cases e2
     refine hR _ _ ⟨_,rfl,fun b' o' e=>off b' o' (fun z=>by rw [z,nc] at e;cases e) ((tc.trans wb) _ _ e),ak,fun x hx=>?_⟩
     rcases List.mem_append.mp hx with h | h
     ·exact lift ((xF x h).mono wb)
     ·rw [List.mem_singleton.mp h]
      exact lift c8
    ·exact hR _ _ ⟨_,rfl,tc,ec,xF⟩
  ·rintro σ Hc ⟨v2,v3,v4,v5,v6,v7,v8,v9,v10,rfl,sT,pc⟩
   exact kQ _
theorem E6{l:PySem.W.OpenLaw}(T:Txt K mg t):∃fd:FuncData,(∀(s:Shared) (v:Value),BindsTo s fd ⟨[v],[]⟩ [("script",v)])∧∀base:Heap,K.In base→base.Ns mainGlobals mg→aN l.prog w K mg base bt 9 t.fm fd ["script"] (lB K):=by
 obtain ⟨oc,od,kV,doc,pm,an,aC,ct,dN,e,lk,cn⟩:=T.iW.ex
 refine ⟨t.gD,fun s v=>?_,fun base _ _=>EN T⟩
 rw [e]
 exact .of_eq rfl
end
theorem walk{l:PySem.W.OpenLaw}{q:Program}{loose:List Str}{XP:(Str→Option Value)→Heap→Prop}{YP:World→Heap→Prop}{d:DefRec}{K:Params→PySem.W.Frag}(hn:l.most=some 63)(jB:d.params.defaults=[])
  (hY:∀(w:World) (h:Heap),YP w h→(K w.params).In h)
  (F:∀(w:World) (mg:Str→Option Value) (fa:Addr) (h:Heap),(K w.params).In h→h.Ns mainGlobals mg→mg d.name=some (.ref fa)→
   ∃fd:FuncData,(∀(s:Shared) (u:Value),BindsTo s fd ⟨[u],[]⟩ [("script",u)])∧∀base:Heap,(K w.params).In base→base.Ns mainGlobals mg→aN l.prog w (K w.params) mg base bt 9 fa fd ["script"] (lB (K w.params))) :
  PySem.W.WalkO q loose XP YP l.row.toRowW d [] (fun f vs=>PySem.call f vs):=
 L2.z6 (n:=63) (k:=9) (x:="script") (CX:=fun _=>bt) (sp:=fun w=>lB (K w.params)) hn (by decide) jB ⟨rfl,by decide,by decide⟩ hY F (fun _ _ a ns hl _ hS=>⟨a,ns,rfl,hS,hl,fun _=>rfl⟩) fun _ _ _ _ _ z=>z
theorem E7{K:PySem.W.Frag}{h:Heap}{mg:Str→Option Value}(X:K.In h)(G:h.Ns mainGlobals mg)
  {dW:Addr}
  {dX:Addr}
  {fo:Addr}
  {dY:Addr}
  {dZ:Addr}
  {aA:Addr}
  {dc:Addr}
  {d0:Addr}
  {d5:Addr}
  {E8:Tok}
  {fZ f9 f_ gb gc gd gf gg gh gk gm gp gq gr gs gu gv gw gx gy gz gA gB gC fm:Addr} {hV hW hZ h6 h7 h8 h9 h_ ia ib ic ie ig ik il iq ir iu iw iy iz iA iB iC gD:FuncData}
  (qb:PySem.W.nsIn K mainGlobals "NoWorld" = some (some (.ref dW)))
  (qc:PySem.W.nsIn K mainGlobals "NoOver" = some (some (.ref dX)))
  (qd:PySem.W.nsIn K mainGlobals "WrightError" = some (some (.ref fo)))
  (qe:PySem.W.nsIn K mainGlobals "NoFit" = some (some (.ref dY)))
  (qf:PySem.W.nsIn K mainGlobals "NoShape" = some (some (.ref dZ)))
  (qg:PySem.W.nsIn K mainGlobals "NoOrder" = some (some (.ref aA)))
  (qh:PySem.W.nsIn K mainGlobals "NoSize" = some (some (.ref dc)))
  (qi:PySem.W.nsIn K mainGlobals "NoLink" = some (some (.ref d0)))
  (qj:PySem.W.nsIn K mainGlobals "Tied" = some (some (.ref d5)))
  (E9:mg "is_whole" = some (.ref fZ))
  (iD:aB K "is_whole" "is_whole" lR fZ hV)
  (E_:mg "neighbours" = some (.ref f9))
  (iE:aB K "neighbours" "neighbours" lS f9 hW)
  (Fb:mg "is_order" = some (.ref f_))
  (iF:aB K "is_order" "is_order" lT f_ hZ)
  (Fc:mg "check_order" = some (.ref gb))
  (iG:aB K "check_order" "check_order" lU gb h6)
  (Fd:mg "turns_of" = some (.ref gc))
  (iH:aB K "turns_of" "turns_of" lW gc h7)
  (Fe:mg "link_all" = some (.ref gd))
  (iI:aB K "link_all" "link_all" lY gd h8)
  (Ff:mg "later" = some (.ref gf))
  (fq:aB K "later" "later" lZ gf h9)
  (Fg:mg "filled" = some (.ref gg))
  (gE:aB K "filled" "filled" l4 gg h_)
  (Fh:mg "place_deeds" = some (.ref gh))
  (iJ:aB K "place_deeds" "place_deeds" l5 gh ia)
  (Fi:mg "deeds" = some (.ref gk))
  (gF:aB K "deeds" "deeds" l6 gk ib)
  (Fj:mg "check_size" = some (.ref gm))
  (iK:aB K "check_size" "check_size" l7 gm ic)
  (Fl:mg "rising_tuples" = some (.ref gp))
  (iL:aB K "rising_tuples" "rising_tuples" l8 gp ie)
  (Fm:mg "keeps_to_costs" = some (.ref gq))
  (iM:aB K "keeps_to_costs" "keeps_to_costs" l9 gq ig)
  (Fn:mg "shows_fewest" = some (.ref gr))
  (iO:aB K "shows_fewest" "shows_fewest" l_ gr ik)
  (Fo:mg "is_perfect" = some (.ref gs))
  (iP:aB K "is_perfect" "is_perfect" ma gs il)
  (Fp:mg "_law_fill" = some (.ref gu))
  (iQ:aB K "_law_fill" "_law_fill" md gu iq)
  (Fq:mg "_law_next" = some (.ref gv))
  (b3:aB K "_law_next" "_law_next" me gv ir)
  (Fs:mg "_law_turned" = some (.ref gw))
  (gG:aB K "_law_turned" "_law_turned" mf gw iu)
  (Ft:mg "_law_tied_by" = some (.ref gx))
  (iR:aB K "_law_tied_by" "_law_tied_by" mh gx iw)
  (Fu:mg "_law_grown_links" = some (.ref gy))
  (iS:aB K "_law_grown_links" "_law_grown_links" mi gy iy)
  (Fv:mg "_law_named" = some (.ref gz))
  (iT:aB K "_law_named" "_law_named" mj gz iz)
  (Fw:mg "_law_drawn" = some (.ref gA))
  (iU:aB K "_law_drawn" "_law_drawn" ml gA iA)
  (Fx:mg "_law_asked" = some (.ref gB))
  (gH:aB K "_law_asked" "_law_asked" mn gB iB)
  (Fy:mg "_law_refused" = some (.ref gC))
  (iV:aB K "_law_refused" "_law_refused" mq gC iC)
  (Fz:mg "law" = some (.ref fm))
  (iW:aB K "law" "law" mr fm gD)
  (qk:PySem.W.nsIn K mainGlobals "len" = some none)
  (ql:PySem.W.nsIn K mainGlobals "isinstance" = some none)
  (qm:PySem.W.nsIn K mainGlobals "int" = some none)
  (qo:PySem.W.nsIn K mainGlobals "bool" = some none)
  (qp:PySem.W.nsIn K mainGlobals "tuple" = some none)
  (qq:PySem.W.nsIn K mainGlobals "list" = some none)
  (qr:PySem.W.nsIn K mainGlobals "range" = some none)
  (qt:PySem.W.nsIn K mainGlobals "all" = some none)
  (qu:PySem.W.nsIn K mainGlobals "enumerate" = some none)
  (qv:PySem.W.nsIn K mainGlobals "min" = some none)
  (qw:PySem.W.nsIn K mainGlobals "max" = some none)
  (qx:PySem.W.nsIn K mainGlobals "sorted" = some none)
  (qy:PySem.W.nsIn K mainGlobals "sum" = some none)
  (qz:PySem.W.nsIn K mainGlobals "ValueError" = some none)
  (qA:PySem.W.nsIn K mainGlobals "MOST" = some (some (.int 9 E8)))
  (qB:PySem.W.excIn K aA [.type "ValueError",.type "Exception",.type "BaseException",.type "object"] "ValueError.__new__" = true)
  (qC:PySem.W.excIn K dc [.type "ValueError",.type "Exception",.type "BaseException",.type "object"] "ValueError.__new__" = true)
  (qD:PySem.W.excIn K fo [.type "ValueError",.type "Exception",.type "BaseException",.type "object"] "ValueError.__new__" = true)
  (qE:PySem.W.mroIn K aA (.ref aA)=some true)
  (qF:PySem.W.mroIn K aA (.ref fo)=some true)
  (qG:PySem.W.kitOne K (.ref aA) (.type "ValueError")=some true)
  (qH:PySem.W.kitOne K (.ref aA) (.ref aA)=some true)
  (qI:PySem.W.kitOne K (.ref aA) (.ref dW)=some false)
  (qJ:PySem.W.kitOne K (.ref aA) (.ref dX)=some false)
  (qK:PySem.W.kitOne K (.ref aA) (.ref dY)=some false)
  (qL:PySem.W.kitOne K (.ref aA) (.ref dZ)=some false)
  (qM:PySem.W.kitOne K (.ref aA) (.ref dc)=some false)
  (qN:PySem.W.kitOne K (.ref aA) (.ref d0)=some false)
  (qO:PySem.W.kitOne K (.ref aA) (.ref d5)=some false)
  (qP:PySem.W.hasDictIn K aA=true)
  (qQ:PySem.W.findIn K (.ref aA) "__getattribute__" = some (some (.builtin "BaseException.__getattribute__")))
  (qR:PySem.W.findIn K (.ref aA) "__getattr__" = some none)
  (qS:PySem.W.findIn K (.ref aA) "__class__" = some (some (.builtin "object.__class__")))
  (qT:PySem.W.mroIn K aA (.type "object")=some true)
  (qU:PySem.W.mroIn K aA (.type "BaseException")=some true)
  : ∃t:mw,Txt K mg t:=by
 refine ⟨⟨fZ,hV,f9,hW,f_,hZ,gb,h6,gc,h7,gd,h8,gf,h9,gg,h_,gh,ia,gk,ib,gm,ic,gp,ie,gq,ig,gr,ik,gs,il,gu,iq,gv,ir,gw,iu,gx,iw,gy,iy,gz,iz,gA,iA,gB,iB,gC,iC,fm,gD,dW,dX,fo,dY,dZ,aA,dc,d0,d5⟩,?_⟩
 exact {
  iD:=iD
  uT:=iD.binds (ps:=["thing"]) fun _ _ _ _ _ _ us hl=>match us,hl with | [_],_=>rfl
  uU:=E9
  iE:=iE
  uV:=iE.binds (ps:=["shape"]) fun _ _ _ _ _ _ us hl=>match us,hl with | [_],_=>rfl
  uW:=E_
  iF:=iF
  uX:=iF.binds (ps:=["thing","n"]) fun _ _ _ _ _ _ us hl=>match us,hl with | [_,_],_=>rfl
  uY:=Fb
  iG:=iG
  uZ:=iG.binds (ps:=["order","n"]) fun _ _ _ _ _ _ us hl=>match us,hl with | [_,_],_=>rfl
  u0:=Fc
  iH:=iH
  u_:=iH.binds (ps:=["order"]) fun _ _ _ _ _ _ us hl=>match us,hl with | [_],_=>rfl
  va:=Fd
  iI:=iI
  vb:=iI.binds (ps:=["linked","places"]) fun _ _ _ _ _ _ us hl=>match us,hl with | [_,_],_=>rfl
  vc:=Fe
  fq:=fq
  mx:=fq.binds (ps:=["shape","order"]) fun _ _ _ _ _ _ us hl=>match us,hl with | [_,_],_=>rfl
  my:=Ff
  gE:=gE
  oV:=gE.binds (ps:=["shape","order"]) fun _ _ _ _ _ _ us hl=>match us,hl with | [_,_],_=>rfl
  oW:=Fg
  iJ:=iJ
  vd:=iJ.binds (ps:=["many"]) fun _ _ _ _ _ _ us hl=>match us,hl with | [_],_=>rfl
  ve:=Fh
  gF:=gF
  oX:=gF.binds (ps:=["shape","order"]) fun _ _ _ _ _ _ us hl=>match us,hl with | [_,_],_=>rfl
  oY:=Fi
  iK:=iK
  vf:=iK.binds (ps:=["shape"]) fun _ _ _ _ _ _ us hl=>match us,hl with | [_],_=>rfl
  vg:=Fj
  iL:=iL
  vh:=iL.binds (ps:=["n"]) fun _ _ _ _ _ _ us hl=>match us,hl with | [_],_=>rfl
  vi:=Fl
  iM:=iM
  vj:=iM.binds (ps:=["shape","done","worth_of"]) fun _ _ _ _ _ _ us hl=>match us,hl with | [_,_,_],_=>rfl
  vk:=Fm
  iO:=iO
  vm:=iO.binds (ps:=["shape","order","worths"]) fun _ _ _ _ _ _ us hl=>match us,hl with | [_,_,_],_=>rfl
  vn:=Fn
  iP:=iP
  vo:=iP.binds (ps:=["shape","order"]) fun _ _ _ _ _ _ us hl=>match us,hl with | [_,_],_=>rfl
  vp:=Fo
  iQ:=iQ
  vq:=iQ.binds (ps:=["_law_cell","_law_at"]) fun _ _ _ _ _ _ us hl=>match us,hl with | [_,_],_=>rfl
  vt:=Fp
  b3:=b3
  de:=b3.binds (ps:=["_law_pen","_law_many"]) fun _ _ _ _ _ _ us hl=>match us,hl with | [_,_],_=>rfl
  df:=Fq
  gG:=gG
  oZ:=gG.binds (ps:=["_law_pen","_law_some"]) fun _ _ _ _ _ _ us hl=>match us,hl with | [_,_],_=>rfl
  o4:=Fs
  iR:=iR
  vv:=iR.binds (ps:=["_law_pen","_law_way","_law_size","_law_wide","_law_i","_law_j"]) fun _ _ _ _ _ _ us hl=>match us,hl with | [_,_,_,_,_,_],_=>rfl
  vw:=Ft
  iS:=iS
  vx:=iS.binds (ps:=["_law_pen","_law_size"]) fun _ _ _ _ _ _ us hl=>match us,hl with | [_,_],_=>rfl
  vy:=Fu
  iT:=iT
  vz:=iT.binds (ps:=["_law_size","_law_links","_law_names"]) fun _ _ _ _ _ _ us hl=>match us,hl with | [_,_,_],_=>rfl
  vA:=Fv
  iU:=iU
  vB:=iU.binds (ps:=["_law_pen","_law_most"]) fun _ _ _ _ _ _ us hl=>match us,hl with | [_,_],_=>rfl
  vC:=Fw
  gH:=gH
  o5:=gH.binds (ps:=["_law_way","_law_shape","_law_order"]) fun _ _ _ _ _ _ us hl=>match us,hl with | [_,_,_],_=>rfl
  o6:=Fx
  iV:=iV
  vD:=iV.binds (ps:=["_law_way","_law_shape","_law_order"]) fun _ _ _ _ _ _ us hl=>match us,hl with | [_,_,_],_=>rfl
  vE:=Fy
  iW:=iW
  C4:=iW.binds (ps:=["script"]) fun _ _ _ _ _ _ us hl=>match us,hl with | [_],_=>rfl
  vF:=Fz
  vG:=PySem.W.mg_of X G qb
  vH:=PySem.W.mg_of X G qc
  vI:=PySem.W.mg_of X G qd
  vJ:=PySem.W.mg_of X G qe
  vK:=PySem.W.mg_of X G qf
  o7:=PySem.W.mg_of X G qg
  o8:=PySem.W.mg_of X G qh
  vL:=PySem.W.mg_of X G qi
  vM:=PySem.W.mg_of X G qj
  dE:=PySem.W.mg_none_of X G qk
  gI:=PySem.W.mg_none_of X G ql
  vO:=PySem.W.mg_none_of X G qm
  vP:=PySem.W.mg_none_of X G qo
  mz:=PySem.W.mg_none_of X G qp
  ft:=PySem.W.mg_none_of X G qq
  cN:=PySem.W.mg_none_of X G qr
  mB:=PySem.W.mg_none_of X G qt
  o9:=PySem.W.mg_none_of X G qu
  o_:=PySem.W.mg_none_of X G qv
  pb:=PySem.W.mg_none_of X G qw
  jV:=PySem.W.mg_none_of X G qx
  vQ:=PySem.W.mg_none_of X G qy
  vR:=PySem.W.mg_none_of X G qz
  vS:=⟨_,PySem.W.mg_of X G qA,_,rfl⟩
  pd:=qB
  vT:=qC
  vU:=qD
  C5:=qE
  vV:=qF
  vW:=qG
  vX:=qH
  vY:=qI
  vZ:=qJ
  v_:=qK
  wa:=qL
  wc:=qM
  wd:=qN
  we:=qO
  wg:=qP
  wj:=qQ
  wk:=qR
  wm:=qS
  wo:=qT
  wq:=qU
 }
end My
def PySem.W.Fast.tw7637604176604344310:Unit:=()
def PySem.W.Fast.tw1090060166962893282:Unit:=()
def PySem.W.Fast.tw13835271111197317364:Unit:=()
def PySem.W.Fast.tw14500210102438974227:Unit:=()
def PySem.W.Fast.tw13638251196571102886:Unit:=()
def PySem.W.Fast.tw14387224190488741456:Unit:=()
def PySem.W.Fast.tw5523055546859438349:Unit:=()
def PySem.W.Fast.tw14704103976328742828:Unit:=()
def PySem.W.Fast.tw9562917722304846002:Unit:=()
def PySem.W.Fast.tw13360760183765338251:Unit:=()
def PySem.W.Fast.tw5542330968697890245:Unit:=()
def PySem.W.Fast.tw14371457686186097861:Unit:=()
def PySem.W.Fast.tw14640408446158774564:Unit:=()
def PySem.W.Fast.tw11414325622770118307:Unit:=()
def PySem.W.Fast.tw6494926258597086013:Unit:=()
def PySem.W.Fast.tw11757973391388873140:Unit:=()
def PySem.W.Fast.tw4407678508530550992:Unit:=()
def PySem.W.Fast.tw10501649479421390208:Unit:=()
def PySem.W.Fast.tw4305559839809266052:Unit:=()
def PySem.W.Fast.tw11538709333314750220:Unit:=()
def PySem.W.Fast.tw8334227027793916789:Unit:=()
def PySem.W.Fast.tw16399667336873193819:Unit:=()
def PySem.W.Fast.tw9357961677699402463:Unit:=()
def PySem.W.Fast.tw5048472156303384022:Unit:=()
def PySem.W.Fast.tw292458997211260703:Unit:=()
def PySem.W.Fast.tw8739482370918789985:Unit:=()
def PySem.W.Fast.tw797738620084817920:Unit:=()
def PySem.W.Fast.tw5759350708012181342:Unit:=()
open PySem PySem.W PyProof.Rows
set_option maxRecDepth 100000 in
set_option maxHeartbeats 0 in
theorem PySem.Challenge.cw_bandwright_k19_no_orders_holds : PySem.Challenge.rw_bandwright_k19_no_orders.Holds := by
 w_on;o_law;k_head;(case hw=>w_witness2)
 k_fill
 refine My.walk (l:=PySem.Challenge.rw_bandwright_k19_no_orders) rfl rfl (fun w h Y=>PySem.W.kIn_of Y) ?F
 case F=>
  intro w mg fa h KX G jC
  have T:∃t,My.Txt (L2.sO KX) mg t:=by
   dsimp only [L2.sO]
   refine' My.E7 KX G ?qb ?qc ?qd ?qe ?qf ?qg ?qh ?qi ?qj (PySem.W.mg_of KX G ?FA) (L2.bc (st:=My.lR) ?FC ?FD ?FE) (PySem.W.mg_of KX G ?FF) (L2.bc (st:=My.lS) ?FG ?FH ?FI) (PySem.W.mg_of KX G ?FJ) (L2.bc (st:=My.lT) ?FK ?FL ?FN) (PySem.W.mg_of KX G ?FO) (L2.bc (st:=My.lU) ?FP ?FQ ?FR) (PySem.W.mg_of KX G ?FT) (L2.bc (st:=My.lW) ?FU ?FV ?FW) (PySem.W.mg_of KX G ?FX) (L2.bc (st:=My.lY) ?FY ?FZ ?F0) (PySem.W.mg_of KX G ?F1) (L2.bc (st:=My.lZ) ?F2 ?F3 ?F4) (PySem.W.mg_of KX G ?F5) (L2.bc (st:=My.l4) ?F6 ?F7 ?F8) (PySem.W.mg_of KX G ?F9) (L2.bc (st:=My.l5) ?F_ ?Ga ?Gb) (PySem.W.mg_of KX G ?Gd) (L2.bc (st:=My.l6) ?Ge ?Gf ?Gg) (PySem.W.mg_of KX G ?Gh) (L2.bc (st:=My.l7) ?Gi ?Gj ?Gk) (PySem.W.mg_of KX G ?Gm) (L2.bc (st:=My.l8) ?Gn ?Gp ?Gq) (PySem.W.mg_of KX G ?Gr) (L2.bc (st:=My.l9) ?Gs ?Gu ?Gv) (PySem.W.mg_of KX G ?Gw) (L2.bc (st:=My.l_) ?Gx ?Gy ?Gz) (PySem.W.mg_of KX G ?GA) (L2.bc (st:=My.ma) ?GB ?GC ?GD) (PySem.W.mg_of KX G ?GF) (L2.bc (st:=My.md) ?GG ?GH ?GI) (PySem.W.mg_of KX G ?GJ) (L2.bc (st:=My.me) ?GK ?GL ?GN) (PySem.W.mg_of KX G ?GO) (L2.bc (st:=My.mf) ?GP ?GQ ?GR) (PySem.W.mg_of KX G ?GS) (L2.bc (st:=My.mh) ?GU ?GV ?GW) (PySem.W.mg_of KX G ?GX) (L2.bc (st:=My.mi) ?GY ?GZ ?G0) (PySem.W.mg_of KX G ?G_) (L2.bc (st:=My.mj) ?Hi ?Hj ?Hk) (PySem.W.mg_of KX G ?Hl) (L2.bc (st:=My.ml) ?Hm ?Hn ?Ho) (PySem.W.mg_of KX G ?Hq) (L2.bc (st:=My.mn) ?Hr ?Hs ?Ht) (PySem.W.mg_of KX G ?Hu) (L2.bc (st:=My.mq) ?HA ?HB ?HC) (PySem.W.mg_of KX G ?HD) (L2.bc (st:=My.mr) ?HE ?HF ?HG) ?qk ?ql ?qm ?qo ?qp ?qq ?qr ?qt ?qu ?qv ?qw ?qx ?qy ?qz ?qA ?qB ?qC ?qD ?qE ?qF ?qG ?qH ?qI ?qJ ?qK ?qL ?qM ?qN ?qO ?qP ?qQ ?qR ?qS ?qT ?qU
   (case qb=>k_is)
   (case qc=>k_is)
   (case qd=>k_is)
   (case qe=>k_is)
   (case qf=>k_is)
   (case qg=>k_is)
   (case qh=>k_is)
   (case qi=>k_is)
   (case qj=>k_is)
   (case FA=>k_is)
   (case FC=>k_is)
   (case FD=>k_is)
   (case FE=>k_is)
   (case FF=>k_is)
   (case FG=>k_is)
   (case FH=>k_is)
   (case FI=>k_is)
   (case FJ=>k_is)
   (case FK=>k_is)
   (case FL=>k_is)
   (case FN=>k_is)
   (case FO=>k_is)
   (case FP=>k_is)
   (case FQ=>k_is)
   (case FR=>k_is)
   (case FT=>k_is)
   (case FU=>k_is)
   (case FV=>k_is)
   (case FW=>k_is)
   (case FX=>k_is)
   (case FY=>k_is)
   (case FZ=>k_is)
   (case F0=>k_is)
   (case F1=>k_is)
   (case F2=>k_is)
   (case F3=>k_is)
   (case F4=>k_is)
   (case F5=>k_is)
   (case F6=>k_is)
   (case F7=>k_is)
   (case F8=>k_is)
   (case F9=>k_is)
   (case F_=>k_is)
   (case Ga=>k_is)
   (case Gb=>k_is)
   (case Gd=>k_is)
   (case Ge=>k_is)
   (case Gf=>k_is)
   (case Gg=>k_is)
   (case Gh=>k_is)
   (case Gi=>k_is)
   (case Gj=>k_is)
   (case Gk=>k_is)
   (case Gm=>k_is)
   (case Gn=>k_is)
   (case Gp=>k_is)
   (case Gq=>k_is)
   (case Gr=>k_is)
   (case Gs=>k_is)
   (case Gu=>k_is)
   (case Gv=>k_is)
   (case Gw=>k_is)
   (case Gx=>k_is)
   (case Gy=>k_is)
   (case Gz=>k_is)
   (case GA=>k_is)
   (case GB=>k_is)
   (case GC=>k_is)
   (case GD=>k_is)
   (case GF=>k_is)
   (case GG=>k_is)
   (case GH=>k_is)
   (case GI=>k_is)
   (case GJ=>k_is)
   (case GK=>k_is)
   (case GL=>k_is)
   (case GN=>k_is)
   (case GO=>k_is)
   (case GP=>k_is)
   (case GQ=>k_is)
   (case GR=>k_is)
   (case GS=>k_is)
   (case GU=>k_is)
   (case GV=>k_is)
   (case GW=>k_is)
   (case GX=>k_is)
   (case GY=>k_is)
   (case GZ=>k_is)
   (case G0=>k_is)
   (case G_=>k_is)
   (case Hi=>k_is)
   (case Hj=>k_is)
   (case Hk=>k_is)
   (case Hl=>k_is)
   (case Hm=>k_is)
   (case Hn=>k_is)
   (case Ho=>k_is)
   (case Hq=>k_is)
   (case Hr=>k_is)
   (case Hs=>k_is)
   (case Ht=>k_is)
   (case Hu=>k_is)
   (case HA=>k_is)
   (case HB=>k_is)
   (case HC=>k_is)
   (case HD=>k_is)
   (case HE=>k_is)
   (case HF=>k_is)
   (case HG=>k_is)
   (case qk=>k_is)
   (case ql=>k_is)
   (case qm=>k_is)
   (case qo=>k_is)
   (case qp=>k_is)
   (case qq=>k_is)
   (case qr=>k_is)
   (case qt=>k_is)
   (case qu=>k_is)
   (case qv=>k_is)
   (case qw=>k_is)
   (case qx=>k_is)
   (case qy=>k_is)
   (case qz=>k_is)
   (case qA=>k_is)
   (case qB=>k_exc)
   (case qC=>k_exc)
   (case qD=>k_exc)
   (case qE=>k_is)
   (case qF=>k_is)
   (case qG=>kit_is)
   (case qH=>kit_is)
   (case qI=>kit_is)
   (case qJ=>kit_is)
   (case qK=>kit_is)
   (case qL=>kit_is)
   (case qM=>kit_is)
   (case qN=>kit_is)
   (case qO=>kit_is)
   (case qP=>k_is)
   (case qQ=>k_is)
   (case qR=>k_is)
   (case qS=>k_is)
   (case qT=>k_is)
   (case qU=>k_is)
  obtain ⟨t,T⟩:=T
  have e0:=jC.symm.trans T.vF
  cases e0
  exact My.E6 T
#print axioms PySem.Challenge.cw_bandwright_k19_no_orders_holds
