import PyProof.Rows.All
import Wide.All
import OpenK.AllK
import Wide.FinOn
import Lean
import PyProof.EqAt
import PyProof.EqKinds
import PyProof.TupleCall
import PySem.Challenge.RW_bandwright_k18_whole_deeds_by_links
set_option Elab.async false
set_option linter.all false
set_option maxRecDepth 100000
namespace L2
open PySem PySem.Spec PyProof.Rows
abbrev Key:=Sum Int Str
def iF:Key→Value→Bool
 | .inl k,v=>Value.isInt k v
 | .inr x,v=>Value.isStrOf x v
def AO(w:World):Key→Int
 | .inl k=>hashInt k
 | .inr x=>hashStr w x
theorem fH:∀{k:Key} {v:Value},iF k v=true→(∃i t,k=Sum.inl i∧v=Value.int i t)∨(∃x t,k=Sum.inr x∧v=Value.str x t)
 | .inl i,v,h=>by
  obtain ⟨t,e⟩:=Value.isInt_shape (k:=i) (v:=v) h
  exact .inl ⟨i,t,rfl,e⟩
 | .inr x,v,h=>by
  obtain ⟨t,e⟩:=Value.isStrOf_shape (x:=x) (v:=v) h
  exact .inr ⟨x,t,rfl,e⟩
theorem AQ(i:Int)(t:Tok):iF (.inl i) (.int i t)=true:=by simp [iF,Value.isInt]
theorem AR(x:Str)(t:Tok):iF (.inr x) (.str x t)=true:=by simp [iF,Value.isStrOf]
theorem AS(a b:Int):decide ((Sum.inl a:Key)=Sum.inl b)=(a == b):=by
 by_cases e:a=b
 ·subst e;simp
 ·have h:¬(Sum.inl a:Key)=Sum.inl b:=fun q=>e (Sum.inl.inj q)
  rw [decide_eq_false h]
  exact (beq_eq_false_iff_ne.mpr e).symm
theorem AU(a b:Str):decide ((Sum.inr a:Key)=Sum.inr b)=decide (a=b):=by
 by_cases e:a=b
 ·subst e;simp
 ·have h:¬(Sum.inr a:Key)=Sum.inr b:=fun q=>e (Sum.inr.inj q)
  rw [decide_eq_false h,decide_eq_false e]
theorem AV(a:Int)(b:Str):decide ((Sum.inl a:Key)=Sum.inr b)=false:=decide_eq_false (fun q=>nomatch q)
theorem AW(a:Str)(b:Int):decide ((Sum.inr a:Key)=Sum.inl b)=false:=decide_eq_false (fun q=>nomatch q)
def cM(prog:Program)(w:World):PySem.KeyKind prog w Key where
 is:=iF
 hash:=AO w
 inj:=fun v a b ha hb=>by
  rcases fH ha with ⟨i,t,rfl,rfl⟩ | ⟨x,t,rfl,rfl⟩
  ·rcases fH hb with ⟨j,u,rfl,e⟩ | ⟨y,u,rfl,e⟩
   ·injection e with e1 _;rw [e1]
   ·exact nomatch e
  ·rcases fH hb with ⟨j,u,rfl,e⟩ | ⟨y,u,rfl,e⟩
   ·exact nomatch e
   ·injection e with e1 _;rw [e1]
 byValue:=fun k v h=>by
  rcases fH h with ⟨i,t,rfl,rfl⟩ | ⟨x,t,rfl,rfl⟩ <;> rfl
 pyHash:=fun hv h=>by
  rcases fH hv with ⟨i,t,rfl,rfl⟩ | ⟨x,t,rfl,rfl⟩
  ·exact wpAny_pyHash_int h
  ·exact wpAny_pyHash_str h
 eqBool:=fun hu hv h=>by
  rcases fH hu with ⟨i,t,rfl,rfl⟩ | ⟨x,t,rfl,rfl⟩
  ·rcases fH hv with ⟨j,u,rfl,rfl⟩ | ⟨y,u,rfl,rfl⟩
   ·rw [AS] at h;exact wpAny_eqBool_int h
   ·rw [AV] at h;exact SeqAt.EqAt.int_str i t y u _ _ _ _ h
  ·rcases fH hv with ⟨j,u,rfl,rfl⟩ | ⟨y,u,rfl,rfl⟩
   ·rw [AW] at h;exact SeqAt.EqAt.str_int x t j u _ _ _ _ h
   ·rw [AU] at h;exact wpAny_eqBool_str h
 «strs»:=fun k x t v h=>by
  rcases fH h with ⟨i,u,rfl,e⟩ | ⟨y,u,rfl,e⟩
  ·exact nomatch e
  ·injection e with e1 _
   subst e1
   cases v <;> rfl
theorem AX(prog:Program)(w:World)(i:Int)(t:Tok):(cM prog w).is (.inl i) (.int i t)=true:=AQ i t
theorem AY(prog:Program)(w:World)(x:Str)(t:Tok):(cM prog w).is (.inr x) (.str x t)=true:=AR x t
inductive V where
 | aF | bl (b:Bool) | int (i:Int) | str (x:Str) | fg (b:Array UInt8) | jQ (b:UInt64) | ref (a:Addr) | ty (n:String)
 deriving DecidableEq
def RelV:V→Value→Prop
 | .aF,u=>u=Value.none
 | .bl b,u=>u=Value.bool b
 | .int i,u=>∃t,u=Value.int i t
 | .str x,u=>∃t,u=Value.str x t
 | .fg b,u=>∃t,u=Value.bytes b t
 | .jQ b,u=>∃t,u=Value.float b t
 | .ref a,u=>u=Value.ref a
 | .ty n,u=>u=Value.type n
abbrev Vals:List V→List Value→Prop:=Paired RelV
theorem Vals.length{xs:List V}{us:List Value}(r:Vals xs us):xs.length=us.length:=Paired.length r
theorem Vals.get:∀{xs:List V} {us:List Value} {i:Nat} {x:V},Vals xs us→xs[i]?=some x→∃u,us[i]?=some u∧RelV x u
 | _,_,_,_,.nil,e=>by simp at e
 | _,_,0,_,.cons r _,e=>by simp at e;subst e;exact ⟨_,rfl,r⟩
 | _,_,i+1,x,.cons _ t,e=>by
  obtain ⟨u,h1,h2⟩:=Vals.get (i:=i) (x:=x) t (by simpa using e)
  exact ⟨u,by simpa using h1,h2⟩
theorem Vals.set{x:V}{u:Value}(r:RelV x u):∀{xs:List V} {us:List Value} (i:Nat),Vals xs us→Vals (xs.set i x) (us.set i u)
 | _,_,_,.nil=>.nil
 | _,_,0,.cons _ t=>.cons r t
 | _,_,i+1,.cons q t=>.cons q (Vals.set r i t)
theorem Vals.append:∀{xs ys:List V} {us ws:List Value},Vals xs us→Vals ys ws→Vals (xs++ys) (us++ws)
 | _,_,_,_,.nil,s=>s
 | _,_,_,_,.cons r t,s=>.cons r (Vals.append t s)
theorem Vals.take:∀{xs:List V} {us:List Value} (n:Nat),Vals xs us→Vals (xs.take n) (us.take n)
 | _,_,0,_=>.nil
 | _,_,_+1,.nil=>.nil
 | _,_,n+1,.cons r t=>.cons r (Vals.take n t)
theorem Vals.drop:∀{xs:List V} {us:List Value} (n:Nat),Vals xs us→Vals (xs.drop n) (us.drop n)
 | _,_,0,r=>r
 | _,_,_+1,.nil=>.nil
 | _,_,n+1,.cons _ t=>Vals.drop n t
theorem Vals.none_of:∀{xs:List V} {us:List Value} {i:Nat},Vals xs us→xs[i]?=none→us[i]?=none:=fun{xs us i} r e=>by
 have h1:=r.length
 have h2:xs.length≤i:=List.getElem?_eq_none_iff.mp e
 exact List.getElem?_eq_none_iff.mpr (by omega)
def iG:Option V→Option Value→Prop
 | some v,some u=>RelV v u
 | none,none=>True
 | _,_=>False
def KV{κ:Type}:List (κ×V)→List (κ×Value)→Prop:=Paired fun(p:κ×V) (q:κ×Value)=>p.1=q.1∧RelV p.2 q.2
def kV:Key→V
 | .inl i=>.int i
 | .inr x=>.str x
inductive HO where
 | lst (xs:List V)
 | tup (xs:List V)
 | dK (ae:List (Key×V)) | dT (ae:List (List Key×V))
 | set (S:Int→Bool) (n:Nat)
 | ins (C dx:Addr) (fs:List (Str×V))
 | own (x:Addr)
 | xd (fs:List (Str×V))
 | met (f x:Addr)
 | c_ (lo hi:Int)
 | bg (o:Obj) (u:HO)
 | gp (ps:Array Value)
 | ext (φ:Heap→Prop)
abbrev Hp:=Addr→Option HO
def upd(H:Hp)(a:Addr)(o:HO):Hp:=fun b=>if b=a then some o else H b
theorem aq{H:Hp}{a:Addr}{o:HO}:upd H a o a=some o:=by unfold upd;rw [if_pos rfl]
theorem aC{H:Hp}{a b:Addr}{o:HO}(h:b≠a):upd H a o b=H b:=by unfold upd;rw [if_neg h]
theorem AZ{H:Hp}{a b:Addr}{o u:HO}(h:H a=some o)(h':H b=some u)(d:o≠u):a≠b:=by
 intro e;subst e;rw [h] at h';exact d (Option.some.inj h')
theorem fI{H:Hp}{a b:Addr}{o:HO}(h:H a=some o)(h':H b=none):a≠b:=by
 intro e;subst e;rw [h] at h';cases h'
section
variable (P:Program) (w:World)
def a_(H:Hp)(h:Heap)(a:Addr):HO→Prop
 | .lst xs=>xs.length≤sizeLine∧∃(ai:List Value) (n:Nat),Vals xs ai∧h.get? a=some {cls:=.type "list",data:=.seq ai.toArray n}
 | .tup xs=>xs.length≤sizeLine∧∃ai:List Value,Vals xs ai∧IsTup h a ai.toArray
 | .dK ae=>ae.length≤sizeLine∧(a == sysModules)=false∧∃vs,KV ae vs∧h.DictOf (cM P w) a vs
 | .dT ae=>ae.length≤sizeLine∧(a == sysModules)=false∧∃xs:List (List Key×Addr×Value),
   Paired (fun(p:List Key×V) (q:List Key×Addr×Value)=>p.1=q.1∧H q.2.1=some (.tup (p.1.map kV))∧RelV p.2 q.2.2) ae xs ∧
   ∃o es ep,h.get? a=some o∧o.ExactDict∧o.data=.dict es ep∧es.toList=xs.map (entryOfKey (tupleKind (cM P w)))∧(xs.map (·.1)).Nodup
 | .set S n=>h.SetOf (intKind P w) a S n
 | .ins C dx fs=>H dx=some (.own a)∧fs.length≤1000∧dx≠a∧h.get? a=some (PySem.W.instObj C dx) ∧
   ∃mA,h.Ns1 dx mA∧(∀f,iG (fs.lookup f) (mA f))∧PySem.Within mA (fs.map (·.1))
 | .own _=>∃o,h.get? a=some o
 | .xd fs=>∃mA,h.Ns1 a mA∧∀f,iG (fs.lookup f) (mA f)
 | .c_ lo hi=>∃t u v,h.get? a=some {cls:=.type "range",data:=.fields #[.int lo t,.int hi u,.int 1 v]}
 | .bg o u=>h.get? a=some o∧a_ H h a u
 | .gp ps=>h.get? a=some {cls:=.none,data:=.fields ps}
 | .met f x=>h.get? a=some (PySem.W.methodObj (.ref f) (.ref x))
 | .ext φ=>φ h∧(∃o,h.get? a=some o)∧∀h1 h2:Heap,φ h1→(∀o,h1.get? a=some o→h2.get? a=some o)→φ h2
def bj(H:Hp)(h:Heap):Prop:=∀a o,H a=some o→a_ P w H h a o
end
section
variable {P:Program} {w:World} {H H':Hp} {h h':Heap} {a:Addr} {o:HO}
theorem a_.lt(x:a_ P w H h a o):a<h.objs.size:=by
 cases o with
 | lst xs=>obtain ⟨_,_,_,_,e⟩:=x;exact Heap.lt_size e
 | tup xs=>obtain ⟨_,_,_,p⟩:=x;exact p.lt
 | dK ae=>obtain ⟨_,_,_,_,o,_,_,e,_⟩:=x;exact Heap.lt_size e
 | dT ae=>obtain ⟨_,_,_,_,o,_,_,e,_⟩:=x;exact Heap.lt_size e
 | set S n=>obtain ⟨o,_,_,_,e,_⟩:=x;exact Heap.lt_size e
 | ins C dx fs=>obtain ⟨_,_,_,e,_⟩:=x;exact Heap.lt_size e
 | own y=>obtain ⟨_,e⟩:=x;exact Heap.lt_size e
 | xd fs=>obtain ⟨_,⟨_,_,_,e,_⟩,_⟩:=x;exact Heap.lt_size e
 | c_ lo hi=>obtain ⟨_,_,_,e⟩:=x;exact Heap.lt_size e
 | bg ob u=>obtain ⟨e,_⟩:=x;exact Heap.lt_size e
 | gp ps=>exact Heap.lt_size (show h.get? a=some _ from x)
 | met f y=>exact Heap.lt_size (show h.get? a=some _ from x)
 | ext φ=>obtain ⟨_,⟨_,e⟩,_⟩:=x;exact Heap.lt_size e
theorem Paired.rF{α β:Type}{F G:α→β→Prop}:∀{l₁:List α} {l₂:List β},Paired F l₁ l₂→(∀a b,F a b→G a b)→Paired G l₁ l₂
 | _,_,.nil,_=>.nil
 | _,_,.cons r t,f=>.cons (f _ _ r) (Paired.rF t f)
theorem a_.fJ(x:a_ P w H h a o)(k:∀b u,(b=a∨H b=some (.own a))→h.get? b=some u→h'.get? b=some u)
  (ho:∀b,H b=some (.own a)→H' b=some (.own a)) (ht:∀b xs,H b=some (.tup xs)→H' b=some (.tup xs)):a_ P w H' h' a o:=by
 induction o with
 | lst xs=>obtain ⟨z,ai,n,r,e⟩:=x;exact ⟨z,ai,n,r,k _ _ (.inl rfl) e⟩
 | tup xs=>obtain ⟨z,ai,r,ob,e,c⟩:=x;exact ⟨z,ai,r,ob,k _ _ (.inl rfl) e,c⟩
 | dK ae=>obtain ⟨z,y,vs,r,ob,es,ep,e,c⟩:=x;exact ⟨z,y,vs,r,ob,es,ep,k _ _ (.inl rfl) e,c⟩
 | dT ae=>
  obtain ⟨z,y,xs,r,ob,es,ep,e,c⟩:=x
  exact ⟨z,y,xs,Paired.rF r fun p q z=>⟨z.1,ht _ _ z.2.1,z.2.2⟩,ob,es,ep,k _ _ (.inl rfl) e,c⟩
 | set S n=>obtain ⟨ob,es,ep,t,e,c⟩:=x;exact ⟨ob,es,ep,t,k _ _ (.inl rfl) e,c⟩
 | ins C dx fs=>
  obtain ⟨d,z,ne,e,mA,⟨od,es,ep,e2,c⟩,r⟩:=x
  exact ⟨ho _ d,z,ne,k _ _ (.inl rfl) e,mA,⟨od,es,ep,k _ _ (.inr d) e2,c⟩,r⟩
 | own y=>obtain ⟨ob,e⟩:=x;exact ⟨ob,k _ _ (.inl rfl) e⟩
 | xd fs=>obtain ⟨mA,⟨od,es,ep,e,c⟩,r⟩:=x;exact ⟨mA,⟨od,es,ep,k _ _ (.inl rfl) e,c⟩,r⟩
 | c_ lo hi=>obtain ⟨t,u,v,e⟩:=x;exact ⟨t,u,v,k _ _ (.inl rfl) e⟩
 | bg ob u ih=>obtain ⟨e,q⟩:=x;exact ⟨k _ _ (.inl rfl) e,ih q⟩
 | gp ps=>
  have e:h.get? a=some {cls:=.none,data:=.fields ps}:=x
  show h'.get? a=some {cls:=.none,data:=.fields ps}
  exact k a _ (.inl rfl) e
 | met f y=>
  have e:h.get? a=some (PySem.W.methodObj (.ref f) (.ref y)):=x
  show h'.get? a=some (PySem.W.methodObj (.ref f) (.ref y))
  exact k a _ (.inl rfl) e
 | ext φ=>obtain ⟨p,⟨o,e⟩,st⟩:=x;exact ⟨st _ _ p fun o q=>k _ _ (.inl rfl) q,⟨o,k _ _ (.inl rfl) e⟩,st⟩
theorem bj.lt(x:bj P w H h)(e:H a=some o):a<h.objs.size:=(x a o e).lt
theorem bj.fresh(x:bj P w H h)(e:h.objs.size≤a):H a=none:=by
 cases q:H a with
 | none=>rfl
 | some u=>exact absurd (Nat.lt_of_lt_of_le (x.lt q) e) (Nat.lt_irrefl _)
theorem bj.kept(x:bj P w H h)(k:∀b u,h.get? b=some u→h'.get? b=some u):bj P w H h':=fun a o e=>
 (x a o e).fJ (fun b u _ q=>k b u q) (fun _ q=>q) fun _ _ q=>q
theorem bj.laid(x:bj P w H h)(k:∀b u,h.get? b=some u→h'.get? b=some u)(hp:h.objs.size≤a)(new:a_ P w (upd H a o) h' a o):bj P w (upd H a o) h':=fun b u e=>by
 have hn:=x.fresh hp
 by_cases hb:b=a
 ·subst hb;rw [aq] at e;cases e;exact new
 ·rw [aC hb] at e
  exact (x b u e).fJ (fun c v _ q=>k c v q) (fun c q=>by rw [aC (fI q hn)];exact q) fun c xs q=>by rw [aC (fI q hn)];exact q
end
def Rd(H:Hp)(a:Addr)(u:HO):Prop:=H a=some u∨∃o,H a=some (.bg o u)
theorem Rd.ok{P:Program}{w:World}{H:Hp}{h:Heap}{a:Addr}{u:HO}(r:Rd H a u)(x:bj P w H h):a_ P w H h a u:=by
 rcases r with r | ⟨o,r⟩
 ·exact x a u r
 ·obtain ⟨_,q⟩:=x a _ r
  exact q
def mq:Option HO→Prop
 | some (.lst _)=>True
 | some (.dK _)=>True
 | some (.dT _)=>True
 | some (.set _ _)=>True
 | some (.ins _ _ _)=>True
 | some (.ext _)=>True
 | _=>False
section
variable {P:Program} {w:World} {H:Hp} {h h':Heap} {x e:Addr} {o':HO}
theorem bj.write(ok:bj P w H h)(mu:mq (H x))(he:e=x∨H e=some (.own x))(k:∀b u,b≠e→h.get? b=some u→h'.get? b=some u)(jR:∃u,h'.get? e=some u)
  (new:a_ P w (upd H x o') h' x o'):bj P w (upd H x o') h':=fun b u q=>by
 have vL:∀c y,H c=some (.own y)→c≠x:=fun c y r z=>by subst z;rw [r] at mu;exact mu
 have A0:∀c xs,H c=some (.tup xs)→c≠x:=fun c xs r z=>by subst z;rw [r] at mu;exact mu
 by_cases hb:b=x
 ·subst hb;rw [aq] at q;cases q;exact new
 ·rw [aC hb] at q
  by_cases iH:b=e
  ·have q':H b=some (.own x):=by
    rcases he with z | z
    ·exact absurd (iH.trans z) hb
    ·rw [iH];exact z
   rw [q] at q';cases q'
   obtain ⟨v,hv⟩:=jR
   exact ⟨v,by rw [iH];exact hv⟩
  ·refine (ok b u q).fJ (fun c v hc r=>k c v ?_ r) (fun c r=>by rw [aC (vL c b r)];exact r) fun c xs r=>by rw [aC (A0 c xs r)];exact r
   rcases hc with rfl | hc
   ·exact iH
   ·rintro rfl
    rcases he with z | z
    ·exact vL c b hc z
    ·rw [hc] at z;cases z;exact hb rfl
end
structure Un (fs ex:List Addr) (H H':Hp) (h h':Heap):Prop where
 keep:∀b o,h.get? b=some o→H b=none→b∉fs→b∉ex→h'.get? b=some o
 slot:∀b o,h.get? b=some o→H b=none→b∈fs→b∉ex→∃sl,h'.get? b=some {o with slots:=sl}
 free:∀b o,h.get? b=some o→H b=none→b∉ex→H' b=none
 there:∀b o,h.get? b=some o→b∉ex→∃o',h'.get? b=some o'
 da:∀b xs,H b=some (.tup xs)→H' b=some (.tup xs)
 dv:∀b o u,H b=some (.bg o u)→H' b=some (.bg o u)
 dP:∀b ps,H b=some (.gp ps)→∃more,H' b=some (.gp (ps++more))
section
variable {fs rG ex mr:List Addr} {H H1 H2:Hp} {h h1 h2 h':Heap} {a x e:Addr} {o:HO}
theorem Un.any(u:Un fs ex H H1 h h1){b:Addr}{ob:Obj}(q:h.get? b=some ob)(n:H b=none)(hx:b∉ex):∃sl,h1.get? b=some {ob with slots:=sl}:=by
 by_cases hb:b∈fs
 ·exact u.slot b ob q n hb hx
 ·exact ⟨ob.slots,u.keep b ob q n hb hx⟩
theorem Un.kept(k:∀b u,h.get? b=some u→h'.get? b=some u):Un fs ex H H h h':=
 ⟨fun b ob q _ _ _=>k b ob q,fun b ob q _ _ _=>⟨ob.slots,k b ob q⟩,fun _ _ _ n _=>n,fun b ob q _=>⟨ob,k b ob q⟩,fun _ _ q=>q,fun _ _ _ q=>q,fun _ ps q=>⟨#[],by rw [q];simp⟩⟩
theorem Un.refl:Un fs ex H H h h:=Un.kept fun _ _ q=>q
theorem Un.laid(k:∀b u,h.get? b=some u→h'.get? b=some u)(hp:h.objs.size≤a)(hn:H a=none):Un fs ex H (upd H a o) h h' where
 keep:=fun b u q _ _ _=>k b u q
 slot:=fun b u q _ _ _=>⟨u.slots,k b u q⟩
 free:=fun b u q n _=>by rw [aC (Nat.ne_of_lt (Nat.lt_of_lt_of_le (Heap.lt_size q) hp))];exact n
 there:=fun b u q _=>⟨u,k b u q⟩
 da:=fun b xs q=>by rw [aC (fI q hn)];exact q
 dv:=fun b u xs q=>by rw [aC (fI q hn)];exact q
 dP:=fun b ps q=>⟨#[],by rw [aC (fI q hn),q];simp⟩
theorem Un.write(mu:mq (H x))(he:e=x∨H e=some (.own x))(k:∀b u,b≠e→h.get? b=some u→h'.get? b=some u)(jR:∃u,h'.get? e=some u):Un fs ex H (upd H x o) h h':=by
 have hx:∀b,H b=none→b≠x:=fun b n z=>by subst z;rw [n] at mu;exact mu
 have hb:∀b,H b=none→b≠e:=fun b n z=>by
  subst z
  rcases he with r | r
  ·exact hx b n r
  ·rw [n] at r;cases r
 have hm:∀b u,H b=some u→¬mq (some u)→b≠x:=fun b u q nm z=>by subst z;rw [q] at mu;exact nm mu
 refine ⟨fun b u q n _ _=>k b u (hb b n) q,fun b u q n _ _=>⟨u.slots,k b u (hb b n) q⟩,fun b u q n _=>by rw [aC (hx b n)];exact n,fun b u q _=>?_,
  fun b xs q=>by rw [aC (hm b _ q fun z=>z)];exact q,fun b u xs q=>by rw [aC (hm b _ q fun z=>z)];exact q,fun b ps q=>⟨#[],by rw [aC (hm b _ q fun z=>z),q];simp⟩⟩
 by_cases iH:b=e
 ·subst iH;exact jR
 ·exact ⟨u,k b u iH q⟩
end
def oo(h:Heap)(H:Hp):List Addr:=(List.range h.objs.size).filter fun a=>(H a).isSome
def gq(h:Heap)(H:Hp):Heap:=PySem.W.hideAll h (oo h H)
theorem A1(h:Heap)(H:Hp):(gq h H).objs.size=h.objs.size:=PySem.W.hideAll_size _ _
theorem A2{h:Heap}{H:Hp}{b:Addr}{o:Obj}(e:h.get? b=some o)(n:H b=none):(gq h H).get? b=some o:=
 PySem.W.hideAll_get _ e fun hm=>by
  have q:(H b).isSome=true:=(List.mem_filter.mp hm).2
  rw [n] at q;simp at q
theorem A3{h:Heap}{H:Hp}{b:Addr}{o:Obj}(e:(gq h H).get? b=some o):h.get? b=some o∧H b=none:=by
 have e':h.get? b=some o:=PySem.W.of_hideAll (oo h H) e
 refine ⟨e',?_⟩
 cases q:H b with
 | none=>rfl
 | some x=>
  have hm:b∈oo h H:=List.mem_filter.mpr ⟨List.mem_range.mpr (Heap.lt_size e'),by simp [q]⟩
  have z:(gq h H).get? b=none:=PySem.W.hideAll_none (oo h H) hm
  rw [z] at e;cases e
structure Mod (K:PySem.W.Frag) (mg:Str→Option Value) (base:Heap):Prop where
 bK:K.In base
 glob:base.Ns mainGlobals mg
 blt:∃mb,base.Ns builtinsNs mb∧∀x:Str,x ≠ "__name__"→mb x=bootBuiltins x
 nolimit:base.NoLimit
structure Cx where
 prog:Program
 w:World
 K:PySem.W.Frag
 mg:Str→Option Value
 base:Heap
 A:Around
 N:List Str
 s₀:Shared
 H₀:Hp
 env:Env
 outer:List Env
 stack:List Env
 ex:List Addr
 fn:Str→Bool
 calm:Bool
 pn:List (Addr×Obj)
 xe:Value→Shared→Prop
def bG(l:List Env):List Addr:=l.filterMap (·.frame)
abbrev Cx.fs (X:Cx):List Addr:=bG X.outer
def oq(sc:Scope)(x:Str):Prop:=sc.names.lookup x=some .local∨sc.names.lookup x=some .cell∨sc.names.lookup x=some .free
def Loc(sc:Scope)(x:Str):Prop:=sc.names.lookup x=some .local∨sc.names.lookup x=some .cell
def Look(env:Env)(h:Heap)(m:Str→Option Value)(x:Str)(u:Value):Prop:=
 (env.kindOf x=some .local∧m x=some u)∨((env.kindOf x=some .cell∨env.kindOf x=some .free)∧∃c,env.cells.lookup x=some c∧h.IsCell c (some u))
structure Cx.Ok (X:Cx):Prop where
 mod:Mod X.K X.mg X.base
 kind:X.env.scope.kind=.function
 glob:X.env.globals=mainGlobals
 blt:X.env.builtins=builtinsNs
 above:X.s₀.heap.objs.size≤X.env.locals
 inj:∀x y c,X.env.cells.lookup x=some c→X.env.cells.lookup y=some c→x=y
 has:∀x,(X.env.kindOf x=some .cell∨X.env.kindOf x=some .free)→∃c,X.env.cells.lookup x=some c
 my:∀x c,X.fn x=true→X.env.cells.lookup x=some c→X.s₀.heap.objs.size≤c
 hd:X.calm=true→X.A.handled=none
 frames:X.A.frames=some X.stack
 d9:X.stack=X.outer∨(X.stack=X.env::X.outer∧X.env.frame=some X.env.locals)
 vM:∀b∈X.ex,b≠X.env.locals∧∀x c,X.env.cells.lookup x=some c→c≠b
 bs:∀b o,X.base.get? b=some o→X.s₀.heap.get? b=some o∧X.H₀ b=none
 fK:X.base.objs.size≤X.s₀.heap.objs.size
 jS:∀b o,X.base.get? b=some o→b∉X.ex
 jT:∀b∈X.ex,b∉X.fs
 fh:X.s₀.heap.FunFrames X.base X.outer
 gY:∀b∈X.fs,X.H₀ b=none
structure Inv (X:Cx) (pins:List (Addr×Obj)) (σ:List (Option V)) (H:Hp) (s:Shared):Prop where
 ok:X.Ok
 os:s.os=X.s₀.os
 bare:AllBare s.gens
 base:Un X.fs X.ex X.H₀ H X.s₀.heap s.heap
 loc:∃m,s.heap.Ns X.env.locals m∧∀(i:Nat) (x:Str) (v:V),X.N[i]?=some x→σ[i]?=some (some v)→oq X.env.scope x→∃u,RelV v u∧Look X.env s.heap m x u
 cell:∀x c,X.env.cells.lookup x=some c→∃v,s.heap.IsCell c v
 free:H X.env.locals=none
 fi:∀x c,X.env.cells.lookup x=some c→H c=none
 pin:∀p∈X.pn++pins,s.heap.get? p.1=some p.2∧H p.1=none∧p.1≠X.env.locals∧p.1∉X.fs∧∀v,p.2.data≠.cell v
 ar:bj X.prog X.w H s.heap
 len:σ.length=X.N.length
section
variable {X:Cx} {pins:List (Addr×Obj)} {σ:List (Option V)} {H H':Hp} {s:Shared} {h':Heap}
theorem Cx.Ok.A4(ok:X.Ok){b:Addr}{o:Obj}(e:X.base.get? b=some o):b∉X.fs:=fun hb=>by
 have:=(ok.fh.mem hb).1
 rw [e] at this;cases this
theorem Inv.bs(I:Inv X pins σ H s):∀b o,X.base.get? b=some o→s.heap.get? b=some o∧H b=none:=fun b o e=>
 ⟨I.base.keep b o (I.ok.bs b o e).1 (I.ok.bs b o e).2 (I.ok.A4 e) (I.ok.jS b o e),I.base.free b o (I.ok.bs b o e).1 (I.ok.bs b o e).2 (I.ok.jS b o e)⟩
theorem Inv.bk(I:Inv X pins σ H s):∀b o,X.base.get? b=some o→s.heap.get? b=some o:=fun b o e=>(I.bs b o e).1
theorem Inv.mod(I:Inv X pins σ H s):Mod X.K X.mg X.base:=I.ok.mod
theorem Inv.cI(I:Inv X pins σ H s):X.K.In s.heap:=I.ok.mod.bK.keeps I.bk
theorem Inv.lt(I:Inv X pins σ H s):X.env.locals<s.heap.objs.size:=let ⟨_,hn,_⟩:=I.loc;hn.lt
theorem Inv.sz(I:Inv X pins σ H s):X.s₀.heap.objs.size≤s.heap.objs.size:=Nat.le_trans I.ok.above (Nat.le_of_lt I.lt)
theorem Inv.A5(I:Inv X pins σ H s){a:Addr}(h:s.heap.objs.size≤a):a∉X.fs:=fun hb=>by
 obtain ⟨_,o,ho,_⟩:=I.ok.fh.mem hb
 exact absurd (Nat.lt_of_lt_of_le (Heap.lt_size ho) (Nat.le_trans I.sz h)) (Nat.lt_irrefl _)
theorem Inv.iI(I:Inv X pins σ H s):∀x c,X.env.cells.lookup x=some c→c≠X.env.locals:=fun x c e z=>by
 obtain ⟨v,o,ho,hd⟩:=I.cell x c e
 obtain ⟨m,⟨o',es,ep,gZ,A6,_⟩,_⟩:=I.loc
 rw [z,gZ] at ho;cases ho;rw [A6] at hd;cases hd
theorem Inv.fh(I:Inv X pins σ H s):s.heap.FunFrames X.base X.outer:=by
 have all:∀(l:List Env),(∀b∈bG l,b∈X.fs)→X.s₀.heap.FunFrames X.base l→s.heap.FunFrames X.base l:=by
  intro l
  induction l with
  | nil=>intro _ _;trivial
  | cons env r ih=>
   intro hs hl
   obtain ⟨hk,⟨L,o,hf,hn,ho,hd⟩,hr⟩:=hl
   have hL:L∈X.fs:=hs L (by unfold bG;rw [List.filterMap_cons,hf];exact List.mem_cons_self)
   obtain ⟨sl,e⟩:=I.base.slot L o ho (I.ok.gY L hL) hL fun z=>I.ok.jT L z hL
   exact ⟨hk,⟨L,_,hf,hn,e,hd⟩,ih (fun b hb=>hs b (by unfold bG;rw [List.filterMap_cons,hf];exact List.mem_cons_of_mem _ hb)) hr⟩
 exact all X.outer (fun _ hb=>hb) I.ok.fh
theorem Inv.stack(I:Inv X pins σ H s):s.heap.FunFrames X.base X.stack:=by
 rcases I.ok.d9 with e | ⟨e,hf⟩
 ·rw [e];exact I.fh
 ·rw [e]
  obtain ⟨m,hn,_⟩:=I.loc
  refine .cons (by rw [I.ok.kind];decide) hf hn ?_ I.fh
  exact Heap.get?_none_of_le (Nat.le_trans I.ok.fK I.ok.above)
theorem Inv.ot(I:Inv X pins σ H s):∀b∈bG X.stack,b∈X.env.locals::X.fs:=fun b hb=>by
 rcases I.ok.d9 with e | ⟨e,hf⟩
 ·rw [e] at hb;exact List.mem_cons_of_mem _ hb
 ·rw [e] at hb
  unfold bG at hb
  rw [List.filterMap_cons,hf] at hb
  exact hb
theorem Inv.ou(I:Inv X pins σ H s):∀b∈bG X.stack,H b=none:=fun b hb=>by
 rcases List.mem_cons.mp (I.ot b hb) with e | hb
 ·rw [e];exact I.free
 ·obtain ⟨_,o,ho,_⟩:=I.ok.fh.mem hb
  exact I.base.free b o ho (I.ok.gY b hb) fun z=>I.ok.jT b z hb
theorem Inv.step{g':Array GenState}{t':Nat}{d':Drawn}{ch:List Addr}(I:Inv X pins σ H s)
  (fL:∀b∈ch,(b∈X.ex∨X.s₀.heap.objs.size≤b)∧b≠X.env.locals∧(∀x c,X.env.cells.lookup x=some c→c≠b)∧∀p∈X.pn++pins,p.1≠b)
  (keep:∀b o,b≠X.env.locals→b∉X.fs→b∉ch→s.heap.get? b=some o→H b=none→h'.get? b=some o)
  (slot:∀b o,b≠X.env.locals→b∈X.fs→b∉ch→s.heap.get? b=some o→H b=none→∃sl,h'.get? b=some {o with slots:=sl}) (free:∀b o,b∉ch→s.heap.get? b=some o→H b=none→H' b=none)
  (there:∀b o,b∉ch→s.heap.get? b=some o→∃o',h'.get? b=some o')
  (da:∀b xs,H b=some (.tup xs)→H' b=some (.tup xs)) (dv:∀b o u,H b=some (.bg o u)→H' b=some (.bg o u)) (dP:∀b ps,H b=some (.gp ps)→∃more,H' b=some (.gp (ps++more)))
  (ns:∀m,s.heap.Ns X.env.locals m→h'.Ns X.env.locals m) (ar:bj X.prog X.w H' h') (hg:AllBare g') :
  Inv X pins σ H' {s with heap:=h',gens:=g',drawn:=d',toks:=t'}:=by
 have vO:∀b o,X.s₀.heap.get? b=some o→b≠X.env.locals:=fun b o e=>Nat.ne_of_lt (Nat.lt_of_lt_of_le (Heap.lt_size e) I.ok.above)
 have oz:∀b o,X.s₀.heap.get? b=some o→b∉X.ex→b∉ch:=fun b o e hx hb=>by
  rcases (fL b hb).1 with z | z
  ·exact hx z
  ·exact absurd (Nat.lt_of_lt_of_le (Heap.lt_size e) z) (Nat.lt_irrefl _)
 have cellK:∀x c,X.env.cells.lookup x=some c→∀v,s.heap.IsCell c v→h'.IsCell c v:=fun x c e v ⟨o,ho,hd⟩=>by
  have mz:c∉ch:=fun z=>(fL c z).2.2.1 x c e rfl
  by_cases hc:c∈X.fs
  ·obtain ⟨sl,q⟩:=slot c o (I.iI x c e) hc mz ho (I.fi x c e)
   exact ⟨_,q,hd⟩
  ·exact ⟨o,keep c o (I.iI x c e) hc mz ho (I.fi x c e),hd⟩
 refine ⟨I.ok,I.os,hg,⟨fun b o e n hb hx=>?_,fun b o e n hb hx=>?_,fun b o e n hx=>?_,fun b o e hx=>?_,fun b xs e=>da b xs (I.base.da b xs e),fun b o xs e=>dv b o xs (I.base.dv b o xs e),fun b ps e=>?_⟩,?_,fun x c e=>?_,?_,fun x c e=>?_,fun p hp=>?_,ar,I.len⟩
 ·exact keep b o (vO b o e) hb (oz b o e hx) (I.base.keep b o e n hb hx) (I.base.free b o e n hx)
 ·obtain ⟨sl,e1⟩:=I.base.slot b o e n hb hx
  obtain ⟨A7,e2⟩:=slot b _ (vO b o e) hb (oz b o e hx) e1 (I.base.free b o e n hx)
  exact ⟨A7,e2⟩
 ·obtain ⟨o',e1⟩:=I.base.there b o e hx
  exact free b o' (oz b o e hx) e1 (I.base.free b o e n hx)
 ·obtain ⟨o',e1⟩:=I.base.there b o e hx
  exact there b o' (oz b o e hx) e1
 ·obtain ⟨m1,e1⟩:=I.base.dP b ps e
  obtain ⟨m2,e2⟩:=dP b _ e1
  exact ⟨m1++m2,by rw [e2,Array.append_assoc]⟩
 ·obtain ⟨m,hn,hl⟩:=I.loc
  refine ⟨m,ns m hn,fun i x v e1 e2 e3=>?_⟩
  obtain ⟨u,r,l⟩:=hl i x v e1 e2 e3
  refine ⟨u,r,?_⟩
  rcases l with l | ⟨k,c,e,z⟩
  ·exact .inl l
  ·exact .inr ⟨k,c,e,cellK x c e _ z⟩
 ·obtain ⟨v,z⟩:=I.cell x c e
  exact ⟨v,cellK x c e v z⟩
 ·obtain ⟨m,⟨o,_,_,ho,_⟩,_⟩:=I.loc
  exact free _ o (fun z=>(fL _ z).2.1 rfl) ho I.free
 ·obtain ⟨v,o,ho,hd⟩:=I.cell x c e
  exact free c o (fun z=>(fL c z).2.2.1 x c e rfl) ho (I.fi x c e)
 ·obtain ⟨e,n,ne,nf,d⟩:=I.pin p hp
  have mz:p.1∉ch:=fun z=>(fL p.1 z).2.2.2 p hp rfl
  exact ⟨keep p.1 p.2 ne nf mz e n,free p.1 p.2 mz e n,ne,nf,d⟩
theorem Inv.un{t':Nat}(I:Inv X pins σ H s)(u:Un X.fs [] H H' s.heap h')(ar:bj X.prog X.w H' h'):Inv X pins σ H' {s with heap:=h',toks:=t'}:=by
 obtain ⟨m,⟨o,es,ep,ho,r⟩,_⟩:=id I.loc
 obtain ⟨sl,hL⟩:=u.any ho I.free (by simp)
 exact I.step (g':=s.gens) (d':=s.drawn) (ch:=[]) (fun _ z=>nomatch z) (fun b o _ hb _ e n=>u.keep b o e n hb (by simp)) (fun b o _ hb _ e n=>u.slot b o e n hb (by simp)) (fun b o _ e n=>u.free b o e n (by simp)) (fun b o _ e=>u.there b o e (by simp)) u.da u.dv u.dP (fun m' hm=>by
  obtain ⟨o',gr,iJ,gZ,r'⟩:=hm
  rw [ho] at gZ;cases gZ
  exact ⟨_,gr,iJ,hL,r'⟩) ar I.bare
theorem Inv.call{g':Array GenState}{t':Nat}{d':Drawn}{ch:List Addr}(I:Inv X pins σ H s)(u:Un (bG X.stack) ch H H' s.heap h')(ar:bj X.prog X.w H' h')(hg:AllBare g')
  (fL:∀b∈ch,(b∈X.ex∨X.s₀.heap.objs.size≤b)∧b≠X.env.locals∧(∀x c,X.env.cells.lookup x=some c→c≠b)∧∀p∈X.pn++pins,p.1≠b) :
  Inv X pins σ H' {s with heap:=h',gens:=g',drawn:=d',toks:=t'}:=by
 obtain ⟨m,⟨o,es,ep,ho,r⟩,_⟩:=id I.loc
 obtain ⟨sl,hL⟩:=u.any ho I.free fun z=>(fL _ z).2.1 rfl
 exact I.step (ch:=ch) fL (fun b o hL hb hc e n=>u.keep b o e n (fun z=>(List.mem_cons.mp (I.ot b z)).elim hL hb) hc) (fun b o _ _ hc e n=>u.any e n hc) (fun b o hc e n=>u.free b o e n hc) (fun b o hc e=>u.there b o e hc) u.da u.dv u.dP (fun m' hm=>by
  obtain ⟨o',gr,iJ,gZ,r'⟩:=hm
  rw [ho] at gZ;cases gZ
  exact ⟨_,gr,iJ,hL,r'⟩) ar hg
theorem Inv.turned{t':Nat}{it:Addr}(I:Inv X pins σ H s)(k:∀b o,b≠it→s.heap.get? b=some o→h'.get? b=some o)(hn:H it=none)(hL:it≠X.env.locals)
  (h1:it∈X.ex∨X.s₀.heap.objs.size≤it) (h2:∀x c,X.env.cells.lookup x=some c→c≠it) (h3:∀p∈X.pn++pins,p.1≠it):Inv X pins σ H {s with heap:=h',toks:=t'}:=by
 have vP:∀b u,H b=some u→b≠it:=fun b u e z=>by rw [z,hn] at e;cases e
 refine I.step (g':=s.gens) (d':=s.drawn) (ch:=[it]) (fun b hb=>?_) (fun b o _ _ hc e _=>k b o (fun z=>hc (by simp [z])) e) (fun b o _ _ hc e _=>⟨o.slots,k b o (fun z=>hc (by simp [z])) e⟩) (fun _ _ _ _ n=>n)
  (fun b o hc e=>⟨o,k b o (fun z=>hc (by simp [z])) e⟩) (fun _ _ e=>e) (fun _ _ _ e=>e) (fun b ps e=>⟨#[],by rw [e];simp⟩) (fun m hm=>?_) (fun b u e=>?_) I.bare
 ·have e:b=it:=by simpa using hb
  subst e
  exact ⟨h1,hL,h2,h3⟩
 ·obtain ⟨o,es,ep,ho,r⟩:=hm
  exact ⟨o,es,ep,k _ o (Ne.symm hL) ho,r⟩
 ·refine (I.ar b u e).fJ (fun c v hc q=>k c v ?_ q) (fun _ q=>q) fun _ _ q=>q
  rcases hc with z | z
  ·rw [z];exact vP b u e
  ·exact vP c _ z
theorem Inv.tok(I:Inv X pins σ H s)(t:Nat):Inv X pins σ H {s with toks:=t}:=I.un (h':=s.heap) (t':=t) Un.refl I.ar
theorem Inv.kept{t':Nat}(I:Inv X pins σ H s)(k:∀b u,s.heap.get? b=some u→h'.get? b=some u):Inv X pins σ H {s with heap:=h',toks:=t'}:=I.un (Un.kept k) (I.ar.kept k)
theorem Inv.laid{a:Addr}{o:HO}{t':Nat}(I:Inv X pins σ H s)(k:∀b u,s.heap.get? b=some u→h'.get? b=some u)(hp:s.heap.objs.size≤a)(new:a_ X.prog X.w (upd H a o) h' a o) :
  Inv X pins σ (upd H a o) {s with heap:=h',toks:=t'}:=I.un (Un.laid k hp (I.ar.fresh hp)) (I.ar.laid k hp new)
theorem Inv.write{x e:Addr}{o:HO}{t':Nat}(I:Inv X pins σ H s)(mu:mq (H x))(he:e=x∨H e=some (.own x))(k:∀b u,b≠e→s.heap.get? b=some u→h'.get? b=some u)(jR:∃u,h'.get? e=some u)
  (new:a_ X.prog X.w (upd H x o) h' x o):Inv X pins σ (upd H x o) {s with heap:=h',toks:=t'}:=I.un (Un.write mu he k jR) (I.ar.write mu he k jR new)
theorem Inv.vQ{vR:List (Addr×Obj)}(I:Inv X pins σ H s)(h:∀p∈vR,s.heap.get? p.1=some p.2∧H p.1=none∧p.1≠X.env.locals∧p.1∉X.fs∧∀v,p.2.data≠.cell v):Inv X vR σ H s:=
 ⟨I.ok,I.os,I.bare,I.base,I.loc,I.cell,I.free,I.fi,fun p hp=>(List.mem_append.mp hp).elim (fun z=>I.pin p (List.mem_append_left _ z)) (h p),I.ar,I.len⟩
theorem vS{N:List Str}(hN:N.Nodup){i j:Nat}{x:Str}(a:N[i]?=some x)(b:N[j]?=some x):i=j:=by
 obtain ⟨h1,e1⟩:=List.getElem?_eq_some_iff.mp a
 obtain ⟨h2,e2⟩:=List.getElem?_eq_some_iff.mp b
 exact (List.getElem_inj hN).mp (e1.trans e2.symm)
theorem vT{M:Model}{A:Around}{E:Value→Shared→Prop}{i:Nat}{x:Str}{v:V}{u:Value}{Q:Unit→Shared→Prop}(I:Inv X pins σ H s)(hN:X.N.Nodup)(hi:X.N[i]?=some x)(hx:Loc X.env.scope x)(r:RelV v u)
  (h:∀s',Inv X pins (σ.set i (some v)) H s'→(∃a,Heap.SameBut a s.heap s'.heap∧(a=X.env.locals∨X.env.cells.lookup x=some a))→Q () s') (hf:X.fn x=true∨X.env.scope.names.lookup x=some .local:=by first | exact .inl rfl | exact .inr rfl | assumption):wpAny M A (storeName X.env x u) Q E s:=by
 obtain ⟨m,hn,hl⟩:=id I.loc
 have A8:(X.env.scope.kind == .class || (X.env.scope.kind == .module && X.env.locals != X.env.globals))=false:=by rw [I.ok.kind];rfl
 have vU:i<σ.length:=by rw [I.len];exact (List.getElem?_eq_some_iff.mp hi).1
 have iI:=I.iI
 have tracked:∀{a:Addr} {h':Heap},(∃o,s.heap.get? a=some o∧H a=none)→Heap.SameBut a s.heap h'→bj X.prog X.w H h':=fun{a h'} ha hs b ob e=>by
  obtain ⟨_,_,vV⟩:=ha
  refine (I.ar b ob e).fJ (fun c w' hc q=>(hs.2 c ?_).trans q) (fun _ q=>q) fun _ _ q=>q
  rintro rfl
  rcases hc with rfl | hc
  ·rw [vV] at e;cases e
  ·rw [vV] at hc;cases hc
 rcases hx with hk | hk
 ·refine wpAny_storeName_local hk hn (fun h' A9 hs=>?_) A8
  obtain ⟨oL,_,_,A_,_⟩:=id hn
  refine h _ ⟨I.ok,I.os,I.bare,⟨fun b o e n hb hx=>?_,fun b o e n hb hx=>?_,I.base.free,fun b o e hx=>?_,I.base.da,I.base.dv,I.base.dP⟩,⟨_,A9,fun j y v' e1 e2 e3=>?_⟩,fun y c e=>?_,I.free,I.fi,fun p hp=>?_,tracked ⟨oL,A_,I.free⟩ hs,by simpa using I.len⟩ ⟨_,hs,.inl rfl⟩
  ·exact (hs.2 b (Nat.ne_of_lt (Nat.lt_of_lt_of_le (Heap.lt_size e) I.ok.above))).trans (I.base.keep b o e n hb hx)
  ·obtain ⟨sl,e1⟩:=I.base.slot b o e n hb hx
   exact ⟨sl,(hs.2 b (Nat.ne_of_lt (Nat.lt_of_lt_of_le (Heap.lt_size e) I.ok.above))).trans e1⟩
  ·obtain ⟨o',e1⟩:=I.base.there b o e hx
   exact ⟨o',(hs.2 b (Nat.ne_of_lt (Nat.lt_of_lt_of_le (Heap.lt_size e) I.ok.above))).trans e1⟩
  ·by_cases hj:j=i
   ·subst hj
    rw [hi] at e1;cases e1
    rw [List.getElem?_set_self vU] at e2
    cases e2
    exact ⟨u,r,.inl ⟨hk,by simp⟩⟩
   ·rw [List.getElem?_set_ne (Ne.symm hj)] at e2
    obtain ⟨u',r',q⟩:=hl j y v' e1 e2 e3
    refine ⟨u',r',?_⟩
    rcases q with ⟨k,e⟩ | ⟨k,c,e,z⟩
    ·refine .inl ⟨k,?_⟩
     have:y≠x:=fun e=>hj (vS hN e1 (e▸hi))
     simp [this,e]
    ·exact .inr ⟨k,c,e,z.sameBut hs (iI y c e)⟩
  ·obtain ⟨w',z⟩:=I.cell y c e
   exact ⟨w',z.sameBut hs (iI y c e)⟩
  ·obtain ⟨e,n,ne,nf,d⟩:=I.pin p hp
   exact ⟨(hs.2 p.1 ne).trans e,n,ne,nf,d⟩
 ·have rH:X.fn x=true:=by
   rcases hf with z | z
   ·exact z
   ·rw [z] at hk;cases hk
  obtain ⟨c,hc⟩:=I.ok.has x (.inl hk)
  obtain ⟨w',z⟩:=I.cell x c hc
  refine wpAny_storeName_cell I.ok.kind hk hc z (fun h' eK hs=>?_)
  obtain ⟨oc,vW,Ba⟩:=id z
  refine h {s with heap:=h'} ⟨I.ok,I.os,I.bare,⟨fun b o e n hb hx=>?_,fun b o e n hb hx=>?_,I.base.free,fun b o e hx=>?_,I.base.da,I.base.dv,I.base.dP⟩,⟨m,hn.sameBut hs (Ne.symm (iI x c hc)),fun j y v' e1 e2 e3=>?_⟩,fun y c' e=>?_,I.free,I.fi,fun p hp=>?_,tracked ⟨oc,vW,I.fi x c hc⟩ hs,by simpa using I.len⟩ ⟨c,hs,.inr hc⟩
  ·exact (hs.2 b (Nat.ne_of_lt (Nat.lt_of_lt_of_le (Heap.lt_size e) (I.ok.my x c rH hc)))).trans (I.base.keep b o e n hb hx)
  ·obtain ⟨sl,e1⟩:=I.base.slot b o e n hb hx
   exact ⟨sl,(hs.2 b (Nat.ne_of_lt (Nat.lt_of_lt_of_le (Heap.lt_size e) (I.ok.my x c rH hc)))).trans e1⟩
  ·obtain ⟨o',e1⟩:=I.base.there b o e hx
   exact ⟨o',(hs.2 b (Nat.ne_of_lt (Nat.lt_of_lt_of_le (Heap.lt_size e) (I.ok.my x c rH hc)))).trans e1⟩
  ·by_cases hj:j=i
   ·subst hj
    rw [hi] at e1;cases e1
    rw [List.getElem?_set_self vU] at e2
    cases e2
    exact ⟨u,r,.inr ⟨.inl hk,c,hc,eK⟩⟩
   ·rw [List.getElem?_set_ne (Ne.symm hj)] at e2
    obtain ⟨u',r',q⟩:=hl j y v' e1 e2 e3
    refine ⟨u',r',?_⟩
    rcases q with q | ⟨k,c',e,z'⟩
    ·exact .inl q
    ·refine .inr ⟨k,c',e,z'.sameBut hs ?_⟩
     rintro rfl
     exact hj (vS hN e1 (I.ok.inj _ _ _ e hc▸hi))
  ·by_cases vX:c'=c
   ·subst vX;exact ⟨_,eK⟩
   ·obtain ⟨w2,z2⟩:=I.cell y c' e
    exact ⟨w2,z2.sameBut hs vX⟩
  ·obtain ⟨e,n,ne,nf,d⟩:=I.pin p hp
   refine ⟨(hs.2 p.1 ?_).trans e,n,ne,nf,d⟩
   intro q
   rw [q,vW] at e
   have q':oc=p.2:=Option.some.inj e
   exact d w' (by rw [←q'];exact Ba)
theorem vY{M:Model}{A:Around}{E:Value→Shared→Prop}{i:Nat}{x:Str}{v:V}{u:Value}{Q:Unit→Shared→Prop}(I:Inv X pins σ H s)(hN:X.N.Nodup)(hi:X.N[i]?=some x)(hx:Loc X.env.scope x)(r:RelV v u)
  (h:∀s',Inv X pins (σ.set i (some v)) H s'→Q () s') (hf:X.fn x=true∨X.env.scope.names.lookup x=some .local:=by first | exact .inl rfl | exact .inr rfl | assumption):wpAny M A (storeName X.env x u) Q E s:=
 vT I hN hi hx r (fun s' I' _=>h s' I') hf
theorem Inv.mB{s':Shared}{ch:List Addr}(I:Inv X pins σ H s)(ho:s'.os=s.os)(u:Un (bG X.stack) ch H H' s.heap s'.heap)(ar:bj X.prog X.w H' s'.heap)(hg:AllBare s'.gens)
  (fL:∀b∈ch,(b∈X.ex∨X.s₀.heap.objs.size≤b)∧b≠X.env.locals∧(∀x c,X.env.cells.lookup x=some c→c≠b)∧∀p∈X.pn++pins,p.1≠b):Inv X pins σ H' s':=by
 obtain ⟨h',g',d',t',o'⟩:=s'
 have e:o'=s.os:=ho
 subst e
 exact I.call (g':=g') (t':=t') (d':=d') u ar hg fL
end
abbrev XK:=Value→Option Addr→Hp→Prop
abbrev St:=List (Option V)
abbrev VK:=V→Hp→Prop
abbrev TE:=St→Hp→VK→Prop
abbrev TT:=St→Hp→(Bool→Hp→Prop)→Prop
abbrev TA:=St→Hp→(List V→Hp→Prop)→Prop
structure Ends where
 nx:St→Hp→Prop
 rt:VK
 bk:St→Hp→Prop:=fun _ _=>False
 ct:St→Hp→Prop:=fun _ _=>False
abbrev TS:=Ends→St→Hp→Prop
def EP(X:Cx)(pins:List (Addr×Obj))(σ:St)(Q:VK)(u:Value)(s':Shared):Prop:=∃v H',Inv X pins σ H' s'∧RelV v u∧Q v H'
def TP(X:Cx)(pins:List (Addr×Obj))(σ:St)(Q:Bool→Hp→Prop)(b:Bool)(s':Shared):Prop:=∃H',Inv X pins σ H' s'∧Q b H'
def AP(X:Cx)(pins:List (Addr×Obj))(σ:St)(Q:List V→Hp→Prop)(us:List Value)(s':Shared):Prop:=∃vs H',Inv X pins σ H' s'∧Vals vs us∧Q vs H'
def SP(X:Cx)(pins:List (Addr×Obj))(D:Ends)(f:Flow)(s':Shared):Prop:=
 match f with
 | .next=>∃σ' H',Inv X pins σ' H' s'∧D.nx σ' H'
 | .brk=>∃σ' H',Inv X pins σ' H' s'∧D.bk σ' H'
 | .cont=>∃σ' H',Inv X pins σ' H' s'∧D.ct σ' H'
 | .ret u=>∃v σ' H',Inv X pins σ' H' s'∧RelV v u∧D.rt v H'
def PE(X:Cx)(e:Expr)(t:TE):Prop:=
 ∀(pins:List (Addr×Obj)) (s:Shared) (σ:St) (H:Hp) (Q:VK),Inv X pins σ H s→t σ H Q→wpAny (model X.prog X.w) X.A (eval e X.env) (EP X pins σ Q) X.xe s
def PT(X:Cx)(e:Expr)(t:TT):Prop:=
 ∀(pins:List (Addr×Obj)) (s:Shared) (σ:St) (H:Hp) (Q:Bool→Hp→Prop),Inv X pins σ H s→t σ H Q→wpAny (model X.prog X.w) X.A (isTrue e X.env (eval e X.env)) (TP X pins σ Q) X.xe s
def PW(X:Cx)(e:Expr)(t:TT):Prop:=
 ∀(whole:Sem Value) (pins:List (Addr×Obj)) (s:Shared) (σ:St) (H:Hp) (Q:Bool→Hp→Prop),Inv X pins σ H s→t σ H Q→wpAny (model X.prog X.w) X.A (isTrue e X.env whole) (TP X pins σ Q) X.xe s
theorem PW.pt{X:Cx}{e:Expr}{t:TT}(h:PW X e t):PT X e t:=h _
def PA(X:Cx)(es:List Expr)(t:TA):Prop:=
 ∀(pos:Pos) (pins:List (Addr×Obj)) (s:Shared) (σ:St) (H:Hp) (Q:List V→Hp→Prop),Inv X pins σ H s→t σ H Q→wpAny (model X.prog X.w) X.A (spliced (backTo pos (starEach es X.env))) (AP X pins σ Q) X.xe s
def PS(X:Cx)(st:Stmt)(t:TS):Prop:=
 ∀(pins:List (Addr×Obj)) (s:Shared) (σ:St) (H:Hp) (D:Ends),Inv X pins σ H s→t D σ H→wpAny (model X.prog X.w) X.A (exec st X.env) (SP X pins D) X.xe s
def de(X:Cx)(st:List Stmt)(t:TS):Prop:=
 ∀(pins:List (Addr×Obj)) (s:Shared) (σ:St) (H:Hp) (D:Ends),Inv X pins σ H s→t D σ H→wpAny (model X.prog X.w) X.A (execs st X.env) (SP X pins D) X.xe s
theorem ay{α:Type}{t:Sem α}{Q Q':α→Shared→Prop}{M:Model}{A:Around}{E:Value→Shared→Prop}{s:Shared}(h:wpAny M A t Q E s)(hQ:∀a s,Q a s→Q' a s):wpAny M A t Q' E s:=wpAny_mono h hQ fun _ _ x=>x
section
variable {X:Cx}
theorem bin{a b:Expr}{ta tb:TE}(ha:PE X a ta)(hb:PE X b tb){pins:List (Addr×Obj)}{s:Shared}{σ:St}{H:Hp}{R:V→V→Hp→Prop}(I:Inv X pins σ H s)(h:ta σ H fun x H1=>tb σ H1 fun y H2=>R x y H2)
  {α:Type} {Q:α→Shared→Prop} {f:Value→Value→Sem α}
  (hf:∀v u s2 x y H2,Inv X pins σ H2 s2→RelV x v→RelV y u→R x y H2→wpAny (model X.prog X.w) X.A (f v u) Q X.xe s2) :
  wpAny (model X.prog X.w) X.A (eval a X.env) (fun v s₁=>wpAny (model X.prog X.w) X.A (eval b X.env) (fun u s₂=>wpAny (model X.prog X.w) X.A (f v u) Q X.xe s₂) X.xe s₁) X.xe s:=by
 refine ay (ha pins s σ H _ I h) fun v s1 ⟨x,H1,I1,r1,q1⟩=>?_
 refine ay (hb pins s1 σ H1 _ I1 q1) fun u s2 ⟨y,H2,I2,r2,q2⟩=>?_
 exact hf v u s2 x y H2 I2 r1 r2 q2
def vZ(i:Nat):TE:=fun σ H Q=>∃v,σ[i]?=some (some v)∧Q v H
def tC(v:V):TE:=fun _ H Q=>Q v H
theorem Bb{i:Nat}{x:Str}{pos:Pos}(hN:X.N[i]?=some x)(hv:oq X.env.scope x)(hd:(x == ("__debug__":Str))=false:=by decide)(df:(x == ("__classdict__":Str))=false:=by decide):PE X (.Name x pos) (vZ i):=by
 intro pins s σ H Q I h
 obtain ⟨v,e,h⟩:=h
 obtain ⟨m,hn,hl⟩:=I.loc
 obtain ⟨u,r,l⟩:=hl i x v hN e hv
 have fin:EP X pins σ Q u s:=⟨v,H,I,r,h⟩
 rcases l with ⟨hk,hm⟩ | ⟨hk,c,hc,v9⟩
 ·exact wpAny_Name (wpAny_loadName_local I.ok.kind hk hn hm fin) hd
 ·rcases hk with hk | hk
  ·exact wpAny_Name (wpAny_loadName_cell I.ok.kind hk hc v9 fin) hd
  ·exact wpAny_Name (wpAny_loadName_free I.ok.kind hk hc v9 fin df) hd
theorem au{i j pos}:PE X (.Constant (.int i) j pos) (tC (.int i)):=fun _ _ _ H _ I h=>wpAny_Constant_int ⟨.int i,H,I.tok _,⟨_,rfl⟩,h⟩
theorem dQ{b j pos}:PE X (.Constant (.bool b) j pos) (tC (.bl b)):=fun _ _ _ H _ I h=>Constant_bool ⟨.bl b,H,I,rfl,h⟩
theorem Bc{x j pos}:PE X (.Constant (.str x) j pos) (tC (.str x)):=fun _ _ _ H _ I h=>Calls.Constant_str ⟨.str x,H,I.tok _,⟨_,rfl⟩,h⟩
def Gl(X:Cx)(x:Str):Prop:=X.env.kindOf x=some .globalImplicit
theorem v_{E:Value→Shared→Prop}{pins:List (Addr×Obj)}{s:Shared}{σ:St}{H:Hp}{x:Str}{u:Value}{pos:Pos}{Q:Value→Shared→Prop}(I:Inv X pins σ H s)(hg:Gl X x)(hm:X.mg x=some u)(h:Q u s)
  (hd:(x == ("__debug__":Str))=false:=by decide):wpAny (model X.prog X.w) X.A (eval (.Name x pos) X.env) Q E s:=
 Calls.Name_function_global I.ok.kind hg (Calls.loadGlobal_global (by rw [I.ok.glob];exact I.mod.glob.keeps I.bk) hm h) hd
theorem jU{E:Value→Shared→Prop}{pins:List (Addr×Obj)}{s:Shared}{σ:St}{H:Hp}{x:Str}{u:Value}{pos:Pos}{Q:Value→Shared→Prop}(I:Inv X pins σ H s)(hg:Gl X x)(hm:X.mg x=none)(hv:bootBuiltins x=some u)(h:Q u s)
  (hn:x ≠ "__name__":=by decide) (hd:(x == ("__debug__":Str))=false:=by decide):wpAny (model X.prog X.w) X.A (eval (.Name x pos) X.env) Q E s:=by
 obtain ⟨mb,h1,h2⟩:=I.mod.blt
 exact Calls.Name_function_global I.ok.kind hg (Calls.loadGlobal_builtin (by rw [I.ok.glob];exact I.mod.glob.keeps I.bk) hm (by rw [I.ok.blt];exact h1.keeps I.bk) ((h2 x hn).trans hv) h) hd
theorem mC{x:Str}{v:V}{u:Value}{pos:Pos}(hg:Gl X x)(hm:X.mg x=none)(hv:bootBuiltins x=some u)(r:RelV v u)(hn:x ≠ "__name__":=by decide)(hd:(x == ("__debug__":Str))=false:=by decide):PE X (.Name x pos) (tC v):=
 fun _ _ _ H _ I h=>jU I hg hm hv ⟨v,H,I,r,h⟩ hn hd
variable {a b:Expr} {ta tb:TE} {pos:Pos}
def PC(X:Cx)(op:CmpOp)(a b:Expr)(t:TE):Prop:=
 ∀(pins:List (Addr×Obj)) (s:Shared) (σ:St) (H:Hp) (Q:VK),Inv X pins σ H s→t σ H Q→
  wpAny (model X.prog X.w) X.A (eval a X.env) (fun v s₁=>wpAny (model X.prog X.w) X.A (eval b X.env) (fun u s₂=>wpAny (model X.prog X.w) X.A (compareOp op v u) (EP X pins σ Q) X.xe s₂) X.xe s₁) X.xe s
def tB(t:TE):TT:=fun σ H Q=>t σ H fun x H1=>∃c,x=.bl c∧Q c H1
theorem wa{op:CmpOp}{t:TE}(h:PC X op a b t)(h1:behindInMarks op b=false:=by first | exact LQ _ (by decide) (by decide) | rfl):PT X (.Compare a [op] [b] pos) (tB t):=by
 intro pins s σ H Q I hw
 refine wpAny_isTrue_Compare1 (ay (h pins s σ H _ I hw) fun v s1 h1=>ay h1 fun u s2 h2=>ay h2 fun c s3 ⟨x,H1,I1,r1,q1⟩=>?_) h1
 obtain ⟨d,rfl,q⟩:=q1
 cases r1
 exact wpAny_truthy_bool ⟨H1,I1,q⟩
theorem jV{e:Expr}{t:TE}(h:PE X e t)(he:∀whole,isTrue e X.env whole=(do let v ←whole;standAt e.pos;holding [v] (truthy v)):=by intro _;rfl):PT X e (tB t):=by
 intro pins s σ H Q I hw
 refine isTrue_plain (ay (h pins s σ H _ I hw) fun v s1 ⟨x,H1,I1,r1,q1⟩=>?_) (he _)
 obtain ⟨d,rfl,q⟩:=q1
 cases r1
 exact wpAny_truthy_bool ⟨H1,I1,q⟩
variable {tA mD:TT} {rest:List Expr}
def Bd(t u:TT):TT:=fun σ H Q=>t σ H fun c H1=>if c=true then u σ H1 Q else Q false H1
def Be(t u:TT):TT:=fun σ H Q=>t σ H fun c H1=>if c=true then Q true H1 else u σ H1 Q
def wb(t:TT):TT:=fun σ H Q=>t σ H fun c H1=>Q (!c) H1
theorem pw_and1(ha:PT X a tA):PW X (.BoolOp .And [a] pos) tA:=by
 intro wh pins s σ H Q I h
 refine isTrue_and (ay (ha pins s σ H Q I h) fun c s1 e=>?_)
 cases c with
 | true=>exact isTrue_and_nil e
 | false=>exact e
theorem pw_or1(ha:PT X a tA):PW X (.BoolOp .Or [a] pos) tA:=by
 intro wh pins s σ H Q I h
 refine isTrue_or (ay (ha pins s σ H Q I h) fun c s1 e=>?_)
 cases c with
 | false=>exact isTrue_or_nil e
 | true=>exact e
theorem pw_and(ha:PT X a tA)(hb:PW X (.BoolOp .And (b::rest) pos) mD):PW X (.BoolOp .And (a::b::rest) pos) (Bd tA mD):=by
 intro wh pins s σ H Q I h
 refine isTrue_and (ay (ha pins s σ H _ I h) fun c s1 ⟨H1,I1,q1⟩=>?_)
 cases c with
 | true=>exact hb wh pins s1 σ H1 Q I1 q1
 | false=>exact ⟨H1,I1,q1⟩
theorem pw_or(ha:PT X a tA)(hb:PW X (.BoolOp .Or (b::rest) pos) mD):PW X (.BoolOp .Or (a::b::rest) pos) (Be tA mD):=by
 intro wh pins s σ H Q I h
 refine isTrue_or (ay (ha pins s σ H _ I h) fun c s1 ⟨H1,I1,q1⟩=>?_)
 cases c with
 | true=>exact ⟨H1,I1,q1⟩
 | false=>exact hb wh pins s1 σ H1 Q I1 q1
theorem oA(ha:PT X a tA):PT X (.UnaryOp .Not a pos) (wb tA):=by
 intro pins s σ H Q I h
 exact isTrue_not (ha pins s σ H (fun c H1=>Q (!c) H1) I h)
def Bf(ta tb:TE):TE:=fun σ H Q=>ta σ H fun x H1=>∃c,x=.bl c∧if c=true then tb σ H1 Q else Q (.bl false) H1
def Bg(ta tb:TE):TE:=fun σ H Q=>ta σ H fun x H1=>∃c,x=.bl c∧if c=true then Q (.bl true) H1 else tb σ H1 Q
def Bh(ta:TE):TE:=fun σ H Q=>ta σ H fun x H1=>∃c,x=.bl c∧Q (.bl (!c)) H1
theorem wc{op}{t:TE}(h:PE X a t):PE X (.BoolOp op [a] pos) t:=fun pins s σ H Q I hw=>BoolOp_one (h pins s σ H Q I hw)
theorem Bi(ha:PE X a ta)(hb:PE X (.BoolOp .And (b::rest) pos) tb):PE X (.BoolOp .And (a::b::rest) pos) (Bf ta tb):=by
 intro pins s σ H Q I h
 refine BoolOp_and (ay (ha pins s σ H _ I h) fun v s1 ⟨x,H1,I1,r1,q1⟩=>?_)
 obtain ⟨c,rfl,q1⟩:=q1
 cases r1
 refine wpAny_truthy_bool ?_
 cases c with
 | true=>exact hb pins s1 σ H1 Q I1 q1
 | false=>exact ⟨.bl false,H1,I1,rfl,q1⟩
theorem Bj(ha:PE X a ta)(hb:PE X (.BoolOp .Or (b::rest) pos) tb):PE X (.BoolOp .Or (a::b::rest) pos) (Bg ta tb):=by
 intro pins s σ H Q I h
 refine BoolOp_or (ay (ha pins s σ H _ I h) fun v s1 ⟨x,H1,I1,r1,q1⟩=>?_)
 obtain ⟨c,rfl,q1⟩:=q1
 cases r1
 refine wpAny_truthy_bool ?_
 cases c with
 | false=>exact hb pins s1 σ H1 Q I1 q1
 | true=>exact ⟨.bl true,H1,I1,rfl,q1⟩
theorem Bk(ha:PE X a ta):PE X (.UnaryOp .Not a pos) (Bh ta):=by
 intro pins s σ H Q I h
 refine UnaryOp_ (ay (ha pins s σ H _ I h) fun v s1 ⟨x,H1,I1,r1,q1⟩=>?_)
 obtain ⟨c,rfl,q1⟩:=q1
 cases r1
 exact not_of (wpAny_truthy_bool ⟨.bl (!c),H1,I1,rfl,q1⟩)
end
def aX(K:PySem.W.Frag)(H:Hp)(a:Addr)(xs:List V):Prop:=
 Rd H a (.lst xs) ∨
  ∃(o:Obj) (ai:Array Value) (n:Nat),K.lookup a=some o∧o.cls=.type "list"∧o.dict=none∧o.data=.seq ai n∧ai.size≤sizeLine∧Vals xs ai.toList
def cV(K:PySem.W.Frag)(H:Hp)(a:Addr)(xs:List V):Prop:=
 Rd H a (.tup xs) ∨
  ∃(o:Obj) (ai:Array Value) (n:Nat),K.lookup a=some o∧o.cls=.type "tuple"∧o.data=.seq ai n∧ai.size≤sizeLine∧Vals xs ai.toList
def Bl:Value→Option V
 | .none=>some .aF
 | .bool b=>some (.bl b)
 | .int i _=>some (.int i)
 | .str x _=>some (.str x)
 | .bytes b _=>some (.fg b)
 | .float b _=>some (.jQ b)
 | .ref a=>some (.ref a)
 | .type n=>some (.ty n)
 | _=>none
theorem RelV.abs{x:V}{u:Value}(r:RelV x u):Bl u=some x:=by
 cases x with
 | aF=>cases r;rfl
 | bl _=>cases r;rfl
 | int _=>obtain ⟨t,rfl⟩:=r;rfl
 | str _=>obtain ⟨t,rfl⟩:=r;rfl
 | fg _=>obtain ⟨t,rfl⟩:=r;rfl
 | jQ _=>obtain ⟨t,rfl⟩:=r;rfl
 | ref _=>cases r;rfl
 | ty _=>cases r;rfl
theorem RelV.inj{x y:V}{u:Value}(r:RelV x u)(q:RelV y u):x=y:=Option.some.inj (r.abs.symm.trans q.abs)
theorem Vals.inj:∀{xs ys:List V} {us:List Value},Vals xs us→Vals ys us→xs=ys
 | _,_,_,.nil,.nil=>rfl
 | _,_,_,.cons r t,.cons r' t'=>by rw [r.inj r',Vals.inj t t']
section
variable {X:Cx} {pins:List (Addr×Obj)} {σ:St} {H:Hp} {s:Shared} {a:Addr} {xs ys:List V}
theorem aX.of{K:PySem.W.Frag}(h:H a=some (.lst xs)):aX K H a xs:=.inl (.inl h)
theorem cV.of{K:PySem.W.Frag}(h:H a=some (.tup xs)):cV K H a xs:=.inl (.inl h)
theorem Inv.list(I:Inv X pins σ H s)(h:aX X.K H a xs):∃ai:List Value,Vals xs ai∧PlainL s.heap a ai.toArray∧xs.length≤sizeLine:=by
 rcases h with h | ⟨o,ai,n,hk,hc,hd,hs,hz,r⟩
 ·obtain ⟨z,ai,n,r,e⟩:=h.ok I.ar
  exact ⟨ai,r,⟨_,n,e,rfl,rfl,rfl⟩,z⟩
 ·refine ⟨ai.toList,r,⟨o,n,I.cI a o hk,hc,hd,by simpa using hs⟩,?_⟩
  have e:=r.length
  simp only [Array.length_toList] at e
  omega
theorem Inv.tuple(I:Inv X pins σ H s)(h:cV X.K H a xs):∃ai:List Value,Vals xs ai∧IsTup s.heap a ai.toArray∧xs.length≤sizeLine:=by
 rcases h with h | ⟨o,ai,n,hk,hc,hs,hz,r⟩
 ·obtain ⟨z,ai,r,p⟩:=h.ok I.ar
  exact ⟨ai,r,p,z⟩
 ·refine ⟨ai.toList,r,⟨o,I.cI a o hk,hc,n,by simpa using hs⟩,?_⟩
  have e:=r.length
  simp only [Array.length_toList] at e
  omega
theorem Inv.wd(I:Inv X pins σ H s)(h:aX X.K H a xs)(h':aX X.K H a ys):xs=ys:=by
 obtain ⟨ai,r,⟨o,n,e,_,_,d⟩,_⟩:=I.list h
 obtain ⟨its',r',⟨o',n',e',_,_,d'⟩,_⟩:=I.list h'
 rw [e] at e';cases e'
 rw [d] at d'
 injection d' with d1 _
 have:ai=its':=by simpa using congrArg Array.toList d1
 subst this
 exact r.inj r'
theorem Inv.Bm(I:Inv X pins σ H s)(h:cV X.K H a xs)(h':cV X.K H a ys):xs=ys:=by
 obtain ⟨ai,r,⟨o,e,_,n,d⟩,_⟩:=I.tuple h
 obtain ⟨its',r',⟨o',e',_,n',d'⟩,_⟩:=I.tuple h'
 rw [e] at e';cases e'
 rw [d] at d'
 injection d' with d1 _
 have:ai=its':=by simpa using congrArg Array.toList d1
 subst this
 exact r.inj r'
end
abbrev Cx.fM (X:Cx) (E:Value→Shared→Prop):Cx:={X with xe:=E}
abbrev Cx.jW (X:Cx):Cx:=X.fM fun _ _=>False
theorem Cx.Ok.fM{X:Cx}(ok:X.Ok)(E:Value→Shared→Prop):(X.fM E).Ok:=
 ⟨ok.mod,ok.kind,ok.glob,ok.blt,ok.above,ok.inj,ok.has,ok.my,ok.hd,ok.frames,ok.d9,ok.vM,ok.bs,ok.fK,ok.jS,ok.jT,ok.fh,ok.gY⟩
theorem Cx.Ok.g6{X:Cx}{E:Value→Shared→Prop}(ok:(X.fM E).Ok):X.Ok:=
 ⟨ok.mod,ok.kind,ok.glob,ok.blt,ok.above,ok.inj,ok.has,ok.my,ok.hd,ok.frames,ok.d9,ok.vM,ok.bs,ok.fK,ok.jS,ok.jT,ok.fh,ok.gY⟩
section
variable {X:Cx} {pins:List (Addr×Obj)} {σ:St} {H:Hp} {s:Shared} {E:Value→Shared→Prop}
theorem Inv.fM(I:Inv X pins σ H s)(E:Value→Shared→Prop):Inv (X.fM E) pins σ H s:=⟨I.ok.fM E,I.os,I.bare,I.base,I.loc,I.cell,I.free,I.fi,I.pin,I.ar,I.len⟩
theorem Inv.g6(I:Inv (X.fM E) pins σ H s):Inv X pins σ H s:=⟨I.ok.g6,I.os,I.bare,I.base,I.loc,I.cell,I.free,I.fi,I.pin,I.ar,I.len⟩
theorem SP.g6{D:Ends}{f:Flow}{s':Shared}(h:SP (X.fM E) pins D f s'):SP X pins D f s':=by
 cases f with
 | next=>obtain ⟨σ',H',I,q⟩:=h;exact ⟨σ',H',I.g6,q⟩
 | brk=>obtain ⟨σ',H',I,q⟩:=h;exact ⟨σ',H',I.g6,q⟩
 | cont=>obtain ⟨σ',H',I,q⟩:=h;exact ⟨σ',H',I.g6,q⟩
 | ret u=>obtain ⟨v,σ',H',I,r,q⟩:=h;exact ⟨v,σ',H',I.g6,r,q⟩
theorem de.jW{st:List Stmt}{t:TS}(h:de X.jW st t):de X st t:=fun pins s σ H D I hw=>
 wpAny_mono (h pins s σ H D (I.fM _) hw) (fun _ _ q=>q.g6) fun _ _ z=>False.elim z
end
section
variable {X:Cx} {st:Stmt} {rest:List Stmt} {t u:TS} {e:Expr} {te:TE} {pos:Pos}
def g7:TS:=fun D σ H=>D.nx σ H
def we(t u:TS):TS:=fun D σ H=>t {D with nx:=u D} σ H
theorem b7:de X [] g7:=fun _ _ σ H _ I h=>wpAny_execs_nil ⟨σ,H,I,h⟩
theorem ax(h1:PS X st t)(h2:de X rest u):de X (st::rest) (we t u):=by
 intro pins s σ H D I h
 refine wpAny_execs_cons (ay (h1 pins s σ H {D with nx:=u D} I h) fun f s1 q=>?_)
 cases f with
 | next=>
  obtain ⟨σ',H',I',q⟩:=q
  exact h2 pins s1 σ' H' D I' q
 | ret v=>exact q
 | brk=>exact q
 | cont=>exact q
theorem aA(h1:PS X st t):de X [st] t:=by
 intro pins s σ H D I h
 refine wpAny_execs_cons (ay (h1 pins s σ H D I h) fun f s1 q=>?_)
 cases f with
 | next=>exact wpAny_execs_nil q
 | ret v=>exact q
 | brk=>exact q
 | cont=>exact q
theorem Inv.quiet{pins:List (Addr×Obj)}{σ:St}{H:Hp}{s:Shared}(I:Inv X pins σ H s):interactive X.env=false:=by simp [interactive,I.ok.kind]
def Bn(te:TE):TS:=fun D σ H=>te σ H fun _ H1=>D.nx σ H1
theorem eL(he:PE X e te)(hs:swapsWith e none pos.line X.env=pure false:=by rfl):PS X (.Expr e pos) (Bn te):=by
 intro pins s σ H D I h
 exact wpAny_Expr_any (ay (he pins s σ H _ I h) fun v s1 ⟨x,H1,I1,r1,q1⟩=>⟨σ,H1,I1,q1⟩) I.quiet hs
def wg(te:TE):TS:=fun D σ H=>te σ H D.rt
theorem bH(he:PE X e te):PS X (.Return (some e) pos) (wg te):=by
 intro pins s σ H D I h
 exact wpAny_Return_some (ay (he pins s σ H _ I h) fun v s1 ⟨x,H1,I1,r1,q1⟩=>⟨x,σ,H1,I1,r1,q1⟩)
def rJ(c:TT)(t u:TS):TS:=fun D σ H=>c σ H fun b H1=>if b=true then t D σ H1 else u D σ H1
theorem b8{c:Expr}{a b:List Stmt}{tc:TT}(hc:PT X c tc)(ha:de X a t)(hb:de X b u):PS X (.If c a b pos) (rJ tc t u):=by
 intro pins s σ H D I h
 refine wpAny_If (ay (hc pins s σ H _ I h) fun d s1 ⟨H1,I1,q1⟩=>?_)
 cases d with
 | true=>exact ha pins s1 σ H1 D I1 q1
 | false=>exact hb pins s1 σ H1 D I1 q1
end
abbrev TG:=V→St→Hp→(St→Hp→Prop)→Prop
abbrev iK:=List V→St→Hp→(St→Hp→Prop)→Prop
def PG(X:Cx)(target:Expr)(t:TG):Prop:=
 ∀(pins:List (Addr×Obj)) (s:Shared) (σ:St) (H:Hp) (v:V) (u:Value) (Q:St→Hp→Prop),Inv X pins σ H s→RelV v u→t v σ H Q→
  wpAny (model X.prog X.w) X.A (assign target X.env u) (fun _ s'=>∃σ' H',Inv X pins σ' H' s'∧Q σ' H') X.xe s
def oB(X:Cx)(ts:List Expr)(t:iK):Prop:=
 ∀(pins:List (Addr×Obj)) (s:Shared) (σ:St) (H:Hp) (vs:List V) (us:List Value) (Q:St→Hp→Prop),Inv X pins σ H s→Vals vs us→t vs σ H Q→
  wpAny (model X.prog X.w) X.A (assignInOrder ((assignEach ts X.env).map (·.2)) us) (fun _ s'=>∃σ' H',Inv X pins σ' H' s'∧Q σ' H') X.xe s
abbrev rK:=V→V→V→Hp→(Hp→Prop)→Prop
def wj(X:Cx)(t:rK):Prop:=
 ∀(pins:List (Addr×Obj)) (s:Shared) (σ:St) (H:Hp) (o i v:V) (ov iv u:Value) (Q:Hp→Prop),Inv X pins σ H s→RelV o ov→RelV i iv→RelV v u→t o i v H Q→
  wpAny (model X.prog X.w) X.A (setItem ov iv u) (fun _ s'=>∃H',Inv X pins σ H' s'∧Q H') X.xe s
section
variable {X:Cx} {pos:Pos}
def aO(i:Nat):TG:=fun v σ H Q=>Q (σ.set i (some v)) H
theorem bS{i:Nat}{x:Str}(hN:X.N.Nodup)(hi:X.N[i]?=some x)(hx:Loc X.env.scope x)(hf:X.fn x=true∨X.env.scope.names.lookup x=some .local:=by first | exact .inl rfl | exact .inr rfl | assumption):PG X (.Name x pos) (aO i):=by
 intro pins s σ H v u Q I r h
 exact wpAny_assign_Name (vY I hN hi hx r (fun s' I'=>⟨_,H,I',h⟩) hf)
def Bo:iK:=fun vs σ H Q=>vs=[]∧Q σ H
def Bp(t:TG)(u:iK):iK:=fun vs σ H Q=>∃v r,vs=v::r∧t v σ H fun σ' H'=>u r σ' H' Q
theorem jX:oB X [] Bo:=by
 intro pins s σ H vs us Q I r h
 obtain ⟨e,h⟩:=h
 subst e
 cases r
 exact assignInOrder_nil ⟨σ,H,I,h⟩
theorem eM{e:Expr}{es:List Expr}{t:TG}{u:iK}(h1:PG X e t)(h2:oB X es u)
  (hs:(assignEach (e::es) X.env).map (·.2)=assign e X.env::(assignEach es X.env).map (·.2):=by rfl):oB X (e::es) (Bp t u):=by
 intro pins s σ H vs us Q I r h
 obtain ⟨v,vr,e1,h⟩:=h
 subst e1
 cases r with
 | cons r rr=>
  rw [hs]
  refine assignInOrder_cons (ay (h1 pins s σ H _ _ _ I r h) fun _ s1 ⟨σ1,H1,I1,q1⟩=>?_)
  exact h2 pins s1 σ1 H1 _ _ Q I1 rr q1
def Bq(K:PySem.W.Frag)(n:Nat)(t:iK):TG:=fun v σ H Q=>∃a xs,v=.ref a∧cV K H a xs∧xs.length=n∧t xs σ H Q
theorem jY{es:List Expr}{k:Nat}{t:iK}{n:Nat}(hc:X.calm=true)(h:oB X es t)
  (hn:(assignEach es X.env).length=n:=by rfl) (Br:(assignEach es X.env).findIdx? (·.1)=none:=by rfl):PG X (.Tuple es k pos) (Bq X.K n t):=by
 intro pins s σ H v u Q I r hw
 obtain ⟨a,xs,e1,hq,hl,hw⟩:=hw
 subst e1
 cases r
 obtain ⟨ai,rv,ht,hz⟩:=I.tuple hq
 refine assign_Tuple_tuple (I.ok.hd hc) ht (by simp [hn,←hl,rv.length]) Br fun h' hx=>?_
 have I1:Inv X pins σ H {s with heap:=h'}:=I.kept (t':=s.toks) fun b o e=>hx b o (Nat.ne_of_lt (Heap.lt_size e)) e
 exact h pins _ σ H xs _ Q I1 (by simpa using rv) hw
def Bs(to ti:TE)(t:rK):TG:=fun v σ H Q=>to σ H fun o H1=>ti σ H1 fun i H2=>t o i v H2 fun H3=>Q σ H3
theorem jZ{o i:Expr}{to ti:TE}{t:rK}(ho:PE X o to)(hi:PE X i ti)(hs:wj X t)
  (ha:∀v,assign (.Subscript o i pos) X.env v=(do
   let ov ←holding [v] (eval o X.env)
   let iv ←holding [v,ov] (eval i X.env)
   standAt pos
   holding [v,ov,iv] (setItem ov iv v)
   release [v,ov,iv] []):=by intro _;rfl):PG X (.Subscript o i pos) (Bs to ti t):=by
 intro pins s σ H v u Q I r h
 rw [ha]
 refine wpAny_bind (wpAny_holding (ay (ho pins s σ H _ I h) fun ov s1 ⟨x,H1,I1,r1,q1⟩=>?_))
 refine wpAny_bind (wpAny_holding (ay (hi pins s1 σ H1 _ I1 q1) fun iv s2 ⟨y,H2,I2,r2,q2⟩=>?_))
 refine wpAny_bind (wpAny_standAt (wpAny_bind (wpAny_holding (ay (hs pins s2 σ H2 x y v ov iv u _ I2 r1 r2 r q2) fun _ s3 ⟨H3,I3,q3⟩=>?_))))
 exact wpAny_release ⟨σ,H3,I3,q3⟩
def mE(te:TE)(g:TG):TS:=fun D σ H=>te σ H fun x H1=>g x σ H1 D.nx
theorem j4{tg e:Expr}{te:TE}{g:TG}(he:PE X e te)(hg:PG X tg g)(hs:swapsWithSole [tg] e pos.line X.env=pure false:=by rfl)(hw:swappedStores [tg] e X.env=pure none:=by rfl)
  (h1:(assignEach [tg] X.env).map (·.2)=[assign tg X.env]:=by rfl):PS X (.Assign [tg] e pos) (mE te g):=by
 intro pins s σ H D I h
 refine wpAny_Assign_stores (ay (he pins s σ H _ I h) fun v s1 ⟨x,H1,I1,r1,q1⟩=>?_) hs hw
 rw [h1]
 exact ay (hg pins s1 σ H1 x v _ I1 r1 q1) fun _ s2 q=>q
theorem Bt{i:Nat}{x:Str}{e:Expr}{te:TE}{pos':Pos}(hN:X.N.Nodup)(hi:X.N[i]?=some x)(hx:Loc X.env.scope x)(he:PE X e te)(hs:swapsWith e (some (.Name x pos')) pos.line X.env=pure false:=by rfl)(hf:X.fn x=true∨X.env.scope.names.lookup x=some .local:=by first | exact .inl rfl | exact .inr rfl | assumption) :
  PS X (.Assign [.Name x pos'] e pos) (mE te (aO i)):=by
 intro pins s σ H D I h
 refine wpAny_Assign_Name (ay (he pins s σ H _ I h) fun v s1 ⟨y,H1,I1,r1,q1⟩=>?_) hs
 exact vY I1 hN hi hx r1 (fun s2 I2=>⟨_,H1,I2,q1⟩) hf
end
section
variable {X:Cx} {pos:Pos}
def Bu(c:TT)(tb:TS):TS:=fun D σ H=>∃W:Nat→St→Hp→Prop,(∃m,W m σ H)∧∀m σ H,W m σ H→
 c σ H fun b H1=>if b=true then ∃N:St→Hp→Prop,(∀σ' H',N σ' H'→∃m',m'<m∧W m' σ' H')∧tb {D with nx:=N,ct:=N,bk:=D.nx} σ H1 else D.nx σ H1
theorem wm{c:Expr}{body:List Stmt}{tc:TT}{tb:TS}(hp:PassesOwn (model X.prog X.w) X.A X.env X.xe)(hc:PT X c tc)(hb:de X body tb):PS X (.While c body [] pos) (Bu tc tb):=by
 intro pins s σ H D I h
 obtain ⟨W,⟨m0,w0⟩,turn⟩:=h
 refine wpAny_While (codeAny_whileLoop (fun n s'=>∃σ' H',Inv X pins σ' H' s'∧W n σ' H') ?_ m0 ⟨σ,H,I,w0⟩)
 rintro n s1 ⟨σ1,H1,I1,w1⟩
 refine wpAny_passesOwn hp (ay (hc pins s1 σ1 H1 _ I1 (turn n σ1 H1 w1)) fun b s2 ⟨H2,I2,q2⟩=>?_)
 cases b with
 | true=>
  obtain ⟨N,hN,q2⟩:=q2
  rw [if_pos rfl]
  refine wpAny_passesOwn hp (ay (hb pins s2 σ1 H2 _ I2 q2) fun f s3 q3=>?_)
  cases f with
  | next=>
   obtain ⟨σ3,H3,I3,n3⟩:=q3
   obtain ⟨m',hm,w3⟩:=hN σ3 H3 n3
   exact ⟨m',hm,σ3,H3,I3,w3⟩
  | cont=>
   obtain ⟨σ3,H3,I3,n3⟩:=q3
   obtain ⟨m',hm,w3⟩:=hN σ3 H3 n3
   exact ⟨m',hm,σ3,H3,I3,w3⟩
  | brk=>exact q3
  | ret v=>exact q3
 | false=>
  rw [if_neg Bool.false_ne_true]
  exact wpAny_execs_nil ⟨σ1,H2,I2,q2⟩
end
structure It where
 go:Nat→Hp→Prop
 cW:Nat→Hp→V→Hp→Prop
 stop:Nat→Hp→Prop
def g8(X:Cx)(pins:List (Addr×Obj))(H:Hp)(b:Addr):Prop:=
 H b=none∧b≠X.env.locals∧b∉X.fs∧(b∈X.ex∨X.s₀.heap.objs.size≤b)∧(∀x c,X.env.cells.lookup x=some c→c≠b)∧∀p∈X.pn++pins,p.1≠b
theorem Inv.mF{X:Cx}{pins:List (Addr×Obj)}{σ:St}{H H':Hp}{s:Shared}{b:Addr}(I:Inv X pins σ H s)(hb:s.heap.objs.size≤b)(hn:H' b=none):g8 X pins H' b:=by
 refine ⟨hn,Nat.ne_of_gt (Nat.lt_of_lt_of_le I.lt hb),I.A5 hb,.inr (Nat.le_trans I.sz hb),fun x c e z=>?_,fun p hp z=>?_⟩
 ·obtain ⟨v,q⟩:=I.cell x c e
  exact absurd (Nat.lt_of_lt_of_le q.lt (by rw [z];exact hb)) (Nat.lt_irrefl _)
 ·exact absurd (Nat.lt_of_lt_of_le (Heap.lt_size (I.pin p hp).1) (by rw [z];exact hb)) (Nat.lt_irrefl _)
structure Turn (P:Program) (w:World) (K:PySem.W.Frag) (tg:Expr) (J:It) (fp:List Addr) (it:Addr) (tn:Nat→Heap→Prop):Prop where
 mem:it∈fp
 obj:∀i h,tn i h→∀b∈fp,∃o,h.get? b=some o∧∀v,o.data≠.cell v
 keep:∀i h h',tn i h→(∀b∈fp,∀o,h.get? b=some o→h'.get? b=some o)→tn i h'
 item:∀(X:Cx),X.prog=P→X.w=w→X.K=K→X.calm=true→∀(i:Nat) (pins:List (Addr×Obj)) (s:Shared) (σ:St) (H:Hp) (E:Value→Shared→Prop),Inv X pins σ H s→(∀b∈fp,g8 X pins H b)→tn i s.heap→J.go i H→
  wpAny (model P w) X.A (pyNext (.ref it)) (fun r s1=>∃u,r=some u ∧
   wpAny (model P w) X.A (letOwnedTupleGo tg (.ref it) u) (fun _ s2=>∃x H',Inv X pins σ H' s2∧RelV x u∧J.cW i H x H'∧tn (i+1) s2.heap∧∀b∈fp,H' b=none) E s1) E s
 done:∀(X:Cx),X.prog=P→X.w=w→X.K=K→X.calm=true→∀(i:Nat) (pins:List (Addr×Obj)) (s:Shared) (σ:St) (H:Hp) (E:Value→Shared→Prop),Inv X pins σ H s→(∀b∈fp,g8 X pins H b)→tn i s.heap→J.stop i H→
  wpAny (model P w) X.A (pyNext (.ref it)) (fun r s1=>r=none∧Inv X pins σ H s1) E s
 self:∀(A:Around) (i:Nat) (s:Shared) (Q:Value→Shared→Prop) (E:Value→Shared→Prop),tn i s.heap→Q (.ref it) s→wpAny (model P w) A (pyIter (.ref it)) Q E s
abbrev TI:=St→Hp→(It→Hp→Prop)→Prop
def rM(X:Cx)(pins:List (Addr×Obj))(σ:St)(tg:Expr)(R:It→Hp→Prop)(oC:Value)(s2:Shared):Prop:=
 ∃(it:Addr) (fp:List Addr) (tn:Nat→Heap→Prop) (J:It) (H':Hp),oC=.ref it∧Inv X pins σ H' s2∧Turn X.prog X.w X.K tg J fp it tn∧tn 0 s2.heap∧(∀b∈fp,g8 X pins H' b)∧R J H'
def PI(X:Cx)(tg iter:Expr)(wi:TI):Prop:=
 ∀(pins:List (Addr×Obj)) (s:Shared) (σ:St) (H:Hp) (R:It→Hp→Prop),Inv X pins σ H s→wi σ H R→
  wpAny (model X.prog X.w) X.A (eval iter X.env) (fun v s1=>wpAny (model X.prog X.w) X.A (pyIter v) (rM X pins σ tg R) X.xe s1) X.xe s
theorem oD{M:Model}{A:Around}{E:Value→Shared→Prop}{s:Shared}{tg:Expr}{it:Addr}{u:Value}{o:Obj}{n:String}{vs:Array Value}{Q:Unit→Shared→Prop}(ho:s.heap.get? it=some o)(hc:o.cls=.type n)(hd:o.data=.fields vs)
    (hn:["enumerate","zip","dict_itemiterator","dict_reverseitemiterator","odict_iterator","itertools.zip_longest","itertools.pairwise"].contains n=false) (hQ:Q () s):wpAny M A (letOwnedTupleGo tg (.ref it) u) Q E s:=by
  unfold letOwnedTupleGo
  cases tg <;> first
    | exact wpAny_pure hQ
    | (cases u <;> first
        | exact wpAny_pure hQ
        | (refine wpAny_bind (wpAny_load ho ?_)
           rw [hc,hd]
           show wpAny M A (if (["enumerate","zip","dict_itemiterator","dict_reverseitemiterator","odict_iterator","itertools.zip_longest","itertools.pairwise"].contains n && vs[0]? == some (rawInt _))=true then _ else _) Q E s
           rw [if_neg (by intro h;rw [hn,Bool.false_and] at h;cases h)]
           exact wpAny_pure hQ))
def iL(K:PySem.W.Frag)(a:Addr):It:=
 ⟨fun i H=>∃xs x,aX K H a xs∧xs[i]?=some x,fun i H x H'=>H'=H∧∀xs,aX K H a xs→xs[i]?=some x,fun i H=>∃xs,aX K H a xs∧xs.length≤i⟩
def mG(K:PySem.W.Frag)(a:Addr):It:=
 ⟨fun i H=>∃xs x,cV K H a xs∧xs[i]?=some x,fun i H x H'=>H'=H∧∀xs,cV K H a xs→xs[i]?=some x,fun i H=>∃xs,cV K H a xs∧xs.length≤i⟩
def gu(lo:Int)(n:Nat):It:=⟨fun i _=>i<n,fun i H x H'=>H'=H∧x=.int (lo+i),fun i _=>n≤i⟩
theorem Bv{P:Program}{w:World}{K:PySem.W.Frag}{tg:Expr}(a it:Addr):Turn P w K tg (iL K a) [it] it (fun i h=>h.IsListIter it a i) where
 mem:=by simp
 obj:=fun i h st b hb=>by
  have e:b=it:=by simpa using hb
  subst e
  obtain ⟨o,e,c,d⟩:=st
  exact ⟨o,e,fun v z=>by rw [d] at z;cases z⟩
 keep:=fun i h h' st k=>st.at fun o e=>k it (by simp) o e
 item:=by
  intro X hP hw hK hc i pins s σ H E I hf st hg
  subst hP hw hK
  obtain ⟨xs,x,hq,hx⟩:=hg
  obtain ⟨ai,rv,p,hz⟩:=I.list hq
  obtain ⟨u,hu,ru⟩:=rv.get hx
  obtain ⟨f0,f1,f2,f3,f4,f5⟩:=hf it (by simp)
  refine wpAny_pyNext_list_item st p.isList (x:=u) (by simpa using hu) fun h' ak sb=>?_
  have I1:Inv X pins σ H {s with heap:=h'}:=I.turned (t':=s.toks) (fun b o hb e=>(sb.2 b hb).trans e) f0 f1 f3 f4 f5
  obtain ⟨o,e,c,d⟩:=id ak
  exact ⟨u,rfl,oD (s:={s with heap:=h'}) e c d (by decide) ⟨x,H,I1,ru,⟨rfl,fun ys hy=>by rw [I.wd hy hq];exact hx⟩,ak,fun b hb=>(hf b hb).1⟩⟩
 done:=by
  intro X hP hw hK hc i pins s σ H E I hf st hg
  subst hP hw hK
  obtain ⟨xs,hq,hx⟩:=hg
  obtain ⟨ai,rv,p,hz⟩:=I.list hq
  obtain ⟨f0,f1,f2,f3,f4,f5⟩:=hf it (by simp)
  have hl:=rv.length
  exact wpAny_pyNext_list_end (I.ok.hd hc) st p.isList (by simp;omega) fun h' eb=>⟨rfl,I.turned (t':=s.toks) (fun b o hb e=>eb b o hb e) f0 f1 f3 f4 f5⟩
 self:=fun _ _ _ _ _ st h=>wpAny_pyIter_listiter st h
theorem Bw{P:Program}{w:World}{K:PySem.W.Frag}{tg:Expr}(a it:Addr):Turn P w K tg (mG K a) [it] it (fun i h=>h.IsTupleIter it a i) where
 mem:=by simp
 obj:=fun i h st b hb=>by
  have e:b=it:=by simpa using hb
  subst e
  obtain ⟨o,e,c,d⟩:=st
  exact ⟨o,e,fun v z=>by rw [d] at z;cases z⟩
 keep:=fun i h h' st k=>st.at fun o e=>k it (by simp) o e
 item:=by
  intro X hP hw hK hc i pins s σ H E I hf st hg
  subst hP hw hK
  obtain ⟨xs,x,hq,hx⟩:=hg
  obtain ⟨ai,rv,p,hz⟩:=I.tuple hq
  obtain ⟨u,hu,ru⟩:=rv.get hx
  obtain ⟨f0,f1,f2,f3,f4,f5⟩:=hf it (by simp)
  refine wpAny_pyNext_tuple_item st (show s.heap.IsTuple a ai.toArray from p) (x:=u) (by simpa using hu) fun h' ak sb=>?_
  have I1:Inv X pins σ H {s with heap:=h'}:=I.turned (t':=s.toks) (fun b o hb e=>(sb.2 b hb).trans e) f0 f1 f3 f4 f5
  obtain ⟨o,e,c,d⟩:=id ak
  exact ⟨u,rfl,oD (s:={s with heap:=h'}) e c d (by decide) ⟨x,H,I1,ru,⟨rfl,fun ys hy=>by rw [I.Bm hy hq];exact hx⟩,ak,fun b hb=>(hf b hb).1⟩⟩
 done:=by
  intro X hP hw hK hc i pins s σ H E I hf st hg
  subst hP hw hK
  obtain ⟨xs,hq,hx⟩:=hg
  obtain ⟨ai,rv,p,hz⟩:=I.tuple hq
  obtain ⟨f0,f1,f2,f3,f4,f5⟩:=hf it (by simp)
  have hl:=rv.length
  exact wpAny_pyNext_tuple_end (I.ok.hd hc) st (show s.heap.IsTuple a ai.toArray from p) (by simp;omega) fun h' eb=>⟨rfl,I.turned (t':=s.toks) (fun b o hb e=>eb b o hb e) f0 f1 f3 f4 f5⟩
 self:=fun _ _ _ _ _ st h=>wpAny_pyIter_tupleiter st h
theorem Bx{P:Program}{w:World}{K:PySem.W.Frag}{tg:Expr}(it:Addr)(lo:Int)(n:Nat):Turn P w K tg (gu lo n) [it] it (fun i h=>IsRangeIter h it (lo+(i:Nat)*1) ((n:Int)-(i:Nat)) 1) where
 mem:=by simp
 obj:=fun i h st b hb=>by
  have e:b=it:=by simpa using hb
  subst e
  exact ⟨_,st,fun v z=>by
   have z':Data.fields _=Data.cell v:=z
   cases z'⟩
 keep:=fun i h h' st k=>k it (by simp) _ st
 item:=by
  intro X hP hw hK hc i pins s σ H E I hf st hg
  subst hP hw hK
  obtain ⟨f0,f1,f2,f3,f4,f5⟩:=hf it (by simp)
  have W:=Walks.range (prog:=X.prog) (w:=X.w) (I.ok.hd hc) it lo 1 n
  refine W.item i s _ _ hg st fun v h' tk hv ak kk=>?_
  obtain ⟨t,rfl⟩:=hv
  have I1:Inv X pins σ H {s with heap:=h',toks:=tk}:=I.turned (fun b o hb e=>kk b o (by simpa using hb) e) f0 f1 f3 f4 f5
  refine ⟨_,rfl,oD (s:={s with heap:=h',toks:=tk}) (n:="range_iterator") ak rfl rfl (by decide) ⟨.int (lo+i),H,I1,⟨t,?_⟩,⟨rfl,rfl⟩,ak,fun b hb=>(hf b hb).1⟩⟩
  rw [Int.mul_one]
 done:=by
  intro X hP hw hK hc i pins s σ H E I hf st hg
  subst hP hw hK
  obtain ⟨f0,f1,f2,f3,f4,f5⟩:=hf it (by simp)
  exact wpAny_pyNext_range_end (I.ok.hd hc) st (by have:n≤i:=hg;omega) fun h' eb=>⟨rfl,I.turned (t':=s.toks) (fun b o hb e=>eb b o hb e) f0 f1 f3 f4 f5⟩
 self:=fun _ _ _ _ _ st h=>wpAny_pyIter_rangeiter st h
section
variable {X:Cx} {tg:Expr}
def By(K:PySem.W.Frag)(tl:TE):TI:=fun σ H R=>tl σ H fun x H1=>∃a,x=.ref a∧(∃xs,aX K H1 a xs)∧R (iL K a) H1
def Bz(K:PySem.W.Frag)(tl:TE):TI:=fun σ H R=>tl σ H fun x H1=>∃a,x=.ref a∧(∃xs,cV K H1 a xs)∧R (mG K a) H1
theorem dR{l:Expr}{tl:TE}(hl:PE X l tl):PI X tg l (By X.K tl):=by
 intro pins s σ H R I h
 refine ay (hl pins s σ H _ I h) fun v s1 ⟨x,H1,I1,r1,q1⟩=>?_
 obtain ⟨a,e,⟨xs,hq⟩,q⟩:=q1
 subst e
 cases r1
 obtain ⟨ai,rv,p,hz⟩:=I1.list hq
 refine wpAny_pyIter_list p.isList ?_
 refine ⟨s1.heap.objs.size,[s1.heap.objs.size],_,_,H1,rfl,I1.kept (t':=s1.toks) fun b o e=>Heap.get?_push_of_some _ e,Bv a _,⟨_,Heap.get?_push_size _ rfl,rfl,rfl⟩,fun b hb=>?_,q⟩
 have e:b=s1.heap.objs.size:=by simpa using hb
 subst e
 exact I1.mF (Nat.le_refl _) (I1.ar.fresh (Nat.le_refl _))
theorem rN{l:Expr}{tl:TE}(hl:PE X l tl):PI X tg l (Bz X.K tl):=by
 intro pins s σ H R I h
 refine ay (hl pins s σ H _ I h) fun v s1 ⟨x,H1,I1,r1,q1⟩=>?_
 obtain ⟨a,e,⟨xs,hq⟩,q⟩:=q1
 subst e
 cases r1
 obtain ⟨ai,rv,p,hz⟩:=I1.tuple hq
 refine wpAny_pyIter_tuple (show s1.heap.IsTuple a ai.toArray from p) ?_
 refine ⟨s1.heap.objs.size,[s1.heap.objs.size],_,_,H1,rfl,I1.kept (t':=s1.toks) fun b o e=>Heap.get?_push_of_some _ e,Bw a _,⟨_,Heap.get?_push_size _ rfl,rfl,rfl⟩,fun b hb=>?_,q⟩
 have e:b=s1.heap.objs.size:=by simpa using hb
 subst e
 exact I1.mF (Nat.le_refl _) (I1.ar.fresh (Nat.le_refl _))
theorem wo{pins:List (Addr×Obj)}{σ:St}{H:Hp}{s:Shared}{R:It→Hp→Prop}{E:Value→Shared→Prop}{lo hi:Int}{t u v:Tok}{tk:Nat}(I:Inv X pins σ H s)(h1:-(2 ^ 62)≤lo)(h2:lo<2 ^ 62)(h3:-(2 ^ 62)≤hi)(h4:hi<2 ^ 62)
  (q:R (gu lo (hi-lo).toNat) H):wpAny (model X.prog X.w) X.A (pyIter (.ref s.heap.objs.size)) (rM X pins σ tg R) E {s with heap:=s.heap.push {cls:=.type "range",data:=.fields #[.int lo t,.int hi u,.int 1 v]},toks:=tk}:=by
 refine wpAny_pyIter_range (IsRange.new ..) (small_one h1 h2 h3 h4) ?_
 have I1:Inv X pins σ H {s with heap:=s.heap.push {cls:=.type "range",data:=.fields #[.int lo t,.int hi u,.int 1 v]},toks:=tk}:=I.kept fun b o e=>Heap.get?_push_of_some _ e
 refine ⟨(s.heap.push {cls:=.type "range",data:=.fields #[.int lo t,.int hi u,.int 1 v]}).objs.size,[(s.heap.push {cls:=.type "range",data:=.fields #[.int lo t,.int hi u,.int 1 v]}).objs.size],_,_,H,rfl,
  I1.kept (t':=tk) fun b o e=>Heap.get?_push_of_some _ e,Bx _ lo (hi-lo).toNat,?_,fun b hb=>?_,q⟩
 ·have e1:lo+((0:Nat):Int)*1=lo:=by simp
  have e2:(((hi-lo).toNat:Nat):Int)-((0:Nat):Int)=Builtin.Range.rangeSize lo hi 1:=by rw [rangeSize_one];split <;> omega
  show IsRangeIter _ _ (lo+((0:Nat):Int)*1) ((((hi-lo).toNat:Nat):Int)-((0:Nat):Int)) 1
  rw [e1,e2]
  exact Heap.get?_push_size _ rfl
 ·have e:b=(s.heap.push {cls:=.type "range",data:=.fields #[.int lo t,.int hi u,.int 1 v]}).objs.size:=by simpa using hb
  subst e
  exact I1.mF (Nat.le_refl _) (I1.ar.fresh (Nat.le_refl _))
def BA(ta:TA):TI:=fun σ H R=>ta σ H fun vs H1=>∃j:Int,vs=[.int j]∧-(2 ^ 62)≤j∧j<2 ^ 62∧R (gu 0 j.toNat) H1
def BB(ta:TA):TI:=fun σ H R=>ta σ H fun vs H1=>∃i j:Int,vs=[.int i,.int j]∧(-(2 ^ 62)≤i∧i<2 ^ 62∧-(2 ^ 62)≤j∧j<2 ^ 62)∧R (gu i (j-i).toNat) H1
theorem g9{a:Expr}{ta:TA}{p pos:Pos}(hg:Gl X "range")(hm:X.mg "range" = none)(ha:PA X [a] ta)(hs:starEach [a] X.env=[(false,eval a X.env)]:=by rfl):PI X tg (.Call (.Name "range" p) [a] [] pos) (BA ta):=by
 intro pins s σ H R I h
 refine Call_ (jU I hg hm boot_range (PyProof.Rows.callWith_type1 (ay (ha pos pins s σ H _ I h) fun us s1 ⟨vs,H1,I1,r1,q1⟩=>?_) hs rfl))
 obtain ⟨j,e,q1,q2,q⟩:=q1
 subst e
 cases r1 with
 | cons r rr=>
  cases rr
  obtain ⟨t,rfl⟩:=r
  exact call_range_1 (wo I1 (by omega) (by omega) q1 q2 (by simpa using q))
theorem wu{a b:Expr}{ta:TA}{p pos:Pos}(hg:Gl X "range")(hm:X.mg "range" = none)(ha:PA X [a,b] ta)(hs:starEach [a,b] X.env=[(false,eval a X.env),(false,eval b X.env)]:=by rfl)(oE:starEach [b] X.env=[(false,eval b X.env)]:=by rfl) :
  PI X tg (.Call (.Name "range" p) [a,b] [] pos) (BB ta):=by
 intro pins s σ H R I h
 refine Call_ (jU I hg hm boot_range (PyProof.Rows.callWith_type1 (ay (ha pos pins s σ H _ I h) fun us s1 ⟨vs,H1,I1,r1,q1⟩=>?_) (by rw [hs,oE]) (by rw [oE];rfl)))
 obtain ⟨i,j,e,⟨q1,q2,q3,q4⟩,q⟩:=q1
 subst e
 cases r1 with
 | cons r rr=>
  cases rr with
  | cons r' rr=>
   cases rr
   obtain ⟨t,rfl⟩:=r
   obtain ⟨t',rfl⟩:=r'
   exact call_range_2 (wo I1 q1 q2 q3 q4 q)
def BC(wi:TI)(g:TG)(tb:TS):TS:=fun D σ H=>wi σ H fun J H1=>∃W:Nat→Nat→St→Hp→Prop,(∃m,W 0 m σ H1)∧∀i m σ H,W i m σ H→
 (J.stop i H∧D.nx σ H)∨(J.go i H∧∃N:St→Hp→Prop,(∀σ' H',N σ' H'→∃m',m'<m∧W (i+1) m' σ' H')∧∀x H',J.cW i H x H'→g x σ H' fun σ2 H2=>tb {D with nx:=N,ct:=N,bk:=D.nx} σ2 H2)
def g_(fp:List Addr)(h:Heap):List (Addr×Obj):=fp.filterMap fun b=>(h.get? b).map fun o=>(b,o)
theorem j6{fp:List Addr}{h:Heap}{b:Addr}{o:Obj}(hb:b∈fp)(e:h.get? b=some o):(b,o)∈g_ fp h:=List.mem_filterMap.mpr ⟨b,hb,by rw [e];rfl⟩
theorem BD{fp:List Addr}{h:Heap}{p:Addr×Obj}(hp:p∈g_ fp h):p.1∈fp∧h.get? p.1=some p.2:=by
 obtain ⟨b,hb,e⟩:=List.mem_filterMap.mp hp
 cases q:h.get? b with
 | none=>rw [q] at e;cases e
 | some o=>
  rw [q] at e
  have e':(b,o)=p:=Option.some.inj e
  subst e'
  exact ⟨hb,q⟩
theorem Inv.pinned{pins:List (Addr×Obj)}{σ:St}{H:Hp}{s:Shared}{fp:List Addr}(I:Inv X pins σ H s)(hf:∀b∈fp,g8 X pins H b)(ho:∀b∈fp,∃o,s.heap.get? b=some o∧∀v,o.data≠.cell v):Inv X (pins++g_ fp s.heap) σ H s:=
 I.vQ fun p hp=>(List.mem_append.mp hp).elim (fun z=>I.pin p (List.mem_append_right _ z)) fun z=>by
  obtain ⟨hb,e⟩:=BD z
  obtain ⟨f0,f1,f2,_⟩:=hf p.1 hb
  obtain ⟨o,e',d⟩:=ho p.1 hb
  rw [e] at e';cases e'
  exact ⟨e,f0,f1,f2,d⟩
theorem Inv.mH{pins pl:List (Addr×Obj)}{σ:St}{H:Hp}{s:Shared}(I:Inv X (pins++pl) σ H s):Inv X pins σ H s:=I.vQ fun p hp=>I.pin p (List.mem_append_right _ (List.mem_append_left _ hp))
theorem cJ{iter:Expr}{body:List Stmt}{wi:TI}{g:TG}{tb:TS}{pos:Pos}(hp:PassesOwn (model X.prog X.w) X.A X.env X.xe)(hc:X.calm=true)(hi:PI X tg iter wi)(hg:PG X tg g)(hb:de X body tb)
  (hs:∀x,foldedSetIterable iter X.env x=pure x:=by intro _;rfl):PS X (.For tg iter body [] pos) (BC wi g tb):=by
 intro pins s σ H D I h
 refine wpAny_For (ay (hi pins s σ H _ I h) fun v s1 h1=>ay h1 fun oC s2 h2=>?_) hs
 obtain ⟨it,fp,tn,J,H2,e,I2,T,gv,f2,W,⟨m0,w0⟩,turn⟩:=h2
 subst e
 have fj:∀{H':Hp},(∀b∈fp,H' b=none)→∀b∈fp,g8 X pins H' b:=fun hn b hb=>⟨hn b hb,(f2 b hb).2⟩
 refine codeAny_forLoop_any (fun n s'=>∃i σ' H',Inv X pins σ' H' s'∧tn i s'.heap∧(∀b∈fp,H' b=none)∧W i n σ' H') ?_ m0 ⟨0,σ,H2,I2,gv,fun b hb=>(f2 b hb).1,w0⟩
 rintro n s3 ⟨i,σ3,H3,I3,wx,wA,w3⟩
 rcases turn i n σ3 H3 w3 with ⟨stop,qn⟩ | ⟨go,N,hN,step⟩
 ·refine wpAny_passesOwn hp (ay (T.done X rfl rfl rfl hc i pins s3 σ3 H3 X.xe I3 (fj wA) wx stop) fun r s4 ⟨hr,I4⟩=>?_)
  subst hr
  exact wpAny_execs_nil ⟨σ3,H3,I4,qn⟩
 ·refine wpAny_passesOwn hp (ay (T.item X rfl rfl rfl hc i pins s3 σ3 H3 X.xe I3 (fj wA) wx go) fun r s4 ⟨u,hr,h4⟩=>?_)
  subst hr
  refine wpAny_passesOwn hp (ay h4 fun _ s5 ⟨x,H5,I5,r5,y5,fk,mI⟩=>?_)
  have mJ:=I5.pinned (fj mI) (T.obj _ _ fk)
  refine wpAny_passesOwn hp (ay (hg _ s5 σ3 H5 x u _ mJ r5 (step x H5 y5)) fun _ s6 ⟨σ6,H6,I6,q6⟩=>?_)
  refine wpAny_passesOwn hp (ay (hb _ s6 σ6 H6 _ I6 q6) fun f s7 q7=>?_)
  have again:∀{σ7:St} {H7:Hp},Inv X (pins++g_ fp s5.heap) σ7 H7 s7→N σ7 H7→∃m,m<n∧∃i σ' H',Inv X pins σ' H' s7∧tn i s7.heap∧(∀b∈fp,H' b=none)∧W i m σ' H':=fun{σ7 H7} I7 n7=>by
   obtain ⟨m',hm,w7⟩:=hN σ7 H7 n7
   refine ⟨m',hm,i+1,σ7,H7,I7.mH,T.keep _ _ _ fk fun b hb o e=>(I7.pin (b,o) (List.mem_append_right _ (List.mem_append_right _ (j6 hb e)))).1,fun b hb=>?_,w7⟩
   obtain ⟨o,e,d⟩:=T.obj _ _ fk b hb
   exact (I7.pin (b,o) (List.mem_append_right _ (List.mem_append_right _ (j6 hb e)))).2.1
  cases f with
  | next=>obtain ⟨σ7,H7,I7,n7⟩:=q7;exact again I7 n7
  | cont=>obtain ⟨σ7,H7,I7,n7⟩:=q7;exact again I7 n7
  | brk=>obtain ⟨σ7,H7,I7,q7⟩:=q7;exact ⟨σ7,H7,I7.mH,q7⟩
  | ret v=>obtain ⟨x7,σ7,H7,I7,r7,q7⟩:=q7;exact ⟨x7,σ7,H7,I7.mH,r7,q7⟩
end
theorem iM{K:PySem.W.Frag}{a:Addr}{xs:List V}{g:TG}{tb:TS}{D:Ends}{σ:St}{H:Hp}(Pv:Nat→St→Hp→Prop)(h0:Pv 0 σ H)(hl:∀i σ H,i≤xs.length→Pv i σ H→aX K H a xs)
  (hs:∀i x σ H,xs[i]?=some x→Pv i σ H→g x σ H fun σ2 H2=>tb {D with nx:=Pv (i+1),ct:=Pv (i+1),bk:=D.nx} σ2 H2) (hd:∀σ H,Pv xs.length σ H→D.nx σ H) :
  ∃W:Nat→Nat→St→Hp→Prop,(∃m,W 0 m σ H)∧∀i m σ H,W i m σ H→
   ((iL K a).stop i H∧D.nx σ H)∨((iL K a).go i H∧∃N:St→Hp→Prop,(∀σ' H',N σ' H'→∃m',m'<m∧W (i+1) m' σ' H')∧∀x H',(iL K a).cW i H x H'→g x σ H' fun σ2 H2=>tb {D with nx:=N,ct:=N,bk:=D.nx} σ2 H2):=by
 refine ⟨fun i m σ H=>m=xs.length-i∧i≤xs.length∧Pv i σ H,⟨xs.length,by simp,Nat.zero_le _,h0⟩,?_⟩
 rintro i m σ H ⟨rfl,hi,p⟩
 have q:=hl i σ H hi p
 by_cases ba:i<xs.length
 ·refine .inr ⟨⟨xs,xs[i],q,by simp [ba]⟩,Pv (i+1),fun σ' H' p'=>⟨xs.length-(i+1),by omega,rfl,ba,p'⟩,fun x H' y=>?_⟩
  obtain ⟨e,y⟩:=y
  subst e
  exact hs i x σ _ (y xs q) p
 ·have e:i=xs.length:=by omega
  subst e
  exact .inl ⟨⟨xs,q,Nat.le_refl _⟩,hd σ H p⟩
theorem rO{K:PySem.W.Frag}{a:Addr}{xs:List V}{g:TG}{tb:TS}{D:Ends}{σ:St}{H:Hp}(Pv:Nat→St→Hp→Prop)(h0:Pv 0 σ H)(hl:∀i σ H,i≤xs.length→Pv i σ H→cV K H a xs)
  (hs:∀i x σ H,xs[i]?=some x→Pv i σ H→g x σ H fun σ2 H2=>tb {D with nx:=Pv (i+1),ct:=Pv (i+1),bk:=D.nx} σ2 H2) (hd:∀σ H,Pv xs.length σ H→D.nx σ H) :
  ∃W:Nat→Nat→St→Hp→Prop,(∃m,W 0 m σ H)∧∀i m σ H,W i m σ H→
   ((mG K a).stop i H∧D.nx σ H)∨((mG K a).go i H∧∃N:St→Hp→Prop,(∀σ' H',N σ' H'→∃m',m'<m∧W (i+1) m' σ' H')∧∀x H',(mG K a).cW i H x H'→g x σ H' fun σ2 H2=>tb {D with nx:=N,ct:=N,bk:=D.nx} σ2 H2):=by
 refine ⟨fun i m σ H=>m=xs.length-i∧i≤xs.length∧Pv i σ H,⟨xs.length,by simp,Nat.zero_le _,h0⟩,?_⟩
 rintro i m σ H ⟨rfl,hi,p⟩
 have q:=hl i σ H hi p
 by_cases ba:i<xs.length
 ·refine .inr ⟨⟨xs,xs[i],q,by simp [ba]⟩,Pv (i+1),fun σ' H' p'=>⟨xs.length-(i+1),by omega,rfl,ba,p'⟩,fun x H' y=>?_⟩
  obtain ⟨e,y⟩:=y
  subst e
  exact hs i x σ _ (y xs q) p
 ·have e:i=xs.length:=by omega
  subst e
  exact .inl ⟨⟨xs,q,Nat.le_refl _⟩,hd σ H p⟩
theorem iO{lo:Int}{n:Nat}{g:TG}{tb:TS}{D:Ends}{σ:St}{H:Hp}(Pv:Nat→St→Hp→Prop)(h0:Pv 0 σ H)
  (hs:∀i σ H,i<n→Pv i σ H→g (.int (lo+i)) σ H fun σ2 H2=>tb {D with nx:=Pv (i+1),ct:=Pv (i+1),bk:=D.nx} σ2 H2) (hd:∀σ H,Pv n σ H→D.nx σ H) :
  ∃W:Nat→Nat→St→Hp→Prop,(∃m,W 0 m σ H)∧∀i m σ H,W i m σ H→
   ((gu lo n).stop i H∧D.nx σ H)∨((gu lo n).go i H∧∃N:St→Hp→Prop,(∀σ' H',N σ' H'→∃m',m'<m∧W (i+1) m' σ' H')∧∀x H',(gu lo n).cW i H x H'→g x σ H' fun σ2 H2=>tb {D with nx:=N,ct:=N,bk:=D.nx} σ2 H2):=by
 refine ⟨fun i m σ H=>m=n-i∧i≤n∧Pv i σ H,⟨n,by simp,Nat.zero_le _,h0⟩,?_⟩
 rintro i m σ H ⟨rfl,hi,p⟩
 by_cases ba:i<n
 ·refine .inr ⟨ba,Pv (i+1),fun σ' H' p'=>⟨n-(i+1),by omega,rfl,ba,p'⟩,fun x H' y=>?_⟩
  obtain ⟨e,y⟩:=y
  subst e y
  exact hs i σ _ ba p
 ·have e:i=n:=by omega
  subst e
  exact .inl ⟨Nat.le_refl _,hd σ H p⟩
abbrev R2:=V→V→Hp→VK→Prop
def b3(X:Cx)(f:Value→Value→Sem Value)(r:R2):Prop:=
 ∀(pins:List (Addr×Obj)) (s:Shared) (σ:St) (H:Hp) (x y:V) (v u:Value) (Q:VK),Inv X pins σ H s→RelV x v→RelV y u→r x y H Q→
  wpAny (model X.prog X.w) X.A (f v u) (EP X pins σ Q) X.xe s
def dg(X:Cx)(f:Value)(r:List V→Hp→VK→Prop):Prop:=
 ∀(pins:List (Addr×Obj)) (s:Shared) (σ:St) (H:Hp) (xs:List V) (us:List Value) (Q:VK),Inv X pins σ H s→Vals xs us→r xs H Q→
  wpAny (model X.prog X.w) X.A (call f us) (EP X pins σ Q) X.xe s
def oF(r:R2)(ta tb:TE):TE:=fun σ H Q=>ta σ H fun x H1=>tb σ H1 fun y H2=>r x y H2 Q
def rI(C:Int→Int→Prop)(g:Int→Int→V):R2:=fun x y H Q=>∃i j,x=.int i∧y=.int j∧C i j∧Q (g i j) H
def hE(g:Int→Int→V):R2:=fun x y H Q=>∃i j,x=.int i∧y=.int j∧Q (g i j) H
section
variable {X:Cx} {a b c:Expr} {ta tb tc:TE} {pos:Pos}
theorem rQ(ha:PE X a ta)(hb:PE X b tb){pins:List (Addr×Obj)}{s:Shared}{σ:St}{H:Hp}{R:V→V→Hp→Prop}(I:Inv X pins σ H s)
  (h:ta σ H fun x H1=>tb σ H1 fun y H2=>R x y H2) {Q:Value→Shared→Prop} {f:Value→Value→Sem Value}
  (hf:∀v u s2 x y H2,Inv X pins σ H2 s2→RelV x v→RelV y u→R x y H2→wpAny (model X.prog X.w) X.A (f v u) Q X.xe s2) :
  wpAny (model X.prog X.w) X.A (eval a X.env) (fun v s₁=>wpAny (model X.prog X.w) X.A (eval b X.env) (fun u s₂=>wpAny (model X.prog X.w) X.A (f v u) Q X.xe s₂) X.xe s₁) X.xe s:=by
 refine ay (ha pins s σ H _ I h) fun v s1 ⟨x,H1,I1,r1,q1⟩=>?_
 refine ay (hb pins s1 σ H1 _ I1 q1) fun u s2 ⟨y,H2,I2,r2,q2⟩=>?_
 exact hf v u s2 x y H2 I2 r1 r2 q2
theorem aP{op:Operator}{r:R2}(ho:b3 X (binaryOp op) r)(ha:PE X a ta)(hb:PE X b tb):PE X (.BinOp a op b pos) (oF r ta tb):=by
 intro pins s σ H Q I h
 exact wpAny_BinOp (rQ ha hb I h fun v u s2 x y H2 I2 rx ry q=>ho pins s2 σ H2 x y v u Q I2 rx ry q)
theorem oG{f:Value→Value→Sem Value}{C:Int→Int→Prop}{g:Int→Int→Int}
  (rule:∀(i j:Int) (t u:Tok) (s:Shared) (Q:Value→Shared→Prop) (E:Value→Shared→Prop),C i j→Q (.int (g i j) s.toks) {s with toks:=s.toks+1}→wpAny (model X.prog X.w) X.A (f (.int i t) (.int j u)) Q E s) :
  b3 X f (rI C fun i j=>.int (g i j)):=by
 intro pins s σ H x y v u Q I rx ry h
 obtain ⟨i,j,rfl,rfl,hc,q⟩:=h
 obtain ⟨t,rfl⟩:=rx
 obtain ⟨t',rfl⟩:=ry
 exact rule i j t t' s _ _ hc ⟨.int (g i j),H,I.tok _,⟨_,rfl⟩,q⟩
theorem wB{f:Value→Value→Sem Value}{g:Int→Int→Int}
  (rule:∀(i j:Int) (t u:Tok) (s:Shared) (Q:Value→Shared→Prop) (E:Value→Shared→Prop),Q (.int (g i j) s.toks) {s with toks:=s.toks+1}→wpAny (model X.prog X.w) X.A (f (.int i t) (.int j u)) Q E s) :
  b3 X f (hE fun i j=>.int (g i j)):=by
 intro pins s σ H x y v u Q I rx ry h
 obtain ⟨i,j,rfl,rfl,q⟩:=h
 obtain ⟨t,rfl⟩:=rx
 obtain ⟨t',rfl⟩:=ry
 exact rule i j t t' s _ _ ⟨.int (g i j),H,I.tok _,⟨_,rfl⟩,q⟩
theorem oH{f:Value→Value→Sem Value}{g:Int→Int→Bool}
  (rule:∀(i j:Int) (t u:Tok) (s:Shared) (Q:Value→Shared→Prop) (E:Value→Shared→Prop),Q (.bool (g i j)) s→wpAny (model X.prog X.w) X.A (f (.int i t) (.int j u)) Q E s) :
  b3 X f (hE fun i j=>.bl (g i j)):=by
 intro pins s σ H x y v u Q I rx ry h
 obtain ⟨i,j,rfl,rfl,q⟩:=h
 obtain ⟨t,rfl⟩:=rx
 obtain ⟨t',rfl⟩:=ry
 exact rule i j t t' s _ _ ⟨.bl (g i j),H,I,rfl,q⟩
def BE(i j:Int):Prop:=0≤j∧j≤1000000∧i.natAbs<2 ^ 64
def rR(i j:Int):Prop:=(-(2 ^ 64)<i∧i<2 ^ 64)∨(-(2 ^ 64)<j∧j<2 ^ 64)
theorem rR.ok{i j:Int}(h:rR i j):IntMulOk i j:=by
 rcases h with ⟨h1,h2⟩ | ⟨h1,h2⟩
 ·exact .of_left (intBits_le_64 h1 h2)
 ·exact .of_right (intBits_le_64 h1 h2)
theorem cN:b3 X (binaryOp .Add) (hE fun i j=>.int (i+j)):=wB fun _ _ _ _ _ _ _ q=>add_int q
theorem gx:b3 X (binaryOp .Sub) (hE fun i j=>.int (i-j)):=wB fun _ _ _ _ _ _ _ q=>sub_int q
theorem d_:b3 X (binaryOp .Mult) (rI rR fun i j=>.int (i*j)):=oG fun _ _ _ _ _ _ _ hc q=>mul_int q hc.ok
theorem iP:b3 X (binaryOp .Mod) (rI (fun _ j=>0<j) fun i j=>.int (i % j)):=oG fun i j _ _ _ _ _ hc q=>by
 have h1:(0:Int)<j:=hc
 exact mod_int' (by omega) (by rw [Int.fmod_eq_emod_of_nonneg i (by omega)];exact q)
theorem BF:b3 X (binaryOp .Pow) (rI BE fun i j=>.int (i ^ j.toNat)):=oG fun _ _ _ _ _ _ _ hc q=>pow_int_small hc.1 hc.2.1 hc.2.2 q
end
def rS:V→V→Bool
 | .aF,.aF=>true | .aF,.int _=>true | .int _,.aF=>true | .aF,.bl _=>true | .bl _,.aF=>true | .aF,.str _=>true | .str _,.aF=>true
 | .int _,.int _=>true | .bl _,.bl _=>true | .str _,.str _=>true | .fg _,.fg _=>true
 | .int _,.str _=>true | .str _,.int _=>true | .bl _,.str _=>true | .str _,.bl _=>true
 | _,_=>false
def BG:R2:=fun x y H Q=>rS x y=true∧Q (.bl (decide (x=y))) H
def BH:R2:=fun x y H Q=>rS x y=true∧Q (.bl (!decide (x=y))) H
theorem wC{i j:Int}:decide (V.int i=V.int j)=(i == j):=by
 rw [Bool.eq_iff_iff]
 simp
theorem wD{i j:Bool}:decide (V.bl i=V.bl j)=(i == j):=by
 rw [Bool.eq_iff_iff]
 simp
theorem wF{i j:Str}:decide (V.str i=V.str j)=(i == j):=by
 rw [Bool.eq_iff_iff]
 simp
theorem wG{i j:Array UInt8}:decide (V.fg i=V.fg j)=(i.toList == j.toList):=by
 rw [Bool.eq_iff_iff]
 cases i
 cases j
 simp
section
variable {X:Cx} {a b c:Expr} {ta tb tc:TE} {pos:Pos}
theorem bI{pins:List (Addr×Obj)}{σ:St}{H:Hp}{s:Shared}{Q:VK}{k k':Bool}(I:Inv X pins σ H s)(q:Q (.bl k) H)(e:k=k'):EP X pins σ Q (.bool k') s:=by
 subst e
 exact ⟨.bl k,H,I,rfl,q⟩
theorem dS:b3 X (compareOp .Eq) BG:=by
 intro pins s σ H x y v u Q I rx ry h
 obtain ⟨hs,q⟩:=h
 cases x with
 | aF=>
  cases rx
  cases y with
  | aF=>cases ry;exact PySem.EqNone.eq_none_none (bI I q (by simp))
  | bl j=>cases ry;exact PySem.EqNone.eq_none_bool (bI I q (by simp))
  | int j=>obtain ⟨t',rfl⟩:=ry;exact PySem.EqNone.eq_none_int (bI I q (by simp))
  | str j=>obtain ⟨t',rfl⟩:=ry;exact PySem.EqNone.eq_none_str (bI I q (by simp))
  | _=>exact absurd (show false=true from hs) Bool.false_ne_true
 | bl i=>
  cases rx
  cases y with
  | aF=>cases ry;exact PySem.EqNone.eq_bool_none (bI I q (by simp))
  | bl j=>cases ry;exact eq_bool (bI I q wD)
  | str j=>obtain ⟨t',rfl⟩:=ry;exact PySem.EqMixed.eq_bool_str (bI I q (by simp))
  | _=>exact absurd (show false=true from hs) Bool.false_ne_true
 | int i=>
  obtain ⟨t,rfl⟩:=rx
  cases y with
  | aF=>cases ry;exact PySem.EqNone.eq_int_none (bI I q (by simp))
  | int j=>obtain ⟨t',rfl⟩:=ry;exact eq_int (bI I q wC)
  | str j=>obtain ⟨t',rfl⟩:=ry;exact PySem.EqMixed.eq_int_str (bI I q (by simp))
  | _=>exact absurd (show false=true from hs) Bool.false_ne_true
 | str i=>
  obtain ⟨t,rfl⟩:=rx
  cases y with
  | aF=>cases ry;exact PySem.EqNone.eq_str_none (bI I q (by simp))
  | bl j=>cases ry;exact PySem.EqMixed.eq_str_bool (bI I q (by simp))
  | int j=>obtain ⟨t',rfl⟩:=ry;exact PySem.EqMixed.eq_str_int (bI I q (by simp))
  | str j=>obtain ⟨t',rfl⟩:=ry;exact eq_str (bI I q wF)
  | _=>exact absurd (show false=true from hs) Bool.false_ne_true
 | fg i=>
  obtain ⟨t,rfl⟩:=rx
  cases y with
  | fg j=>obtain ⟨t',rfl⟩:=ry;exact PySem.W.eq_bytes (bI I q wG)
  | _=>exact absurd (show false=true from hs) Bool.false_ne_true
 | _=>cases y <;> exact absurd (show false=true from hs) Bool.false_ne_true
theorem oI:b3 X (compareOp .NotEq) BH:=by
 intro pins s σ H x y v u Q I rx ry h
 obtain ⟨hs,q⟩:=h
 cases x with
 | aF=>
  cases rx
  cases y with
  | aF=>cases ry;exact PySem.EqNone.ne_none_none (bI I q (by simp))
  | bl j=>cases ry;exact PySem.EqNone.ne_none_bool (bI I q (by simp))
  | int j=>obtain ⟨t',rfl⟩:=ry;exact PySem.EqNone.ne_none_int (bI I q (by simp))
  | str j=>obtain ⟨t',rfl⟩:=ry;exact PySem.EqNone.ne_none_str (bI I q (by simp))
  | _=>exact absurd (show false=true from hs) Bool.false_ne_true
 | bl i=>
  cases rx
  cases y with
  | aF=>cases ry;exact PySem.EqNone.ne_bool_none (bI I q (by simp))
  | bl j=>cases ry;exact ne_bool (bI I q (congrArg not wD))
  | str j=>obtain ⟨t',rfl⟩:=ry;exact PySem.EqMixed.ne_bool_str (bI I q (by simp))
  | _=>exact absurd (show false=true from hs) Bool.false_ne_true
 | int i=>
  obtain ⟨t,rfl⟩:=rx
  cases y with
  | aF=>cases ry;exact PySem.EqNone.ne_int_none (bI I q (by simp))
  | int j=>obtain ⟨t',rfl⟩:=ry;exact ne_int (bI I q (congrArg not wC))
  | str j=>obtain ⟨t',rfl⟩:=ry;exact PySem.EqMixed.ne_int_str (bI I q (by simp))
  | _=>exact absurd (show false=true from hs) Bool.false_ne_true
 | str i=>
  obtain ⟨t,rfl⟩:=rx
  cases y with
  | aF=>cases ry;exact PySem.EqNone.ne_str_none (bI I q (by simp))
  | bl j=>cases ry;exact PySem.EqMixed.ne_str_bool (bI I q (by simp))
  | int j=>obtain ⟨t',rfl⟩:=ry;exact PySem.EqMixed.ne_str_int (bI I q (by simp))
  | str j=>obtain ⟨t',rfl⟩:=ry;exact ne_str (bI I q (congrArg not wF))
  | _=>exact absurd (show false=true from hs) Bool.false_ne_true
 | fg i=>
  obtain ⟨t,rfl⟩:=rx
  cases y with
  | fg j=>obtain ⟨t',rfl⟩:=ry;exact PySem.W.ne_bytes (bI I q (congrArg not wG))
  | _=>exact absurd (show false=true from hs) Bool.false_ne_true
 | _=>cases y <;> exact absurd (show false=true from hs) Bool.false_ne_true
theorem rT:b3 X (compareOp .Lt) (hE fun i j=>.bl (decide (i<j))):=oH fun _ _ _ _ _ _ _ q=>lt_int q
theorem BI:b3 X (compareOp .LtE) (hE fun i j=>.bl (decide (i≤j))):=oH fun _ _ _ _ _ _ _ q=>le_int q
theorem j7:b3 X (compareOp .Gt) (hE fun i j=>.bl (decide (j<i))):=oH fun _ _ _ _ _ _ _ q=>gt_int q
theorem BJ:b3 X (compareOp .GtE) (hE fun i j=>.bl (decide (j≤i))):=oH fun _ _ _ _ _ _ _ q=>ge_int q
theorem bC(b:Expr){op:CmpOp}(h:op≠.In:=by decide)(h2:op≠.NotIn:=by decide):behindInMarks op b=false:=by
 have e1:(op == CmpOp.In)=false:=by cases op <;> first | rfl | exact absurd rfl h
 have e2:(op == CmpOp.NotIn)=false:=by cases op <;> first | rfl | exact absurd rfl h2
 cases b <;> simp [behindInMarks,e1,e2]
theorem iQ{op:CmpOp}{r:R2}(ho:b3 X (compareOp op) r)(ha:PE X a ta)(hb:PE X b tb)(hm:behindInMarks op b=false):PE X (.Compare a [op] [b] pos) (oF r ta tb):=by
 intro pins s σ H Q I h
 exact wpAny_Compare1 (rQ ha hb I h fun v u s2 x y H2 I2 rx ry q=>ho pins s2 σ H2 x y v u Q I2 rx ry q) hm
def BK(t:TE):TT:=fun σ H Q=>t σ H fun x H'=>∃k,x=.bl k∧Q k H'
theorem bT{op:CmpOp}{r:R2}(ho:b3 X (compareOp op) r)(ha:PE X a ta)(hb:PE X b tb)(hm:behindInMarks op b=false):PT X (.Compare a [op] [b] pos) (BK (oF r ta tb)):=by
 intro pins s σ H Q I h
 refine wpAny_isTrue_Compare1 (ay (ha pins s σ H _ I h) fun v s1 ⟨x,H1,I1,r1,q1⟩=>ay (hb pins s1 σ H1 _ I1 q1) fun u s2 ⟨y,H2,I2,r2,q2⟩=>
  ay (ho pins s2 σ H2 x y v u _ I2 r1 r2 q2) fun c s3 ⟨z,H3,I3,r3,k,e,q3⟩=>?_) hm
 subst e
 cases r3
 exact wpAny_truthy_bool ⟨H3,I3,q3⟩
theorem oJ:(sizeLine:Nat)<2 ^ 63:=by rw [sizeLine_eq];decide
theorem vals1{x:V}{us:List Value}(r:Vals [x] us):∃u,us=[u]∧RelV x u:=by
 cases r with
 | cons r1 r2=>cases r2;exact ⟨_,rfl,r1⟩
theorem vals2{x y:V}{us:List Value}(r:Vals [x,y] us):∃u w',us=[u,w']∧RelV x u∧RelV y w':=by
 cases r with
 | cons r1 r2=>
  cases r2 with
  | cons r3 r4=>cases r4;exact ⟨_,_,rfl,r1,r3⟩
theorem rU(hc:X.calm=true):dg X (.builtin "max") (fun xs H Q=>∃i j,xs=[.int i,.int j]∧Q (.int (if j>i then j else i)) H):=by
 intro pins s σ H xs us Q I r h
 obtain ⟨i,j,rfl,q⟩:=h
 obtain ⟨u,w',rfl,⟨t,rfl⟩,⟨t',rfl⟩⟩:=vals2 r
 refine max_two_ints (I.ok.hd hc) fun h' tk k=>⟨_,H,I.kept k,?_,q⟩
 by_cases hj:j>i
 ·rw [if_pos hj,if_pos hj];exact ⟨_,rfl⟩
 ·rw [if_neg hj,if_neg hj];exact ⟨_,rfl⟩
theorem rV(hc:X.calm=true):dg X (.builtin "min") (fun xs H Q=>∃i j,xs=[.int i,.int j]∧Q (.int (if j<i then j else i)) H):=by
 intro pins s σ H xs us Q I r h
 obtain ⟨i,j,rfl,q⟩:=h
 obtain ⟨u,w',rfl,⟨t,rfl⟩,⟨t',rfl⟩⟩:=vals2 r
 refine min_two_ints (I.ok.hd hc) fun h' tk k=>⟨_,H,I.kept k,?_,q⟩
 by_cases hj:j<i
 ·rw [if_pos hj,if_pos hj];exact ⟨_,rfl⟩
 ·rw [if_neg hj,if_neg hj];exact ⟨_,rfl⟩
end
structure rW (h:Heap) (x dx C:Addr) (mA:Str→Option Value):Prop where
 obj:h.get? x=some (PySem.W.instObj C dx)
 ns:h.Ns1 dx mA
 ne:dx≠x
theorem BL{h:Heap}{dx:Addr}{mA:Str→Option Value}(n:h.Ns1 dx mA):∃od,h.get? dx=some od∧∀name,PySem.W.lookIn name od=some (mA name):=by
 obtain ⟨o,es,ep,ho,hd,hk,_,hm⟩:=n
 refine ⟨o,ho,fun name=>?_⟩
 have e:=hm name
 unfold nsFind findBy at e
 rw [←Array.find?_toList] at e
 unfold PySem.W.lookIn
 rw [hd]
 dsimp only
 split
 ·rename_i y q
  rw [q] at e
  exact congrArg some e
 ·rename_i q
  rw [q] at e
  have a:es.toList.any (·.refKey)=false:=by
   rw [List.any_eq_false]
   intro y hy
   obtain ⟨z,t,BM⟩:=hk y (Array.mem_toList_iff.mp hy)
   simp [DictEntry.refKey,BM]
  have a':¬es.toList.any (·.refKey)=true:=by rw [a];exact Bool.false_ne_true
  rw [if_neg a']
  exact congrArg some e
theorem rW.look{h:Heap}{x dx C:Addr}{mA:Str→Option Value}(I:rW h x dx C mA):∃od,PySem.W.InstAt h x (PySem.W.instObj C dx) C (some od)∧∀name,PySem.W.lookIn name od=some (mA name):=
 let ⟨od,ho,hl⟩:=BL I.ns
 ⟨od,⟨I.obj,rfl,rfl,ho⟩,hl⟩
section
variable {prog:Program} {w:World} {A:Around} {E:Value→Shared→Prop} {s:Shared} {K:PySem.W.Frag} {x dx C f:Addr} {mA:Str→Option Value} {name:Str} {v:Value}
end
section
variable {P:Program} {w:World} {H H':Hp} {h h':Heap} {a C dx:Addr} {fs rG:List (Str×V)}
theorem BN(ar:bj P w H h)(e:H a=some (.ins C dx fs)):∃mA,rW h a dx C mA∧(∀f,iG (fs.lookup f) (mA f))∧PySem.Within mA (fs.map (·.1))∧fs.length≤1000∧H dx=some (.own a):=by
 obtain ⟨d,z,ne,ob,mA,n,r,q⟩:=(show a_ P w H h a (.ins C dx fs) from ar a _ e)
 exact ⟨mA,⟨ob,n,ne⟩,r,q,z,d⟩
end
structure rX (K:PySem.W.Frag) (C:Addr):Prop where
 pg:PySem.W.plainGet K C Str.empty=true
 hd:PySem.W.hasDictIn K C=true
 po:PySem.W.plainOver K C=true
 sa:PySem.W.findIn K (.ref C) "__setattr__" = some (some (.builtin "object.__setattr__"))
theorem rX.get{K:PySem.W.Frag}{C:Addr}(c:rX K C)(f:Str):PySem.W.plainGet K C f=true:=c.pg
section
variable {X:Cx} {pins:List (Addr×Obj)} {σ:St} {H:Hp} {s:Shared} {a C dx:Addr} {fs:List (Str×V)} {f:Str} {v:V} {A:Around} {E:Value→Shared→Prop}
end
section
variable {X:Cx} {o e value:Expr} {f:Str} {pos pos' oK:Pos} {ta tv:TE}
end
section
variable {X:Cx} {pins:List (Addr×Obj)} {σ:St} {H:Hp} {s:Shared} {A:Around} {E:Value→Shared→Prop} {Q:Value→Shared→Prop} {c:Value} {b:Bool}
inductive ee (K:PySem.W.Frag) (H:Hp):V→Value→Prop where
 | aF:ee K H .aF (.type "NoneType")
 | bl (x:Bool):ee K H (.bl x) (.type "bool")
 | int (i:Int):ee K H (.int i) (.type "int")
 | str (x:Str):ee K H (.str x) (.type "str")
 | jQ (x:UInt64):ee K H (.jQ x) (.type "float")
 | lst {a:Addr} {xs:List V} (e:H a=some (.lst xs)):ee K H (.ref a) (.type "list")
 | bg {a:Addr} {o:Obj} {xs:List V} (e:H a=some (.bg o (.lst xs))):ee K H (.ref a) (.type "list")
 | tup {a:Addr} {xs:List V} (e:H a=some (.tup xs)):ee K H (.ref a) (.type "tuple")
 | dK {a:Addr} {ae:List (Key×V)} (e:H a=some (.dK ae)):ee K H (.ref a) (.type "dict")
 | dT {a:Addr} {ae:List (List Key×V)} (e:H a=some (.dT ae)):ee K H (.ref a) (.type "dict")
 | ins {a C dx:Addr} {fs:List (Str×V)} (e:H a=some (.ins C dx fs)) (cl:rX K C) (ha:PySem.W.findIn K (.ref C) "__class__" = some (some (.builtin "object.__class__")))
   (hn:PySem.W.specialIn K (.builtin "object.__class__") "__get__" = some (some (.builtin "getset_descriptor.__get__"))) (wH:PySem.W.takesIn K (.builtin "object.__class__")=some true)
   (hm:PySem.W.mroIn K C (.type "object")=some true):ee K H (.ref a) (.ref C)
theorem BO{x:V}{u t:Value}(I:Inv X pins σ H s)(rx:RelV x u)(ty:ee X.K H x t)(e:PySem.W.kitOne X.K t c=some b)(h:∀tk,Q (.bool b) {s with toks:=tk}) :
  wpAny (model X.prog X.w) A (call (.builtin "isinstance") [u,c]) Q E s:=by
 cases ty with
 | aF=>cases (show u=Value.none from rx);exact PySem.W.kia_one PySem.W.kitx_none I.cI True.intro e (fun z=>nomatch z) h
 | bl y=>cases (show u=Value.bool y from rx);exact PySem.W.kia_one PySem.W.kitx_bool I.cI True.intro e (fun z=>nomatch z) h
 | int i=>obtain ⟨t,q⟩:=(show ∃t,u=Value.int i t from rx);cases q;exact PySem.W.kia_one PySem.W.kitx_int I.cI True.intro e (fun z=>nomatch z) h
 | str y=>obtain ⟨t,q⟩:=(show ∃t,u=Value.str y t from rx);cases q;exact PySem.W.kia_one PySem.W.kitx_str I.cI True.intro e (fun z=>nomatch z) h
 | jQ y=>obtain ⟨t,q⟩:=(show ∃t,u=Value.float y t from rx);cases q;exact PySem.W.kia_one PySem.W.kitx_float I.cI True.intro e (fun z=>nomatch z) h
 | @lst a xs ea=>
  cases (show u=Value.ref a from rx)
  obtain ⟨_,_,n,_,h1⟩:=(show a_ X.prog X.w H s.heap a (.lst xs) from I.ar a _ ea)
  exact PySem.W.kia_one PySem.W.kitx_list I.cI ⟨_,h1,rfl⟩ e (fun z=>nomatch z) h
 | @bg a ob xs ea=>
  cases (show u=Value.ref a from rx)
  obtain ⟨_,_,_,n,_,h1⟩:=(show a_ X.prog X.w H s.heap a (.bg ob (.lst xs)) from I.ar a _ ea)
  exact PySem.W.kia_one PySem.W.kitx_list I.cI ⟨_,h1,rfl⟩ e (fun z=>nomatch z) h
 | @tup a xs ea=>
  cases (show u=Value.ref a from rx)
  obtain ⟨_,_,_,p⟩:=(show a_ X.prog X.w H s.heap a (.tup xs) from I.ar a _ ea)
  obtain ⟨o,h1,h2,_⟩:=p
  exact PySem.W.kia_one PySem.W.kitx_tuple I.cI ⟨o,h1,h2⟩ e (fun z=>nomatch z) h
 | @dK a ae ea=>
  cases (show u=Value.ref a from rx)
  obtain ⟨_,_,vs,_,p⟩:=(show a_ X.prog X.w H s.heap a (.dK ae) from I.ar a _ ea)
  obtain ⟨o,es,ep,h1,h2,_⟩:=p
  exact PySem.W.kia_one PySem.W.kitx_dict I.cI ⟨o,h1,h2.1⟩ e (fun z=>nomatch z) h
 | @dT a ae ea=>
  cases (show u=Value.ref a from rx)
  obtain ⟨_,_,xs,_,o,es,ep,h1,h2,_⟩:=(show a_ X.prog X.w H s.heap a (.dT ae) from I.ar a _ ea)
  exact PySem.W.kia_one PySem.W.kitx_dict I.cI ⟨o,h1,h2.1⟩ e (fun z=>nomatch z) h
 | @ins a C dx fs ea cl ha hn wH hm=>
  cases (show u=Value.ref a from rx)
  obtain ⟨mA,O,_⟩:=BN I.ar ea
  obtain ⟨od,J,_⟩:=O.look
  exact PySem.W.kia_one (PySem.W.kitx_own (cl.get _) cl.hd ha hn wH hm) I.cI J e (fun z=>nomatch z) h
end
structure cC (k:Nat) (A:Around):Prop where
 hd:A.handled=none
 dp:A.depth+3*k+5<recursionLimit
 un:A.units+16*k+200<cLine
theorem cC.mono{j k:Nat}{A:Around}(r:cC k A)(h:j≤k):cC j A:=⟨r.hd,by have:=r.dp;omega,by have:=r.un;omega⟩
theorem cC.deeper{k:Nat}{A:Around}(r:cC (k+1) A)(env:Env):cC k (A.deeper env):=
 ⟨r.hd,by have:=r.dp;show A.depth+1+3*k+5<_;omega,by have:=r.un;show A.units+3+16*k+200<_;omega⟩
theorem cC.depth{k:Nat}{A:Around}(r:cC k A):A.depth<recursionLimit:=by have:=r.dp;omega
theorem cC.units{k:Nat}{A:Around}(r:cC k A):A.units+64<cLine:=by have:=r.un;omega
theorem cC.wI{k:Nat}{A:Around}(r:cC k A):A.units<cLine:=by have:=r.un;omega
def oM:TA:=fun _ H Q=>Q [] H
def rY(ta:TE)(tr:TA):TA:=fun σ H Q=>ta σ H fun x H1=>tr σ H1 fun xs H2=>Q (x::xs) H2
section
variable {X:Cx} {e:Expr} {es:List Expr} {te:TE} {t:TA} {pos:Pos}
theorem ao:PA X [] oM:=fun _ _ _ _ H Q I h=>Calls.spliced_nil ⟨[],H,I,.nil,h⟩
theorem BP(ha:PE X e te)(hr:PA X es t)(hs:starEach (e::es) X.env=(false,eval e X.env)::starEach es X.env:=by rfl):PA X (e::es) (rY te t):=by
 intro pos pins s σ H Q I h
 rw [hs]
 show wpAny _ _ (spliced ((false,eval e X.env)::backTo pos (starEach es X.env))) _ _ s
 refine Calls.spliced_cons (ay (ha pins s σ H _ I h) fun u s1 ⟨x,H1,I1,r1,q1⟩=>?_)
 exact ay (hr pos pins s1 σ H1 _ I1 q1) fun us s2 ⟨xs,H2,I2,r2,q2⟩=>⟨x::xs,H2,I2,.cons r1 r2,q2⟩
def BQ(t:TA):TE:=fun σ H Q=>t σ H fun xs H1=>xs.length≤sizeLine∧∀p,H1 p=none→Q (.ref p) (upd H1 p (.tup xs))
def BR(t:TA):TE:=fun σ H Q=>t σ H fun xs H1=>xs.length≤sizeLine∧∀p,H1 p=none→Q (.ref p) (upd H1 p (.lst xs))
theorem eO{x1}(h:PA X es t):PE X (.Tuple es x1 pos) (BQ t):=by
 intro pins s σ H Q I hq
 refine wpAny_Tuple_spliced (ay (h pos pins s σ H _ I hq) fun us s1 ⟨xs,H1,I1,r,z,q⟩=>⟨by rw [←r.length];exact z,?_⟩)
 have hf:H1 s1.heap.objs.size=none:=I1.ar.fresh (Nat.le_refl _)
 refine ⟨.ref s1.heap.objs.size,upd H1 s1.heap.objs.size (.tup xs),I1.laid (t':=s1.toks) (fun b u e=>Heap.get?_push_of_some _ e) (Nat.le_refl _) ?_,rfl,q _ hf⟩
 exact ⟨z,us,r,⟨_,Heap.get?_push_size _ rfl,rfl,_,rfl⟩⟩
theorem cX(h:PA X es t):PE X (.List es pos) (BR t):=by
 intro pins s σ H Q I hq
 refine wpAny_List_spliced (ay (h pos pins s σ H _ I hq) fun us s1 ⟨xs,H1,I1,r,z,q⟩=>⟨by rw [←r.length];exact z,?_⟩)
 have hf:H1 s1.heap.objs.size=none:=I1.ar.fresh (Nat.le_refl _)
 refine ⟨.ref s1.heap.objs.size,upd H1 s1.heap.objs.size (.lst xs),I1.laid (t':=s1.toks) (fun b u e=>Heap.get?_push_of_some _ e) (Nat.le_refl _) ?_,rfl,q _ hf⟩
 exact ⟨z,us,0,r,Heap.get?_push_size _ rfl⟩
end
abbrev Sp:=List V→Hp→VK→XK→Prop
abbrev dw:=List Env→Hp→Shared→XK→Value→Shared→Prop
structure oO (P:Program) (w:World) (K:PySem.W.Frag) (mg:Str→Option Value) (base:Heap) (A:Around) (outer:List Env) (s:Shared) (H:Hp):Prop where
 frames:A.frames=some outer
 mod:Mod K mg base
 bs:∀b o,base.get? b=some o→s.heap.get? b=some o∧H b=none
 fK:base.objs.size≤s.heap.objs.size
 fh:s.heap.FunFrames base outer
 gY:∀b∈bG outer,H b=none
 ar:bj P w H s.heap
 bare:AllBare s.gens
def CE(outer:List Env)(P:Program)(w:World)(H:Hp)(s:Shared)(Q:VK)(u:Value)(s':Shared):Prop:=
 ∃v H',s'.os=s.os∧AllBare s'.gens∧Un (bG outer) [] H H' s.heap s'.heap∧bj P w H' s'.heap∧RelV v u∧Q v H'
def CR(CX:dw)(outer:List Env)(P:Program)(w:World)(H:Hp)(s:Shared)(Q:VK)(E:XK)(r:Result)(s':Shared):Prop:=
 match r with
 | .ok (.ret u)=>CE outer P w H s Q u s'
 | .ok _=>False
 | .error e=>CX outer H s E e s'
structure bw (P:Program) (w:World) (K:PySem.W.Frag) (mg:Str→Option Value) (base:Heap) (CX:dw) (k:Nat) (f:Addr) (fd:FuncData) (ps:List Str) (sp:Sp):Prop where
 len:∀vs H Q E,sp vs H Q E→vs.length=ps.length
 run:∀(A:Around) (outer:List Env) (s:Shared) (H:Hp) (args:Args) (us:List Value) (vs:List V) (Q:VK) (E:XK),cC k A→oO P w K mg base A outer s H→BindsTo s fd args (ps.zip us)→Vals vs us→sp vs H Q E→
  codeAny (model P w) A (.call (.ref f) args) (CR CX outer P w H s Q E) s
section
variable {X:Cx} {pins:List (Addr×Obj)} {σ:St} {H:Hp} {s s':Shared}
theorem Inv.BS(I:Inv X pins σ H s):oO X.prog X.w X.K X.mg X.base X.A X.stack s H:=
 ⟨I.ok.frames,I.ok.mod,I.bs,Nat.le_trans I.ok.fK I.sz,I.stack,I.ou,I.ar,I.bare⟩
theorem Inv.after{Q:VK}{u:Value}(I:Inv X pins σ H s)(h:CE X.stack X.prog X.w H s Q u s'):EP X pins σ Q u s':=by
 obtain ⟨v,H',os,bare,un,ar,r,q⟩:=h
 obtain ⟨hh,g,d,t,BU⟩:=s'
 obtain rfl:BU=s.os:=os
 exact ⟨v,H',I.call (h':=hh) (g':=g) (d':=d) (t':=t) (ch:=[]) un ar bare (fun b z=>absurd z (by simp)),r,q⟩
end
def BV(sp:Sp)(fN:List V)(E:XK)(t:TA):TE:=fun σ H Q=>t σ H fun vs H1=>sp (vs++fN) H1 Q E
def Binds(K:PySem.W.Frag)(fd:FuncData)(ps:List Str)(ds:List Value):Prop:=
 ∀(s:Shared) (us:List Value),K.In s.heap→(us++ds).length=ps.length→BindsTo s fd ⟨us,[]⟩ (ps.zip (us++ds))
theorem Binds.all{K:PySem.W.Frag}{fd:FuncData}{ps:List Str}(h:∀us:List Value,us.length=ps.length→bindArgs fd ⟨us,[]⟩=pure (ps.zip us)):Binds K fd ps []:=fun s us _ hl=>by
 rw [List.append_nil] at hl ⊢
 exact .of_eq (h us hl)
def Passes(CX:dw)(X:Cx)(E:XK):Prop:=∀(pins:List (Addr×Obj)) (σ:St) (H:Hp) (s:Shared) (e:Value) (s':Shared),Inv X pins σ H s→CX X.stack H s E e s'→X.xe e s'
section
variable {X:Cx} {CX:dw} {k:Nat} {f C:Addr} {fd:FuncData} {ps:List Str} {sp:Sp} {fN:List V} {ds:List Value} {E:XK} {x m:Str} {p pos apos:Pos} {e o:Expr} {es:List Expr} {ta:TE} {t:TA}
theorem BW{pins:List (Addr×Obj)}{σ:St}{H:Hp}{s:Shared}{Q:VK}{us:List Value}{vs:List V}(F:bw X.prog X.w X.K X.mg X.base CX k f fd ps sp)(hr:cC k X.A)(hb:Binds X.K fd ps ds)(hd:Vals fN ds)(hx:Passes CX X E)
  (I:Inv X pins σ H s) (r:Vals vs us) (h:sp (vs++fN) H Q E):wpAny (model X.prog X.w) X.A (call (.ref f) us) (EP X pins σ Q) X.xe s:=by
 have r2:Vals (vs++fN) (us++ds):=r.append hd
 have hl:(us++ds).length=ps.length:=by rw [←r2.length];exact F.len _ _ _ _ h
 refine wpAny_call (codeAny_mono (F.run X.A X.stack s H ⟨us,[]⟩ (us++ds) (vs++fN) Q E hr I.BS (hb s us I.cI hl) r2 h) fun r s' hq=>?_)
 cases r with
 | error e=>exact hx pins σ H s e s' I hq
 | ok fl=>
  cases fl with
  | ret u=>exact I.after hq
  | next=>exact False.elim hq
  | brk=>exact False.elim hq
  | cont=>exact False.elim hq
theorem aW(F:bw X.prog X.w X.K X.mg X.base CX k f fd ps sp)(hr:cC k X.A)(hg:Gl X x)(hm:X.mg x=some (.ref f))(hk:PySem.W.keepIn X.K (.ref f)=true)(hb:Binds X.K fd ps ds)(hd:Vals fN ds)(hx:Passes CX X E)
  (ha:PA X (e::es) t) (mK:(x == ("__debug__":Str))=false:=by decide) (he:starEach (e::es) X.env=(false,eval e X.env)::starEach es X.env:=by rfl) (j8:(backTo pos (starEach es X.env)).any (·.1)=false:=by rfl) :
  PE X (.Call (.Name x p) (e::es) [] pos) (BV sp fN E t):=by
 intro pins s σ H Q I h
 refine wpAny_Call_Name_kw (v_ I hg hm ?_ mK)
 refine PySem.W.callWith_K (h₀:=X.base) I.ok.mod.bK hk (ay (ha pos pins s σ H _ I h) fun us s1 ⟨vs,H1,I1,r,q⟩=>⟨I1.cI,?_⟩) he j8
 exact BW F hr hb hd hx I1 r q
end
section
variable {X:Cx} {CX:dw} {k:Nat} {f C:Addr} {fd:FuncData} {ps ks:List Str} {sp:Sp} {E:XK} {x m:Str} {p pos apos wJ:Pos} {e o:Expr} {es:List Expr} {BX:List Keyword} {te ta:TE} {t tk:TA} {nm:Option Str}
variable {g:List Value→List Value→List Value} {gV:List V→List V→List V}
end
structure bQ (N P:List Str) (sc:Scope):Prop where
 kind:sc.kind=.function
 co:sc.isCoroutine=false
 gen:sc.isGenerator=false
 nd:N.Nodup
 pre:N.take P.length=P
 par:∀x∈P,sc.names.lookup x=some .local∨sc.names.lookup x=some .cell
 BY:∀y∈sc.names,y.2≠.free
theorem wK{kindOf:Str→Option NameKind}{x:Str}:∀{binds:List (Str×Value)} {m:Str→Option Value},(∀v,(x,v)∉binds)→bindL kindOf binds m x=m x
 | [],_,_=>rfl
 | (n,v)::r,m,h=>by
  unfold bindL
  rw [wK fun w hw=>h w (List.mem_cons_of_mem _ hw)]
  split
  ·have:x≠n:=by rintro rfl;exact h v List.mem_cons_self
   simp [this]
  ·rfl
theorem wL{kindOf:Str→Option NameKind}{x:Str}:∀{binds:List (Str×Value)} {m:Str→Option Value},(∀v,(x,v)∉binds)→bindC kindOf binds m x=m x
 | [],_,_=>rfl
 | (n,v)::r,m,h=>by
  unfold bindC
  rw [wL fun w hw=>h w (List.mem_cons_of_mem _ hw)]
  split
  ·rfl
  ·have:x≠n:=by rintro rfl;exact h v List.mem_cons_self
   simp [this]
theorem wM{kindOf:Str→Option NameKind}{x:Str}{v:Value}:∀{P:List Str} {vs:List Value} {i:Nat} {m:Str→Option Value},P.Nodup→P[i]?=some x→vs[i]?=some v→kindOf x=some .local→
  bindL kindOf (P.zip vs) m x=some v
 | [],_,_,_,_,h,_,_=>by simp at h
 | _::_,[],_,_,_,_,h,_=>by simp at h
 | p::P,w::vs,0,m,nd,h1,h2,hk=>by
  simp at h1 h2;subst h1;subst h2
  show bindL kindOf ((p,w)::P.zip vs) m p=_
  unfold bindL
  rw [wK fun v hv=>(List.nodup_cons.mp nd).1 (List.of_mem_zip hv).1,if_pos hk]
  simp
 | p::P,w::vs,i+1,m,nd,h1,h2,hk=>by
  show bindL kindOf ((p,w)::P.zip vs) m x=_
  unfold bindL
  exact wM (i:=i) (List.nodup_cons.mp nd).2 (by simpa using h1) (by simpa using h2) hk
theorem wN{kindOf:Str→Option NameKind}{x:Str}{v:Value}:∀{P:List Str} {vs:List Value} {i:Nat} {m:Str→Option Value},P.Nodup→P[i]?=some x→vs[i]?=some v→kindOf x≠some .local→
  bindC kindOf (P.zip vs) m x=some v
 | [],_,_,_,_,h,_,_=>by simp at h
 | _::_,[],_,_,_,_,h,_=>by simp at h
 | p::P,w::vs,0,m,nd,h1,h2,hk=>by
  simp at h1 h2;subst h1;subst h2
  show bindC kindOf ((p,w)::P.zip vs) m p=_
  unfold bindC
  rw [wL fun v hv=>(List.nodup_cons.mp nd).1 (List.of_mem_zip hv).1,if_neg hk]
  simp
 | p::P,w::vs,i+1,m,nd,h1,h2,hk=>by
  show bindC kindOf ((p,w)::P.zip vs) m x=_
  unfold bindC
  exact wN (i:=i) (List.nodup_cons.mp nd).2 (by simpa using h1) (by simpa using h2) hk
def start(N:List Str)(vs:List V):St:=vs.map some++List.replicate (N.length-vs.length) none
def hG(CX:dw)(P:Program)(w:World)(K:PySem.W.Frag)(mg:Str→Option Value)(base:Heap)(N:List Str)(qual:Str)(scope:Scope)(f:Addr)(cd:Value)(A:Around)(outer:List Env)(s:Shared)(H:Hp)(E:XK):Cx where
 prog:=P
 w:=w
 K:=K
 mg:=mg
 base:=base
 A:=A.deeper (envOfC qual scope s.heap.objs.size f cd)
 N:=N
 s₀:=s
 H₀:=H
 env:=envOfC qual scope s.heap.objs.size f cd
 outer:=outer
 stack:=envOfC qual scope s.heap.objs.size f cd::outer
 ex:=[]
 calm:=true
 fn:=fun _=>true
 pn:=[]
 xe:=fun e s'=>wpAny (model P w) (A.deeper (envOfC qual scope s.heap.objs.size f cd)) (leaving (envOfC qual scope s.heap.objs.size f cd) e) (fun _ fO=>CX outer H s E e fO) (fun e' fO=>CX outer H s E e' fO) s'
theorem wO{sc:Scope}{n:Nat}{x:Str}(h:sc.names.lookup x=some .cell):∃c,(cellsFrom n sc.names []).lookup x=some c:=by
 have q:=PySem.W.cellsFrom_some sc.names n [] (.inl h)
 exact Option.isSome_iff_exists.mp q
theorem BZ{CX:dw}{P:Program}{w:World}{K:PySem.W.Frag}{mg:Str→Option Value}{base:Heap}{N ps:List Str}{qual:Str}{scope:Scope}{f:Addr}{cd:Value}{A:Around}{outer:List Env}{s s1:Shared}{H:Hp}{E:XK}{us:List Value}{vs:List V}
  (S:bQ N ps scope) (hd:A.handled=none) (e0:oO P w K mg base A outer s H) (hl:vs.length=ps.length) (r:Vals vs us)
  (x:InCallC s s.heap.objs.size (bindL (envOfC qual scope s.heap.objs.size f cd).kindOf (ps.zip us) fun _=>none) (cellsFrom (s.heap.objs.size+1) scope.names []) (bindC (envOfC qual scope s.heap.objs.size f cd).kindOf (ps.zip us) fun _=>none) s1) :
  Inv (hG CX P w K mg base N qual scope f cd A outer s H E) [] (start N vs) H s1:=by
 have j8:ps.length≤N.length:=by have:=congrArg List.length S.pre;rw [List.length_take] at this;omega
 obtain ⟨h1,tk,rfl,hk⟩:=x.done
 have mL:∀b:Addr,b∉(hG CX P w K mg base N qual scope f cd A outer s H E).ex:=fun b z=>absurd (show b∈([]:List Addr) from z) (by simp)
 refine ⟨⟨e0.mod,S.kind,rfl,rfl,Nat.le_refl _,fun y z c h1 h2=>?_,fun y hy=>?_,fun y c _ h=>?_,fun _=>hd,Around.frames_deeper e0.frames,.inr ⟨rfl,rfl⟩,fun b z=>absurd z (mL b),e0.bs,e0.fK,fun b _ _=>mL b,fun b z=>absurd z (mL b),e0.fh,e0.gY⟩,
  rfl,e0.bare,Un.kept hk,⟨_,x.toInCall.ns,fun i y v h1 h2 h3=>?_⟩,fun y c h=>⟨_,x.cell y c h⟩,e0.ar.fresh (Nat.le_refl _),fun y c h=>?_,fun p hp=>absurd (show p∈([]:List (Addr×Obj)) from hp) (by simp),e0.ar.kept hk,?_⟩
 ·exact name_of_addr x.apart (PySem.mem_of_lookup h1) (PySem.mem_of_lookup h2)
 ·have hy:scope.names.lookup y=some .cell∨scope.names.lookup y=some .free:=hy
  rcases hy with hy | hy
  ·exact wO hy
  ·exact absurd rfl (S.BY _ (PySem.mem_of_lookup hy))
 ·exact Nat.le_of_lt (x.above y c (PySem.mem_of_lookup h))
 ·have hi:i<vs.length:=by
   unfold start at h2
   by_cases hi:i<vs.length
   ·exact hi
   ·rw [List.getElem?_append_right (by simpa using hi)] at h2
    rw [List.getElem?_replicate] at h2
    split at h2 <;> cases h2
  have ha:vs[i]?=some v:=by
   unfold start at h2
   rw [List.getElem?_append_left (by simpa using hi),List.getElem?_map] at h2
   cases e:vs[i]? with
   | none=>rw [e] at h2;cases h2
   | some a=>rw [e] at h2;cases h2;rfl
  obtain ⟨u,hu,rv⟩:=r.get ha
  have hp:ps[i]?=some y:=by
   rw [←S.pre,List.getElem?_take_of_lt (by omega)];exact h1
  have eg:ps.Nodup:=by rw [←S.pre];exact S.nd.sublist (List.take_sublist _ _)
  refine ⟨u,rv,?_⟩
  rcases S.par y (List.mem_of_getElem? hp) with k | k
  ·exact .inl ⟨k,wM eg hp hu k⟩
  ·obtain ⟨c,e⟩:=wO (n:=s.heap.objs.size+1) k
   refine .inr ⟨.inl k,c,e,?_⟩
   have q:=x.cell y c e
   rw [wN eg hp hu (by show scope.names.lookup y≠_;rw [k];decide)] at q
   exact q
 ·exact e0.ar.fresh (Nat.le_of_lt (x.above y c (PySem.mem_of_lookup h)))
 ·unfold start
  show _=N.length
  rw [List.length_append,List.length_map,List.length_replicate]
  omega
theorem wQ{CX:dw}{P:Program}{w:World}{K:PySem.W.Frag}{mg:Str→Option Value}{base:Heap}{k:Nat}{f:Addr}{name qual:Str}{params:Arguments}{body:List Stmt}{scope:Scope}{dV kV doc pm aH ct oc:Value}{an od:Option Addr}
  {fP:Array (Option Value)} {N ps:List Str} {sp:Sp} (lk:K.lookup f=some ⟨oc,od,.func (PySem.W.fnOf name qual params body scope dV kV doc pm an aH ct),fP⟩) (df:PySem.W.codeIn K aH qual=true) (S:bQ N ps scope)
  (len:∀vs H Q E,sp vs H Q E→vs.length=ps.length)
  (mM:∀(A:Around) (outer:List Env) (s:Shared) (H:Hp) (vs:List V) (Q:VK) (E:XK),cC k (A.deeper (envOfC qual scope s.heap.objs.size f aH))→sp vs H Q E→
   ∃t,de (hG CX P w K mg base N qual scope f aH A outer s H E) body t∧t {nx:=fun _ H'=>Q .aF H',rt:=Q} (start N vs) H) :
  bw P w K mg base CX (k+1) f (PySem.W.fnOf name qual params body scope dV kV doc pm an aH ct) ps sp:=by
 refine ⟨len,fun A outer s H args us vs Q E hr e0 hb r fQ=>?_⟩
 have hl:=len _ _ _ _ fQ
 have KX:K.In s.heap:=e0.mod.bK.keeps fun b o e=>(e0.bs b o e).1
 have lim:s.heap.NoLimit:=e0.mod.nolimit.keeps fun b o e=>(e0.bs b o e).1
 have B0:∀y∈ps.zip us,scope.names.lookup y.1=some .local∨(scope.names.lookup y.1=some .cell∧((cellsFrom (s.heap.objs.size+1) scope.names []).lookup y.1).isSome=true):=fun⟨n,v⟩ hy=>by
  rcases S.par n (List.of_mem_zip hy).1 with q | q
  ·exact .inl q
  ·exact .inr ⟨q,PySem.W.cellsFrom_some _ _ _ (.inl q)⟩
 refine codeAny_call_function hr.depth (KX _ _ lk) rfl S.co S.gen rfl (PySem.W.codeRec_of KX df) (hb _ _ _ _ ?_)
 refine wpAny_newFunctionEnv_cells S.kind B0 fun env he s1 x=>?_
 subst he
 refine ⟨lim.keeps x.toInCall.keep,codeAny_func ?_⟩
 obtain ⟨t,ht,hq⟩:=mM A outer s H vs Q E (hr.deeper _) fQ
 have I:Inv (hG CX P w K mg base N qual scope f aH A outer s H E) [] (start N vs) H s1:=BZ S hr.hd e0 hl r x
 refine wpAny_mono (ht [] s1 (start N vs) H _ I hq) (fun fl s' hs=>?_) fun e s' hs=>hs
 have fin:∀{σ':St} {H':Hp} {v:V} {u:Value},Inv (hG CX P w K mg base N qual scope f aH A outer s H E) [] σ' H' s'→RelV v u→Q v H'→CE outer P w H s Q u s':=
  fun{σ' H' v u} J rv q=>⟨v,H',J.os,J.bare,J.base,J.ar,rv,q⟩
 cases fl with
 | ret u=>
  obtain ⟨v,σ',H',J,rv,q⟩:=hs
  exact fin J rv q
 | next=>
  obtain ⟨σ',H',J,q⟩:=hs
  exact fin (v:=V.aF) (u:=Value.none) J rfl q
 | brk=>
  obtain ⟨_,_,_,q⟩:=hs
  exact False.elim q
 | cont=>
  obtain ⟨_,_,_,q⟩:=hs
  exact False.elim q
section
variable {X:Cx} {x:Str} {p pos:Pos} {e:Expr} {es:List Expr} {t:TA} {id T:String} {r:List V→Hp→VK→Prop}
def rZ(r:List V→Hp→VK→Prop)(t:TA):TE:=fun σ H Q=>t σ H fun vs H1=>r vs H1 Q
theorem bV(hc:dg X (.builtin id) r)(hg:Gl X x)(hm:X.mg x=none)(hv:bootBuiltins x=some (.builtin id))(ha:PA X (e::es) t)(hn:x ≠ "__name__":=by decide)(mK:(x == ("__debug__":Str))=false:=by decide)
  (he:starEach (e::es) X.env=(false,eval e X.env)::starEach es X.env:=by rfl) (j8:(backTo pos (starEach es X.env)).any (·.1)=false:=by rfl):PE X (.Call (.Name x p) (e::es) [] pos) (rZ r t):=by
 intro pins s σ H Q I h
 refine wpAny_Call_Name_kw (jU I hg hm hv ?_ hn mK)
 exact PyProof.Rows.callWith_builtin1 (ay (ha pos pins s σ H _ I h) fun us s1 ⟨vs,H1,I1,r1,q1⟩=>hc pins s1 σ H1 vs us Q I1 r1 q1) he j8
theorem eh(hc:dg X (.type T) r)(hg:Gl X x)(hm:X.mg x=none)(hv:bootBuiltins x=some (.type T))(ha:PA X (e::es) t)(hn:x ≠ "__name__":=by decide)(mK:(x == ("__debug__":Str))=false:=by decide)
  (he:starEach (e::es) X.env=(false,eval e X.env)::starEach es X.env:=by rfl) (j8:(backTo pos (starEach es X.env)).any (·.1)=false:=by rfl):PE X (.Call (.Name x p) (e::es) [] pos) (rZ r t):=by
 intro pins s σ H Q I h
 refine wpAny_Call_Name_kw (jU I hg hm hv ?_ hn mK)
 exact PyProof.Rows.callWith_type1 (ay (ha pos pins s σ H _ I h) fun us s1 ⟨vs,H1,I1,r1,q1⟩=>hc pins s1 σ H1 vs us Q I1 r1 q1) he j8
end
end L2
namespace HT
open PySem PyProof.Rows
section
open PySem.SeqAt
open PySem.AutoSeq1 (wpAny_loadPart')
open PySem.MeetsSeq PySem.MeetsSeq2 PySem.MeetsSeq3
end
section
variable {prog:Program} {w:World} {A:Around} {E:Value→Shared→Prop} {s:Shared}
def cK(n d:Nat):Option Int→Nat
 | none=>d
 | some v=>if v<0 then (v+(n:Int)).toNat else min v.toNat n
theorem B1(n d:Nat):cK n d none=d:=rfl
theorem B2(n d k:Nat):cK n d (some (k:Int))=min k n:=by
 show (if (k:Int)<0 then ((k:Int)+(n:Int)).toNat else min (k:Int).toNat n)=min k n
 rw [if_neg (by omega),Int.toNat_natCast]
end
end HT
namespace L2
open PySem PySem.Spec PyProof.Rows
abbrev TO:=St→Hp→(Option Int→Hp→Prop)→Prop
def PO(X:Cx)(e:Option Expr)(t:TO):Prop:=
 ∀(pins:List (Addr×Obj)) (s:Shared) (σ:St) (H:Hp) (Q:Option Int→Hp→Prop),Inv X pins σ H s→t σ H Q→
  wpAny (model X.prog X.w) X.A (evalPart e X.env) (fun u s'=>∃o H',Inv X pins σ H' s'∧IsPart u o∧Q o H') X.xe s
def B3:TO:=fun _ H Q=>Q none H
def B4(t:TE):TO:=fun σ H Q=>t σ H fun x H1=>∃i,x=.int i∧Q (some i) H1
theorem intsAre_of{ns:List Int}:∀{us:List Value},Vals (ns.map V.int) us→IntsAre us ns:=by
 induction ns with
 | nil=>intro us r;rw [List.map_nil] at r;cases r;exact .nil
 | cons n ns ih=>
  intro us r
  rw [List.map_cons] at r
  cases r with
  | cons r1 r2=>
   obtain ⟨t,e⟩:=r1
   subst e
   exact .cons n t (ih r2)
section
variable {X:Cx} {e:Expr} {te:TE} {lo hi:Option Expr} {tl th:TO} {pos p2:Pos}
theorem wR:PO X none B3:=by
 intro pins s σ H Q I h
 rw [evalPart_none]
 exact wpAny_pure ⟨none,H,I,.none,h⟩
theorem wU(h:PE X e te):PO X (some e) (B4 te):=by
 intro pins s σ H Q I hw
 rw [evalPart_some]
 refine ay (h pins s σ H _ I hw) fun u s1 ⟨x,H1,I1,r1,q1⟩=>?_
 obtain ⟨i,rfl,q⟩:=q1
 obtain ⟨t,rfl⟩:=r1
 exact ⟨some i,H1,I1,.int i t,q⟩
def wV(X:Cx)(r:V→Option Int→Option Int→Hp→VK→Prop):Prop:=
 ∀(pins:List (Addr×Obj)) (s:Shared) (σ:St) (H:Hp) (x:V) (v vl vu:Value) (lo hi:Option Int) (sl:Addr) (Q:VK),Inv X pins σ H s→RelV x v→s.heap.IsSliceOf sl vl vu .none→IsPart vl lo→IsPart vu hi→r x lo hi H Q→
  ∃T id,typeLookup (.type T) "__getitem__" = pure (some (.builtin id))∧s.TypeIs v T∧wpAny (model X.prog X.w) X.A (getItem v (.ref sl)) (EP X pins σ Q) X.xe s
def B5(r:V→Option Int→Option Int→Hp→VK→Prop)(te:TE)(tl th:TO):TE:=fun σ H Q=>te σ H fun x H1=>tl σ H1 fun l H2=>th σ H2 fun u H3=>r x l u H3 Q
theorem wW{r:V→Option Int→Option Int→Hp→VK→Prop}(hr:wV X r)(he:PE X e te)(hl:PO X lo tl)(hu:PO X hi th):PE X (.Subscript e (.Slice lo hi none p2) pos) (B5 r te tl th):=by
 intro pins s σ H Q I h
 refine Subscript_ (ay (he pins s σ H _ I h) fun v s1 ⟨x,H1,I1,r1,q1⟩=>?_)
 refine wpAny_Slice (ay (hl pins s1 σ H1 _ I1 q1) fun vl s2 ⟨l,H2,I2,pl,q2⟩=>ay (hu pins s2 σ H2 _ I2 q2) fun vu s3 ⟨u,H3,I3,pu,q3⟩=>?_)
 rw [evalPart_none]
 refine wpAny_pure ?_
 have I4:Inv X pins σ H3 {s3 with heap:=s3.heap.push {cls:=.type "slice",data:=.fields #[vl,vu,.none]}}:=I3.kept (t':=s3.toks) fun b ob q=>Heap.get?_push_of_some _ q
 obtain ⟨T,id,hT,ht,hg⟩:=hr pins {s3 with heap:=s3.heap.push {cls:=.type "slice",data:=.fields #[vl,vu,.none]}} σ H3 x v vl vu l u s3.heap.objs.size Q I4 r1 (Heap.IsSliceOf.new ..) pl pu q3
 show wpAny (model X.prog X.w) X.A (subscriptTail e (.Slice lo hi none p2) v (.ref s3.heap.objs.size)) (EP X pins σ Q) X.xe {s3 with heap:=s3.heap.push {cls:=.type "slice",data:=.fields #[vl,vu,.none]}}
 exact tail_any (ops:=[.ref s3.heap.objs.size,v]) ht hT hg (by with_unfolding_all rfl)
def eQ(xs:List V)(lo hi:Option Int):List V:=(xs.drop (HT.cK xs.length 0 lo)).take (HT.cK xs.length xs.length hi-HT.cK xs.length 0 lo)
theorem B6(xs:List V)(lo hi:Option Int):(eQ xs lo hi).length≤xs.length:=by
 unfold eQ
 rw [List.length_take,List.length_drop]
 omega
end
def gy(n:Nat)(i:Int):Option Nat:=if 0≤i then (if i<n then some i.toNat else none) else if -(n:Int)≤i then some (i+n).toNat else none
def eR{α:Type}(xs:List α)(i:Int):Option α:=(gy xs.length i).bind fun j=>xs[j]?
theorem wX{n:Nat}{i:Int}{j:Nat}(h:gy n i=some j):seqIndex? i n=some j∧j<n∧-(n:Int)≤i∧i<n:=by
 unfold gy at h
 by_cases h0:0≤i
 ·rw [if_pos h0] at h
  by_cases h1:i<n
  ·rw [if_pos h1] at h
   have e:i.toNat=j:=Option.some.inj h
   exact ⟨by rw [seqIndex_of h0 h1,e],by omega,by omega,h1⟩
  ·rw [if_neg h1] at h;cases h
 ·rw [if_neg h0] at h
  by_cases h1:-(n:Int)≤i
  ·rw [if_pos h1] at h
   have e:(i+n).toNat=j:=Option.some.inj h
   exact ⟨by rw [seqIndex_neg (by omega) h1,e],by omega,h1,by omega⟩
  ·rw [if_neg h1] at h;cases h
theorem wY{α:Type}{xs:List α}{i:Int}{v:α}(h:eR xs i=some v):∃j,seqIndex? i xs.length=some j∧xs[j]?=some v∧j<xs.length∧-(xs.length:Int)≤i∧i<xs.length:=by
 unfold eR at h
 cases e:gy xs.length i with
 | none=>rw [e] at h;cases h
 | some j=>
  rw [e] at h
  obtain ⟨h1,h2,h3,h4⟩:=wX e
  exact ⟨j,h1,h,h2,h3,h4⟩
theorem iR{α:Type}{xs:List α}{j:Nat}{v:α}(h:xs[j]?=some v):eR xs (j:Int)=some v:=by
 have hj:j<xs.length:=(List.getElem?_eq_some_iff.mp h).1
 have e:gy xs.length (j:Int)=some j:=by
  unfold gy
  rw [if_pos (by omega),if_pos (by omega)];simp
 unfold eR;rw [e];exact h
def B7(b:Expr):Prop:=∀o i,subscripted b false o i=operate [o,i] (getItem o i)
def oP(X:Cx)(r:R2):Prop:=
 ∀(value slice:Expr) (pins:List (Addr×Obj)) (s:Shared) (σ:St) (H:Hp) (x y:V) (v u:Value) (Q:VK),Inv X pins σ H s→RelV x v→RelV y u→r x y H Q→
  subscripted slice false v u=operate [v,u] (getItem v u)→wpAny (model X.prog X.w) X.A (subscriptTail value slice v u) (EP X pins σ Q) X.xe s
def wZ(X:Cx)(id:String)(r:V→List V→Hp→VK→Prop):Prop:=
 ∀(pins:List (Addr×Obj)) (s:Shared) (σ:St) (H:Hp) (x:V) (xs:List V) (v:Value) (us:List Value) (Q:VK),Inv X pins σ H s→RelV x v→Vals xs us→r x xs H Q→
  wpAny (model X.prog X.w) X.A (call (.builtin id) (v::us)) (EP X pins σ Q) X.xe s
section
variable {X:Cx} {a b:Expr} {ta tb:TE} {pos:Pos}
theorem a8{r:R2}(hr:oP X r)(ha:PE X a ta)(hb:PE X b tb)(hs:B7 b):PE X (.Subscript a b pos) (oF r ta tb):=by
 intro pins s σ H Q I h
 exact Subscript_ (rQ ha hb I h fun v u s2 x y H2 I2 rx ry q=>hr a b pins s2 σ H2 x y v u Q I2 rx ry q (hs _ _))
def w5(K:PySem.W.Frag):R2:=fun x y H Q=>∃p xs i v,x=.ref p∧y=.int i∧aX K H p xs∧eR xs i=some v∧Q v H
def B8(K:PySem.W.Frag):R2:=fun x y H Q=>∃p xs i v,x=.ref p∧y=.int i∧cV K H p xs∧eR xs i=some v∧Q v H
theorem bL:oP X (w5 X.K):=by
 intro value slice pins s σ H x y v u Q I rx ry h hs
 obtain ⟨p,xs,i,z,rfl,rfl,hq,he,q⟩:=h
 cases rx
 obtain ⟨t,rfl⟩:=ry
 obtain ⟨ai,r,pl,hz⟩:=I.list hq
 obtain ⟨j,h1,h2,h3,h4,h5⟩:=wY he
 obtain ⟨w,ew,mO⟩:=r.get h2
 have hl:=r.length
 have hn:=oJ
 have fin:EP X pins σ Q w s:=⟨z,H,I,mO,q⟩
 by_cases h0:0≤i
 ·have hj:i.toNat=j:=by
   rw [seqIndex_of h0 h5] at h1
   exact Option.some.inj h1
  exact item_listR pl.isList h0 (by omega) (by rw [hj];simpa using ew) fin hs
 ·have hj:(i+(ai.toArray.size:Int)).toNat=j:=by
   rw [seqIndex_neg (by omega) h4] at h1
   rw [List.size_toArray,←hl]
   exact Option.some.inj h1
  exact subscriptTail_builtinR (x:=w) pl.isList.typeIs slot_list_getitem.lookup
   (wpAny_getItem_list_neg (Q:=fun r s'=>r=w∧EP X pins σ Q r s') pl.isList (by omega) (by rw [List.size_toArray] <;> omega) (by omega) (by rw [hj];simpa using ew) ⟨rfl,fin⟩) hs
theorem eS:oP X (B8 X.K):=by
 intro value slice pins s σ H x y v u Q I rx ry h hs
 obtain ⟨p,xs,i,z,rfl,rfl,hq,he,q⟩:=h
 cases rx
 obtain ⟨t,rfl⟩:=ry
 obtain ⟨ai,r,pl,hz⟩:=I.tuple hq
 obtain ⟨j,h1,h2,h3,h4,h5⟩:=wY he
 obtain ⟨w,ew,mO⟩:=r.get h2
 have hl:=r.length
 have hn:=oJ
 have fin:EP X pins σ Q w s:=⟨z,H,I,mO,q⟩
 exact subscriptTail_builtinR (x:=w) pl.typeIs slot_tuple_getitem.lookup
  (getItem_tuple (j:=j) (Q:=fun r s'=>r=w∧EP X pins σ Q r s') pl (by omega) (by omega) (by rw [List.size_toArray,←hl];exact h1) (by simpa using ew) ⟨rfl,fin⟩) hs
theorem B9(ai:List Value)(n j:Nat)(u:Value):Obj.mapSeq (·.setIfInBounds j u) {cls:=.type "list",data:=.seq ai.toArray n}={cls:=.type "list",data:=.seq (ai.set j u).toArray n}:=by
 simp [Obj.mapSeq]
theorem Inv.lst{pins:List (Addr×Obj)}{σ:St}{H:Hp}{s:Shared}{p:Addr}{xs:List V}(I:Inv X pins σ H s)(h:H p=some (.lst xs)) :
  ∃(ai:List Value) (n:Nat),Vals xs ai∧s.heap.get? p=some {cls:=.type "list",data:=.seq ai.toArray n}∧xs.length≤sizeLine:=by
 obtain ⟨z,ai,n,r,e⟩:=I.ar p _ h
 exact ⟨ai,n,r,e,z⟩
theorem Inv.B_{pins:List (Addr×Obj)}{σ:St}{H:Hp}{s:Shared}{p:Addr}{xs ys:List V}{ai its':List Value}{n n':Nat}{f:Obj→Obj}(I:Inv X pins σ H s)(h:H p=some (.lst xs))
  (ho:s.heap.get? p=some {cls:=.type "list",data:=.seq ai.toArray n}) (hf:f {cls:=.type "list",data:=.seq ai.toArray n}={cls:=.type "list",data:=.seq its'.toArray n'}) (r:Vals ys its') (hz:ys.length≤sizeLine) (t:Nat) :
  Inv X pins σ (upd H p (.lst ys)) {s with heap:=s.heap.update p f,toks:=t}:=by
 have e:(s.heap.update p f).get? p=some {cls:=.type "list",data:=.seq its'.toArray n'}:=by
  rw [Heap.get?_update_self f ho (by rw [hf] <;> rfl),hf]
 refine I.write (x:=p) (e:=p) (by rw [h];trivial) (.inl rfl) (fun b u hb q=>(Heap.get?_update_other _ _ (Ne.symm hb)).trans q) ⟨_,e⟩ ?_
 exact ⟨hz,its',n',r,e⟩
def Ca:V→V→V→Hp→(Hp→Prop)→Prop:=fun o i v H Q=>∃p xs k j,o=.ref p∧i=.int k∧H p=some (.lst xs)∧gy xs.length k=some j∧Q (upd H p (.lst (xs.set j v)))
theorem set_list:wj X Ca:=by
 intro pins s σ H o i v ov iv u Q I ro ri rv h
 obtain ⟨p,xs,k,j,rfl,rfl,hp,hj,q⟩:=h
 cases ro
 obtain ⟨t,rfl⟩:=ri
 obtain ⟨ai,n,r,ho,hz⟩:=I.lst hp
 obtain ⟨h1,h2,h3,h4⟩:=wX hj
 have hl:=r.length
 have hn:=oJ
 have I':Inv X pins σ (upd H p (.lst (xs.set j v))) {s with heap:=s.heap.update p (Obj.mapSeq (·.setIfInBounds j u))}:=
  I.B_ hp ho (B9 ai n j u) (r.set rv j) (by rw [List.length_set];exact hz) s.toks
 by_cases h0:0≤k
 ·have hk:k.toNat=j:=by
   rw [seqIndex_of h0 h4] at h1
   exact Option.some.inj h1
  exact PySem.W.ki_setAt ho h0 (by omega) (by rw [List.size_toArray,←hl];exact h4) (by rw [hk];exact ⟨_,I',q⟩)
 ·have hk:(k+(ai.toArray.size:Int)).toNat=j:=by
   rw [seqIndex_neg (by omega) h3] at h1
   rw [List.size_toArray,←hl]
   exact Option.some.inj h1
  exact PySem.W.ki_setBack ho (by omega) (by rw [List.size_toArray,←hl];exact h3) (by omega) (by rw [hk];exact ⟨_,I',q⟩)
theorem Cb(lo hi:Option Int)(n:Nat):(sliceBounds lo hi none n).1=((HT.cK n 0 lo:Nat):Int)∧(sliceBounds lo hi none n).2.1=((HT.cK n n hi:Nat):Int)∧(sliceBounds lo hi none n).2.2=1:=by
 refine ⟨?_,?_,rfl⟩
 ·cases lo with
  | none=>simp [sliceBounds,HT.cK]
  | some i=>
   simp only [sliceBounds,HT.cK,Option.getD_none,show (1:Int)>0 by decide,if_true]
   by_cases h:i<0
   ·simp only [h,if_true] <;> omega
   ·simp only [h,if_false] <;> omega
 ·cases hi with
  | none=>simp [sliceBounds,HT.cK]
  | some i=>
   simp only [sliceBounds,HT.cK,Option.getD_none,show (1:Int)>0 by decide,if_true]
   by_cases h:i<0
   ·simp only [h,if_true] <;> omega
   ·simp only [h,if_false] <;> omega
theorem Cc(ai:List Value)(lo hi:Option Int):slicePick ai.toArray lo hi none=((ai.drop (HT.cK ai.length 0 lo)).take (HT.cK ai.length ai.length hi-HT.cK ai.length 0 lo)).toArray:=by
 obtain ⟨h1,h2,h3⟩:=Cb lo hi ai.toArray.size
 unfold slicePick
 rw [h1,h2,h3]
 simp only [sliceRange_one,pick_run,List.size_toArray] <;> rfl
def Cd(K:PySem.W.Frag):V→Option Int→Option Int→Hp→VK→Prop:=fun x lo hi H Q=>∃a xs,x=.ref a∧aX K H a xs∧∀p,H p=none→Q (.ref p) (upd H p (.lst (eQ xs lo hi)))
theorem w6:wV X (Cd X.K):=by
 intro pins s σ H x v vl vu lo hi sl Q I rx hs pl pu h
 obtain ⟨a,xs,rfl,hx,q⟩:=h
 cases rx
 obtain ⟨ai,r,ht,hz⟩:=I.list hx
 have hlen:=r.length
 refine ⟨"list",_,slot_list_getitem.lookup,ht.isList.typeIs,?_⟩
 refine wpAny_getItem_list_slice ht.isList hs pl pu .none (by simp) ?_ (by rw [List.size_toArray] <;> omega)
 rw [Cc,←hlen]
 refine ⟨.ref s.heap.objs.size,_,I.laid (t':=s.toks) (o:=.lst (eQ xs lo hi)) (fun b ob q=>Heap.get?_push_of_some _ q) (Nat.le_refl _) ?_,rfl,q _ (I.ar.fresh (Nat.le_refl _))⟩
 exact ⟨Nat.le_trans (B6 xs lo hi) hz,_,0,(r.drop (HT.cK xs.length 0 lo)).take (HT.cK xs.length xs.length hi-HT.cK xs.length 0 lo),Heap.get?_push_size _ rfl⟩
def ei:V→Bool
 | .aF=>true
 | .bl _=>true
 | .int _=>true
 | .str _=>true
 | _=>false
def eU:V→V→Bool
 | .aF,.aF=>true
 | .bl a,.bl b=>a == b
 | .bl a,.int b=>(if a then 1 else 0) == b
 | .int a,.bl b=>a == (if b then 1 else 0)
 | .int a,.int b=>a == b
 | .str a,.str b=>a == b
 | _,_=>false
theorem oQ{A:Around}{s:Shared}{y x:V}{u v:Value}(ry:RelV y u)(rx:RelV x v)(fy:ei y=true)(fx:ei x=true):SeqAt.EqAt A s u v (eU y x):=by
 cases y with
 | aF=>
  cases ry
  cases x with
  | aF=>cases rx;exact SeqAt.EqAt.same _
  | bl b=>cases rx;exact SeqAt.EqAt.none_bool b
  | int b=>obtain ⟨t,rfl⟩:=rx;exact SeqAt.EqAt.none_int b t
  | str b=>obtain ⟨t,rfl⟩:=rx;exact SeqAt.EqAt.none_str b t
  | _=>exact absurd (show false=true from fx) Bool.false_ne_true
 | bl a=>
  cases ry
  cases x with
  | aF=>cases rx;exact SeqAt.EqAt.bool_none a
  | bl b=>cases rx;exact SeqAt.EqAt.bool_bool a b
  | int b=>obtain ⟨t,rfl⟩:=rx;exact SeqAt.EqAt.bool_int a b t
  | str b=>obtain ⟨t,rfl⟩:=rx;exact SeqAt.EqAt.bool_str a b t
  | _=>exact absurd (show false=true from fx) Bool.false_ne_true
 | int a=>
  obtain ⟨t',rfl⟩:=ry
  cases x with
  | aF=>cases rx;exact SeqAt.EqAt.int_none a t'
  | bl b=>cases rx;exact SeqAt.EqAt.int_bool a t' b
  | int b=>obtain ⟨t,rfl⟩:=rx;exact SeqAt.EqAt.int_int a t' b t
  | str b=>obtain ⟨t,rfl⟩:=rx;exact SeqAt.EqAt.int_str a t' b t
  | _=>exact absurd (show false=true from fx) Bool.false_ne_true
 | str a=>
  obtain ⟨t',rfl⟩:=ry
  cases x with
  | aF=>cases rx;exact SeqAt.EqAt.str_none a t'
  | bl b=>cases rx;exact SeqAt.EqAt.str_bool a t' b
  | int b=>obtain ⟨t,rfl⟩:=rx;exact SeqAt.EqAt.str_int a t' b t
  | str b=>obtain ⟨t,rfl⟩:=rx;exact SeqAt.EqAt.str_str a t' b t
  | _=>exact absurd (show false=true from fx) Bool.false_ne_true
 | _=>exact absurd (show false=true from fy) Bool.false_ne_true
def gz(x:V)(u:Value):Bool:=match u with
 | .none=>eU .aF x
 | .bool b=>eU (.bl b) x
 | .int i _=>eU (.int i) x
 | .str z _=>eU (.str z) x
 | _=>false
theorem w9{x y:V}{u:Value}(r:RelV y u)(f:ei y=true):gz x u=eU y x:=by
 cases y with
 | aF=>cases r;rfl
 | bl b=>cases r;rfl
 | int i=>obtain ⟨t,rfl⟩:=r;rfl
 | str z=>obtain ⟨t,rfl⟩:=r;rfl
 | _=>exact absurd (show false=true from f) Bool.false_ne_true
theorem r6{x:V}:∀{xs:List V} {us:List Value},Vals xs us→xs.all ei=true→us.any (gz x)=xs.any fun y=>eU y x
 | _,_,.nil,_=>rfl
 | y::xs,u::us,.cons r t,f=>by
  rw [List.all_cons,Bool.and_eq_true] at f
  rw [List.any_cons,List.any_cons,w9 r f.1,r6 t f.2]
theorem r_{A:Around}{s:Shared}{x:V}{v:Value}(rx:RelV x v)(fx:ei x=true):∀{xs:List V} {us:List Value},Vals xs us→xs.all ei=true→∀u∈us,SeqAt.EqAt A s u v (gz x u)
 | _,_,.nil,_=>fun u hu=>by cases hu
 | y::xs,u::us,.cons r t,f=>fun u' hu=>by
  rw [List.all_cons,Bool.and_eq_true] at f
  rcases List.mem_cons.mp hu with rfl | hu
  ·rw [w9 r f.1];exact oQ r rx f.1 fx
  ·exact r_ rx fx t f.2 u' hu
def iS(x:V)(xs:List V):Bool:=xs.any fun y=>eU y x
def w_(K:PySem.W.Frag)(neg:Bool):R2:=fun x y H Q=>∃p xs,y=.ref p∧(aX K H p xs∨cV K H p xs)∧ei x=true∧xs.all ei=true∧Q (.bl (if neg then !iS x xs else iS x xs)) H
theorem xb:b3 X (compareOp .In) (w_ X.K false):=by
 intro pins s σ H x y v u Q I rx ry h
 obtain ⟨p,xs,rfl,hq,fx,fs,q⟩:=h
 cases ry
 rcases hq with hq | hq
 ·obtain ⟨ai,r,pl,hz⟩:=I.list hq
  refine SeqAt.in_listAt (gz x) pl.isList (fun w hw=>r_ rx fx r fs w (by simpa using hw)) ⟨.bl _,H,I,rfl,?_⟩
  rw [show ai.toArray.any (gz x)=ai.any (gz x) by simp,r6 r fs]
  exact q
 ·obtain ⟨ai,r,pl,hz⟩:=I.tuple hq
  refine SeqAt.in_tupleAt (gz x) pl (fun w hw=>r_ rx fx r fs w (by simpa using hw)) ⟨.bl _,H,I,rfl,?_⟩
  rw [show ai.toArray.any (gz x)=ai.any (gz x) by simp,r6 r fs]
  exact q
theorem hI:dg X (.builtin "len") (fun xs H Q=>∃p ys,xs=[.ref p]∧(aX X.K H p ys∨cV X.K H p ys)∧Q (.int ys.length) H):=by
 intro pins s σ H xs us Q I r h
 obtain ⟨p,ys,rfl,hq,q⟩:=h
 obtain ⟨u,rfl,rx⟩:=vals1 r
 cases rx
 have hn:=oJ
 rcases hq with hq | hq
 ·obtain ⟨ai,r',pl,hz⟩:=I.list hq
  have hlen:=r'.length
  exact Calls.call_len_list pl.isList (by simp only [List.size_toArray] <;> omega) ⟨.int ys.length,H,I.tok _,⟨s.toks+1,by rw [List.size_toArray,hlen]⟩,q⟩
 ·obtain ⟨ai,r',pl,hz⟩:=I.tuple hq
  have hlen:=r'.length
  exact len_tuple pl (by simp only [List.size_toArray] <;> omega) ⟨.int ys.length,H,I.tok _,⟨s.toks+1,by rw [List.size_toArray,hlen]⟩,q⟩
theorem Ce:dg X (.type "list") (fun xs H Q=>∃p ys,xs=[.ref p]∧(aX X.K H p ys∨cV X.K H p ys)∧∀l,H l=none→Q (.ref l) (upd H l (.lst ys))):=by
 intro pins s σ H xs us Q I r h
 obtain ⟨p,ys,rfl,hq,q⟩:=h
 obtain ⟨u,rfl,rx⟩:=vals1 r
 cases rx
 have fin:∀(ai:List Value),Vals ys ai→ys.length≤sizeLine→∀(h':Heap) (c':Nat),(∀b o',s.heap.get? b=some o'→h'.get? b=some o')→
   h'.get? s.heap.objs.size=some {cls:=.type "list",dict:=none,data:=.seq ai.toArray c',slots:=#[]}→EP X pins σ Q (.ref s.heap.objs.size) {s with heap:=h'}:=fun ai r' hz h' c' kp e=>
  ⟨.ref s.heap.objs.size,_,I.laid (t':=s.toks) kp (Nat.le_refl _) (show a_ X.prog X.w _ h' _ (.lst ys) from ⟨hz,ai,c',r',e⟩),rfl,q _ (I.ar.fresh (Nat.le_refl _))⟩
 rcases hq with hq | hq
 ·obtain ⟨ai,r',pl,hz⟩:=I.list hq
  have hlen:=r'.length
  obtain ⟨o,ho,hc,n,hd⟩:=pl.isList
  exact call_list_seq p (.inl rfl) ho hc hd (fun h' c' kp e=>fin ai r' hz h' c' kp e) (by simp only [List.size_toArray] <;> omega)
 ·obtain ⟨ai,r',pl,hz⟩:=I.tuple hq
  have hlen:=r'.length
  obtain ⟨o,ho,hc,n,hd⟩:=pl
  exact call_list_seq p (.inr rfl) ho hc hd (fun h' c' kp e=>fin ai r' hz h' c' kp e) (by simp only [List.size_toArray] <;> omega)
theorem si:dg X (.type "tuple") (fun xs H Q=>∃p ys,xs=[.ref p]∧((aX X.K H p ys∧∀l,H l=none→Q (.ref l) (upd H l (.tup ys)))∨(cV X.K H p ys∧Q (.ref p) H))):=by
 intro pins s σ H xs us Q I r h
 obtain ⟨p,ys,rfl,h⟩:=h
 obtain ⟨u,rfl,rx⟩:=vals1 r
 cases rx
 rcases h with ⟨hq,q⟩ | ⟨hq,q⟩
 ·obtain ⟨ai,r',pl,hz⟩:=I.list hq
  have hlen:=r'.length
  refine call_tuple_list pl.isList (fun h' kp=>?_) (by simp only [List.size_toArray] <;> omega)
  have I1:Inv X pins σ H {s with heap:=h'}:=I.kept (t':=s.toks) kp
  have I2:Inv X pins σ (upd H h'.objs.size (.tup ys)) {s with heap:=h'.push {cls:=.type "tuple",data:=.seq ai.toArray}}:=
   I1.laid (t':=s.toks) (fun b o e=>Heap.get?_push_of_some _ e) (Nat.le_refl _) (show a_ X.prog X.w _ _ _ (.tup ys) from ⟨hz,ai,r',IsTup.new _ _⟩)
  exact ⟨.ref h'.objs.size,_,I2,rfl,q _ (I1.ar.fresh (Nat.le_refl _))⟩
 ·obtain ⟨ai,r',pl,hz⟩:=I.tuple hq
  exact call_tuple_same pl ⟨.ref p,H,I,rfl,q⟩
def sj(K:PySem.W.Frag)(T:String)(x:V)(H:Hp):Prop:=match x with
 | .str _=>T = "str"
 | .int _=>T = "int"
 | .ref p=>(T = "list"∧∃xs,aX K H p xs)∨(T = "tuple"∧∃o,K.lookup p=some o∧o.cls=.type "tuple"∧o.dict=none) ∨
   (T = "dict"∧((∃ae,H p=some (.dK ae))∨∃ae,H p=some (.dT ae)))∨(T = "set"∧∃S n,H p=some (.set S n))
 | _=>False
theorem xc{pins:List (Addr×Obj)}{σ:St}{H:Hp}{s:Shared}{T:String}{x:V}{v:Value}(I:Inv X pins σ H s)(r:RelV x v)(ty:sj X.K T x H) :
  s.TypeIs v T∧∀a,v=.ref a→∃ob,s.heap.get? a=some ob∧ob.dict=none:=by
 cases x with
 | str z=>
  obtain ⟨t,rfl⟩:=r
  cases (show T = "str" from ty)
  exact ⟨typeIs_str s z t,fun _ e=>nomatch e⟩
 | int i=>
  obtain ⟨t,rfl⟩:=r
  cases (show T = "int" from ty)
  exact ⟨typeIs_int s i t,fun _ e=>nomatch e⟩
 | ref p=>
  cases r
  rcases ty with ⟨rfl,xs,hq⟩ | ⟨rfl,o,hk,hc,hd⟩ | ⟨rfl,hk⟩ | ⟨rfl,S,n,hk⟩
  ·obtain ⟨ai,_,pl,_⟩:=I.list hq
   refine ⟨pl.isList.typeIs,fun a e=>?_⟩
   cases e
   obtain ⟨o,n,e,c,hd,_⟩:=pl
   exact ⟨o,e,hd⟩
  ·refine ⟨⟨o,I.cI p o hk,hc⟩,fun a e=>?_⟩
   cases e
   exact ⟨o,I.cI _ o hk,hd⟩
  ·have z:∃o,s.heap.get? p=some o∧o.ExactDict:=by
    rcases hk with ⟨ae,hk⟩ | ⟨ae,hk⟩
    ·obtain ⟨_,_,_,_,o,_,_,e,ex,_⟩:=I.ar p _ hk
     exact ⟨o,e,ex⟩
    ·obtain ⟨_,_,_,_,o,_,_,e,ex,_⟩:=I.ar p _ hk
     exact ⟨o,e,ex⟩
   obtain ⟨o,e,ex⟩:=z
   refine ⟨⟨o,e,ex.1⟩,fun a e2=>?_⟩
   cases e2
   exact ⟨o,e,ex.2.1⟩
  ·obtain ⟨o,_,_,_,e,ex,_⟩:=I.ar p _ hk
   refine ⟨⟨o,e,ex.1⟩,fun a e2=>?_⟩
   cases e2
   exact ⟨o,e,ex.2.1⟩
 | _=>exact False.elim ty
def Cf(K:PySem.W.Frag)(T:String)(r:V→List V→Hp→VK→Prop)(to:TE):TE:=fun σ H Q=>to σ H fun x H1=>sj K T x H1∧r x [] H1 Q
def Cg(K:PySem.W.Frag)(T:String)(r:V→List V→Hp→VK→Prop)(to:TE)(t:TA):TE:=fun σ H Q=>to σ H fun x H1=>sj K T x H1∧t σ H1 fun xs H2=>r x xs H2 Q
variable {o e:Expr} {es:List Expr} {to:TE} {t:TA} {name:Str} {apos dy:Pos} {T id:String} {r:V→List V→Hp→VK→Prop}
theorem Ci(pa:PlainAttrs T)(slot:Slot T name id)(sq:typeOf (.builtin id)=pure (.type "method_descriptor"))(hm:wZ X id r)(ho:PE X o to)
  (sr:attributeBase o name X.env (eval o X.env)=eval o X.env:=by rfl) (su:(apos.endLine == dy.line)=true:=by rfl):PE X (.Call (.Attribute o name apos) [] [] dy) (Cf X.K T r to):=by
 intro pins s σ H Q I h
 refine wpAny_Call_method0_late sr su (ay (ho pins s σ H _ I h) fun v s1 ⟨x,H1,I1,r1,ty,q1⟩=>?_)
 obtain ⟨h1,h2⟩:=xc I1 r1 ty
 exact ⟨T,id,pa,slot,sq,h1,h2,Calls.callWith_builtin rfl (PySem.evalArgs_none (hm pins s1 σ H1 x [] v [] Q I1 r1 .nil q1))⟩
theorem fm(pa:PlainAttrs T)(slot:Slot T name id)(sq:typeOf (.builtin id)=pure (.type "method_descriptor"))(hm:wZ X id r)(ho:PE X o to)(ha:PA X (e::es) t)
  (sr:attributeBase o name X.env (eval o X.env)=eval o X.env:=by rfl)
  (Cj:((backTo dy (starEach (e::es) X.env)).all (fun x=>!x.1) && (backToKw dy (keywordEach [] X.env)).all (fun x=>x.1.isSome)
   && decide ((e::es).length+([]:List Keyword).length+(if ([]:List Keyword).isEmpty then 0 else 1)<30))=true:=by rfl)
  (su:(apos.endLine == dy.line)=true:=by rfl) (hs:starEach (e::es) X.env=(false,eval e X.env)::starEach es X.env:=by rfl) (Ck:(backTo dy (starEach es X.env)).any (·.1)=false:=by rfl) :
  PE X (.Call (.Attribute o name apos) (e::es) [] dy) (Cg X.K T r to t):=by
 intro pins s σ H Q I h
 refine wpAny_Call_method_late sr Cj su rfl (ay (ho pins s σ H _ I h) fun v s1 ⟨x,H1,I1,r1,ty,q1⟩=>?_)
 obtain ⟨h1,h2⟩:=xc I1 r1 ty
 refine ⟨T,id,pa,slot,sq,h1,h2,?_⟩
 have hA:=ha dy pins s1 σ H1 _ I1 q1
 rw [hs] at hA ⊢
 refine Calls.callWith_builtin (by show (false || (backTo dy (starEach es X.env)).any (·.1))=false;rw [Ck] <;> rfl) (Calls.evalArgs_plain ?_)
 exact ay hA fun us s2 ⟨vs,H2,I2,r2,q2⟩=>hm pins s2 σ H2 x vs v us Q I2 r1 r2 q2
end
def oR(X:Cx)(id:String)(r:V→List V→Hp→VK→Prop):Prop:=
 ∀(pins:List (Addr×Obj)) (s:Shared) (σ:St) (H:Hp) (x:V) (xs:List V) (v:Value) (us:List Value) (Q:VK),Inv X pins σ H s→RelV x v→Vals xs us→r x xs H Q→
  wpAny (model X.prog X.w) X.A (call (.builtin id) (v::us)) (EP X pins σ Q) X.xe s
theorem Vals.one:∀{x:V} {us:List Value},Vals [x] us→∃u,us=[u]∧RelV x u
 | _,_,.cons r .nil=>⟨_,rfl,r⟩
theorem Vals.zero:∀{us:List Value},Vals [] us→us=[]
 | _,.nil=>rfl
theorem Vals.dropLast{xs:List V}{us:List Value}(h:Vals xs us):Vals xs.dropLast us.dropLast:=by
 induction h with
 | nil=>exact .nil
 | cons r t ih=>
  cases t with
  | nil=>exact .nil
  | cons q t'=>exact .cons r ih
theorem Vals.eraseIdx:∀{xs:List V} {us:List Value} (i:Nat),Vals xs us→Vals (xs.eraseIdx i) (us.eraseIdx i)
 | _,_,_,.nil=>.nil
 | _,_,0,.cons _ t=>t
 | _,_,i+1,.cons r t=>.cons r (Vals.eraseIdx i t)
theorem Vals.rep{xs:List V}{us:List Value}(h:Vals xs us):∀k:Nat,Vals (List.replicate k xs).flatten (List.replicate k us).flatten
 | 0=>.nil
 | k+1=>by
  rw [List.replicate_succ,List.replicate_succ,List.flatten_cons,List.flatten_cons]
  exact Vals.append h (Vals.rep h k)
theorem Cm{α:Type}(l:List α):l.eraseIdx (l.length-1)=l.dropLast:=by
 induction l with
 | nil=>rfl
 | cons a r ih=>
  cases r with
  | nil=>rfl
  | cons b r=>
   have e:(a::b::r).length-1=((b::r).length-1)+1:=by
    have h1:(a::b::r).length=r.length+2:=rfl
    have h2:(b::r).length=r.length+1:=rfl
    omega
   rw [e,List.eraseIdx_cons_succ,ih]
   all_goals rfl
theorem xf{α:Type}:∀(l:List α) (i:Nat),(l.eraseIdx i).length≤l.length
 | [],_=>Nat.le_refl _
 | _::_,0=>Nat.le_succ _
 | _::r,i+1=>Nat.succ_le_succ (xf r i)
theorem foldl_rep(ai:List Value):∀(k:Nat) (acc:List Value),
  List.foldl (fun x1 x2=>x1++x2) acc.toArray (List.replicate k ai.toArray)=(acc++(List.replicate k ai).flatten).toArray
 | 0,acc=>by simp
 | k+1,acc=>by
  have e:acc.toArray++ai.toArray=(acc++ai).toArray:=by simp
  have e2:(acc++ai)++(List.replicate k ai).flatten=acc++(List.replicate (k+1) ai).flatten:=by
   rw [List.replicate_succ,List.flatten_cons,List.append_assoc]
  rw [←e2,←foldl_rep ai k (acc++ai),←e,List.replicate_succ,List.foldl_cons]
section
variable {X:Cx} {pins:List (Addr×Obj)} {σ:St} {H:Hp} {s:Shared} {l b:Addr} {xs ys zs:List V}
theorem Inv.oS{ai its':List Value}{n:Nat}{f:Array Value→Array Value}{t':Nat}(I:Inv X pins σ H s)(hH:H l=some (.lst xs))
  (e:s.heap.get? l=some {cls:=.type "list",data:=.seq ai.toArray n}) (hf:f ai.toArray=its'.toArray) (hv:Vals ys its') (hz:ys.length≤sizeLine) :
  Inv X pins σ (upd H l (.lst ys)) {s with heap:=s.heap.update l (Obj.mapSeq f),toks:=t'}:=by
 have q:=PySem.IsL.update e f
 rw [hf] at q
 refine I.write (x:=l) (e:=l) (by rw [hH];exact trivial) (.inl rfl) (fun b' u hb hu=>(Heap.get?_update_other s.heap (Obj.mapSeq f) (Ne.symm hb)).trans hu) ⟨_,q⟩ ?_
 exact ⟨hz,its',_,hv,q⟩
theorem Inv.xg{ai:List Value}{t':Nat}(I:Inv X pins σ H s)(hv:Vals ys ai)(hz:ys.length≤sizeLine) :
  Inv X pins σ (upd H s.heap.objs.size (.lst ys)) {s with heap:=s.heap.push {cls:=.type "list",data:=.seq ai.toArray},toks:=t'}:=
 I.laid (fun _ _ q=>Heap.get?_push_of_some _ q) (Nat.le_refl _) ⟨hz,ai,0,hv,Heap.get?_push_size _ rfl⟩
theorem Inv.fresh(I:Inv X pins σ H s):H s.heap.objs.size=none:=I.ar.fresh (Nat.le_refl _)
theorem Inv.hJ(I:Inv X pins σ H s)(hH:H l=some (.lst xs)):xs.length≤sizeLine∧∃(ai:List Value) (n:Nat),Vals xs ai∧xs.length=ai.length∧s.heap.get? l=some {cls:=.type "list",data:=.seq ai.toArray n}:=by
 obtain ⟨z,ai,n,r,e⟩:=I.ar l _ hH
 exact ⟨z,ai,n,r,r.length,e⟩
theorem xh{n:Nat}(h:n≤sizeLine):Builtin.List.listTooLong n=false:=by
 unfold Builtin.List.listTooLong
 exact decide_eq_false (by omega)
end
section
variable {X:Cx}
def Cn:V→List V→Hp→VK→Prop:=fun x vs H Q=>∃l xs y,x=.ref l∧vs=[y]∧H l=some (.lst xs)∧xs.length<sizeLine∧Q .aF (upd H l (.lst (xs++[y])))
theorem fR:oR X "list.append" Cn:=by
 intro pins s σ H x vs v us Q I rx rv h
 obtain ⟨l,xs,y,rfl,rfl,hH,hz,q⟩:=h
 cases rx
 obtain ⟨u,rfl,ru⟩:=rv.one
 obtain ⟨z,ai,n,r,hl,e⟩:=I.hJ hH
 refine call_meets F.slot_list_append ⟨_,e,rfl⟩ F.entry_list_append (F.args_list_append_2 _ _) (PySem.list_append l ai.toArray n u (by rw [List.size_toArray];omega)) ⟨e,?_⟩
 refine ⟨.aF,_,I.oS (its':=ai++[u]) hH e (by simp) (r.append (.cons ru .nil)) ?_,rfl,q⟩
 rw [List.length_append,List.length_singleton]
 omega
def Co:V→List V→Hp→VK→Prop:=fun x vs H Q=>∃l b xs zs,x=.ref l∧vs=[.ref b]∧H l=some (.lst xs)∧H b=some (.lst zs)∧xs.length+zs.length≤sizeLine∧Q .aF (upd H l (.lst (xs++zs)))
theorem xi:oR X "list.extend" Co:=by
 intro pins s σ H x vs v us Q I rx rv h
 obtain ⟨l,b,xs,zs,rfl,rfl,hH,hB,hz,q⟩:=h
 cases rx
 obtain ⟨u,rfl,ru⟩:=rv.one
 cases ru
 obtain ⟨z,ai,n,r,hl,e⟩:=I.hJ hH
 obtain ⟨z2,hV,n2,r2,Cp,e2⟩:=I.hJ hB
 have hsz:ai.toArray.size+hV.toArray.size≤sizeLine:=by rw [List.size_toArray,List.size_toArray];omega
 have sC:¬(!ai.toArray.isEmpty && Builtin.List.listTooLong (ai.toArray.size+hV.toArray.size))=true:=by
  rw [xh hsz,Bool.and_false]
  exact Bool.false_ne_true
 refine call_meets F.slot_list_extend ⟨_,e,rfl⟩ F.entry_list_extend (F.args_list_extend_2 _ _)
  (AutoSeq1.list_extend_list_list_0 l ai.toArray n b hV.toArray n2 sC (by rw [List.size_toArray];omega) (by omega)) ⟨e,e2,?_⟩
 refine ⟨.aF,_,I.oS (its':=ai++hV) hH e (by simp) (r.append r2) ?_,rfl,q⟩
 rw [List.length_append]
 omega
def Cq:V→List V→Hp→VK→Prop:=fun x vs H Q=>∃l xs y,x=.ref l∧vs=[]∧H l=some (.lst xs)∧xs[xs.length-1]?=some y∧Q y (upd H l (.lst xs.dropLast))
theorem Cr:oR X "list.pop" Cq:=by
 intro pins s σ H x vs v us Q I rx rv h
 obtain ⟨l,xs,y,rfl,rfl,hH,hy,q⟩:=h
 cases rx
 have j9:=rv.zero
 subst j9
 obtain ⟨z,ai,n,r,hl,e⟩:=I.hJ hH
 obtain ⟨u,hu,ru⟩:=r.get hy
 have Cs:ai.toArray[ai.toArray.size-1]?=some u:=by
  show ai.toArray[ai.length-1]?=some u
  rw [←Array.getElem?_toList,←hl]
  exact hu
 refine call_meets F.slot_list_pop ⟨_,e,rfl⟩ F.entry_list_pop (F.args_list_pop_1 _) (MeetsSeq.list_pop_last l ai.toArray n u Cs (by rw [List.size_toArray];omega)) ⟨e,?_⟩
 refine ⟨y,_,I.oS (its':=ai.dropLast) hH e ?_ r.dropLast ?_,ru,q⟩
 ·show ai.toArray.eraseIdxIfInBounds (ai.toArray.size-1)=ai.dropLast.toArray
  rw [List.size_toArray,List.eraseIdxIfInBounds_toArray,Cm]
 ·rw [List.length_dropLast]
  omega
def Ct:V→List V→Hp→VK→Prop:=fun x vs H Q=>∃l xs i k y,x=.ref l∧vs=[.int i]∧H l=some (.lst xs)∧-(2 ^ 63)≤i∧i<2 ^ 63∧seqIndex? i xs.length=some k∧xs[k]?=some y∧Q y (upd H l (.lst (xs.eraseIdx k)))
theorem Cu:oR X "list.pop" Ct:=by
 intro pins s σ H x vs v us Q I rx rv h
 obtain ⟨l,xs,i,k,y,rfl,rfl,hH,h1,h2,hk,hy,q⟩:=h
 cases rx
 obtain ⟨u,rfl,ru⟩:=rv.one
 obtain ⟨t,rfl⟩:=ru
 obtain ⟨z,ai,n,r,hl,e⟩:=I.hJ hH
 obtain ⟨w,hw,mO⟩:=r.get hy
 refine call_meets F.slot_list_pop ⟨_,e,rfl⟩ F.entry_list_pop (F.args_list_pop_2 _ _)
  (MeetsSeq.list_pop_at l ai.toArray n i t k w (fitsIndex_both h1 h2) (by rw [List.size_toArray,←hl];exact hk) (by rw [←Array.getElem?_toList];exact hw) (by rw [List.size_toArray];omega)) ⟨e,?_⟩
 refine ⟨y,_,I.oS (its':=ai.eraseIdx k) hH e ?_ (r.eraseIdx k) ?_,mO,q⟩
 ·show ai.toArray.eraseIdxIfInBounds k=(ai.eraseIdx k).toArray
  rw [List.eraseIdxIfInBounds_toArray]
 ·have:=xf xs k
  omega
def Cv:R2:=fun x y H Q=>∃l b xs zs,x=.ref l∧y=.ref b∧H l=some (.lst xs)∧H b=some (.lst zs)∧xs.length+zs.length≤sizeLine∧∀p,H p=none→Q (.ref p) (upd H p (.lst (xs++zs)))
theorem Cw:b3 X (binaryOp .Add) Cv:=by
 intro pins s σ H x y v u Q I rx ry h
 obtain ⟨l,b,xs,zs,rfl,rfl,hH,hB,hz,q⟩:=h
 cases rx
 cases ry
 obtain ⟨z,ai,n,r,hl,e⟩:=I.hJ hH
 obtain ⟨z2,hV,n2,r2,Cp,e2⟩:=I.hJ hB
 refine PySem.P.add_list e e2 ?_ (by rw [List.size_toArray,List.size_toArray];omega)
 have ea:ai.toArray++hV.toArray=(ai++hV).toArray:=by simp
 rw [ea]
 exact ⟨.ref _,_,I.xg (t':=s.toks) (r.append r2) (by rw [List.length_append];omega),rfl,q _ I.fresh⟩
def Cy:R2:=fun x y H Q=>∃l k xs,x=.ref l∧y=.int k∧H l=some (.lst xs)∧-(2 ^ 63)≤k∧k<2 ^ 63∧xs.length*k.toNat≤sizeLine ∧
 ∀p,H p=none→Q (.ref p) (upd H p (.lst (List.replicate k.toNat xs).flatten))
theorem len_rep{α:Type}(xs:List α)(k:Nat):(List.replicate k xs).flatten.length=k*xs.length:=by
 induction k with
 | zero=>simp
 | succ k ih=>rw [List.replicate_succ,List.flatten_cons,List.length_append,ih,Nat.succ_mul,Nat.add_comm]
theorem Cz:b3 X (binaryOp .Mult) Cy:=by
 intro pins s σ H x y v u Q I rx ry h
 obtain ⟨l,k,xs,rfl,rfl,hH,h1,h2,hz,q⟩:=h
 cases rx
 obtain ⟨t,rfl⟩:=ry
 obtain ⟨z,ai,n,r,hl,e⟩:=I.hJ hH
 have hlen:ai.toArray.size*k.toNat≤sizeLine:=by rw [List.size_toArray,←hl];exact hz
 have CA:¬ai.toArray.size*k.toNat>(2 ^ 63-1) / 8:=by
  have:(sizeLine:Nat)≤(2 ^ 63-1) / 8:=by decide
  omega
 have CB:¬(!Builtin.List.listFitsIndex k)=true:=by
  rw [fitsIndex_both h1 h2]
  exact Bool.false_ne_true
 have sC:¬Builtin.List.listTooLong (ai.toArray.size*k.toNat)=true:=by
  rw [xh hlen]
  exact Bool.false_ne_true
 have CD:List.foldl (fun x1 x2=>x1++x2) #[] (List.replicate (if ai.toArray.isEmpty=true then 0 else k.toNat) ai.toArray)=(List.replicate k.toNat ai).flatten.toArray:=by
  have f0:∀m:Nat,List.foldl (fun x1 x2=>x1++x2) #[] (List.replicate m ai.toArray)=(List.replicate m ai).flatten.toArray:=fun m=>by
   have:=foldl_rep ai m []
   rw [List.nil_append] at this
   exact this
  rw [f0]
  cases ai with
  | nil=>simp
  | cons a r'=>rw [if_neg (by simp)]
 refine wpAny_binaryOp_repeat_ref (T:="list") (U:="int") (by decide) ⟨_,e,rfl⟩ (fun s'=>typeIs_int s' k t) noFill_list_mul F.fills_int_mul F.slot_int_rmul repeat_list F.slot_int_index.lookup
  (call_meets F.slot_int_rmul (typeIs_int s k t) F.entry_int_rmul (F.args_int_rmul_2 _ _) (int___rmul___int_list k t l ai.toArray n)
   ⟨e,rfl,⟨_,e,rfl⟩,call_meets F.slot_list_mul ⟨_,e,rfl⟩ F.entry_list_mul (F.args_list_mul_2 _ _) (AutoListH.list___mul___list_int_3 l ai.toArray n k t CB CA sC) ⟨e,?_⟩⟩)
 rw [CD]
 exact ⟨.ref _,_,I.xg (t':=s.toks) (r.rep k.toNat) (by rw [len_rep,Nat.mul_comm];exact hz),rfl,q _ I.fresh⟩
end
section
variable {prog:Program} {w:World} {A:Around} {E:Value→Shared→Prop} {s:Shared}
end
section
variable {X:Cx}
end
end L2
namespace oT
open PySem PySem.W PySem.Calls PyProof.Rows
theorem CF{P:Params}{h:Heap}:∀(ns:List Int) (vs:List Value),WellAll P h vs (ns.map WData.int)→IntsAre vs ns:=by
 intro ns
 induction ns with
 | nil=>
  intro vs w
  rw [List.map_nil] at w
  cases w
  exact .nil
 | cons n ns ih=>
  intro vs w
  rw [List.map_cons] at w
  cases w with
  | cons a b=>
   cases a
   exact .cons _ _ (ih _ b)
theorem CG{l:OpenLaw}{n:Nat}(hn:l.most=some n){P:Params}{h:Heap}{args:List WData}{vals:List Value}
  (oU:l.row.toRowW.claim.pre args=true) (sD:WellAll P h vals args) :
  ∃a vs ns,vals=[Value.ref a]∧args=[WData.list (ns.map WData.int)]∧h.get? a=some {cls:=.type "list",data:=.seq vs.toArray}∧IntsAre vs ns∧ns.length≤n:=by
 have CH:WShape.hasAll [] args [.list .int]=true:=(pre_splitW oU).1
 have hc:l.pre.holds [] {args:=args}=true:=(pre_splitW oU).2
 obtain ⟨d,r,rfl,h1,h2⟩:=hasAllW_cons CH
 obtain rfl:=hasAllW_nil h2
 obtain ⟨xs,rfl,h3⟩:=hasW_list h1
 obtain ⟨ns,rfl⟩:=items_int h3
 have hlen:ns.length≤n:=by
  unfold OpenLaw.pre at hc
  have h4:(WTm.not (.lt (.lit (.int (n:Int))) (.len (.arg 0)))).holds [] {args:=[.list (ns.map .int)]}=true:=by
   have h4:=(holds_andW hc).1
   rw [hn] at h4
   exact h4
  have h5:=condW_of h4 (w_not (w_lt w_lit (w_len_list (w_arg rfl))))
  rw [List.length_map] at h5
  refine Nat.le_of_not_lt fun q=>?_
  have q':(n:Int)<((ns.length:Nat):Int):=by omega
  first
   | (rw [decide_eq_true q'] at h5;exact absurd h5 (by decide))
   | (simp at h5;omega)
 cases sD with
 | cons w1 w2=>
  cases w2
  cases w1 with
  | list ho sE=>exact ⟨_,_,ns,rfl,rfl,ho,CF ns _ sE,hlen⟩
theorem CI(l:OpenLaw)(args:List WData):l.row.toRowW.claim.post args (.bool true) args=true:=
 postW_of (r:=l.row.toRowW) (X:=(true == true))
  (show WShape.has [] (.bool true) .bool=true by first | rfl | decide | simp [WShape.has,WShape.arms,WShape.armsAll])
  (show (WTm.eq .res (.lit (.bool true))).value [] {args:=args,res:=some (.bool true),after:=args}=some (.bool (true == true)) from w_eq_bool (w_res rfl) w_lit) rfl
theorem CJ{l:OpenLaw}{n:Nat}{q:Program}{loose:List Str}{XP:(Str→Option Value)→Heap→Prop}{YP:World→Heap→Prop}{d:DefRec}
  (hn:l.most=some n) (mP:d.params.defaults=[])
  (call:∀(w:World) (s₀ s₁:Shared) (mg mb:Str→Option Value) (fa:Addr) (o:Obj) (pm cd doc:Value) (a:Addr) (vs:List Value) (ns:List Int),
   Ground q loose [] XP w s₀ mg mb s₁.heap→YP w s₁.heap→
   s₁.heap.get? fa=some o→o.data=.func (docDef d.name d.params d.body d.scope pm cd doc)→s₁.heap.CodeRec cd d.name→mg d.name=some (.ref fa)→
   s₁.heap.get? a=some {cls:=.type "list",data:=.seq vs.toArray}→IntsAre vs ns→ns.length≤n→s₁.gens = #[]→
   codeAny (model l.prog w) callerA (.call (.ref fa) ⟨[.ref a],[]⟩) (fun r s'=>r=.ok (.ret (.bool true))∧OldK s₁.heap s'.heap∧s'.os=s₁.os∧AllBare s'.gens) s₁) :
  WalkO q loose XP YP l.row.toRowW d [] (fun f vs=>PySem.call f vs):=by
 intro w s₀ s₁ mg mb G Y fa o pm cd doc dV kV ho hd df hD mQ hg args vals as oU LR LS sD LU
 obtain rfl:dV=.none:=Dflts.none hD mP
 obtain rfl:kV=.none:=Dflts.noKw hD
 obtain ⟨a,vs,ns,rfl,rfl,sF,hints,hlen⟩:=CG hn oU sD
 refine enter_call (codeAny_mono (call w s₀ s₁ mg mb fa o pm cd doc a vs ns G Y ho (fd_plain hd) df mQ sF hints hlen hg) fun r s' hq=>?_)
 obtain ⟨rfl,h2,h3,h4⟩:=hq
 exact ⟨.inl ⟨.bool true,.bool true,[],rfl,fun _=>rfl,.bool true,CI l _,fun _=>⟨List.Pairwise.nil,fun _ hm=>(nomatch hm)⟩⟩,h2,h3,h4⟩
section
variable {prog:Program} {w:World} {A:Around} {E:Value→Shared→Prop} {s:Shared} {K:Frag}
end
end oT
namespace L2
open PySem PySem.Spec PyProof.Rows
theorem xj:∀{vs:List Value} {ns:List Int},IntsAre vs ns→Vals (ns.map V.int) vs
 | _,_,.nil=>.nil
 | _,_,.cons n t h=>.cons ⟨t,rfl⟩ (xj h)
def sG(H:Hp):Prop:=∀b,H b=none∨∃o xs,H b=some (.bg o (.lst xs))
theorem CK{P:Program}{w:World}{K:PySem.W.Frag}{mg mb:Str→Option Value}{CX:dw}{k:Nat}{fa a:Addr}{fd:FuncData}{x:Str}{sp:Sp}{s₁:Shared}{vs:List Value}{ns:List Int}
  (KX:K.In s₁.heap) (xk:s₁.heap.Ns mainGlobals mg) (hb:s₁.heap.Ns builtinsNs mb) (iT:∀x:Str,x ≠ "__name__"→mb x=bootBuiltins x) (CL:s₁.heap.NoLimit) (hg:s₁.gens = #[])
  (ha:s₁.heap.get? a=some {cls:=.type "list",data:=.seq vs.toArray}) (hi:IntsAre vs ns) (hl:ns.length≤sizeLine) (hr:cC k callerA)
  (F:∀base:Heap,K.In base→base.Ns mainGlobals mg→bw P w K mg base CX k fa fd [x] sp) (CM:∀(s:Shared) (u:Value),BindsTo s fd ⟨[u],[]⟩ [(x,u)])
  (fQ:∀H:Hp,sG H→aX K H a (ns.map V.int)→sp [.ref a] H (fun v _=>v=.bl true) fun _ _ _=>False)
  (sI:∀H e s',CX [] H s₁ (fun _ _ _=>False) e s'→False) :
  codeAny (model P w) callerA (.call (.ref fa) ⟨[.ref a],[]⟩) (fun r s'=>r=.ok (.ret (.bool true))∧OldK s₁.heap s'.heap∧s'.os=s₁.os∧AllBare s'.gens) s₁:=by
 have rv:=xj hi
 have CN:=hi.length
 have core:∀H:Hp,sG H→aX K H a (ns.map V.int)→bj P w H s₁.heap→(∀b,H b≠none→b=a)→(H a≠none→K.lookup a=none)→
   codeAny (model P w) callerA (.call (.ref fa) ⟨[.ref a],[]⟩) (fun r s'=>r=.ok (.ret (.bool true))∧OldK s₁.heap s'.heap∧s'.os=s₁.os∧AllBare s'.gens) s₁:=by
  intro H hO hS ar hA hK
  have xl:∀{b:Addr} {o:Obj},s₁.heap.get? b=some o→H b=none→(gq s₁.heap H).get? b=some o:=fun e n=>A2 e n
  have mL:∀{b:Addr} {o:Obj} {es:Array DictEntry} {ep:Nat},s₁.heap.get? b=some o→o.data=.dict es ep→H b=none:=fun{b o es ep} e d=>by
   cases q:H b with
   | none=>rfl
   | some u=>
    have e':b=a:=hA b (by rw [q];simp)
    subst e'
    rw [ha] at e;cases e
    have d':Data.seq vs.toArray _=Data.dict es ep:=d
    cases d'
  have oV:∀{b:Addr} {m:Str→Option Value},s₁.heap.Ns b m→(gq s₁.heap H).Ns b m:=fun{b m} ⟨o,es,ep,e,d,r⟩=>⟨o,es,ep,xl e (mL e d),d,r⟩
  have xm:K.In (gq s₁.heap H):=fun b o e=>xl (KX b o e) (by
   cases q:H b with
   | none=>rfl
   | some u=>
    have e':b=a:=hA b (by rw [q];simp)
    subst e'
    rw [hK (by rw [q];simp)] at e;cases e)
  have hM:Mod K mg (gq s₁.heap H):=⟨xm,oV xk,⟨mb,oV hb,iT⟩,let ⟨mc,h1,h2⟩:=CL;⟨mc,oV h1,h2⟩⟩
  have e0:oO P w K mg (gq s₁.heap H) callerA [] s₁ H:=⟨rfl,hM,fun b o e=>A3 e,Nat.le_of_eq (A1 _ _),trivial,fun b hb=>absurd (show b∈([]:List Addr) from hb) (by simp),ar,.of_eq hg⟩
  refine codeAny_mono ((F _ xm (oV xk)).run callerA [] s₁ H ⟨[.ref a],[]⟩ [.ref a] [.ref a] _ _ hr e0 (CM s₁ (.ref a)) (.cons rfl .nil) (fQ H hO hS)) fun r s' h=>?_
  cases r with
  | error e=>exact (sI H e s' h).elim
  | ok fl=>
   cases fl with
   | next=>exact False.elim h
   | brk=>exact False.elim h
   | cont=>exact False.elim h
   | ret u=>
    obtain ⟨v,H',os,bare,un,CO,r',q⟩:=h
    have q':v=.bl true:=q
    subst q'
    obtain rfl:u=Value.bool true:=r'
    refine ⟨rfl,OldK.of_keep fun b o e=>?_,os,bare⟩
    cases q:H b with
    | none=>exact un.keep b o e q (by intro z;exact absurd (show b∈([]:List Addr) from z) (by simp)) (by simp)
    | some u=>
     rcases hO b with z | ⟨ob,xs,z⟩
     ·rw [q] at z;cases z
     ·have z2:=un.dv b ob _ z
      obtain ⟨e1,_⟩:=ar b _ z
      obtain ⟨e2,_⟩:=CO b _ z2
      rw [e] at e1;cases e1
      exact e2
 cases hk:K.lookup a with
 | some o=>
  have e:=KX a o hk
  rw [ha] at e
  cases e
  refine core (fun _=>none) (fun _=>.inl rfl) (.inr ⟨_,vs.toArray,_,hk,rfl,rfl,rfl,by rw [List.size_toArray,CN];exact hl,by simpa using rv⟩) (fun b u z=>by have z':(none:Option HO)=some u:=z;cases z') (fun b z=>absurd rfl z) fun z=>absurd rfl z
 | none=>
  refine core (fun b=>if b=a then some (.bg {cls:=.type "list",data:=.seq vs.toArray} (.lst (ns.map V.int))) else none) (fun b=>?_) (.inl (.inr ⟨{cls:=.type "list",data:=.seq vs.toArray},if_pos rfl⟩)) (fun b u z=>?_) (fun b z=>?_) fun _=>hk
  ·by_cases hb:b=a
   ·exact .inr ⟨_,_,if_pos hb⟩
   ·exact .inl (if_neg hb)
  ·by_cases hb:b=a
   ·have z':=(if_pos hb).symm.trans z
    cases z'
    subst hb
    exact ⟨ha,by rw [List.length_map];exact hl,vs,_,rv,ha⟩
   ·have z':=(if_neg hb).symm.trans z
    cases z'
  ·by_cases hb:b=a
   ·exact hb
   ·exact absurd (if_neg hb) z
abbrev xn {K:PySem.W.Frag} {h:Heap} (_:K.In h):PySem.W.Frag:=K
theorem CP{l:PySem.W.OpenLaw}{n k:Nat}{q:Program}{loose:List Str}{XP:(Str→Option Value)→Heap→Prop}{YP:World→Heap→Prop}{d:DefRec}{K:Params→PySem.W.Frag}{CX:World→dw}{sp:World→Sp}{x:Str}
  (hn:l.most=some n) (CQ:n≤sizeLine) (mP:d.params.defaults=[]) (hr:cC k callerA)
  (hY:∀(w:World) (h:Heap),YP w h→(K w.params).In h)
  (F:∀(w:World) (mg:Str→Option Value) (fa:Addr) (h:Heap),(K w.params).In h→h.Ns mainGlobals mg→mg d.name=some (.ref fa)→
   ∃fd:FuncData,(∀(s:Shared) (u:Value),BindsTo s fd ⟨[u],[]⟩ [(x,u)]) ∧
    ∀base:Heap,(K w.params).In base→base.Ns mainGlobals mg→bw l.prog w (K w.params) mg base (CX w) k fa fd [x] (sp w))
  (fQ:∀(w:World) (H:Hp) (a:Addr) (ns:List Int),ns.length≤n→sG H→aX (K w.params) H a (ns.map V.int)→sp w [.ref a] H (fun v _=>v=.bl true) fun _ _ _=>False)
  (sI:∀(w:World) (H:Hp) (s:Shared) (e:Value) (s':Shared),CX w [] H s (fun _ _ _=>False) e s'→False) :
  PySem.W.WalkO q loose XP YP l.row.toRowW d [] (fun f vs=>PySem.call f vs):=by
 refine oT.CJ hn mP fun w s₀ s₁ mg mb fa o pm cd doc a vs ns G Y ho hd df mQ sF hints hlen hg=>?_
 have KX:=hY w _ Y
 obtain ⟨fd,hb,hF⟩:=F w mg fa _ KX G.T.g mQ
 exact CK KX G.T.g G.T.b G.T.builtins G.T.nolimit hg sF hints (Nat.le_trans hlen CQ) hr hF hb (fun H hO hS=>fQ w H a ns hlen hO hS) fun H e s'=>sI w H s₁ e s'
def oW(s:Stmt):Arguments:=match s with
 | .FunctionDef _ a _ _ _ _ _ _ _ _=>a
 | _=>{posonlyargs:=[],args:=[],vararg:=none,kwonlyargs:=[],kw_defaults:=[],kwarg:=none,defaults:=[]}
def j_(s:Stmt):List Stmt:=match s with
 | .FunctionDef _ _ b _ _ _ _ _ _ _=>b
 | _=>[]
def bo(s:Stmt):Scope:=match s with
 | .FunctionDef _ _ _ _ _ _ sc _ _ _=>sc
 | _=>{kind:=.function,names:=[],isGenerator:=false,isCoroutine:=false}
abbrev bW:dw:=fun _ _ _ _ _ _=>False
abbrev E0:XK:=fun _ _ _=>False
theorem bb{X:Cx}:Passes bW X E0:=fun _ _ _ _ _ _ _ h=>h.elim
structure aI (K:PySem.W.Frag) (x qual:Str) (st:Stmt) (f:Addr) (fd:FuncData):Prop where
 ex:∃(oc:Value) (od:Option Addr) (kV doc pm:Value) (an:Option Addr) (aH ct:Value) (fP:Array (Option Value)),
  fd=PySem.W.fnOf x qual (oW st) (j_ st) (bo st) .none kV doc pm an aH ct∧K.lookup f=some ⟨oc,od,.func fd,fP⟩∧PySem.W.codeIn K aH qual=true
 kp:PySem.W.keepIn K (.ref f)=true
section
variable {P:Program} {w:World} {K:PySem.W.Frag} {mg:Str→Option Value} {base:Heap}
theorem aI.ok{x qual:Str}{st:Stmt}{f:Addr}{fd:FuncData}{N ps:List Str}{k:Nat}{sp:Sp}(F:aI K x qual st f fd)(S:bQ N ps (bo st))(len:∀vs H Q E,sp vs H Q E→vs.length=ps.length)
  (mM:∀(aH:Value) (A:Around) (outer:List Env) (s:Shared) (H:Hp) (vs:List V) (Q:VK) (E:XK),cC k (A.deeper (envOfC qual (bo st) s.heap.objs.size f aH))→sp vs H Q E→
   ∃t,de (hG bW P w K mg base N qual (bo st) f aH A outer s H E).jW (j_ st) t∧t {nx:=fun _ H'=>Q .aF H',rt:=Q} (start N vs) H):bw P w K mg base bW (k+1) f fd ps sp:=by
 obtain ⟨oc,od,kV,doc,pm,an,aH,ct,fP,rfl,lk,df⟩:=F.ex
 refine wQ lk df S len fun A outer s H vs Q E hr fQ=>?_
 obtain ⟨t,h,q⟩:=mM aH A outer s H vs Q E hr fQ
 exact ⟨t,h.jW,q⟩
theorem aI.binds{x qual:Str}{st:Stmt}{f:Addr}{fd:FuncData}{ps:List Str}(F:aI K x qual st f fd)
  (h:∀(kV doc pm:Value) (an:Option Addr) (aH ct:Value) (us:List Value),us.length=ps.length→bindArgs (PySem.W.fnOf x qual (oW st) (j_ st) (bo st) .none kV doc pm an aH ct) ⟨us,[]⟩=pure (ps.zip us)):Binds K fd ps []:=by
 obtain ⟨oc,od,kV,doc,pm,an,aH,ct,fP,rfl,lk,df⟩:=F.ex
 exact .all (h kV doc pm an aH ct)
theorem b9{x qual:Str}{st:Stmt}{f:Addr}{oc:Value}{od an:Option Addr}{fP:Array (Option Value)}{kV doc pm aH ct:Value}(l:K.lookup f=some ⟨oc,od,.func (PySem.W.fnOf x qual (oW st) (j_ st) (bo st) .none kV doc pm an aH ct),fP⟩)
  (c:PySem.W.codeIn K aH qual=true) (k:PySem.W.keepIn K (.ref f)=true):aI K x qual st f (PySem.W.fnOf x qual (oW st) (j_ st) (bo st) .none kV doc pm an aH ct):=⟨⟨oc,od,kV,doc,pm,an,aH,ct,fP,rfl,l,c⟩,k⟩
end
theorem cx{n:Nat}(h:n≤1000):n<sizeLine:=Nat.lt_of_le_of_lt h (by decide)
section
variable {X:Cx}
theorem pv(i:Nat){x:Str}{pos:Pos}(hN:X.N[i]?=some x:=by rfl)(hv:oq X.env.scope x:=by first | exact Or.inl rfl | exact Or.inr (Or.inl rfl) | exact Or.inr (Or.inr rfl))(hd:(x == ("__debug__":Str))=false:=by decide)
  (df:(x == ("__classdict__":Str))=false:=by decide):PE X (.Name x pos) (vZ i):=Bb hN hv hd df
end
theorem gA{A B:Prop}(h:B):if false=true then A else B:=by
 rw [if_neg Bool.false_ne_true]
 exact h
theorem sJ{A B:Prop}(h:A):if true=true then A else B:=by
 rw [if_pos rfl]
 exact h
theorem bX{c A B:Prop}[Decidable c](h1:c→A)(h2:¬c→B):if c then A else B:=by
 by_cases h:c
 ·rw [if_pos h]
  exact h1 h
 ·rw [if_neg h]
  exact h2 h
def aj(H H':Hp):Prop:=∀b o,H b=some o→H' b=some o
theorem aj.refl(H:Hp):aj H H:=fun _ _ h=>h
theorem aj.trans{H H1 H2:Hp}(a:aj H H1)(b:aj H1 H2):aj H H2:=fun c o h=>b c o (a c o h)
theorem aj.seq{K:PySem.W.Frag}{H H':Hp}{a:Addr}{xs:List V}(e:aj H H')(h:aX K H a xs):aX K H' a xs:=by
 rcases h with (h | ⟨o,h⟩) | h
 ·exact .inl (.inl (e _ _ h))
 ·exact .inl (.inr ⟨o,e _ _ h⟩)
 ·exact .inr h
end L2
set_option maxHeartbeats 4000000
namespace L2
open PySem PySem.Spec PyProof.Rows
structure oX (P:Program) (w:World) (outer:List Env) (H:Hp) (s:Shared) (H':Hp) (ea C:Addr) (B:Heap) (t:Addr) (s':Shared):Prop where
 os:s'.os=s.os
 bare:AllBare s'.gens
 fl:Heap.FlyingW B outer ea (.ref C) (.ref t) s'.heap
 ar:bj P w H' B
 kb:∀b o,s.heap.get? b=some o→H b=none→b∉bG outer→B.get? b=some o
 tb:∀b o,s.heap.get? b=some o→b∉bG outer→∃o',B.get? b=some o'
 sl:∀b o,s.heap.get? b=some o→H b=none→b∈bG outer→∃l,s'.heap.get? b=some {o with slots:=l}
 LV:∀b∈bG outer,H b=none
 CS:∀b o,s.heap.get? b=some o→H b=none→H' b=none
 da:∀b xs,H b=some (.tup xs)→H' b=some (.tup xs)
 dv:∀b o u,H b=some (.bg o u)→H' b=some (.bg o u)
 dP:∀b ps,H b=some (.gp ps)→∃more,H' b=some (.gp (ps++more))
def fq(P:Program)(w:World):dw:=fun outer H s E e s'=>∃ea C H' B t,e=.ref ea∧oX P w outer H s H' ea C B t s'∧E (.ref C) none H'
section
variable {P:Program} {w:World} {outer:List Env} {H H':Hp} {s s':Shared} {ea C t:Addr} {B:Heap}
def ExcAt(ea C:Addr)(h:Heap):Prop:=∃oe,h.get? ea=some oe∧oe.cls=.ref C∧PySem.W.notCls oe=true
def CT(ea C:Addr):HO:=.ext (ExcAt ea C)
end
section
variable {X:Cx} {pins:List (Addr×Obj)} {σ:St} {H H':Hp} {s s':Shared} {ea C t:Addr} {B:Heap}
structure mR (X:Cx) (E:XK):Prop where
 d9:X.stack=X.env::X.outer
 fr:X.env.frame=some X.env.locals
 ex:X.ex=[]
 xe:X.xe=fun e s'=>wpAny (model X.prog X.w) X.A (leaving X.env e) (fun _ fO=>fq X.prog X.w X.outer X.H₀ X.s₀ E e fO) (fun e' fO=>fq X.prog X.w X.outer X.H₀ X.s₀ E e' fO) s'
theorem oY{env:Env}{outer:List Env}{L:Addr}(h:env.frame=some L):bG (env::outer)=L::bG outer:=by
 unfold bG
 rw [List.filterMap_cons,h]
theorem oX.leave{E:XK}(L:mR X E)(I:Inv X pins σ H s)(f:oX X.prog X.w X.stack H s H' ea C B t s'){h:Heap}(x:Heap.FlyingW B X.outer ea (.ref C) (.ref t) h)(up:s'.heap.UpToSlots h):oX X.prog X.w X.outer X.H₀ X.s₀ H' ea C B t {s' with heap:=h}:=by
 have nL:∀b o,X.s₀.heap.get? b=some o→b≠X.env.locals:=fun b o e=>Nat.ne_of_lt (Nat.lt_of_lt_of_le (Heap.lt_size e) I.ok.above)
 have ns:∀b o,X.s₀.heap.get? b=some o→b∉bG X.outer→b∉bG X.stack:=fun b o e nb z=>by
  rw [L.d9,oY L.fr] at z
  rcases List.mem_cons.mp z with z | z
  ·exact nL b o e z
  ·exact nb z
 have nx:∀b:Addr,b∉X.ex:=fun b z=>by rw [L.ex] at z;cases z
 refine ⟨f.os.trans I.os,f.bare,x,f.ar,fun b o e n nb=>?_,fun b o e nb=>?_,fun b o e n hb=>?_,I.ok.gY,fun b o e n=>?_,fun b xs e=>f.da b xs (I.base.da b xs e),fun b o u e=>f.dv b o u (I.base.dv b o u e),fun b ps e=>?_⟩
 ·exact f.kb b o (I.base.keep b o e n nb (nx b)) (I.base.free b o e n (nx b)) (ns b o e nb)
 ·obtain ⟨o',e'⟩:=I.base.there b o e (nx b)
  exact f.tb b o' e' (ns b o e nb)
 ·obtain ⟨l,q⟩:=I.base.slot b o e n hb (nx b)
  have hs:b∈bG X.stack:=by rw [L.d9,oY L.fr];exact List.mem_cons_of_mem _ hb
  obtain ⟨l2,q2⟩:=f.sl b _ q (I.base.free b o e n (nx b)) hs
  obtain ⟨_,o2,q3,nf⟩:=f.fl.2.2.1.mem hs
  rw [q2] at q3
  cases q3
  obtain ⟨l3,q4⟩:=up b _ q2 nf
  exact ⟨l3,q4⟩
 ·obtain ⟨o',e'⟩:=I.base.there b o e (nx b)
  exact f.CS b o' e' (I.base.free b o e n (nx b))
 ·obtain ⟨m1,e1⟩:=I.base.dP b ps e
  obtain ⟨m2,e2⟩:=f.dP b _ e1
  exact ⟨m1++m2,by rw [e2,Array.append_assoc]⟩
theorem sL:Passes (fq X.prog X.w) X (fun _ _ _=>False):=fun pins σ H s e s' I h=>by
 obtain ⟨_,_,_,_,_,_,_,q⟩:=h
 exact q.elim
theorem sM{E:XK}(L:mR X E):Passes (fq X.prog X.w) X E:=fun pins σ H s e s' I h=>by
 obtain ⟨ea,C,H',B,t,rfl,f,q⟩:=h
 rw [L.xe]
 refine wpAny_leaves_onW (by rw [I.ok.frames,L.d9]) L.fr (by have z:=f.fl;rw [L.d9] at z;exact z) fun h' x up=>?_
 exact ⟨ea,C,H',B,t,rfl,f.leave L I x up,q⟩
end
theorem CU{K:PySem.W.Frag}{h:Heap}{C:Addr}{kd:List Value}{newId:String}(bK:K.In h)(hq:PySem.W.excIn K C kd newId=true) :
  ∃bm N nm qn bs hdct sn sub ab col dd k0 k1 k2 k3 k5 mN,h.get? C=some (excClassObj nm qn C N bs bm hdct sn sub ab col dd k0 k1 k2 k3 k5 newId)∧h.Ns N mN∧mN "__init__" = none∧OwnTail h kd bm∧PySem.W.mroIn K C=fun b=>some ((Value.ref C::bm).contains b):=by
 unfold PySem.W.excIn at hq
 split at hq
 ·rename_i ke cls slt look
  split at hq
  ·rename_i CC rest a0 a1 a2 a3 nn a5 em es
   simp only [Bool.and_eq_true,beq_iff_eq,Bool.not_eq_true'] at hq
   obtain ⟨⟨⟨⟨⟨e1,e2⟩,e3⟩,e4⟩,e5⟩,e6⟩:=hq
   subst e1 e2
   have CV:PySem.W.mroIn K CC=fun b=>some ((Value.ref CC::rest).contains b):=by
    funext b
    unfold PySem.W.mroIn PySem.W.clsIn
    rw [look]
    simp [em]
   obtain ⟨c1,c2,c3,c4,c5,c6,c7,c8,c9,CW,LW⟩:=cls
   dsimp only at em e3 e5 e6
   subst em e3
   have CY:slt = #[a0,a1,a2,a3,some (.builtin nn),a5]:=by
    obtain ⟨ll⟩:=slt
    simp only at es
    rw [es]
   subst CY
   exact ⟨rest,c4,c1,c5,c2,c6,c7,c8,c9,CW,ke,a0,a1,a2,a3,a5,_,bK _ _ look,.of_isNs (PySem.W.isNs_of_in bK e5),PySem.W.nsMap_none_of_in bK e5 e6,PySem.W.tail_of_in bK e4,CV⟩
  ·cases hq
 ·cases hq
section
variable {X:Cx} {E:XK} {x:Str} {C:Addr} {np dy pos:Pos} {e:Expr} {es:List Expr} {ta:TA} {B newId CZ:String} {kd:List Value}
def C0(C:Addr)(E:XK)(ta:TA):TS:=fun _ σ H=>ta σ H fun vs H1=>vs.length≤sizeLine∧E (.ref C) none H1
theorem C1(L:mR X E)(hc:X.calm=true)(FB:ExcBaseFacts B newId CZ kd)(hq:PySem.W.excIn X.K C kd newId=true)(hg:Gl X x)(hm:X.mg x=some (.ref C))(ha:PA X (e::es) ta)
  (hs:starEach (e::es) X.env=(false,eval e X.env)::starEach es X.env:=by rfl) (hp:(backTo dy (starEach es X.env)).any (·.1)=false:=by rfl) (hd:(x == ("__debug__":Str))=false:=by decide) :
  PS X (.Raise (some (.Call (.Name x np) (e::es) [] dy)) none pos) (C0 C E ta):=by
 intro pins s σ H D I h
 obtain ⟨bm,N,nm,qn,bs,hdct,sn,sub,ab,col,dd,k0,k1,k2,k3,k5,mN,hC,hN,C2,T,_⟩:=CU I.ok.mod.bK hq
 refine wpAny_Raise_call_subT (C:=C) (nm:=nm) (q:=qn) (N:=N) (bs:=bs) (bm:=bm) (hdct:=hdct) (sn:=sn) (sub:=sub) (ab:=ab) (col:=col) (dd:=dd) (k0:=k0) (k1:=k1) (k2:=k2) (k3:=k3) (k5:=k5) FB (mN:=mN) (T.hasType FB.hasBase) (I.ok.hd hc)
  (by rw [hs];show (false || (backTo dy (starEach es X.env)).any (·.1))=false;rw [hp];rfl) C2 (v_ I hg hm ⟨rfl,?_⟩ hd)
 have h1:=ha dy pins s σ H _ I h
 rw [hs] at h1 ⊢
 refine Calls.evalArgs_plain (ay h1 fun us s2 ⟨vs,H1,I1,r,hl,q⟩=>⟨rfl,by rw [←r.length];exact hl,I1.bk _ _ hC,hN.keeps I1.bk,T.keeps I1.bk,fun h' ea mk=>?_⟩)
 rw [L.xe]
 have nL:∀b o,X.s₀.heap.get? b=some o→b≠X.env.locals:=fun b o q=>Nat.ne_of_lt (Nat.lt_of_lt_of_le (Heap.lt_size q) I1.ok.above)
 have ns:∀b o,X.s₀.heap.get? b=some o→b∉bG X.outer→b∉bG X.stack:=fun b o q nb z=>by
  rw [L.d9,oY L.fr] at z
  rcases List.mem_cons.mp z with z | z
  ·exact nL b o q z
  ·exact nb z
 have nx:∀b:Addr,b∉X.ex:=fun b z=>by rw [L.ex] at z;cases z
 have ff:s2.heap.FunFrames (PySem.W.hideAll s2.heap (bG X.stack)) (X.env::X.outer):=by
  have z:=I1.stack
  rw [←L.d9]
  exact PySem.W.funFrames_hide z fun env he a hf=>List.mem_filterMap.mpr ⟨env,he,hf⟩
 refine wpAny_leaves_madeW (base:=PySem.W.hideAll s2.heap (bG X.stack)) (h:=s2.heap) (by rw [I1.ok.frames,L.d9]) L.fr (fun b o q=>PySem.W.of_hideAll _ q) ff mk fun h2 t fl _ _ up=>?_
 refine ⟨ea,C,H1,_,t,rfl,⟨I1.os,I1.bare,fl,fun a o e1=>?_,fun b o e1 n nb=>?_,fun b o e1 nb=>?_,fun b o e1 n hb=>?_,I1.ok.gY,fun b o e1 n=>?_,I1.base.da,I1.base.dv,I1.base.dP⟩,q⟩
 ·refine (I1.ar a o e1).fJ (fun b u hb e2=>PySem.W.hideAll_get _ e2 fun z=>?_) (fun _ z=>z) fun _ _ z=>z
  have n0:=I1.ou b z
  rcases hb with hb | hb
  ·subst hb
   rw [e1] at n0
   cases n0
  ·rw [hb] at n0
   cases n0
 ·exact PySem.W.hideAll_get _ (I1.base.keep b o e1 n nb (nx b)) (ns b o e1 nb)
 ·obtain ⟨o',e2⟩:=I1.base.there b o e1 (nx b)
  exact ⟨o',PySem.W.hideAll_get _ e2 (ns b o e1 nb)⟩
 ·obtain ⟨l,e2⟩:=I1.base.slot b o e1 n hb (nx b)
  have oE:b∈bG X.stack:=by rw [L.d9,oY L.fr];exact List.mem_cons_of_mem _ hb
  obtain ⟨_,o2,e3,nf⟩:=I1.stack.mem oE
  rw [e2] at e3
  cases e3
  obtain ⟨l2,e4⟩:=up b _ (mk.keeps _ _ e2) nf
  exact ⟨l2,e4⟩
 ·obtain ⟨o',e2⟩:=I1.base.there b o e1 (nx b)
  exact I1.base.free b o e1 n (nx b)
end
section
variable {X:Cx} {k:Nat} {f C:Addr} {fd:FuncData} {ps:List Str} {sp:Sp} {fN:List V} {ds:List Value} {x m:Str} {p pos apos:Pos} {e o:Expr} {es:List Expr} {ta:TE} {t:TA}
variable {te:TX} {i:Nat} {pos':Pos}
end
section
variable {X:Cx} {pins:List (Addr×Obj)} {σ:St} {H:Hp} {s:Shared} {ea:Addr}
end
section
variable {M:Model} {A:Around} {E:Value→Shared→Prop} {h:Heap} {g:Array GenState} {d:Drawn} {t:Nat} {os:OsState} {e:Addr} {oe:Obj} {Q:Bool→Shared→Prop}
variable {nm q LX q':Str} {C N D N':Addr} {bs bm LY LZ:List Value} {hdct L0:Bool} {sn L3:List Str} {sub xo:List Value} {ab L4:Bool} {col L5:Option Bool} {dd hW:Option Addr} {k0 k1 k2 k3 k5 j0 j1 j2 j3 j5:Option Value} {newId L6:String}
end
section
variable {X:Cx} {body:List Stmt} {b₀:Stmt} {L7:List Stmt} {np L8 pos:Pos} {x n:Str} {D:Addr} {tb:L9} {ts:TS} {kd:List Value} {newId:String} {i:Nat}
end
section
variable {P:Program} {w:World} {K:PySem.W.Frag} {mg:Str→Option Value} {base:Heap}
theorem aI.oZ{x qual:Str}{st:Stmt}{f:Addr}{fd:FuncData}{N ps:List Str}{k:Nat}{sp:Sp}(F:aI K x qual st f fd)(S:bQ N ps (bo st))(len:∀vs H Q E,sp vs H Q E→vs.length=ps.length)
  (mM:∀(aH:Value) (A:Around) (outer:List Env) (s:Shared) (H:Hp) (vs:List V) (Q:VK) (E:XK),cC k (A.deeper (envOfC qual (bo st) s.heap.objs.size f aH))→sp vs H Q E→
   mR (hG (fq P w) P w K mg base N qual (bo st) f aH A outer s H E) E→
   ∃t,de (hG (fq P w) P w K mg base N qual (bo st) f aH A outer s H E) (j_ st) t∧t {nx:=fun _ H'=>Q .aF H',rt:=Q} (start N vs) H):bw P w K mg base (fq P w) (k+1) f fd ps sp:=by
 obtain ⟨oc,od,kV,doc,pm,an,aH,ct,fP,rfl,lk,df⟩:=F.ex
 exact wQ lk df S len fun A outer s H vs Q E hr fQ=>mM aH A outer s H vs Q E hr fQ ⟨rfl,rfl,rfl,rfl⟩
end
structure iU (K:PySem.W.Frag) (C:Addr):Prop where
 ci:PySem.W.hasDictIn K C=true
 ga:PySem.W.findIn K (.ref C) "__getattribute__" = some (some (.builtin "BaseException.__getattribute__"))
 gn:PySem.W.findIn K (.ref C) "__getattr__" = some none
 ca:PySem.W.findIn K (.ref C) "__class__" = some (some (.builtin "object.__class__"))
 mo:PySem.W.mroIn K C (.type "object")=some true
 mb:PySem.W.mroIn K C (.type "BaseException")=some true
section
variable {prog:Program} {w:World} {A:Around} {E:Value→Shared→Prop} {h:Heap} {g:Array GenState} {d:Drawn} {t:Nat} {os:OsState} {K:PySem.W.Frag} {a C:Addr} {o:Obj}
theorem C3{R:Result→Shared→Prop}(bK:K.In h)(c:iU K C)(hx:h.get? a=some o)(hc:o.cls=.ref C)(hq:R (.ok (.ret (.ref C))) ⟨h,g,d,t,os⟩) :
  codeAny (model prog w) A (.call (.builtin "getset_descriptor.__get__") ⟨[.builtin "object.__class__",.ref a,.ref C],[]⟩) R ⟨h,g,d,t,os⟩:=by
 have xp:(⟨h,g,d,t,os⟩:Shared).TypeIs (.builtin "object.__class__") "getset_descriptor":=F.typeOf_object_class
 have L1:=PySem.W.looks_mroIn (M:=model prog w) bK c.mo
 have ow:=F.owner_object_class
 refine codeAny_call_builtin F.slot_gs_get.plain F.entry_gs_get (F.slot_gs_get.check _ _ _ _ _ _ _ _ xp (F.args_gs_get _ _ _) ?_)
 repeat (any_goals (first | assumption | (with_reducible refine wpAny_loadPart_at hx ?_;rw [hc]) | (rw [ow];with_reducible refine L1.at ?_) | wp_step))
 refine ⟨Code.quiet_builtin _ (by decide +kernel),codeAny_builtin F.entry_object_class ?_⟩
 repeat (any_goals (first | assumption | (with_reducible refine wpAny_loadPart_at hx ?_;rw [hc]) | wp_step))
theorem C4{tk:Tok}{Q:Fin→Shared→Prop}(bK:K.In h)(c:iU K C)(hx:h.get? a=some o)(hc:o.cls=.ref C)(hq:Q (.done (.ret (.ref C))) ⟨h,g,d,t,os⟩) :
  wpAny (model prog w) A (Builtin.«object.__getattribute__» ⟨[.ref a,.str "__class__" tk],[]⟩) Q E ⟨h,g,d,t,os⟩:=by
 have xp:(⟨h,g,d,t,os⟩:Shared).TypeIs (.builtin "object.__class__") "getset_descriptor":=F.typeOf_object_class
 have L1:=PySem.W.looks_findIn (M:=model prog w) bK c.ca
 have f5:=F.typeOf_object_class
 have f6:=F.slot_gs_get.lookup
 have f7:=F.slot_gs_set.lookup
 repeat (any_goals (first | assumption | (with_reducible refine wpAny_loadPart_at hx ?_;rw [hc]) | with_reducible refine L1.at ?_ | wp_step))
 refine C3 bK c hx hc ?_
 repeat (any_goals (first | assumption | wp_step))
theorem C5{M:Model}{nv:Value}{Q:Unit→Shared→Prop}(bK:K.In h)(c:iU K C)(hx:h.get? a=some o)(hc:o.cls=.ref C)(hq:Q () ⟨h,g,d,t,os⟩) :
  wpAny M A (checkBuiltinCall "BaseException.__getattribute__" ⟨[.ref a,nv],[]⟩) Q E ⟨h,g,d,t,os⟩:=by
 have hk:builtinKind "BaseException.__getattribute__" = some .slot:=by decide +kernel
 have hs:splitId "BaseException.__getattribute__" = some ("BaseException","__getattribute__"):=by decide +kernel
 have L1:=PySem.W.looks_mroIn (M:=M) bK c.mb
 have ha:=F.args_bexc_ga (.ref a) nv
 simp only [checkBuiltinCall,hk,hs]
 refine wpAny_bind ?_
 unfold isInstance
 repeat (first | (with_reducible refine wpAny_loadPart_at hx ?_;rw [hc]) | with_reducible refine L1.at ?_ | wp_step)
 exact hq
theorem C6{tk:Tok}{fill expr:Bool}{Q:Value→Shared→Prop}(bK:K.In h)(c:iU K C)(hx:h.get? a=some o)(hc:o.cls=.ref C)(hq:Q (.ref C) ⟨h,g,d,t,os⟩) :
  wpAny (model prog w) A (getAttrBy (.ref a) (.str "__class__" tk) fill expr) Q E ⟨h,g,d,t,os⟩:=by
 have f3:=F.attrBase_ValueError.ga.bind (.ref a)
 have z0:(expr && onTheHeap (Value.builtin "BaseException.__getattribute__"))=false:=by cases expr <;> rfl
 have z2:(Value.builtin "BaseException.__getattribute__" == Value.builtin "object.__getattribute__")=false:=by decide +kernel
 have z1:(onTheHeap (Value.ref C) && Value.builtin "BaseException.__getattribute__" == Value.builtin "object.__getattribute__")=false:=by rw [z2];rfl
 have L1:=PySem.W.looks_findIn (M:=model prog w) bK c.ga
 have L2:=PySem.W.looks_findIn (M:=model prog w) bK c.gn
 repeat (any_goals (first | assumption | (with_reducible refine wpAny_loadPart_at hx ?_;rw [hc]) | with_reducible refine L1.at ?_ | with_reducible refine L2.at ?_ | wp_step))
 refine codeAny_call_builtin F.attrBase_ValueError.ga.plain F.entry_bexc_ga (C5 bK c hx hc (C4 bK c hx hc ?_))
 repeat (any_goals (first | assumption | wp_step))
theorem C7{Q:Option Value→Shared→Prop}(bK:K.In h)(c:iU K C)(hx:h.get? a=some o)(hc:o.cls=.ref C)(hq:Q (some (.ref C)) ⟨h,g,d,t+1,os⟩) :
  wpAny (model prog w) A (getAttr? (.ref a) "__class__") Q E ⟨h,g,d,t,os⟩:=by
 unfold getAttr? getAttrBy?
 repeat (any_goals (first | assumption | with_reducible apply C6 bK c hx hc | wp_step))
theorem C8(c:iU K C):PySem.W.KitX K (.ref a) (.ref C) (ExcAt a C) where
 ty:=fun M h _ k=>by
  obtain ⟨oe,e1,e2,_⟩:=k
  exact e2▸(PySem.W.Looks.ld e1).andThen .now
 it:=fun M h bK _=>by
  obtain ⟨cd,hc,_⟩:=PySem.W.any_some c.ci
  unfold PySem.W.clsIn at hc
  split at hc
  ·rename_i look
   intro A' Q' E' s' k q
   unfold isType loadHead
   exact wpAny_bind (wpAny_loadPart (k _ _ (bK _ _ look)) (wpAny_pure q))
  ·cases hc
 ne:=fun h tp dd ai n sl bK C9=>by
  obtain ⟨cd,hc,_⟩:=PySem.W.any_some c.ci
  refine Bool.eq_false_iff.mpr fun q=>?_
  have e:C=tp:=Value.ref.inj (beq_iff_eq.mp q)
  subst e
  unfold PySem.W.clsIn at hc
  split at hc
  ·rename_i look
   have z:=(bK _ _ look).symm.trans C9
   cases z
  ·cases hc
 ca:=fun{prog w A E Q s} bK k z=>by
  obtain ⟨oe,e1,e2,_⟩:=k
  obtain ⟨h,g,d,t,os⟩:=s
  exact C7 bK c e1 e2 z
end
def dU(a:Addr)(h:Heap):Prop:=∃o ep,h.get? a=some o∧o.ExactDict∧o.data=.dict #[] ep∧(a == sysModules)=false
theorem dU.o6{a:Addr}{h:Heap}(e:dU a h):PySem.W.KitAt a "dict" h:=by
 obtain ⟨o,_,e,c,_⟩:=e
 exact ⟨o,e,c.1⟩
def sN(a:Addr):HO:=.ext (dU a)
inductive mS (K:PySem.W.Frag) (H:Hp):V→Value→Prop where
 | of {x:V} {t:Value} (h:ee K H x t):mS K H x t
 | exc {a C:Addr} (e:H a=some (CT a C)) (c:iU K C):mS K H (.ref a) (.ref C)
 | ke {a:Addr} (e:H a=some (sN a)):mS K H (.ref a) (.type "dict")
def xq:V→Value
 | .ty n=>.type n
 | .ref a=>.ref a
 | _=>.none
def C_:V→Bool
 | .ty _=>true
 | .ref _=>true
 | _=>false
def Dc(K:PySem.W.Frag):List V→Hp→VK→Prop:=fun xs H Q=>∃x c t b,xs=[x,c]∧C_ c=true∧mS K H x t∧PySem.W.kitOne K t (xq c)=some b∧Q (.bl b) H
theorem mT{X:Cx}{K:PySem.W.Frag}(hK:X.K=K:=by rfl):dg X (.builtin "isinstance") (Dc K):=by
 intro pins s σ H xs us Q I r h
 subst hK
 obtain ⟨x,c,t,b,rfl,hc,ty,e,q⟩:=h
 obtain ⟨u,cv,rfl,rx,rc⟩:=vals2 r
 have ec:cv=xq c:=by
  cases c with
  | ty n=>exact rc
  | ref a=>exact rc
  | _=>cases hc
 subst ec
 cases ty with
 | of ty=>exact BO I rx ty e fun tk=>⟨.bl b,H,I.tok tk,rfl,q⟩
 | @ke a ea=>
  cases rx
  obtain ⟨k,_,_⟩:=(show a_ X.prog X.w H s.heap a (.ext (dU a)) from I.ar a _ ea)
  exact PySem.W.kia_one PySem.W.kitx_dict I.cI k.o6 e (fun z=>nomatch z) fun tk=>⟨.bl b,H,I.tok tk,rfl,q⟩
 | @exc a C ea cc=>
  cases rx
  obtain ⟨k,_,_⟩:=(show a_ X.prog X.w H s.heap a (.ext (ExcAt a C)) from I.ar a _ ea)
  exact PySem.W.kia_one (C8 cc) I.cI k e (fun z=>nomatch z) fun tk=>⟨.bl b,H,I.tok tk,rfl,q⟩
theorem boot_isinstance:bootBuiltins "isinstance" = some (.builtin "isinstance"):=by decide +kernel
theorem boot_min:bootBuiltins "min" = some (.builtin "min"):=by decide +kernel
theorem boot_max:bootBuiltins "max" = some (.builtin "max"):=by decide +kernel
theorem boot_int:bootBuiltins "int" = some (.type "int"):=by decide +kernel
theorem boot_bool:bootBuiltins "bool" = some (.type "bool"):=by decide +kernel
theorem boot_tuple:bootBuiltins "tuple" = some (.type "tuple"):=by decide +kernel
theorem boot_list:bootBuiltins "list" = some (.type "list"):=by decide +kernel
end L2
namespace My
open PySem L2
end My
namespace L2
open PySem PySem.Spec PyProof.Rows
abbrev Cx.bJ (X:Cx) (N:List Str) (scope:Scope) (cl:List (Str×Addr)) (s₃:Shared) (H₃:Hp) (fp:List Addr):Cx:=
 {X with N:=N,s₀:=s₃,H₀:=H₃,env:=compEnvC scope cl s₃.heap.objs.size X.env,outer:=X.stack,stack:=X.stack,ex:=fp,fn:=fun _=>false,pn:=[],xe:=fun _ _=>False}
inductive kf (X:Cx):List Expr→TT→Prop where
 | nil:kf X [] (fun _ H Q=>Q true H)
 | one {c:Expr} {t:TT} (h:PT X c t):kf X [c] t
def en(wi:TI)(ρ:St→St)(tt:TT)(te:TE):TE:=fun σ H Q=>wi σ H fun J H1=>∀D,H1 D=none→∃W:Nat→Nat→List V→Hp→Prop,(∃m,W 0 m [] (upd H1 D (.lst []))) ∧
 ∀i m ys Hc,W i m ys Hc→Hc D=some (.lst ys)∧((J.stop i Hc∧Q (.ref D) Hc)∨(J.go i Hc∧∀x H',J.cW i Hc x H'→tt (some x::ρ σ) H' fun b H2=>
  if b=true then te (some x::ρ σ) H2 fun y H3=>H3 D=some (.lst ys)∧ys.length<sizeLine∧∃m',m'<m∧W (i+1) m' (ys++[y]) (upd H3 D (.lst (ys++[y]))) else ∃m',m'<m∧W (i+1) m' ys H2))
section
variable {X:Cx} {N:List Str} {scope:Scope} {cl:List (Str×Addr)} {x:Str} {px pos:Pos} {iter elt:Expr} {ifs:List Expr} {wi:TI} {ρ:St→St} {tt:TT} {te:TE}
structure xr (X:Cx) (N:List Str) (scope:Scope) (cl:List (Str×Addr)) (x:Str) (ρ:St→St):Prop where
 xt:closureFor scope X.env=pure cl
 kind:scope.kind=.function
 xu:∀y∈scope.names,y.2≠.cell
 names:∀y∈scope.names,y.2=.local→scope.names.lookup y.1=some .local
 sub:∀p∈cl,X.env.cells.lookup p.1=some p.2
 has:∀y,((relabel scope X.env).names.lookup y=some .cell∨(relabel scope X.env).names.lookup y=some .free)→∃c,cl.lookup y=some c
 n0:N[0]?=some x
 nd:N.Nodup
 hx:scope.names.lookup x=some .local
 xv:∀(σ:St) (j:Nat) (v:V),(ρ σ)[j]?=some (some v)→∃(i:Nat) (y:Str),N[j+1]?=some y∧X.N[i]?=some y∧σ[i]?=some (some v)∧oq X.env.scope y∧(X.env.kindOf y=some .cell∨X.env.kindOf y=some .free)∧((relabel scope X.env).names.lookup y=some .cell∨(relabel scope X.env).names.lookup y=some .free)
 len:∀σ:St,σ.length=X.N.length→(ρ σ).length+1=N.length
theorem ft{names:List (Str×NameKind)}{cl:List (Str×Addr)}(h:(names.all fun q=>(q.2 != .cell && q.2 != .free) || (cl.lookup q.1).isSome)=true) :
  ∀y,(names.lookup y=some .cell∨names.lookup y=some .free)→∃c,cl.lookup y=some c:=fun y hy=>by
 have key:∀k:NameKind,(k != .cell && k != .free)=false→names.lookup y=some k→∃c,cl.lookup y=some c:=fun k hk e=>by
  have z:=List.all_eq_true.mp h (y,k) (PySem.mem_of_lookup e)
  rw [hk,Bool.false_or] at z
  exact Option.isSome_iff_exists.mp z
 rcases hy with e | e
 ·exact key .cell rfl e
 ·exact key .free rfl e
theorem join_some{o:Option (Option V)}{v:V}(h:some o.join=some (some v)):o=some (some v):=by
 cases o with
 | none=>cases h
 | some o=>cases h;rfl
theorem iV(B:xr X N scope cl x ρ)(hc:X.calm=true)(hi:PI X (.Name x px) iter wi)(ht:∀s₃ H₃ fp,kf (X.bJ N scope cl s₃ H₃ fp) ifs tt)(he:∀s₃ H₃ fp,PE (X.bJ N scope cl s₃ H₃ fp) elt te)
  (hs:∀x,foldedSetIterable iter X.env x=pure x:=by intro _;rfl):PE X (.ListComp elt [⟨.Name x px,iter,ifs,0⟩] scope pos) (en wi ρ tt te):=by
 intro pins s σ H Q I h
 rw [eval_ListComp]
 refine wpAny_comprehension_free (use:=none) rfl hs B.xt B.kind B.names (ay (hi pins s σ H _ I h) fun v s1 h1=>ay h1 fun oC s2 h2=>?_)
 obtain ⟨it,fp,tn,J,H2,rfl,I2,T,gv,f2,q2⟩:=h2
 have nD:H2 s2.heap.objs.size=none:=I2.ar.fresh (Nat.le_refl _)
 obtain ⟨W,⟨m0,w0⟩,turn⟩:=q2 _ nD
 refine wpAny_newObj_type (wpAny_newFunctionEnv B.xu (by intro y hy;simp at hy) (fun h₁ gB gC=>?_) B.kind)
 dsimp only at gB gC ⊢
 generalize hD:s2.heap.objs.size=D at nD w0 turn gB gC ⊢
 generalize iW:({s2 with heap:=s2.heap.push {cls:=.type "list",dict:=none,data:=.seq ([]:List Value).toArray}}:Shared)=s3
 have I3:Inv X pins σ (upd H2 D (.lst [])) s3:=by
  subst hD iW
  exact I2.laid (t':=s2.toks) (fun b u e=>Heap.get?_push_of_some _ e) (Nat.le_refl _) ⟨Nat.zero_le _,[],_,.nil,Heap.get?_push_size _ rfl⟩
 have e3:s3.heap=s2.heap.push {cls:=.type "list",dict:=none,data:=.seq ([]:List Value).toArray}:=by rw [←iW]
 have gD:∀b o,s2.heap.get? b=some o→s3.heap.get? b=some o:=fun b o e=>by rw [e3];exact Heap.get?_push_of_some _ e
 rw [←e3] at gB gC ⊢
 have below:∀b o,s3.heap.get? b=some o→b≠s3.heap.objs.size:=fun b o e=>Nat.ne_of_lt (Heap.lt_size e)
 have eA:∀b o,s3.heap.get? b=some o→h₁.get? b=some o:=fun b o e=>gC.extBut b o (below b o e) (Heap.get?_push_of_some _ e)
 have iX:∀b∈fp,∃o,s2.heap.get? b=some o∧∀v,o.data≠.cell v:=T.obj _ _ gv
 have sO:∀b∈fp,b≠D:=fun b hb z=>by
  obtain ⟨o,e,_⟩:=iX b hb
  rw [z,←hD] at e
  exact absurd (Heap.lt_size e) (Nat.lt_irrefl _)
 have dz:∀y c,cl.lookup y=some c→X.env.cells.lookup y=some c:=fun y c e=>B.sub (y,c) (PySem.mem_of_lookup e)
 have sP:=I3.ou
 have mU:(X.bJ N scope cl s3 (upd H2 D (.lst [])) fp).Ok:=by
  refine ⟨I.ok.mod,B.kind,I.ok.glob,I.ok.blt,Nat.le_refl _,fun a b c e1 e2=>I.ok.inj a b c (dz a c e1) (dz b c e2),fun y hy=>B.has y hy,(fun _ _ z _=>absurd z Bool.false_ne_true),(fun _=>I.ok.hd hc),I.ok.frames,.inl rfl,fun b hb=>⟨?_,fun y c e z=>?_⟩,fun b o e=>?_,Nat.le_trans I.ok.fK I3.sz,fun b o e hb=>?_,fun b hb z=>?_,I3.stack,sP⟩
  ·obtain ⟨o,e,_⟩:=iX b hb
   exact below b o (gD b o e)
  ·exact (f2 b hb).2.2.2.2.1 y c (dz y c e) z
  ·exact I3.bs b o e
  ·rcases (f2 b hb).2.2.2.1 with z | z
   ·exact I.ok.jS b o e z
   ·exact absurd (Nat.lt_of_lt_of_le (Heap.lt_size e) (Nat.le_trans I.ok.fK z)) (Nat.lt_irrefl _)
  ·rcases List.mem_cons.mp (I3.ot b z) with z | z
   ·exact (f2 b hb).2.1 z
   ·exact (f2 b hb).2.2.1 z
 have IB:∀tk:Nat,Inv (X.bJ N scope cl s3 (upd H2 D (.lst [])) fp) [] (none::ρ σ) (upd H2 D (.lst [])) {s3 with heap:=h₁,toks:=tk}:=fun tk=>by
  refine ⟨mU,rfl,I3.bare,Un.kept eA,⟨_,gB,fun j y v e1 e2 e3=>?_⟩,fun y c e=>?_,?_,fun y c e=>I3.fi y c (dz y c e),(fun p hp=>nomatch hp),I3.ar.kept eA,?_⟩
  ·cases j with
   | zero=>cases e2
   | succ j=>
    obtain ⟨i,y',a1,a2,a3,a4,a5,a6⟩:=B.xv σ j v e2
    have mV:N[j+1]?=some y:=e1
    rw [mV] at a1
    cases a1
    obtain ⟨m,hn,hl⟩:=I3.loc
    obtain ⟨u,r,l⟩:=hl i y v a2 a3 a4
    refine ⟨u,r,.inr ⟨a6,?_⟩⟩
    obtain ⟨c,ec⟩:=B.has y a6
    rcases l with ⟨k,_⟩ | ⟨_,c',mW,z⟩
    ·rcases a5 with q | q <;> (rw [k] at q;cases q)
    ·have:=dz y c ec
     rw [this] at mW
     cases mW
     obtain ⟨o,ho,hd⟩:=z
     exact ⟨c,ec,o,eA _ _ ho,hd⟩
  ·obtain ⟨v,o,ho,hd⟩:=I3.cell y c (dz y c e)
   exact ⟨v,o,eA _ _ ho,hd⟩
  ·exact I3.ar.fresh (Nat.le_refl _)
  ·show (none::ρ σ).length=N.length
   rw [List.length_cons]
   exact B.len σ I.len
 have fin:∀{σ':St} {H':Hp} {s':Shared},Inv (X.bJ N scope cl s3 (upd H2 D (.lst [])) fp) [] σ' H' s'→Q (.ref D) H'→compPost (model X.prog X.w) X.A X.xe none (EP X pins σ Q) (.ref D) s3.heap.objs.size (.ok .next) s':=fun{σ' H' s'} J q=>by
  obtain ⟨m,hn,_⟩:=J.loc
  refine ⟨m,hn,fun h' gE=>⟨.ref D,H',?_,rfl,q⟩⟩
  have old:∀b o,s3.heap.get? b=some o→b≠s3.heap.objs.size:=below
  have u1:Un (bG X.stack) fp (upd H2 D (.lst [])) H' s3.heap h':=by
   refine ⟨fun b o e n hb hx=>?_,fun b o e n hb hx=>?_,J.base.free,fun b o e hx=>?_,J.base.da,J.base.dv,J.base.dP⟩
   ·exact (gE.2 b (old b o e)).trans (J.base.keep b o e n hb hx)
   ·obtain ⟨sl,z⟩:=J.base.slot b o e n hb hx
    exact ⟨sl,(gE.2 b (old b o e)).trans z⟩
   ·obtain ⟨o',z⟩:=J.base.there b o e hx
    exact ⟨o',(gE.2 b (old b o e)).trans z⟩
  have sQ:bj X.prog X.w H' h':=fun b u e=>by
   refine (J.ar b u e).fJ (fun c v hc z=>(gE.2 c fun y=>?_).trans z) (fun _ z=>z) fun _ _ z=>z
   have fr:=J.free
   have y':c=s3.heap.objs.size:=y
   rcases hc with hc | hc
   ·rw [←hc,y'] at e
    exact absurd (fr.symm.trans e) (by simp)
   ·rw [y'] at hc
    exact absurd (fr.symm.trans hc) (by simp)
  refine I3.mB (s':={s' with heap:=h'}) (ch:=fp) (J.os) u1 sQ J.bare fun b hb=>?_
  obtain ⟨g0,g1,g2,g3,g4,g5⟩:=f2 b hb
  exact ⟨g3,g1,g4,g5⟩
 have fj:∀{H':Hp},(∀b∈fp,H' b=none)→∀b∈fp,g8 (X.bJ N scope cl s3 (upd H2 D (.lst [])) fp) [] H' b:=fun hn b hb=>by
  refine ⟨hn b hb,?_,?_,.inl hb,fun y c e z=>(f2 b hb).2.2.2.2.1 y c (dz y c e) z,fun p hp=>nomatch hp⟩
  ·obtain ⟨o,e,_⟩:=iX b hb
   exact below b o (gD b o e)
  ·exact mU.jT b hb
 have loop:∀tk:Nat,codeAny (model X.prog X.w) X.A (.compLoop (.ListComp elt [⟨.Name x px,iter,ifs,0⟩] scope pos) 0 (.ref it) (.ref D) (compEnvC scope cl s3.heap.objs.size X.env))
   (compPost (model X.prog X.w) X.A X.xe none (EP X pins σ Q) (.ref D) s3.heap.objs.size) {s3 with heap:=h₁,toks:=tk}:=fun tk=>by
  refine codeAny_compLoop_tests (fun n s'=>∃i ys o H',Inv (X.bJ N scope cl s3 (upd H2 D (.lst [])) fp) [] (o::ρ σ) H' s'∧tn i s'.heap∧(∀b∈fp,H' b=none)∧W i n ys H') ?_ m0
   ⟨0,[],none,_,IB tk,T.keep _ _ _ gv fun b hb o e=>eA _ _ (gD _ _ e),fun b hb=>by rw [aC (sO b hb)];exact (f2 b hb).1,w0⟩
  rintro n s4 ⟨i,ys,o,H4,I4,mX,mY,w4⟩
  obtain ⟨De,sR⟩:=turn i n ys H4 w4
  rcases sR with ⟨stop,qn⟩ | ⟨go,step⟩
  ·refine wpAny_mono (T.done (X.bJ N scope cl s3 (upd H2 D (.lst [])) fp) rfl rfl rfl hc i [] s4 _ H4 (fun _ _=>False) I4 (fj mY) mX stop) (fun r s5 ⟨hr,I5⟩=>?_) fun _ _ z=>z.elim
   subst hr
   exact fin I5 qn
  ·refine wpAny_mono (T.item (X.bJ N scope cl s3 (upd H2 D (.lst [])) fp) rfl rfl rfl hc i [] s4 _ H4 (fun _ _=>False) I4 (fj mY) mX go) (fun r s5 ⟨u,hr,h5⟩=>?_) fun _ _ z=>z.elim
   subst hr
   have z:letOwnedTupleGo (.Name x px) (.ref it) u=pure ():=rfl
   rw [z] at h5
   show wpAny _ _ ((pure ():Sem Unit) >>= fun _=>assign (.Name x px) (compEnvC scope cl s3.heap.objs.size X.env) u) _ _ s5
   refine wpAny_bind (wpAny_mono h5 (fun _ s5 ⟨y,H5,I5,r5,y5,fk,mI⟩=>?_) fun _ _ z=>z.elim)
   have mJ:=I5.pinned (fj mI) (T.obj _ _ fk)
   have pg:PG (X.bJ N scope cl s3 (upd H2 D (.lst [])) fp) (.Name x px) (aO 0):=bS (i:=0) B.nd B.n0 (.inl (lookup_relabel_local B.hx)) (.inr (lookup_relabel_local B.hx))
   have again:∀{σ7:St} {H7:Hp} {s7:Shared},Inv (X.bJ N scope cl s3 (upd H2 D (.lst [])) fp) ([]++g_ fp s5.heap) σ7 H7 s7→Inv (X.bJ N scope cl s3 (upd H2 D (.lst [])) fp) [] σ7 H7 s7∧tn (i+1) s7.heap∧∀b∈fp,H7 b=none:=fun{σ7 H7 s7} I7=>by
    refine ⟨I7.mH,T.keep _ _ _ fk fun b hb o e=>(I7.pin (b,o) (List.mem_append_right _ (List.mem_append_right _ (j6 hb e)))).1,fun b hb=>?_⟩
    obtain ⟨o,e,d⟩:=T.obj _ _ fk b hb
    exact (I7.pin (b,o) (List.mem_append_right _ (List.mem_append_right _ (j6 hb e)))).2.1
   refine wpAny_mono (pg _ s5 _ H5 y u (fun σ2 H6=>σ2=some y::ρ σ∧H6=H5) mJ r5 ⟨rfl,rfl⟩) (fun _ s6 ⟨σ6,H6,I6,q6⟩=>?_) fun _ _ z=>z.elim
   obtain ⟨rfl,rfl⟩:=q6
   have sS:=step y _ y5
   have tests:∀{iY:TT},kf (X.bJ N scope cl s3 (upd H2 D (.lst [])) fp) ifs iY→∀{R:Bool→Hp→Prop},iY (some y::ρ σ) H6 R→wpAny (model X.prog X.w) X.A
     (forIn ifs true fun c r=>if r=true then do let ok ←isTrue c (compEnvC scope cl s3.heap.objs.size X.env) (eval c (compEnvC scope cl s3.heap.objs.size X.env));pure (ForInStep.yield ok) else pure (ForInStep.yield r))
     (fun ok s7=>∃H7,Inv (X.bJ N scope cl s3 (upd H2 D (.lst [])) fp) ([]++g_ fp s5.heap) (some y::ρ σ) H7 s7∧R ok H7) (fun _ _=>False) s6:=fun{iY} p {R} hR=>by
    cases p with
    | nil=>exact wpAny_tests_nil ⟨_,I6,hR⟩
    | one p=>exact wpAny_tests_one (p _ s6 _ _ _ I6 hR)
   refine wpAny_mono (tests (ht s3 _ fp) sS) (fun ok s7 ⟨H7,I7,q7⟩=>?_) fun _ _ z=>z.elim
   cases ok with
   | false=>
    obtain ⟨m',iZ,w7⟩:=q7
    obtain ⟨a1,a2,a3⟩:=again I7
    exact ⟨m',iZ,i+1,ys,_,H7,a1,a2,a3,w7⟩
   | true=>
    refine wpAny_mono (he s3 _ fp _ s7 _ H7 _ I7 q7) (fun ev s8 ⟨z,H8,I8,r8,sU,hz,m',iZ,w8⟩=>?_) fun _ _ z=>z.elim
    refine wpAny_mono (fR (X:=X.bJ N scope cl s3 (upd H2 D (.lst [])) fp) _ s8 _ H8 (.ref D) [z] (.ref D) [ev] (fun _ H9=>H9=upd H8 D (.lst (ys++[z]))) I8 rfl (.cons r8 .nil) ⟨D,ys,z,rfl,rfl,sU,hz,rfl⟩) (fun _ s9 ⟨_,H9,I9,_,q9⟩=>?_) fun _ _ z=>z.elim
    subst q9
    obtain ⟨a1,a2,a3⟩:=again I9
    exact ⟨m',iZ,i+1,ys++[z],_,_,a1,a2,a3,w8⟩
 have start:=loop (s3.toks+([]:List (Str×Value)).length)
 have es:({s3 with heap:=h₁,toks:=s3.toks+([]:List (Str×Value)).length}:Shared)={s2 with heap:=h₁,toks:=s2.toks+([]:List (Str×Value)).length}:=by rw [←iW]
 rw [es] at start
 exact codeAny_compStart_list start (T.self _ 0 _ _ _ (T.keep _ _ _ gv fun b hb o e=>eA _ _ (gD _ _ e)) start)
end
def cg(i:Int):Prop:=i.natAbs<2 ^ 2048
theorem cg.log{i:Int}(h:cg i):i.natAbs.log2<2048:=by
 by_cases z:i.natAbs=0
 ·rw [z];decide
 ·exact (Nat.log2_lt z).mpr h
theorem sV:∀{xs:List V} {us:List Value},xs.length=us.length→(∀(i:Nat) (x:V) (u:Value),xs[i]?=some x→us[i]?=some u→RelV x u)→Vals xs us
 | [],[],_,_=>.nil
 | [],_::_,h,_=>by simp at h
 | _::_,[],h,_=>by simp at h
 | x::xs,u::us,h,k=>.cons (k 0 x u rfl rfl) (sV (by simpa using h) fun i a b h1 h2=>k (i+1) a b (by simpa using h1) (by simpa using h2))
section
variable {X:Cx}
def Dg(i j:Int):Prop:=0<j∧cg j
theorem Dh:b3 X (binaryOp .FloorDiv) (rI Dg fun i j=>.int (i / j)):=oG fun i j _ _ _ _ _ hc q=>
 floordiv_int (Int.ne_of_gt hc.1) (by rw [Int.fdiv_eq_ediv_of_nonneg i (Int.le_of_lt hc.1)];exact q) (.inl (PyProof.noPylong_of_log2 (Nat.lt_of_lt_of_le hc.2.log (by decide))))
def allR(K:PySem.W.Frag):List V→Hp→VK→Prop:=fun xs H Q=>∃(p:Addr) (bs:List Bool),xs=[.ref p]∧aX K H p (bs.map V.bl)∧Q (.bl (bs.all id)) H
theorem Di{K:PySem.W.Frag}(hc:X.calm=true)(hK:X.K=K:=by rfl):dg X (.builtin "all") (allR K):=by
 intro pins s σ H xs us Q I r h
 subst hK
 obtain ⟨p,bs,rfl,hq,q⟩:=h
 obtain ⟨u,rfl,ru⟩:=vals1 r
 cases ru
 obtain ⟨ai,rv,pl,hz⟩:=I.list hq
 have mZ:p≠s.heap.objs.size:=by
  obtain ⟨o,e,_⟩:=pl.isList
  exact Nat.ne_of_lt (Heap.lt_size e)
 have hl:ai.length=bs.length:=by rw [←rv.length,List.length_map]
 refine call_all_walk (wpAny_pyIter_list pl.isList ?_)
 refine ⟨s.heap.objs.size,_,_,_,_,_,fun i=>bs.getD i true,rfl,Walks.list (A:=X.A.in1) (show X.A.in1.handled=none from I.ok.hd hc) s.heap.objs.size p mZ ai.toArray,⟨⟨_,Heap.get?_push_size _ rfl,rfl,rfl⟩,pl.isList.push _⟩,fun i v s' Q' E' hv o7=>?_,fun h' tk hk=>?_⟩
 ·have gF:ai[i]?=some v:=by simpa using hv
  cases eb:bs[i]? with
  | none=>
   have:=rv.none_of (i:=i) (by rw [List.getElem?_map,eb];rfl)
   rw [this] at gF
   cases gF
  | some b=>
   obtain ⟨u,hu,ru⟩:=rv.get (i:=i) (x:=V.bl b) (by rw [List.getElem?_map,eb];rfl)
   rw [hu] at gF
   cases gF
   cases ru
   have e:bs.getD i true=b:=by rw [List.getD_eq_getElem?_getD,eb];rfl
   have xw:Q' (bs.getD i true) s':=o7
   rw [e] at xw
   exact wpAny_truthy_bool xw
 ·refine ⟨.bl (bs.all id),H,I.kept fun b o e=>hk b o (fun z=>?_) (Heap.get?_push_of_some _ e),?_,q⟩
  ·exact absurd (Heap.lt_size e) (by rw [List.mem_singleton.mp z];exact Nat.lt_irrefl _)
  ·show Value.bool _=Value.bool _
   congr 1
   rw [List.size_toArray,hl]
   clear hk q rv pl hz hl hq
   induction bs with
   | nil=>rfl
   | cons b bs ih=>
    rw [List.length_cons,List.range_succ_eq_map,List.all_cons,List.all_map,List.all_cons]
    show (b && (List.range bs.length).all fun i=>bs.getD i true)=(b && bs.all id)
    rw [ih]
def Dj:List V→Hp→VK→Prop:=fun xs H Q=>∃j:Int,xs=[.int j]∧∀p,H p=none→Q (.ref p) (upd H p (.c_ 0 j))
theorem o8:dg X (.type "range") Dj:=by
 intro pins s σ H xs us Q I r h
 obtain ⟨j,rfl,q⟩:=h
 obtain ⟨u,rfl,ru⟩:=vals1 r
 obtain ⟨t,rfl⟩:=ru
 refine call_range_1 ⟨.ref s.heap.objs.size,_,I.laid (o:=.c_ 0 j) (fun b o e=>Heap.get?_push_of_some _ e) (Nat.le_refl _) ⟨_,_,_,Heap.get?_push_size _ rfl⟩,rfl,q _ (I.ar.fresh (Nat.le_refl _))⟩
def bx(n:Nat):List V:=(List.range n).map fun i:Nat=>V.int (i:Int)
def Dk:List V→Hp→VK→Prop:=fun xs H Q=>∃p n,xs=[.ref p]∧H p=some (.c_ 0 (n:Nat))∧n≤10000∧∀l,H l=none→Q (.ref l) (upd H l (.lst (bx n)))
theorem o9(hc:X.calm=true):dg X (.type "list") Dk:=by
 intro pins s σ H xs us Q I r h
 obtain ⟨p,n,rfl,hp,hn,q⟩:=h
 obtain ⟨u,rfl,ru⟩:=vals1 r
 cases ru
 obtain ⟨t,u,v,e⟩:=(show a_ X.prog X.w H s.heap p (.c_ 0 n) from I.ar p _ hp)
 refine call_list_range (n:=n) (I.ok.hd hc) e (small_one (by omega) (by omega) (by omega) (by omega)) (by rw [rangeSize_one];split <;> omega) (by omega) fun h' tk acc c hk hD hit=>?_
 refine ⟨.ref s.heap.objs.size,_,I.laid (o:=.lst (bx n)) (fun b o e=>hk b o e) (Nat.le_refl _) ⟨?_,acc.toList,c,?_,?_⟩,rfl,q _ (I.ar.fresh (Nat.le_refl _))⟩
 ·unfold bx
  rw [List.length_map,List.length_range]
  exact Nat.le_trans hn (by decide)
 ·refine sV ?_ fun i x u h1 h2=>?_
  ·unfold bx
   rw [List.length_map,List.length_range,Array.length_toList,hit.1]
  ·have xx:acc[i]?=some u:=by simpa using h2
   obtain ⟨Dl,e'⟩:=hit.2 i u xx
   unfold bx at h1
   rw [List.getElem?_map] at h1
   have hi:i<n:=by
    have z:=(Array.getElem?_eq_some_iff.mp xx).1
    rw [hit.1] at z
    exact z
   rw [List.getElem?_range hi] at h1
   cases h1
   exact ⟨Dl,by rw [e'];simp⟩
 ·rw [hD]
end
theorem boot_all:bootBuiltins "all" = some (.builtin "all"):=by decide +kernel
theorem o_:bootBuiltins "range" = some (.type "range"):=by decide +kernel
def xy:Expr→Bool
 | .Starred _ _=>false
 | _=>true
theorem Dm{e:Expr}{es:List Expr}{env:Env}(h:xy e=true):starEach (e::es) env=(false,eval e env)::starEach es env:=by
 cases e <;> first | rfl | cases h
theorem aa{X:Cx}{e:Expr}{es:List Expr}{te:TE}{t:TA}(hs:xy e=true)(ha:PE X e te)(hr:PA X es t):PA X (e::es) (rY te t):=
 BP ha hr (Dm hs)
theorem a7{X:Cx}{pos:Pos}{i:Nat}{x:Str}{e:Expr}{te:TE}{pos':Pos}(hs:swapsWith e (some (.Name x pos')) pos.line X.env=pure false)(hf:X.fn x=true∨X.env.scope.names.lookup x=some .local)(hN:X.N.Nodup)(hi:X.N[i]?=some x)(hx:Loc X.env.scope x)(he:PE X e te) :
  PS X (.Assign [.Name x pos'] e pos) (mE te (aO i)):=Bt hN hi hx he hs hf
end L2
namespace My
open PySem L2
theorem pb(a b:Int):decide (V.int a=V.int b)=decide (a=b):=by
 by_cases h:a=b
 ·subst h;simp
 ·rw [decide_eq_false h];exact decide_eq_false fun e=>h (V.int.inj e)
theorem Dn{K:PySem.W.Frag}{T:String}:PySem.W.kitOne K (.type T) (.type T)=some true:=by
 unfold PySem.W.kitOne
 rw [if_pos (beq_self_eq_true _)]
theorem aQ{H:Hp}{p:Addr}{o:HO}(h:H p=none):aj H (upd H p o):=fun b u e=>by
 rw [aC (fI e h)]
 exact e
theorem xA{α:Type}{xs:List α}{i:Int}(h0:0≤i)(h1:i<xs.length):∃v,eR xs i=some v∧v∈xs:=by
 obtain ⟨k,rfl⟩:∃k:Nat,i=(k:Int):=⟨i.toNat,by omega⟩
 have hk:k<xs.length:=by omega
 exact ⟨xs[k],iR (by simp [hk]),List.getElem_mem _⟩
inductive Any (H:Hp):V→Prop where
 | aF:Any H .aF
 | bl (b:Bool):Any H (.bl b)
 | int (i:Int):Any H (.int i)
 | str (x:Str):Any H (.str x)
 | lst {a:Addr} {xs:List V} (e:H a=some (.lst xs)):Any H (.ref a)
 | tup {a:Addr} {xs:List V} (e:H a=some (.tup xs)):Any H (.ref a)
 | ke {a:Addr} (e:H a=some (sN a)):Any H (.ref a)
def kg:V→Bool
 | .int _=>true
 | _=>false
def kh:V→Bool
 | .bl _=>true
 | _=>false
def ph(H:Hp):V→Bool
 | .ref a=>(match H a with | some (.tup _)=>true | _=>false)
 | _=>false
theorem Any.o6{K:PySem.W.Frag}{H:Hp}{v:V}(h:Any H v):∃T:String,mS K H v (.type T)∧PySem.W.kitOne K (.type T) (.type "int")=some (kg v || kh v)∧PySem.W.kitOne K (.type T) (.type "bool")=some (kh v) ∧
  PySem.W.kitOne K (.type T) (.type "tuple")=some (ph H v):=by
 cases h with
 | aF=>exact ⟨"NoneType",.of .aF,rfl,rfl,rfl⟩
 | bl b=>exact ⟨"bool",.of (.bl b),rfl,rfl,rfl⟩
 | int i=>exact ⟨"int",.of (.int i),rfl,rfl,rfl⟩
 | str x=>exact ⟨"str",.of (.str x),rfl,rfl,rfl⟩
 | lst e=>exact ⟨"list",.of (.lst e),rfl,rfl,by unfold ph;dsimp only;rw [e];rfl⟩
 | tup e=>exact ⟨"tuple",.of (.tup e),rfl,rfl,by unfold ph;dsimp only;rw [e];rfl⟩
 | ke e=>exact ⟨"dict",.ke e,rfl,rfl,by unfold ph;dsimp only;rw [e];rfl⟩
theorem Dp{v:V}(h:kh v=true):kg v=false:=by cases v <;> first | rfl | cases h
theorem cg.of_lt{i:Int}(h1:-(10 ^ 70)<i)(h2:i<10 ^ 70):cg i:=by
 have h3:i.natAbs<2 ^ 240:=by omega
 exact Nat.lt_of_lt_of_le h3 (Nat.pow_le_pow_right (by decide) (by decide))
def Dq:Sp:=fun vs H Q _=>∃v:V,vs=[v]∧Any H v∧Q (.bl (kg v)) H
def pj(K:PySem.W.Frag):Sp:=fun vs H Q _=>∃(a:Addr) (ns:List Int),vs=[.ref a]∧aX K H a (ns.map V.int)∧ns.length≤63∧∀H',Q (.bl true) H'
theorem Dr(xs:List V)(k:Nat):eQ xs none (some (k:Int))=xs.take k:=by
 unfold eQ
 rw [HT.B1,HT.B2,List.drop_zero,Nat.sub_zero]
 rw [List.take_eq_take_iff]
 omega
end My
namespace L2
open PySem PySem.Spec PyProof.Rows
end L2
namespace My
open PySem L2
end My
namespace L2
open PySem PySem.Spec PyProof.Rows
section
variable {P:Program} {w:World} {K:PySem.W.Frag} {mg:Str→Option Value} {base:Heap}
end
section
variable {X:Cx} {CX:dw} {k:Nat} {f C:Addr} {fd:FuncData} {ps:List Str} {y:Str} {sp:Sp} {E:XK} {m:Str} {pos apos wJ:Pos} {e e' o:Expr} {ta:TE} {t tk:TA}
end
end L2
namespace My
open PySem L2
end My
namespace L2
open PySem PySem.Spec PyProof.Rows
section
variable {X:Cx}
end
end L2
namespace My
open PySem L2
section
variable {C N z:Addr} {q:Int} {v u:V} {t b t' b':Int} {H:Hp} {Q:VK} {E:XK}
end
end My
namespace L2
open PySem PySem.Spec PyProof.Rows
structure gG (J:It) (xs:List V) (H1:Hp):Prop where
 go:∀i Hc,aj H1 Hc→i<xs.length→J.go i Hc
 cW:∀i Hc x H',aj H1 Hc→J.cW i Hc x H'→H'=Hc∧(i<xs.length→xs[i]?=some x)
 stop:∀i Hc,aj H1 Hc→xs.length≤i→J.stop i Hc
theorem ki{K:PySem.W.Frag}{a:Addr}{xs:List V}{H1:Hp}(h:aX K H1 a xs):gG (iL K a) xs H1 where
 go:=fun i Hc s hi=>⟨xs,xs[i],s.seq h,by simp [hi]⟩
 cW:=fun i Hc x H' s y=>⟨y.1,fun _=>y.2 xs (s.seq h)⟩
 stop:=fun i Hc s hi=>⟨xs,s.seq h,hi⟩
theorem xB{lo:Int}{n:Nat}{H1:Hp}:gG (gu lo n) ((List.range n).map fun i:Nat=>V.int (lo+(i:Int))) H1 where
 go:=fun i Hc s hi=>by
  have hi:i<n:=by simpa using hi
  exact hi
 cW:=fun i Hc x H' s y=>⟨y.1,fun hi=>by
  have hi:i<n:=by simpa using hi
  rw [y.2]
  simp [hi]⟩
 stop:=fun i Hc s hi=>by
  have hi:n≤i:=by simpa using hi
  exact hi
theorem dW{H H':Hp}{D:Addr}{o:HO}(s:aj H H')(n:H D=none):aj H (upd H' D o):=fun b u e=>by
 rw [aC (fI e n)]
 exact s b u e
theorem xC{J:It}{xs:List V}{H1:Hp}{ρσ:St}{te:TE}{D:Addr}{Q:VK}(js:gG J xs H1)(nD:H1 D=none)(hn:xs.length<sizeLine)
  (P:Nat→V→Hp→Prop) (mono:∀i y H H' ys,P i y H→H D=some (.lst ys)→(∀b o,b≠D→H b=some o→H' b=some o)→P i y H')
  (step:∀i x,xs[i]?=some x→∀(Hc:Hp) (R:VK),aj H1 Hc→(∃ys,Hc D=some (.lst ys))→(∀y H3,aj Hc H3→P i y H3→R y H3)→te (some x::ρσ) Hc R)
  (fin:∀ys Hc,aj H1 Hc→ys.length=xs.length→(∀i y,ys[i]?=some y→P i y Hc)→Hc D=some (.lst ys)→Q (.ref D) Hc) :
  ∃W:Nat→Nat→List V→Hp→Prop,(∃m,W 0 m [] (upd H1 D (.lst []))) ∧
   ∀i m ys Hc,W i m ys Hc→Hc D=some (.lst ys)∧((J.stop i Hc∧Q (.ref D) Hc)∨(J.go i Hc∧∀x H',J.cW i Hc x H'→
    if true=true then te (some x::ρσ) H' fun y H3=>H3 D=some (.lst ys)∧ys.length<sizeLine∧∃m',m'<m∧W (i+1) m' (ys++[y]) (upd H3 D (.lst (ys++[y]))) else ∃m',m'<m∧W (i+1) m' ys H')):=by
 refine ⟨fun i m ys Hc=>m=xs.length-i∧i≤xs.length∧Hc D=some (.lst ys)∧aj H1 Hc∧ys.length=i∧∀j y,ys[j]?=some y→P j y Hc,⟨_,rfl,Nat.zero_le _,aq,dW (aj.refl H1) nD,rfl,fun j y e=>by simp at e⟩,?_⟩
 rintro i m ys Hc ⟨rfl,hi,eD,sH,el,hP⟩
 refine ⟨eD,?_⟩
 by_cases ba:i<xs.length
 ·refine .inr ⟨js.go i Hc sH ba,fun x H' hy=>?_⟩
  obtain ⟨rfl,hx⟩:=js.cW i Hc x H' sH hy
  rw [if_pos rfl]
  refine step i x (hx ba) _ _ sH ⟨ys,eD⟩ fun y H3 s3 hp=>?_
  have e3:=s3 _ _ eD
  refine ⟨e3,by omega,xs.length-(i+1),by omega,rfl,ba,aq,dW (sH.trans s3) nD,by simp [el],fun j y' e=>?_⟩
  have aY:∀b o,b≠D→H3 b=some o→upd H3 D (.lst (ys++[y])) b=some o:=fun b o nb e=>by rw [aC nb];exact e
  by_cases hj:j<i
  ·have e':ys[j]?=some y':=by rw [List.getElem?_append_left (by omega)] at e;exact e
   refine mono j y' H' _ ys (hP j y' e') eD fun b o nb e=>?_
   exact aY b o nb (s3 _ _ e)
  ·have hj:j=i:=by
    have:=(List.getElem?_eq_some_iff.mp e).1
    simp at this
    omega
   subst hj
   have e':y'=y:=by rw [List.getElem?_append_right (by omega),el,Nat.sub_self] at e;simpa using e.symm
   subst e'
   exact mono _ _ H3 _ ys hp e3 aY
 ·have e:i=xs.length:=by omega
  subst e
  exact .inl ⟨js.stop _ Hc sH (Nat.le_refl _),fin ys Hc sH el hP eD⟩
theorem Ds{wi:TI}{ρ:St→St}{te:TE}{σ:St}{H:Hp}{Q:VK}{xs:List V}(eB:∀R:It→Hp→Prop,(∀J H1,aj H H1→gG J xs H1→R J H1)→wi σ H R)(hn:xs.length<sizeLine)
  (P:Addr→Nat→V→Hp→Prop) (mono:∀D i y H H' ys,P D i y H→H D=some (.lst ys)→(∀b o,b≠D→H b=some o→H' b=some o)→P D i y H')
  (step:∀D i x,xs[i]?=some x→∀(Hc:Hp) (R:VK),aj H Hc→(∃ys,Hc D=some (.lst ys))→(∀y H3,aj Hc H3→P D i y H3→R y H3)→te (some x::ρ σ) Hc R)
  (fin:∀D ys Hc,aj H Hc→ys.length=xs.length→(∀i y,ys[i]?=some y→P D i y Hc)→Hc D=some (.lst ys)→Q (.ref D) Hc):en wi ρ (fun _ H Q=>Q true H) te σ H Q:=by
 refine eB _ fun J H1 s1 js=>?_
 intro D nD
 exact xC (ρσ:=ρ σ) (te:=te) (Q:=Q) js nD hn (P D) (mono D) (fun i x hx Hc R sc=>step D i x hx Hc R (s1.trans sc)) (fun ys Hc sc=>fin D ys Hc (s1.trans sc))
theorem i3{te:TE}{g:TG}{D:Ends}{σ:St}{H:Hp}(h:te σ H fun x H1=>g x σ H1 D.nx):mE te g D σ H:=h
theorem bO{a b:TS}{D:Ends}{σ:St}{H:Hp}(h:a {D with nx:=fun σ H=>b D σ H} σ H):we a b D σ H:=h
section
variable {X:Cx} {N:List Str} {scope:Scope} {cl:List (Str×Addr)} {x:Str} {px pos:Pos} {iter elt:Expr} {ifs:List Expr} {wi:TI} {ρ:St→St} {tt:TT} {te:TE}
theorem pA{y:Str}{py xD:Pos}{i0:Nat}(B:xr X N scope cl x ρ)(hc:X.calm=true)(hN:X.N.Nodup)(Dt:X.N[i0]?=some y)(hy:Loc X.env.scope y)(hi:PI X (.Name x px) iter wi)(ht:∀s₃ H₃ fp,kf (X.bJ N scope cl s₃ H₃ fp) ifs tt)(he:∀s₃ H₃ fp,PE (X.bJ N scope cl s₃ H₃ fp) elt te)
  (Du:swapsWith (.ListComp elt [⟨.Name x px,iter,ifs,0⟩] scope pos) (some (.Name y py)) xD.line X.env=pure true:=by rfl) (hf:X.fn y=true∨X.env.scope.names.lookup y=some .local:=by first | exact .inl rfl | exact .inr rfl | assumption)
  (hs:∀x,foldedSetIterable iter X.env x=pure x:=by intro _;rfl):PS X (.Assign [.Name y py] (.ListComp elt [⟨.Name x px,iter,ifs,0⟩] scope pos) xD) (mE (en wi ρ tt te) (aO i0)):=by
 intro pins s σ H D0 I h
 have h:en wi ρ tt te σ H (fun v H1=>D0.nx (σ.set i0 (some v)) H1):=h
 rw [exec_Assign_Name_used _ _ _ _ Du]
 refine wpAny_bind (wpAny_standAt (wpAny_bind ?_))
 show wpAny _ X.A (do let _ ←comprehension (.ListComp elt [⟨.Name x px,iter,ifs,0⟩] scope pos) scope X.env _ (newList []) false (eval iter X.env) (some (assign (.Name y py) X.env))) _ _ s
 refine wpAny_bind (wpAny_mono (Q:=fun _ s'=>SP X pins D0 .next s') ?_ (fun _ s' hq=>wpAny_pure (wpAny_pure hq)) fun _ _ e=>e)
 refine wpAny_comprehension_free (use:=some (assign (.Name y py) X.env)) rfl hs B.xt B.kind B.names (ay (hi pins s σ H _ I h) fun v s1 h1=>ay h1 fun oC s2 h2=>?_)
 obtain ⟨it,fp,tn,J,H2,rfl,I2,T,gv,f2,q2⟩:=h2
 have nD:H2 s2.heap.objs.size=none:=I2.ar.fresh (Nat.le_refl _)
 obtain ⟨W,⟨m0,w0⟩,turn⟩:=q2 _ nD
 refine wpAny_newObj_type (wpAny_newFunctionEnv B.xu (by intro y hy;simp at hy) (fun h₁ gB gC=>?_) B.kind)
 dsimp only at gB gC ⊢
 generalize hD:s2.heap.objs.size=D at nD w0 turn gB gC ⊢
 generalize iW:({s2 with heap:=s2.heap.push {cls:=.type "list",dict:=none,data:=.seq ([]:List Value).toArray}}:Shared)=s3
 have I3:Inv X pins σ (upd H2 D (.lst [])) s3:=by
  subst hD iW
  exact I2.laid (t':=s2.toks) (fun b u e=>Heap.get?_push_of_some _ e) (Nat.le_refl _) ⟨Nat.zero_le _,[],_,.nil,Heap.get?_push_size _ rfl⟩
 have e3:s3.heap=s2.heap.push {cls:=.type "list",dict:=none,data:=.seq ([]:List Value).toArray}:=by rw [←iW]
 have gD:∀b o,s2.heap.get? b=some o→s3.heap.get? b=some o:=fun b o e=>by rw [e3];exact Heap.get?_push_of_some _ e
 rw [←e3] at gB gC ⊢
 have below:∀b o,s3.heap.get? b=some o→b≠s3.heap.objs.size:=fun b o e=>Nat.ne_of_lt (Heap.lt_size e)
 have eA:∀b o,s3.heap.get? b=some o→h₁.get? b=some o:=fun b o e=>gC.extBut b o (below b o e) (Heap.get?_push_of_some _ e)
 have iX:∀b∈fp,∃o,s2.heap.get? b=some o∧∀v,o.data≠.cell v:=T.obj _ _ gv
 have sO:∀b∈fp,b≠D:=fun b hb z=>by
  obtain ⟨o,e,_⟩:=iX b hb
  rw [z,←hD] at e
  exact absurd (Heap.lt_size e) (Nat.lt_irrefl _)
 have dz:∀y c,cl.lookup y=some c→X.env.cells.lookup y=some c:=fun y c e=>B.sub (y,c) (PySem.mem_of_lookup e)
 have sP:=I3.ou
 have mU:(X.bJ N scope cl s3 (upd H2 D (.lst [])) fp).Ok:=by
  refine ⟨I.ok.mod,B.kind,I.ok.glob,I.ok.blt,Nat.le_refl _,fun a b c e1 e2=>I.ok.inj a b c (dz a c e1) (dz b c e2),fun y hy=>B.has y hy,(fun _ _ z _=>absurd z Bool.false_ne_true),(fun _=>I.ok.hd hc),I.ok.frames,.inl rfl,fun b hb=>⟨?_,fun y c e z=>?_⟩,fun b o e=>?_,Nat.le_trans I.ok.fK I3.sz,fun b o e hb=>?_,fun b hb z=>?_,I3.stack,sP⟩
  ·obtain ⟨o,e,_⟩:=iX b hb
   exact below b o (gD b o e)
  ·exact (f2 b hb).2.2.2.2.1 y c (dz y c e) z
  ·exact I3.bs b o e
  ·rcases (f2 b hb).2.2.2.1 with z | z
   ·exact I.ok.jS b o e z
   ·exact absurd (Nat.lt_of_lt_of_le (Heap.lt_size e) (Nat.le_trans I.ok.fK z)) (Nat.lt_irrefl _)
  ·rcases List.mem_cons.mp (I3.ot b z) with z | z
   ·exact (f2 b hb).2.1 z
   ·exact (f2 b hb).2.2.1 z
 have IB:∀tk:Nat,Inv (X.bJ N scope cl s3 (upd H2 D (.lst [])) fp) [] (none::ρ σ) (upd H2 D (.lst [])) {s3 with heap:=h₁,toks:=tk}:=fun tk=>by
  refine ⟨mU,rfl,I3.bare,Un.kept eA,⟨_,gB,fun j y v e1 e2 e3=>?_⟩,fun y c e=>?_,?_,fun y c e=>I3.fi y c (dz y c e),(fun p hp=>nomatch hp),I3.ar.kept eA,?_⟩
  ·cases j with
   | zero=>cases e2
   | succ j=>
    obtain ⟨i,y',a1,a2,a3,a4,a5,a6⟩:=B.xv σ j v e2
    have mV:N[j+1]?=some y:=e1
    rw [mV] at a1
    cases a1
    obtain ⟨m,hn,hl⟩:=I3.loc
    obtain ⟨u,r,l⟩:=hl i y v a2 a3 a4
    refine ⟨u,r,.inr ⟨a6,?_⟩⟩
    obtain ⟨c,ec⟩:=B.has y a6
    rcases l with ⟨k,_⟩ | ⟨_,c',mW,z⟩
    ·rcases a5 with q | q <;> (rw [k] at q;cases q)
    ·have:=dz y c ec
     rw [this] at mW
     cases mW
     obtain ⟨o,ho,hd⟩:=z
     exact ⟨c,ec,o,eA _ _ ho,hd⟩
  ·obtain ⟨v,o,ho,hd⟩:=I3.cell y c (dz y c e)
   exact ⟨v,o,eA _ _ ho,hd⟩
  ·exact I3.ar.fresh (Nat.le_refl _)
  ·show (none::ρ σ).length=N.length
   rw [List.length_cons]
   exact B.len σ I.len
 have sW:∀b o,s3.heap.get? b=some o→b≠s3.heap.objs.size:=below
 have fin:∀{σ':St} {H':Hp} {s':Shared},Inv (X.bJ N scope cl s3 (upd H2 D (.lst [])) fp) [] σ' H' s'→D0.nx (σ.set i0 (some (.ref D))) H'→compPost (model X.prog X.w) X.A X.xe (some (assign (.Name y py) X.env)) (fun _ s'=>SP X pins D0 .next s') (.ref D) s3.heap.objs.size (.ok .next) s':=fun{σ' H' s'} J q=>by
  obtain ⟨m,hn,_⟩:=J.loc
  have hn:s'.heap.Ns s3.heap.objs.size m:=hn
  have JC:H' s3.heap.objs.size=none:=J.free
  have u1:Un (bG X.stack) fp (upd H2 D (.lst [])) H' s3.heap s'.heap:=by
   refine ⟨fun b o e n hb hx=>J.base.keep b o e n hb hx,fun b o e n hb hx=>J.base.slot b o e n hb hx,J.base.free,fun b o e hx=>J.base.there b o e hx,J.base.da,J.base.dv,J.base.dP⟩
  have IX:Inv X pins σ H' s':=I3.mB (ch:=fp) (J.os) u1 J.ar J.bare fun b hb=>by
   obtain ⟨g0,g1,g2,g3,g4,g5⟩:=f2 b hb
   exact ⟨g3,g1,g4,g5⟩
  have nl:X.env.locals≠s3.heap.objs.size:=by
   obtain ⟨m3,⟨o3,_,_,e3,_⟩,_⟩:=I3.loc
   exact sW _ _ e3
  have nc:∀z c,X.env.cells.lookup z=some c→c≠s3.heap.objs.size:=fun z c e=>by
   obtain ⟨v3,o3,e3,_⟩:=I3.cell z c e
   exact sW _ _ e3
  refine wpAny_assign_Name (vT (v:=.ref D) IX hN Dt hy rfl (fun fO sX sY=>?_) hf)
  obtain ⟨a,sY,ha⟩:=sY
  have na:s3.heap.objs.size≠a:=by
   rcases ha with rfl | e
   ·exact fun z=>nl z.symm
   ·exact fun z=>nc _ _ e z.symm
  refine ⟨m,hn.sameBut sY na,fun h' gE=>⟨σ.set i0 (some (.ref D)),H',?_,q⟩⟩
  have u2:Un (bG X.stack) [s3.heap.objs.size] H' H' fO.heap h':=by
   refine ⟨fun b o e n hb hx=>(gE.2 b (by simpa using hx)).trans e,fun b o e n hb hx=>⟨o.slots,(gE.2 b (by simpa using hx)).trans e⟩,fun b o e n hx=>n,fun b o e hx=>⟨o,(gE.2 b (by simpa using hx)).trans e⟩,fun b xs z=>z,fun b o u z=>z,fun b ps z=>⟨#[],by simpa using z⟩⟩
  have sQ:bj X.prog X.w H' h':=fun b u e=>by
   refine (sX.ar b u e).fJ (fun c v hc z=>(gE.2 c fun y=>?_).trans z) (fun _ z=>z) fun _ _ z=>z
   have y':c=s3.heap.objs.size:=y
   rcases hc with hc | hc
   ·rw [←hc,y',JC] at e
    cases e
   ·rw [y',JC] at hc
    cases hc
  refine sX.mB (s':={fO with heap:=h'}) (ch:=[s3.heap.objs.size]) rfl u2 sQ sX.bare fun b hb=>?_
  have eb:b=s3.heap.objs.size:=by simpa using hb
  subst eb
  refine ⟨.inr I3.sz,fun z=>nl z.symm,fun z c e=>nc z c e,fun p hp=>?_⟩
  exact sW _ _ (I3.pin p hp).1
 have fj:∀{H':Hp},(∀b∈fp,H' b=none)→∀b∈fp,g8 (X.bJ N scope cl s3 (upd H2 D (.lst [])) fp) [] H' b:=fun hn b hb=>by
  refine ⟨hn b hb,?_,?_,.inl hb,fun y c e z=>(f2 b hb).2.2.2.2.1 y c (dz y c e) z,fun p hp=>nomatch hp⟩
  ·obtain ⟨o,e,_⟩:=iX b hb
   exact below b o (gD b o e)
  ·exact mU.jT b hb
 have loop:∀tk:Nat,codeAny (model X.prog X.w) X.A (.compLoop (.ListComp elt [⟨.Name x px,iter,ifs,0⟩] scope pos) 0 (.ref it) (.ref D) (compEnvC scope cl s3.heap.objs.size X.env))
   (compPost (model X.prog X.w) X.A X.xe (some (assign (.Name y py) X.env)) (fun _ s'=>SP X pins D0 .next s') (.ref D) s3.heap.objs.size) {s3 with heap:=h₁,toks:=tk}:=fun tk=>by
  refine codeAny_compLoop_tests (fun n s'=>∃i ys o H',Inv (X.bJ N scope cl s3 (upd H2 D (.lst [])) fp) [] (o::ρ σ) H' s'∧tn i s'.heap∧(∀b∈fp,H' b=none)∧W i n ys H') ?_ m0
   ⟨0,[],none,_,IB tk,T.keep _ _ _ gv fun b hb o e=>eA _ _ (gD _ _ e),fun b hb=>by rw [aC (sO b hb)];exact (f2 b hb).1,w0⟩
  rintro n s4 ⟨i,ys,o,H4,I4,mX,mY,w4⟩
  obtain ⟨De,sR⟩:=turn i n ys H4 w4
  rcases sR with ⟨stop,qn⟩ | ⟨go,step⟩
  ·refine wpAny_mono (T.done (X.bJ N scope cl s3 (upd H2 D (.lst [])) fp) rfl rfl rfl hc i [] s4 _ H4 (fun _ _=>False) I4 (fj mY) mX stop) (fun r s5 ⟨hr,I5⟩=>?_) fun _ _ z=>z.elim
   subst hr
   exact fin I5 qn
  ·refine wpAny_mono (T.item (X.bJ N scope cl s3 (upd H2 D (.lst [])) fp) rfl rfl rfl hc i [] s4 _ H4 (fun _ _=>False) I4 (fj mY) mX go) (fun r s5 ⟨u,hr,h5⟩=>?_) fun _ _ z=>z.elim
   subst hr
   have z:letOwnedTupleGo (.Name x px) (.ref it) u=pure ():=rfl
   rw [z] at h5
   show wpAny _ _ ((pure ():Sem Unit) >>= fun _=>assign (.Name x px) (compEnvC scope cl s3.heap.objs.size X.env) u) _ _ s5
   refine wpAny_bind (wpAny_mono h5 (fun _ s5 ⟨y,H5,I5,r5,y5,fk,mI⟩=>?_) fun _ _ z=>z.elim)
   have mJ:=I5.pinned (fj mI) (T.obj _ _ fk)
   have pg:PG (X.bJ N scope cl s3 (upd H2 D (.lst [])) fp) (.Name x px) (aO 0):=bS (i:=0) B.nd B.n0 (.inl (lookup_relabel_local B.hx)) (.inr (lookup_relabel_local B.hx))
   have again:∀{σ7:St} {H7:Hp} {s7:Shared},Inv (X.bJ N scope cl s3 (upd H2 D (.lst [])) fp) ([]++g_ fp s5.heap) σ7 H7 s7→Inv (X.bJ N scope cl s3 (upd H2 D (.lst [])) fp) [] σ7 H7 s7∧tn (i+1) s7.heap∧∀b∈fp,H7 b=none:=fun{σ7 H7 s7} I7=>by
    refine ⟨I7.mH,T.keep _ _ _ fk fun b hb o e=>(I7.pin (b,o) (List.mem_append_right _ (List.mem_append_right _ (j6 hb e)))).1,fun b hb=>?_⟩
    obtain ⟨o,e,d⟩:=T.obj _ _ fk b hb
    exact (I7.pin (b,o) (List.mem_append_right _ (List.mem_append_right _ (j6 hb e)))).2.1
   refine wpAny_mono (pg _ s5 _ H5 y u (fun σ2 H6=>σ2=some y::ρ σ∧H6=H5) mJ r5 ⟨rfl,rfl⟩) (fun _ s6 ⟨σ6,H6,I6,q6⟩=>?_) fun _ _ z=>z.elim
   obtain ⟨rfl,rfl⟩:=q6
   have sS:=step y _ y5
   have tests:∀{iY:TT},kf (X.bJ N scope cl s3 (upd H2 D (.lst [])) fp) ifs iY→∀{R:Bool→Hp→Prop},iY (some y::ρ σ) H6 R→wpAny (model X.prog X.w) X.A
     (forIn ifs true fun c r=>if r=true then do let ok ←isTrue c (compEnvC scope cl s3.heap.objs.size X.env) (eval c (compEnvC scope cl s3.heap.objs.size X.env));pure (ForInStep.yield ok) else pure (ForInStep.yield r))
     (fun ok s7=>∃H7,Inv (X.bJ N scope cl s3 (upd H2 D (.lst [])) fp) ([]++g_ fp s5.heap) (some y::ρ σ) H7 s7∧R ok H7) (fun _ _=>False) s6:=fun{iY} p {R} hR=>by
    cases p with
    | nil=>exact wpAny_tests_nil ⟨_,I6,hR⟩
    | one p=>exact wpAny_tests_one (p _ s6 _ _ _ I6 hR)
   refine wpAny_mono (tests (ht s3 _ fp) sS) (fun ok s7 ⟨H7,I7,q7⟩=>?_) fun _ _ z=>z.elim
   cases ok with
   | false=>
    obtain ⟨m',iZ,w7⟩:=q7
    obtain ⟨a1,a2,a3⟩:=again I7
    exact ⟨m',iZ,i+1,ys,_,H7,a1,a2,a3,w7⟩
   | true=>
    refine wpAny_mono (he s3 _ fp _ s7 _ H7 _ I7 q7) (fun ev s8 ⟨z,H8,I8,r8,sU,hz,m',iZ,w8⟩=>?_) fun _ _ z=>z.elim
    refine wpAny_mono (fR (X:=X.bJ N scope cl s3 (upd H2 D (.lst [])) fp) _ s8 _ H8 (.ref D) [z] (.ref D) [ev] (fun _ H9=>H9=upd H8 D (.lst (ys++[z]))) I8 rfl (.cons r8 .nil) ⟨D,ys,z,rfl,rfl,sU,hz,rfl⟩) (fun _ s9 ⟨_,H9,I9,_,q9⟩=>?_) fun _ _ z=>z.elim
    subst q9
    obtain ⟨a1,a2,a3⟩:=again I9
    exact ⟨m',iZ,i+1,ys++[z],_,_,a1,a2,a3,w8⟩
 have start:=loop (s3.toks+([]:List (Str×Value)).length)
 have es:({s3 with heap:=h₁,toks:=s3.toks+([]:List (Str×Value)).length}:Shared)={s2 with heap:=h₁,toks:=s2.toks+([]:List (Str×Value)).length}:=by rw [←iW]
 rw [es] at start
 exact codeAny_compStart_list start (T.self _ 0 _ _ _ (T.keep _ _ _ gv fun b hb o e=>eA _ _ (gD _ _ e)) start)
end
section
variable {X:Cx}
end
section
variable {prog:Program} {w:World} {A:Around} {R:Result→Shared→Prop} {s:Shared}
end
section
variable {X:Cx} {N:List Str} {scope:Scope} {cl:List (Str×Addr)} {x y:Str} {px py pos tp:Pos} {Dv:Nat} {iter elt:Expr} {ifs:List Expr} {wi:TI} {ρ:St→St} {tt:TT} {te:TE}
end
section
variable {X:Cx}
def Dw(K:PySem.W.Frag):List V→Hp→VK→Prop:=fun xs H Q=>∃(p:Addr) (ns:List Int),xs=[.ref p]∧aX K H p (ns.map V.int)∧Q (.int ns.sum) H
theorem Dx:∀(ns:List Int),preSum (fun i=>ns.getD i 0) ns.length=ns.sum:=by
 intro ns
 have key:∀k,k≤ns.length→preSum (fun i=>ns.getD i 0) k=(ns.take k).sum:=by
  intro k
  induction k with
  | zero=>intro _;rfl
  | succ k ih=>
   intro hk
   show preSum (fun i=>ns.getD i 0) k+ns.getD k 0=_
   rw [ih (by omega),List.take_add_one,List.sum_append]
   have e:ns[k]?=some ns[k]:=by simp [show k<ns.length by omega]
   rw [List.getD_eq_getElem?_getD,e]
   simp
 rw [key ns.length (Nat.le_refl _),List.take_length]
theorem Dy{K:PySem.W.Frag}(hc:X.calm=true)(hK:X.K=K:=by rfl):dg X (.builtin "sum") (Dw K):=by
 intro pins s σ H xs us Q I r h
 subst hK
 obtain ⟨p,ns,rfl,hq,q⟩:=h
 obtain ⟨u,rfl,ru⟩:=vals1 r
 cases ru
 obtain ⟨ai,rv,pl,hz⟩:=I.list hq
 have mZ:p≠s.heap.objs.size:=by
  obtain ⟨o,e,_⟩:=pl.isList
  exact Nat.ne_of_lt (Heap.lt_size e)
 have hl:ai.length=ns.length:=by rw [←rv.length,List.length_map]
 refine call_sum_walkG (wpAny_pyIter_list pl.isList ?_)
 refine ⟨s.heap.objs.size,_,_,_,_,_,fun i=>ns.getD i 0,rfl,Walks.list (A:=X.A.in1) (show X.A.in1.handled=none from I.ok.hd hc) s.heap.objs.size p mZ ai.toArray,⟨⟨_,Heap.get?_push_size _ rfl,rfl,rfl⟩,pl.isList.push _⟩,?_,fun i v hv=>?_,fun h' tk t' hk=>?_⟩
 ·intro b hb
  rw [Heap.size_push]
  simp only [List.mem_cons,List.not_mem_nil,or_false] at hb
  rcases hb with rfl | rfl
  ·exact Nat.lt_succ_self _
  ·obtain ⟨o,e,_⟩:=pl.isList
   exact Nat.lt_succ_of_lt (Heap.lt_size e)
 ·have gF:ai[i]?=some v:=by simpa using hv
  cases eb:ns[i]? with
  | none=>
   have:=rv.none_of (i:=i) (by rw [List.getElem?_map,eb];rfl)
   rw [this] at gF
   cases gF
  | some b=>
   obtain ⟨u,hu,ru⟩:=rv.get (i:=i) (x:=V.int b) (by rw [List.getElem?_map,eb];rfl)
   rw [hu] at gF
   cases gF
   obtain ⟨t,rfl⟩:=ru
   exact ⟨t,by show Value.int b t=Value.int (ns.getD i 0) t;rw [List.getD_eq_getElem?_getD,eb];rfl⟩
 ·refine ⟨.int ns.sum,H,I.kept fun b o e=>hk b o (fun z=>?_) (Heap.get?_push_of_some _ e),⟨t',?_⟩,q⟩
  ·exact absurd (Heap.lt_size e) (by rw [List.mem_singleton.mp z];exact Nat.lt_irrefl _)
  ·congr 1
   rw [List.size_toArray,hl]
   exact Dx ns
end
theorem boot_sum:bootBuiltins "sum" = some (.builtin "sum"):=by decide +kernel
section
variable {M:Model} {A:Around} {E:Value→Shared→Prop} {s:Shared}
end
section
variable {X:Cx} {N:List Str} {scope:Scope} {cl:List (Str×Addr)} {x:Str} {px pos:Pos} {iter elt:Expr} {ifs:List Expr} {wi:TI} {ρ:St→St} {tt:TT} {te:TE}
end
theorem pB{v:V}(h:ei v=true):eU v v=true:=by
 cases v with
 | aF=>rfl
 | bl b=>show (b == b)=true;simp
 | int i=>show (i == i)=true;simp
 | str x=>show (x == x)=true;simp
 | _=>cases h
theorem all_range(n:Nat):(List.range n).all (fun _=>true)=true:=by simp
section
variable {X:Cx} {pins:List (Addr×Obj)} {σ:St} {H:Hp} {s:Shared}
end
section
variable {X:Cx}
end
section
variable {X:Cx} {N:List Str} {scope:Scope} {cl:List (Str×Addr)} {x:Str} {px pos:Pos} {iter elt:Expr} {ifs:List Expr} {wi:TI} {ρ:St→St} {tt:TT} {te:TE}
end
theorem sZ{wi:TI}{ρ:St→St}{te:TE}{σ:St}{H:Hp}{Q:VK}{xs:List V}(eB:∀R:It→Hp→Prop,(∀J H1,aj H H1→gG J xs H1→R J H1)→wi σ H R)(hn:xs.length<sizeLine)
  (P:Addr→Nat→V→Hp→Prop) (mono:∀D i y H H' ys,P D i y H→H D=some (.lst ys)→(∀b o,b≠D→H b=some o→H' b=some o)→P D i y H')
  (step:∀D i x,xs[i]?=some x→∀(Hc:Hp) (R:VK),aj H Hc→(∃ys,Hc D=some (.lst ys))→(∀y H3,aj Hc H3→P D i y H3→R y H3)→te (some x::ρ σ) Hc R)
  (fin:∀D ys Hc,H D=none→aj H Hc→ys.length=xs.length→(∀(i:Nat) (y:V),ys[i]?=some y→P D i y Hc)→Hc D=some (.lst ys)→Q (.ref D) Hc):en wi ρ (fun _ H Q=>Q true H) te σ H Q:=by
 refine eB _ fun J H1 s1 js=>?_
 intro D nD
 have hD:H D=none:=by
  cases e:H D with
  | none=>rfl
  | some o=>rw [s1 _ _ e] at nD;cases nD
 exact xC (ρσ:=ρ σ) (te:=te) (Q:=Q) js nD hn (P D) (mono D) (fun i x hx Hc R sc=>step D i x hx Hc R (s1.trans sc)) (fun ys Hc sc=>fin D ys Hc hD (s1.trans sc))
section
variable {X:Cx} {K:PySem.W.Frag}
theorem s_(hK:X.K=K:=by rfl):oP X (w5 K):=by
 subst hK
 exact bL
def Dz(K:PySem.W.Frag):List V→Hp→VK→Prop:=fun xs H Q=>∃p ys,xs=[.ref p]∧(aX K H p ys∨cV K H p ys)∧Q (.int (ys.length:Int)) H
theorem DA(hK:X.K=K:=by rfl):dg X (.builtin "len") (Dz K):=by
 subst hK
 exact hI
end
end L2
namespace My
open PySem L2
theorem pC{r:List V→Hp→VK→Prop}{te:TE}{σ:St}{H:Hp}{Q:VK}(h:te σ H fun x H1=>r [x] H1 Q):rZ r (rY te oM) σ H Q:=h
theorem DB{te:TE}{D:Ends}{σ:St}{H:Hp}(h:te σ H D.rt):wg te D σ H:=h
theorem DC{vs:List V}{b:Bool}(h:∀(i:Nat) (v:V),vs[i]?=some v→v=.bl b):vs=(List.replicate vs.length b).map V.bl:=by
 refine List.ext_getElem? fun i=>?_
 rw [List.getElem?_map]
 by_cases hi:i<vs.length
 ·rw [show vs[i]?=some vs[i] by simp [hi],h i vs[i] (by simp [hi])]
  simp [hi]
 ·rw [List.getElem?_eq_none (by omega),List.getElem?_eq_none (by simp;omega)]
  rfl
theorem DD(n:Nat):(List.replicate n true).all id=true:=by simp
theorem none_of{H H':Hp}{b:Addr}(s:aj H H')(h:H' b=none):H b=none:=by
 cases e:H b with
 | none=>rfl
 | some o=>rw [s _ _ e] at h;cases h
theorem getD_at{α:Type}{xs:List α}{d:α}{i:Nat}(hi:i<xs.length):xs.getD i d=xs[i]:=by
 rw [List.getD_eq_getElem?_getD,show xs[i]?=some xs[i] by simp [hi]]
 rfl
def er(P:Addr)(H:Hp):Hp:=fun b=>if b=P then none else H b
theorem m4{P:Addr}{H:Hp}:aj (er P H) H:=fun b o e=>by
 unfold er at e
 split at e
 ·cases e
 ·exact e
theorem b4{P b:Addr}{H:Hp}(h:b≠P):er P H b=H b:=if_neg h
theorem tf{P b:Addr}{H:Hp}{o:HO}(h:b≠P)(e:H b=some o):er P H b=some o:=by rw [b4 h];exact e
theorem pD{P:Addr}{H H':Hp}(s:aj H H'):aj (er P H) (er P H'):=fun b o e=>by
 unfold er at e ⊢
 split at e
 ·cases e
 ·rename_i h
  rw [if_neg h]
  exact s _ _ e
theorem xE{P:Addr}{H:Hp}{o:HO}:er P (upd H P o)=er P H:=funext fun b=>by
 unfold er
 split
 ·rfl
 ·rename_i h
  exact aC h
def aZ(H:Hp)(P a:Addr):Prop:=∃x y:Int,H P=some (.lst [.ref a,.int x,.int y])∧0≤x∧0≤y
theorem aZ.mono{H H':Hp}{P a:Addr}(h:aZ H P a)(s:aj H H'):aZ H' P a:=by
 obtain ⟨x,y,e,h1,h2⟩:=h
 exact ⟨x,y,s _ _ e,h1,h2⟩
theorem aZ.upd{H:Hp}{P a D:Addr}{o:HO}(h:aZ H P a)(n:D≠P):aZ (L2.upd H D o) P a:=by
 obtain ⟨x,y,e,h1,h2⟩:=h
 exact ⟨x,y,by rw [aC n.symm];exact e,h1,h2⟩
theorem aZ.ne{H:Hp}{P a D:Addr}(h:aZ H P a)(n:H D=none):D≠P:=fun z=>by
 obtain ⟨x,y,e,_⟩:=h
 rw [z,e] at n
 cases n
def aw(P:Addr)(H H':Hp):Prop:=aj (er P H) (er P H')
theorem aw.refl{P:Addr}(H:Hp):aw P H H:=aj.refl _
theorem aw.trans{P:Addr}{H H' H2:Hp}(s:aw P H H')(t:aw P H' H2):aw P H H2:=aj.trans s t
theorem aw.of{P:Addr}{H H':Hp}(s:aj H H'):aw P H H':=pD s
theorem aw.fS{P:Addr}{H:Hp}{o:HO}:aw P H (upd H P o):=by
 unfold aw
 rw [xE]
 exact aj.refl _
theorem aw.but{P D:Addr}{H H':Hp}{o:HO}(s:aw P H H')(n:H D=none):aw P H (upd H' D o):=fun b u e=>by
 have e0:=s b u e
 have nb:b≠P:=fun z=>by unfold er at e;rw [if_pos z] at e;cases e
 rw [b4 nb] at e e0 ⊢
 rw [aC (fI e n)]
 exact e0
theorem aw.at{P b:Addr}{H H':Hp}{o:HO}(s:aw P H H')(nb:b≠P)(e:H b=some o):H' b=some o:=by
 have z:=s b o (tf nb e)
 rw [b4 nb] at z
 exact z
end My
namespace L2
open PySem PySem.Spec PyProof.Rows
end L2
namespace My
open PySem L2
def DE:Sp:=fun vs H Q _=>∃c a:Int,vs=[.int c,.int a]∧0≤a∧∀r:Int,0≤r→Q (.int r) H
def DF(K:PySem.W.Frag):Sp:=fun vs H Q _=>∃(P a:Addr) (ns:List Int) (many:Int),vs=[.ref P,.int many]∧aZ H P a∧aX K (er P H) a (ns.map V.int)∧1≤many∧cg many∧∀(r:Int) (H':Hp),0≤r→r<many→aw P H H'→aZ H' P a→Q (.int r) H'
end My
namespace L2
open PySem PySem.Spec PyProof.Rows
end L2
namespace My
open PySem L2
end My
namespace L2
open PySem PySem.Spec PyProof.Rows
def m5(K:PySem.W.Frag)(l:Addr):It:=
  ⟨fun i H=>∃xs x,aX K H l xs∧xs[i]?=some x,
   fun i H v H'=>∃T x,H T=none∧v=.ref T∧H'=upd H T (.tup [.int (i:Int),x])∧∀xs,aX K H l xs→xs[i]?=some x,
   fun i H=>∃xs,aX K H l xs∧xs.length≤i⟩
theorem DG{P:Program}{w:World}{K:PySem.W.Frag}{elts:List Expr}{k:Nat}{pos:Pos}{e it l:Addr}(xF:e≠it):Turn P w K (.Tuple elts k pos) (m5 K l) [e,it] e
  (fun i h=>(∃old,IsEnum h e it (i:Int) old)∧h.IsListIter it l i) where
 mem:=by simp
 obj:=fun i h st b hb=>by
  obtain ⟨⟨old,he⟩,h1⟩:=st
  simp only [List.mem_cons,List.not_mem_nil,or_false] at hb
  rcases hb with rfl | rfl
  ·exact ⟨_,he,fun v z=>by cases z⟩
  ·obtain ⟨o,e,c,d⟩:=h1
   exact ⟨o,e,fun v z=>by rw [d] at z;cases z⟩
 keep:=fun i h h' st k=>by
  obtain ⟨⟨old,he⟩,h1⟩:=st
  exact ⟨⟨old,k _ (by simp) _ he⟩,h1.at fun o e=>k _ (by simp) o e⟩
 item:=by
  intro X hP hw hK hc i pins s σ H E I hf st hg
  subst hP hw hK
  obtain ⟨⟨old,he⟩,h1⟩:=st
  obtain ⟨xs,x,kj,hx⟩:=hg
  obtain ⟨ai,rv,p,_⟩:=I.list kj
  obtain ⟨u,hu,ru⟩:=rv.get hx
  refine wpAny_pyNext_enum_item he h1 p.isList (x:=u) (by simpa using hu) xF fun h' g1 g2 g3 g4 g5=>⟨_,rfl,?_⟩
  refine wpAny_letOwnedTupleGo_enum g1 fun pE q1 sb=>?_
  have xG:H s.heap.objs.size=none:=I.ar.fresh (Nat.le_refl _)
  have lt:∀b o,s.heap.get? b=some o→b≠s.heap.objs.size:=fun b o e=>Nat.ne_of_lt (Heap.lt_size e)
  have keep:∀b o,b∉[e,it]→s.heap.get? b=some o→pE.get? b=some o:=fun b o nb e=>by
   simp only [List.mem_cons,List.not_mem_nil,or_false,not_or] at nb
   exact sb.extBut _ _ nb.1 (g5 b o nb.1 nb.2 e)
  have elt:e≠s.heap.objs.size:=lt _ _ he
  have pT:=sb.extBut _ _ elt.symm g3
  have m6:∀{b:Addr} {o:HO} (e:H b=some o),upd H s.heap.objs.size (.tup [.int (i:Int),x]) b=some o:=fun e=>by rw [aC (fI e xG)];exact e
  have ar:bj X.prog X.w (upd H s.heap.objs.size (.tup [.int (i:Int),x])) pE:=fun b o e=>by
   by_cases hb:b=s.heap.objs.size
   ·subst hb
    rw [aq] at e
    cases e
    exact ⟨by show 2≤sizeLine;decide,[.int i s.toks,u],.cons ⟨_,rfl⟩ (.cons ru .nil),⟨_,pT,rfl,_,rfl⟩⟩
   ·rw [aC hb] at e
    refine (I.ar b o e).fJ (fun c v eK q=>keep c v (fun m=>?_) q) (fun c q=>m6 q) fun c xs q=>m6 q
    have nn:=(hf c m).1
    rcases eK with rfl | eK
    ·rw [nn] at e;cases e
    ·rw [nn] at eK;cases eK
  have u1:Un (bG X.stack) [e,it] H (upd H s.heap.objs.size (.tup [.int (i:Int),x])) s.heap pE:=
   ⟨fun b o e n _ hx=>keep b o hx e,fun b o e n _ hx=>⟨o.slots,keep b o hx e⟩,fun b o e n hx=>by rw [aC (lt b o e)];exact n,fun b o e hx=>⟨o,keep b o hx e⟩,fun b xs e=>m6 e,fun b o u e=>m6 e,fun b ps e=>⟨#[],by rw [m6 e];simp⟩⟩
  refine ⟨.ref s.heap.objs.size,upd H s.heap.objs.size (.tup [.int (i:Int),x]),I.mB (s':={s with heap:=pE,toks:=s.toks+1}) (ch:=[e,it]) rfl u1 ar I.bare (fun b hb=>?_),rfl,⟨_,x,xG,rfl,rfl,fun as ha=>by rw [I.wd ha kj];exact hx⟩,?_,fun b hb=>?_⟩
  ·obtain ⟨f0,f1,f2,f3,f4,f5⟩:=hf b hb
   exact ⟨f3,f1,f4,f5⟩
  ·refine ⟨⟨u,?_⟩,g2.extBut sb.extBut xF.symm⟩
   have z:((i+1:Nat):Int)=(i:Int)+1:=by omega
   rw [z]
   exact q1
  ·have nb:b≠s.heap.objs.size:=by
    simp only [List.mem_cons,List.not_mem_nil,or_false] at hb
    rcases hb with rfl | rfl
    ·exact lt _ _ he
    ·obtain ⟨o,e,_⟩:=h1;exact lt _ _ e
   rw [aC nb]
   exact (hf b hb).1
 done:=by
  intro X hP hw hK hc i pins s σ H E I hf st hg
  subst hP hw hK
  obtain ⟨⟨old,he⟩,h1⟩:=st
  obtain ⟨xs,kj,hx⟩:=hg
  obtain ⟨ai,rv,p,_⟩:=I.list kj
  have hl:=rv.length
  refine wpAny_pyNext_enum_end (I.ok.hd hc) he h1 p.isList (by simp;omega) fun h' g=>⟨rfl,?_⟩
  have keep:∀b o,b∉[e,it]→s.heap.get? b=some o→h'.get? b=some o:=fun b o nb e=>by
   simp only [List.mem_cons,List.not_mem_nil,or_false,not_or] at nb
   exact g b o nb.2 e
  have ar:bj X.prog X.w H h':=fun b o e=>by
   refine (I.ar b o e).fJ (fun c v eK q=>keep c v (fun m=>?_) q) (fun c q=>q) fun c xs q=>q
   have nn:=(hf c m).1
   rcases eK with rfl | eK
   ·rw [nn] at e;cases e
   ·rw [nn] at eK;cases eK
  have u1:Un (bG X.stack) [e,it] H H s.heap h':=
   ⟨fun b o e n _ hx=>keep b o hx e,fun b o e n _ hx=>⟨o.slots,keep b o hx e⟩,fun b o e n hx=>n,fun b o e hx=>⟨o,keep b o hx e⟩,fun b xs e=>e,fun b o u e=>e,fun b ps e=>⟨#[],by rw [e];simp⟩⟩
  refine I.mB (s':={s with heap:=h'}) (ch:=[e,it]) rfl u1 ar I.bare fun b hb=>?_
  obtain ⟨f0,f1,f2,f3,f4,f5⟩:=hf b hb
  exact ⟨f3,f1,f4,f5⟩
 self:=fun _ _ _ _ _ st h=>by
  obtain ⟨⟨old,he⟩,_⟩:=st
  exact wpAny_pyIter_enum he h
theorem boot_enumerate:bootBuiltins "enumerate" = some (.type "enumerate"):=by decide +kernel
def DH(K:PySem.W.Frag)(ta:TA):TI:=fun σ H R=>ta σ H fun vs H1=>∃l,vs=[.ref l]∧(∃xs,aX K H1 l xs)∧R (m5 K l) H1
section
variable {X:Cx}
theorem xH{elts:List Expr}{k:Nat}{oK:Pos}{a:Expr}{ta:TA}{p pos:Pos}(hg:Gl X "enumerate")(hm:X.mg "enumerate" = none)(ha:PA X [a] ta)(hs:starEach [a] X.env=[(false,eval a X.env)]:=by rfl) :
  PI X (.Tuple elts k oK) (.Call (.Name "enumerate" p) [a] [] pos) (DH X.K ta):=by
 intro pins s σ H R I h
 refine Call_ (jU I hg hm boot_enumerate (PyProof.Rows.callWith_type1 (ay (ha pos pins s σ H _ I h) fun us s1 ⟨vs,H1,I1,r1,q1⟩=>?_) hs rfl))
 obtain ⟨l,e,⟨xs,kj⟩,q⟩:=q1
 subst e
 obtain ⟨u,rfl,ru⟩:=vals1 r1
 cases ru
 obtain ⟨ai,rv,p1,_⟩:=I1.list kj
 refine call_enumerate_list p1.isList fun h' z1 z2 z3 z4=>?_
 refine wpAny_pyIter_enum (s:={s1 with heap:=h'}) z1 ?_
 refine ⟨_,_,_,_,H1,rfl,I1.kept (t':=s1.toks) z4,DG (Nat.succ_ne_self _),⟨⟨_,z1⟩,z2⟩,fun b hb=>?_,q⟩
 have le:s1.heap.objs.size≤b:=by
  simp only [List.mem_cons,List.not_mem_nil,or_false] at hb
  rcases hb with rfl | rfl
  ·exact Nat.le_add_right ..
  ·exact Nat.le_refl _
 exact I1.mF le (I1.ar.fresh le)
end
theorem xI{K:PySem.W.Frag}{l:Addr}{xs:List V}{g:TG}{tb:TS}{D:Ends}{σ:St}{H:Hp}(Pv:Nat→St→Hp→Prop)(h0:Pv 0 σ H)(hl:∀i σ H,Pv i σ H→aX K H l xs)
  (hs:∀(i:Nat) (x:V) σ H T,xs[i]?=some x→Pv i σ H→H T=none→g (.ref T) σ (upd H T (.tup [.int (i:Int),x])) fun σ2 H2=>tb {D with nx:=Pv (i+1),ct:=Pv (i+1),bk:=D.nx} σ2 H2) (hd:∀σ H,Pv xs.length σ H→D.nx σ H) :
  ∃W:Nat→Nat→St→Hp→Prop,(∃m,W 0 m σ H)∧∀i m σ H,W i m σ H→
   ((m5 K l).stop i H∧D.nx σ H)∨((m5 K l).go i H∧∃N:St→Hp→Prop,(∀σ' H',N σ' H'→∃m',m'<m∧W (i+1) m' σ' H')∧∀x H',(m5 K l).cW i H x H'→g x σ H' fun σ2 H2=>tb {D with nx:=N,ct:=N,bk:=D.nx} σ2 H2):=by
 refine ⟨fun i m σ H=>m=xs.length-i∧i≤xs.length∧Pv i σ H,⟨xs.length,by simp,Nat.zero_le _,h0⟩,?_⟩
 rintro i m σ H ⟨rfl,hi,p⟩
 have q1:=hl i σ H p
 by_cases ba:i<xs.length
 ·refine .inr ⟨⟨xs,xs[i],q1,by simp [ba]⟩,Pv (i+1),fun σ' H' p'=>⟨xs.length-(i+1),by omega,rfl,ba,p'⟩,fun v H' hy=>?_⟩
  obtain ⟨T,x,nT,rfl,rfl,hx⟩:=hy
  exact hs i x σ H T (hx xs q1) p nT
 ·have e:i=xs.length:=by omega
  subst e
  exact .inl ⟨⟨xs,q1,Nat.le_refl _⟩,hd σ H p⟩
end L2
namespace My
open PySem L2
end My
namespace L2
open PySem PySem.Spec PyProof.Rows
section
variable {X:Cx} {tg:Expr}
end
section
variable {X:Cx} {e:Expr} {te:TE} {pos p2:Pos}
end
end L2
namespace My
open PySem L2
theorem tj{wi:TI}{ρ:St→St}{te:TE}{σ:St}{H:Hp}{Q:VK}{xs:List V}{n:Nat}(hl:xs.length=n)(eB:∀R:It→Hp→Prop,(∀J H1,aj H H1→gG J xs H1→R J H1)→wi σ H R)(hn:n<sizeLine)
  (P:Addr→Nat→Addr→Hp→Prop) (mono:∀D i y H H' ys,P D i y H→y≠D→H D=some (.lst ys)→(∀b o,b≠D→H b=some o→H' b=some o)→P D i y H')
  (step:∀D (i:Nat) (x:V),xs[i]?=some x→∀(Hc:Hp) (R:VK),aj H Hc→(∃ys,Hc D=some (.lst ys))→(∀y H3,aj Hc H3→Hc y=none→(∃o,H3 y=some o)→P D i y H3→R (.ref y) H3)→te (some x::ρ σ) Hc R)
  (fin:∀D (A:Nat→Addr) Hc,H D=none→aj H Hc→(∀i j,i<n→j<n→A i=A j→i=j)→(∀i,i<n→P D i (A i) Hc∧A i≠D)→Hc D=some (.lst ((List.range n).map fun i=>V.ref (A i)))→Q (.ref D) Hc):en wi ρ (fun _ H Q=>Q true H) te σ H Q:=by
 refine eB _ fun J H1 s1 js=>?_
 intro D nD
 have hD:H D=none:=by
  cases e:H D with
  | none=>rfl
  | some o=>rw [s1 _ _ e] at nD;cases nD
 refine ⟨fun i m ys Hc=>m=n-i∧i≤n∧Hc D=some (.lst ys)∧aj H1 Hc∧∃A:Nat→Addr,ys=(List.range i).map (fun j=>V.ref (A j))∧(∀a b,a<i→b<i→A a=A b→a=b)∧∀j,j<i→P D j (A j) Hc∧A j≠D∧∃o,Hc (A j)=some o,⟨_,rfl,Nat.zero_le _,aq,dW (aj.refl H1) nD,fun _=>D,rfl,(fun a b h=>by omega),fun j h=>by omega⟩,?_⟩
 rintro i m ys Hc ⟨rfl,hi,eD,sH,A,rfl,inj,hA⟩
 refine ⟨eD,?_⟩
 by_cases ba:i<n
 ·refine .inr ⟨js.go i Hc sH (by omega),fun x H' hy=>?_⟩
  obtain ⟨rfl,hx⟩:=js.cW i Hc x H' sH hy
  rw [if_pos rfl]
  refine step D i x (hx (by omega)) _ _ (s1.trans sH) ⟨_,eD⟩ fun y H3 s3 ny ⟨o,ho⟩ hp=>?_
  have e3:=s3 _ _ eD
  have yD:y≠D:=fun e=>by rw [e,eD] at ny;cases ny
  have aY:∀b o,b≠D→H3 b=some o→upd H3 D (.lst ((List.range i).map (fun j=>V.ref (A j))++[.ref y])) b=some o:=fun b o nb e=>by rw [aC nb];exact e
  have nA:∀j,j<i→A j≠y:=fun j hj e=>by
   obtain ⟨_,_,o',h'⟩:=hA j hj
   rw [e,ny] at h'
   cases h'
  refine ⟨e3,by simp;omega,n-(i+1),by omega,rfl,ba,aq,dW (sH.trans s3) nD,fun j=>if j=i then y else A j,?_,fun a b ha hb e=>?_,fun j hj=>?_⟩
  ·rw [List.range_succ,List.map_append]
   congr 1
   ·refine List.map_congr_left fun j hj=>?_
    dsimp only
    rw [if_neg (by have:=List.mem_range.mp hj;omega)]
   ·simp
  ·dsimp only at e
   by_cases z1:a=i
   ·by_cases z2:b=i
    ·omega
    ·rw [if_pos z1,if_neg z2] at e
     exact absurd e.symm (nA b (by omega))
   ·by_cases z2:b=i
    ·rw [if_neg z1,if_pos z2] at e
     exact absurd e (nA a (by omega))
    ·rw [if_neg z1,if_neg z2] at e
     exact inj a b (by omega) (by omega) e
  ·dsimp only
   by_cases z:j=i
   ·rw [if_pos z,z]
    exact ⟨mono D i y H3 _ _ hp yD e3 aY,yD,o,aY _ _ yD ho⟩
   ·rw [if_neg z]
    obtain ⟨h1,h2,o',h3⟩:=hA j (by omega)
    exact ⟨mono D j (A j) H' _ _ h1 h2 eD (fun b o nb e=>aY b o nb (s3 _ _ e)),h2,o',aY _ _ h2 (s3 _ _ h3)⟩
 ·have e:i=n:=by omega
  subst e
  exact .inl ⟨js.stop _ Hc sH (by omega),fin D A Hc hD (s1.trans sH) inj (fun j hj=>⟨(hA j hj).1,(hA j hj).2.1⟩) eD⟩
end My
namespace L2
open PySem PySem.Spec PyProof.Rows
theorem DJ{xs ys:List Int}(h:xs.length=ys.length):((List.range xs.length).all fun j=>eU (.int (xs.getD j 0)) (.int (ys.getD j 0)))=decide (xs=ys):=by
 by_cases e:xs=ys
 ·subst e
  rw [decide_eq_true rfl,List.all_eq_true]
  intro j _
  exact pB rfl
 ·rw [decide_eq_false e]
  cases z:((List.range xs.length).all fun j=>eU (.int (xs.getD j 0)) (.int (ys.getD j 0))) with
  | false=>rfl
  | true=>
   refine absurd (List.ext_getElem h fun j h1 h2=>?_) e
   have:=List.all_eq_true.mp z j (List.mem_range.mpr h1)
   have this:(xs.getD j 0 == ys.getD j 0)=true:=this
   rw [beq_iff_eq,List.getD_eq_getElem?_getD,List.getD_eq_getElem?_getD] at this
   simpa [h1,h2] using this
end L2
namespace My
open PySem L2
end My
namespace L2
open PySem PySem.Spec PyProof.Rows
end L2
namespace My
open PySem L2
end My
namespace L2
open PySem PySem.Spec PyProof.Rows
section
variable {X:Cx}
end
end L2
namespace My
open PySem L2
end My
namespace L2
open PySem PySem.Spec PyProof.Rows
end L2
namespace My
open PySem L2
end My
namespace L2
open PySem PySem.Spec PyProof.Rows
section
variable {X:Cx} {N:List Str} {scope:Scope} {cl:List (Str×Addr)} {x y:Str} {px py pos tp:Pos} {Dv:Nat} {iter elt:Expr} {ifs:List Expr} {wi:TI} {ρ:St→St} {tt:TT} {te:TE}
end
inductive Tr where
 | fl (v:V)
 | ls (xs:List Tr)
 | tp (xs:List Tr)
 | dc
inductive fu (H:Hp):Tr→V→Prop where
 | fl {v:V} (h:ei v=true):fu H (.fl v) v
 | ls {a:Addr} {vs:List V} {ts:List Tr} (e:H a=some (.lst vs)) (l:vs.length=ts.length) (h:∀(i:Nat) (v:V) (t:Tr),vs[i]?=some v→ts[i]?=some t→fu H t v):fu H (.ls ts) (.ref a)
 | tp {a:Addr} {vs:List V} {ts:List Tr} (e:H a=some (.tup vs)) (l:vs.length=ts.length) (h:∀(i:Nat) (v:V) (t:Tr),vs[i]?=some v→ts[i]?=some t→fu H t v):fu H (.tp ts) (.ref a)
 | dc {a:Addr} (e:H a=some (sN a)):fu H .dc (.ref a)
def Tr.In:Nat→Tr→Prop
 | _,.fl _=>True
 | _,.dc=>True
 | 0,.ls _=>False
 | 0,.tp _=>False
 | n+1,.ls ts=>∀t∈ts,t.In n
 | n+1,.tp ts=>∀t∈ts,t.In n
section
variable {X:Cx} {pins:List (Addr×Obj)} {σ:St} {H:Hp} {s:Shared}
theorem xJ{A:Around}{a b:Addr}(ha:dU a s.heap)(hb:dU b s.heap)(hu:A.units<cLine):SeqAt.RcAt A s (.ref a) (.ref b) true:=fun prog w E Q h=>by
 obtain ⟨o,ep,e,c,d,z⟩:=ha
 obtain ⟨o',iJ,e',c',d',z'⟩:=hb
 exact PySem.W.keq_eq (knd:=cM prog w) (ka:=[]) (kb:=[]) z z' ⟨o,#[],ep,e,c,d,fun _ h=>by simp at h,.nil,List.nodup_nil⟩ ⟨o',#[],iJ,e',c',d',fun _ h=>by simp at h,.nil,List.nodup_nil⟩ hu (fun _=>.nil) h
theorem DK{A:Around}{a b:Addr}(ha:dU a s.heap)(hb:dU b s.heap)(hu:A.units<cLine):SeqAt.RcNeAt A s (.ref a) (.ref b) false:=fun prog w E Q h=>by
 obtain ⟨o,ep,e,c,d,z⟩:=ha
 obtain ⟨o',iJ,e',c',d',z'⟩:=hb
 exact PySem.W.keq_ne (knd:=cM prog w) (ka:=[]) (kb:=[]) z z' ⟨o,#[],ep,e,c,d,fun _ h=>by simp at h,.nil,List.nodup_nil⟩ ⟨o',#[],iJ,e',c',d',fun _ h=>by simp at h,.nil,List.nodup_nil⟩ hu (fun _=>.nil) h
theorem pF{xs ys:List V}{us vs:List Value}(r1:Vals xs us)(r2:Vals ys vs){j:Nat}(h1:j<us.length)(h2:j<vs.length):∃x y,xs[j]?=some x∧ys[j]?=some y∧RelV x us.toArray[j]∧RelV y vs.toArray[j]:=by
 have l1:=r1.length
 have l2:=r2.length
 obtain ⟨x,ex⟩:∃x,xs[j]?=some x:=⟨xs[j],by simp [show j<xs.length by omega]⟩
 obtain ⟨y,ey⟩:∃y,ys[j]?=some y:=⟨ys[j],by simp [show j<ys.length by omega]⟩
 obtain ⟨x',mr,rx⟩:=r1.get ex
 obtain ⟨y',tm,ry⟩:=r2.get ey
 have e1:us.toArray[j]=x':=by simpa using (List.getElem?_eq_some_iff.mp mr).2
 have e2:vs.toArray[j]=y':=by simpa using (List.getElem?_eq_some_iff.mp tm).2
 exact ⟨x,y,ex,ey,by rw [e1];exact rx,by rw [e2];exact ry⟩
theorem xK(I:Inv X pins σ H s):∀(n:Nat) (A:Around) (t:Tr) (v u:V) (a b:Value),t.In n→fu H t v→fu H t u→RelV v a→RelV u b→A.units+n<cLine→SeqAt.EqAt A s a b true:=by
 intro n
 induction n with
 | zero=>
  intro A t v u a b hn h1 h2 ra rb hu
  cases h1 with
  | fl h=>
   cases h2 with
   | fl _=>
    have z:=oQ (A:=A) (s:=s) ra rb h h
    rw [pB h] at z
    exact z
  | ls e l h=>exact hn.elim
  | tp e l h=>exact hn.elim
  | @dc p e=>
   cases h2 with
   | @dc p' e'=>
    cases ra
    cases rb
    by_cases pq:p=p'
    ·subst pq;exact SeqAt.EqAt.same _
    ·exact SeqAt.EqAt.of_refs pq (xJ (show a_ X.prog X.w H s.heap p (.ext (dU p)) from I.ar p _ e).1 (show a_ X.prog X.w H s.heap p' (.ext (dU p')) from I.ar p' _ e').1 hu)
 | succ n ih=>
  intro A t v u a b hn h1 h2 ra rb hu
  cases h1 with
  | fl h=>
   cases h2 with
   | fl _=>
    have z:=oQ (A:=A) (s:=s) ra rb h h
    rw [pB h] at z
    exact z
  | @dc p e=>
   cases h2 with
   | @dc p' e'=>
    cases ra
    cases rb
    by_cases pq:p=p'
    ·subst pq;exact SeqAt.EqAt.same _
    ·exact SeqAt.EqAt.of_refs pq (xJ (show a_ X.prog X.w H s.heap p (.ext (dU p)) from I.ar p _ e).1 (show a_ X.prog X.w H s.heap p' (.ext (dU p')) from I.ar p' _ e').1 (by omega))
  | @ls p xs ts e l h=>
   cases h2 with
   | @ls p' ys _ e' l' h'=>
    cases ra
    cases rb
    by_cases pq:p=p'
    ·subst pq;exact SeqAt.EqAt.same _
    obtain ⟨us,r1,t1,_⟩:=I.list (.of e)
    obtain ⟨vs,r2,t2,_⟩:=I.list (.of e')
    have l1:=r1.length
    have l2:=r2.length
    have z:=SeqAt.RcAt.lists (A:=A) (e:=fun _=>true) t1.isList t2.isList (by simp;omega) (by omega) (fun j z1 z2=>by
     obtain ⟨x,y,ex,ey,rx,ry⟩:=pF r1 r2 (by simpa using z1) (by simpa using z2)
     have jt:j<ts.length:=by have:=(List.getElem?_eq_some_iff.mp ex).1;omega
     exact ih A.in1 ts[j] x y _ _ (hn _ (List.getElem_mem jt)) (h j x _ ex (by simp [jt])) (h' j y _ ey (by simp [jt])) rx ry (by rw [Around.in1_units];omega))
    rw [all_range] at z
    exact SeqAt.EqAt.of_refs pq z
  | @tp p xs ts e l h=>
   cases h2 with
   | @tp p' ys _ e' l' h'=>
    cases ra
    cases rb
    by_cases pq:p=p'
    ·subst pq;exact SeqAt.EqAt.same _
    obtain ⟨us,r1,t1,_⟩:=I.tuple (.of e)
    obtain ⟨vs,r2,t2,_⟩:=I.tuple (.of e')
    have l1:=r1.length
    have l2:=r2.length
    have z:=SeqAt.RcAt.tuples (A:=A) (e:=fun _=>true) t1 t2 (by omega) (fun j z1 z2=>by
     obtain ⟨x,y,ex,ey,rx,ry⟩:=pF r1 r2 (by simpa using z1) (by simpa using z2)
     have jt:j<ts.length:=by have:=(List.getElem?_eq_some_iff.mp ex).1;omega
     exact ih A.in1 ts[j] x y _ _ (hn _ (List.getElem_mem jt)) (h j x _ ex (by simp [jt])) (h' j y _ ey (by simp [jt])) rx ry (by rw [Around.in1_units];omega))
    have e3:(us.toArray.size == vs.toArray.size)=true:=by simp;omega
    rw [all_range,e3] at z
    exact SeqAt.EqAt.of_refs pq z
end
def DL(n:Nat):R2:=fun x y H Q=>∃t:Tr,t.In n∧fu H t x∧fu H t y∧Q (.bl false) H
theorem DM{v:V}(h:ei v=true):rS v v=true:=by cases v <;> first | rfl | cases h
theorem DN{X:Cx}{n:Nat}(hu:X.A.units+64<cLine)(hn:n<60:=by decide):b3 X (compareOp .NotEq) (DL n):=by
 intro pins s σ H x y v u Q I rx ry h
 obtain ⟨t,pG,h1,h2,q⟩:=h
 cases h1 with
 | fl h=>
  cases h2 with
  | fl _=>
   refine oI pins s σ H x x v u Q I rx ry ⟨DM h,?_⟩
   rw [decide_eq_true rfl]
   exact q
 | @dc p e=>
  cases h2 with
  | @dc p' e'=>
   cases rx
   cases ry
   exact (DK (show a_ X.prog X.w H s.heap p (.ext (dU p)) from I.ar p _ e).1 (show a_ X.prog X.w H s.heap p' (.ext (dU p')) from I.ar p' _ e').1 (by omega)) _ _ _ _ ⟨.bl false,H,I,rfl,q⟩
 | @ls p xs ts e l h=>
  cases h2 with
  | @ls p' ys _ e' l' h'=>
   cases rx
   cases ry
   cases n with
   | zero=>exact pG.elim
   | succ n=>
    obtain ⟨us,r1,t1,_⟩:=I.list (.of e)
    obtain ⟨vs,r2,t2,_⟩:=I.list (.of e')
    have l1:=r1.length
    have l2:=r2.length
    refine SeqAt.RcNeAt.lists (e:=fun _=>true) t1.isList t2.isList (by simp;omega) (by omega) (fun j z1 z2=>?_) _ _ _ _ ?_
    ·obtain ⟨x,y,ex,ey,rx,ry⟩:=pF r1 r2 (by simpa using z1) (by simpa using z2)
     have jt:j<ts.length:=by have:=(List.getElem?_eq_some_iff.mp ex).1;omega
     exact xK I n X.A.in1 ts[j] x y _ _ (pG _ (List.getElem_mem jt)) (h j x _ ex (by simp [jt])) (h' j y _ ey (by simp [jt])) rx ry (by rw [Around.in1_units];omega)
    ·rw [all_range]
     exact ⟨.bl false,H,I,rfl,q⟩
 | @tp p xs ts e l h=>
  cases h2 with
  | @tp p' ys _ e' l' h'=>
   cases rx
   cases ry
   cases n with
   | zero=>exact pG.elim
   | succ n=>
    obtain ⟨us,r1,t1,_⟩:=I.tuple (.of e)
    obtain ⟨vs,r2,t2,_⟩:=I.tuple (.of e')
    have l1:=r1.length
    have l2:=r2.length
    refine SeqAt.RcNeAt.tuples (e:=fun _=>true) t1 t2 (by omega) (fun j z1 z2=>?_) _ _ _ _ ?_
    ·obtain ⟨x,y,ex,ey,rx,ry⟩:=pF r1 r2 (by simpa using z1) (by simpa using z2)
     have jt:j<ts.length:=by have:=(List.getElem?_eq_some_iff.mp ex).1;omega
     exact xK I n X.A.in1 ts[j] x y _ _ (pG _ (List.getElem_mem jt)) (h j x _ ex (by simp [jt])) (h' j y _ ey (by simp [jt])) rx ry (by rw [Around.in1_units];omega)
    ·have e3:(us.toArray.size == vs.toArray.size)=true:=by simp;omega
     rw [all_range,e3]
     exact ⟨.bl false,H,I,rfl,q⟩
end L2
namespace My
open PySem PySem.W PyProof.Rows
section
variable {n:Nat} {c:Nat→Int}
def fT(n:Nat)(p:Array Nat):Prop:=p.Perm (List.toArray (List.range n))
theorem fT.size{p:Array Nat}(h:fT n p):p.size=n:=by
 rw [Array.Perm.size_eq h]
 simp
def vN(c:Nat→Int)(p:Array Nat)(i:Nat):Int:=c (p.getD i 0)
def hZ(c:Nat→Int)(p:Array Nat)(k:Nat):Prop:=∀a b,a≤b→b<k→vN c p a≤vN c p b
end
end My
namespace Tm
open PySem PySem.W PyProof.Rows
def h8:Bool→Keyed→Array Keyed→Nat→Nat→Nat→StateT SortSt Sem (Option Nat):=sortPriv% PySem.Builtin.gallop
def m7:Nat→StateT SortSt Sem Unit:=sortPriv% PySem.Builtin.setMinGallop
def tu:Array Keyed→Array Keyed→StateT SortSt Sem (Array Keyed):=sortPriv% PySem.Builtin.mergeLo
def tw:Array Keyed→Array Keyed→StateT SortSt Sem (Array Keyed):=sortPriv% PySem.Builtin.mergeHi
def i4(left:Bool)(key:Keyed)(arr:Array Keyed)(base i:Nat):StateT SortSt Sem (Option Bool):=do
 let x ←elem' arr (base+i)
 if left then lt' x key else return (←lt' key x).map (!·)
theorem DO(left:Bool)(key:Keyed)(arr:Array Keyed)(base n hint:Nat):h8 left key arr base n hint=(do
 let mut pH:=0
 let mut aM:=1
 let mut lo:=0
 let mut hi:=0
 let some right ←i4 left key arr base hint | return none
 if right then
  let m8:=n-hint
  for _ in [0:n] do
   if aM≥m8 then break
   let some more ←i4 left key arr base (hint+aM) | return none
   if !more then break
   pH:=aM
   aM:=2*aM+1
  lo:=hint+pH+1
  hi:=hint+min aM m8
 else
  let m8:=hint+1
  for _ in [0:n] do
   if aM≥m8 then break
   let some found ←i4 left key arr base (hint-aM) | return none
   if found then break
   pH:=aM
   aM:=2*aM+1
  lo:=hint+1-min aM m8
  hi:=hint-pH
 for _ in [0:n] do
  if lo≥hi then break
  let m:=lo+(hi-lo) / 2
  let some more ←i4 left key arr base m | return none
  if more then lo:=m+1 else hi:=m
 return some hi):=rfl
section
variable {prog:Program} {w:World} {A:Around} {E:Value→Shared→Prop} {s:Shared} {κ:SortKind} {key:Keyed→Int} {Ok:Keyed→Prop}
def eV(prog:Program)(w:World)(A:Around)(s:Shared)(κ:SortKind)(key:Keyed→Int)(Ok:Keyed→Prop):Prop:=
 ∀x y,Ok x→Ok y→∀C:Bool→Shared→Prop,C (decide (key x<key y)) s→wpAny (model prog w) A (keyLt' κ x.1 y.1) C (fun _ _=>False) s
theorem m9(h:eV prog w A s κ key Ok){x y:Keyed}(ox:Ok x)(oy:Ok y){st:SortSt}(hk:kindOf st=κ){Q:Option Bool→SortSt→Prop}(q:Q (some (decide (key x<key y))) st):wpS (model prog w) A E s (lt' x y) Q st:=by
 rw [lt'_eq]
 refine wpS_bind (wpS_get ?_)
 rw [hk]
 refine wpS_bind (wpS_lift (wpAny_attempt (wpAny_mono (h x y ox oy (fun c s'=>s'=s∧wpS (model prog w) A E s (pure (some c)) Q st) ⟨rfl,wpS_pure q⟩) (fun c s' hc=>?_) fun _ _ hF=>hF.elim)))
 exact hc
def nn:Keyed:=(Value.none,Value.none)
theorem aR{arr:Array Keyed}{i:Nat}(hi:i<arr.size){st:SortSt}{Q:Keyed→SortSt→Prop}(q:Q (arr.getD i nn) st):wpS (model prog w) A E s (elem' arr i) Q st:=by
 rw [elem'_eq]
 have e:arr[i]?=some (arr.getD i nn):=by simp [Array.getD,hi]
 rw [e]
 exact wpS_pure q
def cL(Ok:Keyed→Prop)(arr:Array Keyed):Prop:=∀i,i<arr.size→Ok (arr.getD i nn)
def bB(left:Bool)(k a:Int):Bool:=if left=true then decide (a<k) else !decide (k<a)
theorem dX(h:eV prog w A s κ key Ok){left:Bool}{kx:Keyed}{arr:Array Keyed}{base i:Nat}(hi:base+i<arr.size)(ha:cL Ok arr)(ox:Ok kx){st:SortSt}(hk:kindOf st=κ){Q:Option Bool→SortSt→Prop}(q:Q (some (bB left (key kx) (key (arr.getD (base+i) nn)))) st):wpS (model prog w) A E s (i4 left kx arr base i) Q st:=by
 unfold i4
 refine wpS_bind (aR hi ?_)
 unfold bB at q
 cases left with
 | true=>
  rw [if_pos rfl] at q ⊢
  exact m9 h (ha _ hi) ox hk q
 | false=>
  rw [if_neg (by simp)] at q ⊢
  exact wpS_bind (m9 h ox (ha _ hi) hk (wpS_pure q))
theorem dY{left:Bool}{kx:Keyed}{arr:Array Keyed}{base n hint:Nat}{f:Nat→Bool}{st:SortSt}
  (hb:∀i,i<n→∀Q:Option Bool→SortSt→Prop,Q (some (f i)) st→wpS (model prog w) A E s (i4 left kx arr base i) Q st)
  (hh:hint<n) (mono:∀i j,i≤j→j<n→f j=true→f i=true) {Q:Option Nat→SortSt→Prop}
  (k:∀m,m≤n→(∀i,i<m→f i=true)→(∀i,m≤i→i<n→f i=false)→Q (some m) st):wpS (model prog w) A E s (h8 left kx arr base n hint) Q st:=by
 rw [DO]
 refine wpS_bind (hb hint hh _ ?_)
 dsimp only
 have tD:∀i j,i≤j→j<n→f i=false→f j=false:=fun i j h1 h2 h3=>by
  cases e:f j with
  | false=>rfl
  | true=>rw [mono i j h1 h2 e] at h3;cases h3
 have bs:∀(lo hi:Nat) (body:Nat→Option (Option Nat)×Nat×Nat→StateT SortSt Sem (ForInStep (Option (Option Nat)×Nat×Nat))) (R:Option (Option Nat)×Nat×Nat→SortSt→Prop),lo≤hi→hi≤n→(∀i,i<lo→f i=true)→(∀i,hi≤i→i<n→f i=false)→
   (∀x lo hi (R:ForInStep (Option (Option Nat)×Nat×Nat)→SortSt→Prop),lo≥hi→R (.done (none,lo,hi)) st→wpS (model prog w) A E s (body x (none,lo,hi)) R st)→
   (∀x lo hi (R:ForInStep (Option (Option Nat)×Nat×Nat)→SortSt→Prop),lo<hi→hi≤n→R (.yield (if f (lo+(hi-lo) / 2)=true then (none,lo+(hi-lo) / 2+1,hi) else (none,lo,lo+(hi-lo) / 2))) st→wpS (model prog w) A E s (body x (none,lo,hi)) R st)→
   (∀m,m≤n→(∀i,i<m→f i=true)→(∀i,m≤i→i<n→f i=false)→R (none,m,m) st)→
   wpS (model prog w) A E s (forIn [0:n] (none,lo,hi) body) R st:=fun lo hi body R h1 h2 h3 h4 b1 b2 kk=>by
  refine wpS_forRange (I:=fun x c ak=>ak=st∧∃lo hi,c=(none,lo,hi)∧lo≤hi∧hi≤n∧hi-lo+x≤n∧(∀i,i<lo→f i=true)∧(∀i,hi≤i→i<n→f i=false)) ?_ ?_ ⟨rfl,lo,hi,rfl,h1,h2,by omega,h3,h4⟩
  ·rintro x c ak _ hx ⟨rfl,lo,hi,rfl,g1,g2,g3,g4,g5⟩
   by_cases z:lo≥hi
   ·refine b1 x lo hi _ z ?_
    obtain rfl:lo=hi:=by omega
    exact kk lo g2 g4 g5
   ·refine b2 x lo hi _ (by omega) g2 ?_
    cases e:f (lo+(hi-lo) / 2) with
    | true=>
     rw [if_pos rfl]
     exact ⟨rfl,_,_,rfl,by omega,g2,by omega,fun i aS=>mono i (lo+(hi-lo) / 2) (by omega) (by omega) e,g5⟩
    | false=>
     rw [if_neg (by simp)]
     exact ⟨rfl,_,_,rfl,by omega,by omega,by omega,g4,fun i h1 h2=>tD (lo+(hi-lo) / 2) i h1 h2 e⟩
  ·rintro c ak ⟨rfl,lo,hi,rfl,g1,g2,g3,g4,g5⟩
   have:lo=hi:=by
    have:max 0 n=n:=by omega
    omega
   subst this
   exact kk lo g2 g4 g5
 cases e:f hint with
 | true=>
  rw [if_pos rfl]
  refine wpS_bind (wpS_mono (wpS_forRange (I:=fun x c ak=>ak=st∧∃la aM,c=(none,la,aM)∧x+1≤aM∧la<aM∧la<n-hint∧f (hint+la)=true)
   (Q:=fun c ak=>ak=st∧∃la aM,c=(none,la,aM)∧la<aM∧la<n-hint∧f (hint+la)=true∧(aM≥n-hint∨f (hint+aM)=false)) ?_ ?_ ⟨rfl,0,1,rfl,Nat.le_refl _,by omega,by omega,by simpa using e⟩) ?_)
  ·rintro x c ak _ hx ⟨rfl,la,aM,rfl,g1,g2,g3,g4⟩
   dsimp only
   by_cases z:aM≥n-hint
   ·rw [if_pos z]
    exact wpS_pure ⟨rfl,la,aM,rfl,g2,g3,g4,.inl z⟩
   ·rw [if_neg z]
    refine wpS_bind (hb _ (by omega) _ ?_)
    dsimp only
    cases e':f (hint+aM) with
    | true=>
     rw [if_neg (by simp)]
     exact wpS_pure ⟨rfl,_,_,rfl,by omega,by omega,by omega,e'⟩
    | false=>
     rw [if_pos (by simp)]
     exact wpS_pure ⟨rfl,la,aM,rfl,g2,g3,g4,.inr e'⟩
  ·rintro c ak ⟨rfl,la,aM,rfl,g1,g2,g3,g4⟩
   have:max 0 n=n:=by omega
   exact ⟨rfl,la,aM,rfl,g2,g3,g4,.inl (by omega)⟩
  ·rintro c ak ⟨rfl,la,aM,rfl,g2,g3,g4,g5⟩
   refine wpS_bind (bs (hint+la+1) (hint+min aM (n-hint)) _ _ (by omega) (by omega) (fun i hi=>mono i (hint+la) (by omega) (by omega) g4) (fun i h1 h2=>?_) ?_ ?_ ?_)
   ·rcases g5 with g5 | g5
    ·omega
    ·by_cases z:aM≥n-hint
     ·omega
     ·exact tD (hint+aM) i (by omega) h2 g5
   ·intro x lo hi R z hR
    dsimp only
    rw [if_pos z]
    exact wpS_pure hR
   ·intro x lo hi R z z2 hR
    dsimp only
    rw [if_neg (by omega)]
    refine wpS_bind (hb _ (by omega) _ ?_)
    dsimp only
    cases e:f (lo+(hi-lo) / 2) with
    | true=>
     rw [e,if_pos rfl] at hR
     rw [if_pos rfl]
     exact wpS_pure hR
    | false=>
     rw [e,if_neg (by simp)] at hR
     rw [if_neg (by simp)]
     exact wpS_pure hR
   ·exact fun m m1 m2 m3=>wpS_pure (k m m1 m2 m3)
 | false=>
  rw [if_neg (by simp)]
  refine wpS_bind (wpS_mono (wpS_forRange (I:=fun x c ak=>ak=st∧∃la aM,c=(none,la,aM)∧x+1≤aM∧la<aM∧la≤hint∧f (hint-la)=false)
   (Q:=fun c ak=>ak=st∧∃la aM,c=(none,la,aM)∧la<aM∧la≤hint∧f (hint-la)=false∧(aM≥hint+1∨f (hint-aM)=true)) ?_ ?_ ⟨rfl,0,1,rfl,Nat.le_refl _,by omega,by omega,by simpa using e⟩) ?_)
  ·rintro x c ak _ hx ⟨rfl,la,aM,rfl,g1,g2,g3,g4⟩
   dsimp only
   by_cases z:aM≥hint+1
   ·rw [if_pos z]
    exact wpS_pure ⟨rfl,la,aM,rfl,g2,g3,g4,.inl z⟩
   ·rw [if_neg z]
    refine wpS_bind (hb _ (by omega) _ ?_)
    dsimp only
    cases e':f (hint-aM) with
    | true=>
     rw [if_pos rfl]
     exact wpS_pure ⟨rfl,la,aM,rfl,g2,g3,g4,.inr e'⟩
    | false=>
     rw [if_neg (by simp)]
     exact wpS_pure ⟨rfl,_,_,rfl,by omega,by omega,by omega,e'⟩
  ·rintro c ak ⟨rfl,la,aM,rfl,g1,g2,g3,g4⟩
   have:max 0 n=n:=by omega
   exact ⟨rfl,la,aM,rfl,g2,g3,g4,.inl (by omega)⟩
  ·rintro c ak ⟨rfl,la,aM,rfl,g2,g3,g4,g5⟩
   refine wpS_bind (bs (hint+1-min aM (hint+1)) (hint-la) _ _ (by omega) (by omega) (fun i hi=>?_) (fun i h1 h2=>tD (hint-la) i (by omega) h2 g4) ?_ ?_ ?_)
   ·rcases g5 with g5 | g5
    ·omega
    ·by_cases z:aM≥hint+1
     ·omega
     ·exact mono i (hint-aM) (by omega) (by omega) g5
   ·intro x lo hi R z hR
    dsimp only
    rw [if_pos z]
    exact wpS_pure hR
   ·intro x lo hi R z z2 hR
    dsimp only
    rw [if_neg (by omega)]
    refine wpS_bind (hb _ (by omega) _ ?_)
    dsimp only
    cases e:f (lo+(hi-lo) / 2) with
    | true=>
     rw [e,if_pos rfl] at hR
     rw [if_pos rfl]
     exact wpS_pure hR
    | false=>
     rw [e,if_neg (by simp)] at hR
     rw [if_neg (by simp)]
     exact wpS_pure hR
   ·exact fun m m1 m2 m3=>wpS_pure (k m m1 m2 m3)
end
def aJ(K:Keyed→Int)(l:List Keyed):Prop:=l.Pairwise fun x y=>K x≤K y
theorem aJ.take{K:Keyed→Int}{l:List Keyed}(h:aJ K l)(k:Nat):aJ K (l.take k):=List.Pairwise.sublist (List.take_sublist k l) h
theorem aJ.drop{K:Keyed→Int}{l:List Keyed}(h:aJ K l)(k:Nat):aJ K (l.drop k):=List.Pairwise.sublist (List.drop_sublist k l) h
theorem aJ.app{K:Keyed→Int}{l m:List Keyed}(h:aJ K l)(h':aJ K m)(k:∀x∈l,∀y∈m,K x≤K y):aJ K (l++m):=List.pairwise_append.mpr ⟨h,h',k⟩
structure MI (K:Keyed→Int) (A B O:List Keyed) (i j:Nat):Prop where
 pm:O.Perm (A.take i++B.take j)
 so:aJ K O
 ca:∀x∈O,∀y∈A.drop i,K x≤K y
 cb:∀x∈O,∀y∈B.drop j,K x≤K y
theorem MI.flip{K:Keyed→Int}{A B O:List Keyed}{i j:Nat}(h:MI K A B O i j):MI K B A O j i:=⟨h.pm.trans List.perm_append_comm,h.so,h.cb,h.ca⟩
theorem MI.pI{K:Keyed→Int}{A B O:List Keyed}{i j:Nat}(h:MI K A B O i j)(sA:aJ K A)(k:Nat)(hk:∀x∈(A.drop i).take k,∀y∈B.drop j,K x≤K y):MI K A B (O++(A.drop i).take k) (i+k) j:=by
 have e:A.take (i+k)=A.take i++(A.drop i).take k:=List.take_add
 have d:A.drop (i+k)=(A.drop i).drop k:=by rw [List.drop_drop]
 have sd:=sA.drop i
 have sp:(A.drop i).take k++(A.drop i).drop k=A.drop i:=List.take_append_drop ..
 have cr:∀x∈(A.drop i).take k,∀y∈(A.drop i).drop k,K x≤K y:=by
  have:=sd
  rw [←sp] at this
  exact (List.pairwise_append.mp this).2.2
 refine ⟨?_,h.so.app (sd.take k) fun x hx y hy=>h.ca x hx y (List.mem_of_mem_take hy),fun x hx y hy=>?_,fun x hx y hy=>?_⟩
 ·rw [e]
  refine (h.pm.append_right _).trans ?_
  rw [List.append_assoc,List.append_assoc]
  exact List.Perm.append_left _ List.perm_append_comm
 ·rw [d] at hy
  rcases List.mem_append.mp hx with hx | hx
  ·exact h.ca x hx y (List.mem_of_mem_drop hy)
  ·exact cr x hx y hy
 ·rcases List.mem_append.mp hx with hx | hx
  ·exact h.cb x hx y hy
  ·exact hk x hx y hy
theorem MI.tE{K:Keyed→Int}{A B O:List Keyed}{i j:Nat}(h:MI K A B O i j)(sB:aJ K B)(k:Nat)(hk:∀x∈(B.drop j).take k,∀y∈A.drop i,K x≤K y):MI K A B (O++(B.drop j).take k) i (j+k):=(h.flip.pI sB k hk).flip
theorem MI.done{K:Keyed→Int}{A B O:List Keyed}{i j:Nat}(h:MI K A B O i j)(sA:aJ K A)(sB:aJ K B)(k:∀x∈A.drop i,∀y∈B.drop j,K x≤K y):(O++A.drop i++B.drop j).Perm (A++B)∧aJ K (O++A.drop i++B.drop j):=by
 refine ⟨?_,(h.so.app (sA.drop i) h.ca).app (sB.drop j) fun x hx y hy=>?_⟩
 ·have e1:A.take i++A.drop i=A:=List.take_append_drop ..
  have e2:B.take j++B.drop j=B:=List.take_append_drop ..
  have:(A.take i++B.take j++A.drop i++B.drop j).Perm ((A.take i++A.drop i)++(B.take j++B.drop j)):=by
   rw [List.append_assoc,List.append_assoc,List.append_assoc]
   refine List.Perm.append_left _ ?_
   rw [←List.append_assoc,←List.append_assoc]
   exact List.Perm.append_right _ List.perm_append_comm
  rw [e1,e2] at this
  exact ((h.pm.append_right _).append_right _).trans this
 ·rcases List.mem_append.mp hx with hx | hx
  ·exact h.cb x hx y hy
  ·exact k x hx y hy
theorem MI.xM{K:Keyed→Int}{A B O:List Keyed}{i j:Nat}(h:MI K A B O i j)(sA:aJ K A)(sB:aJ K B)(k:∀x∈A.drop i,∀y∈B.drop j,K y≤K x):(O++B.drop j++A.drop i).Perm (A++B)∧aJ K (O++B.drop j++A.drop i):=by
 have:=h.flip.done sB sA fun x hx y hy=>k y hy x hx
 exact ⟨this.1.trans List.perm_append_comm,this.2⟩
theorem DQ(a b:Array Keyed):tu a b=(do
 rule "list.sort.merge-lo"
 let total:=a.size+b.size
 let done (out:Array Keyed) (ia ib:Nat):=out++a.extract ia a.size++b.extract ib b.size
 let pJ (out:Array Keyed) (ia ib:Nat):=out++b.extract ib b.size++a.extract ia a.size
 let mut out:Array Keyed:=#[←elem' b 0]
 let mut ia:=0
 let mut ib:=1
 if ib == b.size then return done out ia ib
 if ia+1 == a.size then return pJ out ia ib
 let mut minGallop:=gallopOf (←get)
 for _ in [0:total] do
  let mut eC:=0
  let mut eE:=0
  for _ in [0:total] do
   let some DR ←lt' (←elem' b ib) (←elem' a ia) | return done out ia ib
   if DR then
    out:=out.push (←elem' b ib);ib:=ib+1;eE:=eE+1;eC:=0
    if ib == b.size then return done out ia ib
    if eE≥minGallop then break
   else
    out:=out.push (←elem' a ia);ia:=ia+1;eC:=eC+1;eE:=0
    if ia+1 == a.size then return pJ out ia ib
    if eC≥minGallop then break
  rule "list.sort.gallop"
  minGallop:=minGallop+1
  for _ in [0:total] do
   if minGallop>1 then minGallop:=minGallop-1
   m7 minGallop
   let some k ←h8 false (←elem' b ib) a ia (a.size-ia) 0 | return done out ia ib
   eC:=k
   if k>0 then
    out:=out++a.extract ia (ia+k);ia:=ia+k
    if ia+1 == a.size then return pJ out ia ib
    if ia == a.size then return done out ia ib
   out:=out.push (←elem' b ib);ib:=ib+1
   if ib == b.size then return done out ia ib
   let some k ←h8 true (←elem' a ia) b ib (b.size-ib) 0 | return done out ia ib
   eE:=k
   if k>0 then
    out:=out++b.extract ib (ib+k);ib:=ib+k
    if ib == b.size then return done out ia ib
   out:=out.push (←elem' a ia);ia:=ia+1
   if ia+1 == a.size then return pJ out ia ib
   if eC<7 && eE<7 then break
  minGallop:=minGallop+1
  m7 minGallop
 unsupported "internal:list.sort.merge-bound"):=rfl
section
variable {prog:Program} {w:World} {A:Around} {E:Value→Shared→Prop} {s:Shared} {κ:SortKind} {key:Keyed→Int} {Ok:Keyed→Prop}
def setG(st:SortSt)(g:Nat):SortSt:=SortSt.mk' (kindOf st) (arrOf st) (pendingOf st) g (failedOf st)
theorem m_{a:Array Keyed}{i:Nat}(hi:i<a.size):(a.toList.drop i).take 1=[a.getD i nn]:=by
 have hl:i<a.toList.length:=by simpa using hi
 rw [List.drop_eq_getElem_cons hl]
 simp [Array.getD,hi]
theorem eW(a:Array Keyed)(i j:Nat):(a.extract i j).toList=(a.toList.drop i).take (j-i):=by
 rw [Array.toList_extract,List.extract_eq_take_drop]
theorem pK(a:Array Keyed)(i:Nat):(a.extract i a.size).toList=a.toList.drop i:=by
 rw [eW]
 refine List.take_of_length_le ?_
 simp
theorem i5{a:Array Keyed}{i:Nat}{x:Keyed}(h:x∈a.toList.drop i):∃j,i≤j∧j<a.size∧x=a.getD j nn:=by
 obtain ⟨j,hj,rfl⟩:=List.getElem_of_mem h
 have cE:i+j<a.size:=by simp at hj;omega
 refine ⟨i+j,by omega,cE,?_⟩
 rw [List.getElem_drop]
 simp [Array.getD,cE]
theorem tF{a:Array Keyed}{i k:Nat}{x:Keyed}(h:x∈(a.toList.drop i).take k):∃j,j<k∧i+j<a.size∧x=a.getD (i+j) nn:=by
 obtain ⟨j,hj,rfl⟩:=List.getElem_of_mem h
 have cE:i+j<a.size∧j<k:=by simp at hj;omega
 refine ⟨j,cE.2,cE.1,?_⟩
 rw [List.getElem_take,List.getElem_drop]
 simp [Array.getD,cE.1]
theorem cO{a:Array Keyed}(h:aJ key a.toList){i j:Nat}(tG:i≤j)(hj:j<a.size):key (a.getD i nn)≤key (a.getD j nn):=by
 have hi:i<a.size:=by omega
 by_cases e:i=j
 ·subst e;exact Int.le_refl _
 ·have:=List.pairwise_iff_getElem.mp h i j (by simpa using hi) (by simpa using hj) (by omega)
  simpa [Array.getD,hi,hj] using this
theorem cy{c:Prop}[Decidable c]{α:Type}{m1 m2:StateT SortSt Sem α}{Q:α→SortSt→Prop}{st:SortSt}(h1:c→wpS (model prog w) A E s m1 Q st)(h2:¬c→wpS (model prog w) A E s m2 Q st):wpS (model prog w) A E s (if c then m1 else m2) Q st:=by
 by_cases h:c
 ·rw [if_pos h];exact h1 h
 ·rw [if_neg h];exact h2 h
theorem ko{st:SortSt}{g:Nat}{Q:Unit→SortSt→Prop}(q:Q () (setG st g)):wpS (model prog w) A E s (m7 g) Q st:=wpS_modify q
theorem dA{k a:Int}(h:bB true k a=true):a<k:=of_decide_eq_true h
theorem dZ{k a:Int}(h:bB true k a=false):k≤a:=Int.not_lt.mp (of_decide_eq_false h)
theorem fU{k a:Int}(h:bB false k a=true):a≤k:=by
 have:(!decide (k<a))=true:=h
 simpa using this
theorem h9{k a:Int}(h:bB false k a=false):k<a:=by
 have:(!decide (k<a))=false:=h
 simpa using this
theorem h_{b:Array Keyed}(sb:aJ key b.toList){k:Int}{o:Nat}:∀i j,i≤j→j<b.size-o→bB true k (key (b.getD (o+j) nn))=true→bB true k (key (b.getD (o+i) nn))=true:=fun i j h1 h2 h3=>decide_eq_true (Int.lt_of_le_of_lt (cO sb (by omega) (by omega)) (dA h3))
theorem pL{b:Array Keyed}(sb:aJ key b.toList){k:Int}{o:Nat}:∀i j,i≤j→j<b.size-o→bB false k (key (b.getD (o+j) nn))=true→bB false k (key (b.getD (o+i) nn))=true:=fun i j h1 h2 h3=>by
 have:key (b.getD (o+i) nn)≤k:=Int.le_trans (cO sb (by omega) (by omega)) (fU h3)
 show (!decide (k<key (b.getD (o+i) nn)))=true
 simpa using this
section
variable {a b:Array Keyed} (sa:aJ key a.toList) (sb:aJ key b.toList) {out:Array Keyed} {ia ib:Nat}
include sa sb
theorem kq(m:MI key a.toList b.toList out.toList ia ib)(hb:ib<b.size)(k:∀j,ia≤j→j<a.size→key (b.getD ib nn)≤key (a.getD j nn)):MI key a.toList b.toList (out.push (b.getD ib nn)).toList ia (ib+1):=by
 have:=m.tE sb 1 fun x hx y hy=>by
  rw [m_ hb,List.mem_singleton] at hx
  subst hx
  obtain ⟨j,h1,h2,rfl⟩:=i5 hy
  exact k j h1 h2
 rw [m_ hb] at this
 rw [Array.toList_push]
 exact this
theorem gH(m:MI key a.toList b.toList out.toList ia ib)(ha:ia<a.size)(k:∀j,ib≤j→j<b.size→key (a.getD ia nn)≤key (b.getD j nn)):MI key a.toList b.toList (out.push (a.getD ia nn)).toList (ia+1) ib:=by
 have:=m.pI sa 1 fun x hx y hy=>by
  rw [m_ ha,List.mem_singleton] at hx
  subst hx
  obtain ⟨j,h1,h2,rfl⟩:=i5 hy
  exact k j h1 h2
 rw [m_ ha] at this
 rw [Array.toList_push]
 exact this
theorem xN(m:MI key a.toList b.toList out.toList ia ib){n:Nat}(k:∀i j,i<n→ia+i<a.size→ib≤j→j<b.size→key (a.getD (ia+i) nn)≤key (b.getD j nn)):MI key a.toList b.toList (out++a.extract ia (ia+n)).toList (ia+n) ib:=by
 have:=m.pI sa n fun x hx y hy=>by
  obtain ⟨i,h3,h4,rfl⟩:=tF hx
  obtain ⟨j,h1,h2,rfl⟩:=i5 hy
  exact k i j h3 h4 h1 h2
 rw [Array.toList_append,eW,show ia+n-ia=n by omega]
 exact this
theorem pM(m:MI key a.toList b.toList out.toList ia ib){n:Nat}(k:∀i j,i<n→ib+i<b.size→ia≤j→j<a.size→key (b.getD (ib+i) nn)≤key (a.getD j nn)):MI key a.toList b.toList (out++b.extract ib (ib+n)).toList ia (ib+n):=by
 have:=m.tE sb n fun x hx y hy=>by
  obtain ⟨i,h3,h4,rfl⟩:=tF hx
  obtain ⟨j,h1,h2,rfl⟩:=i5 hy
  exact k i j h3 h4 h1 h2
 rw [Array.toList_append,eW,show ib+n-ib=n by omega]
 exact this
theorem eX(m:MI key a.toList b.toList out.toList ia ib)(e:ib=b.size∨ia=a.size):(out++a.extract ia a.size++b.extract ib b.size).toList.Perm (a.toList++b.toList)∧aJ key (out++a.extract ia a.size++b.extract ib b.size).toList:=by
 rw [Array.toList_append,Array.toList_append,pK,pK]
 refine m.done sa sb fun x hx y hy=>?_
 obtain ⟨i,h1,h2,_⟩:=i5 hx
 obtain ⟨j,h3,h4,_⟩:=i5 hy
 omega
theorem eY(m:MI key a.toList b.toList out.toList ia ib)(hl:∀y∈b.toList,key y≤key (a.getD (a.size-1) nn))(e:ia+1=a.size):(out++b.extract ib b.size++a.extract ia a.size).toList.Perm (a.toList++b.toList)∧aJ key (out++b.extract ib b.size++a.extract ia a.size).toList:=by
 rw [Array.toList_append,Array.toList_append,pK,pK]
 refine m.xM sa sb fun x hx y hy=>?_
 obtain ⟨i,h1,h2,rfl⟩:=i5 hx
 have:=hl y (List.mem_of_mem_drop hy)
 rw [show i=a.size-1 by omega]
 exact this
end
theorem DS(h:eV prog w A s κ key Ok){a b:Array Keyed}(oa:cL Ok a)(ob:cL Ok b)(sa:aJ key a.toList)(sb:aJ key b.toList)(a1:1≤a.size)(b1:1≤b.size)
  (h0:∀x∈a.toList,key (b.getD 0 nn)≤key x) (hl:∀y∈b.toList,key y≤key (a.getD (a.size-1) nn)) {st:SortSt} (hk:kindOf st=κ) {Q:Array Keyed→SortSt→Prop}
  (q:∀m g,m.toList.Perm (a.toList++b.toList)→aJ key m.toList→Q m (setG st g)):wpS (model prog w) A E s (tu a b) Q st:=by
 rw [DQ]
 refine wpS_bind (wpS_lift (wpAny_rule ⟨rfl,?_⟩))
 refine wpS_bind (aR (by omega) ?_)
 dsimp only
 have m0:MI key a.toList b.toList (#[b.getD 0 nn]:Array Keyed).toList 0 1:=by
  have:MI key a.toList b.toList (#[]:Array Keyed).toList 0 0:=⟨by simp,List.Pairwise.nil,fun x hx=>by simp at hx,fun x hx=>by simp at hx⟩
  exact kq sa sb this (by omega) fun j _ hj=>h0 _ (by simp [Array.getD,hj])
 have cP:∀g,kindOf (setG st g)=κ:=fun _=>hk
 by_cases e1:(1 == b.size)=true
 ·rw [if_pos e1]
  have:=eX sa sb m0 (.inl (eq_of_beq e1))
  exact wpS_pure (q _ (gallopOf st) this.1 this.2)
 rw [if_neg e1]
 by_cases e2:(0+1 == a.size)=true
 ·rw [if_pos e2]
  have:=eY sa sb m0 hl (eq_of_beq e2)
  exact wpS_pure (q _ (gallopOf st) this.1 this.2)
 rw [if_neg e2]
 have b2:1<b.size:=by
  have:1≠b.size:=fun e=>e1 (by simp [←e])
  omega
 have a2:0+1<a.size:=by
  have:0+1≠a.size:=fun e=>e2 (by simp [←e])
  omega
 refine wpS_bind (wpS_get ?_)
 refine wpS_bind (wpS_mono (wpS_forRange (I:=fun x c ak=>∃out ia ib mg g,c=(none,out,ia,ib,mg)∧ak=setG st g∧MI key a.toList b.toList out.toList ia ib∧ia+1<a.size∧ib<b.size∧x≤ia+ib)
  (Q:=fun c ak=>∃m g,c.1=some m∧ak=setG st g∧m.toList.Perm (a.toList++b.toList)∧aJ key m.toList) ?_ ?_ ⟨_,_,_,_,gallopOf st,rfl,rfl,m0,a2,b2,Nat.zero_le _⟩) ?_)
 ·rintro x c ak _ hx ⟨out,ia,ib,mg,g,rfl,rfl,mi,ha,hb,tH⟩
  dsimp only
  refine wpS_bind (wpS_mono (wpS_forRange (I:=fun y c ak=>∃out dh dB ac bc,c=(none,out,dh,dB,ac,bc)∧ak=setG st g∧MI key a.toList b.toList out.toList dh dB∧dh+1<a.size∧dB<b.size∧ia+ib+y≤dh+dB)
   (Q:=fun c ak=>ak=setG st g∧((∃m,c.1=some m∧m.toList.Perm (a.toList++b.toList)∧aJ key m.toList)∨∃out dh dB ac bc,c=(none,out,dh,dB,ac,bc)∧MI key a.toList b.toList out.toList dh dB∧dh+1<a.size∧dB<b.size∧ia+ib+1≤dh+dB)) ?_ ?_ ⟨_,_,_,_,_,rfl,rfl,mi,ha,hb,Nat.le_refl _⟩) ?_)
  ·rintro y c ak _ hy ⟨out,dh,dB,ac,bc,rfl,rfl,mi,ha,hb,dC⟩
   dsimp only
   refine wpS_bind (aR hb (wpS_bind (aR (by omega) (wpS_bind (m9 h (ob _ hb) (oa dh (by omega)) (cP _) ?_)))))
   dsimp only
   by_cases z:key (b.getD dB nn)<key (a.getD dh nn)
   ·rw [decide_eq_true z,if_pos rfl]
    refine wpS_bind (aR hb ?_)
    have dD:=kq sa sb mi hb fun j h1 h2=>Int.le_trans (Int.le_of_lt z) (cO sa h1 h2)
    by_cases z1:(dB+1 == b.size)=true
    ·rw [if_pos z1]
     exact wpS_pure ⟨rfl,.inl ⟨_,rfl,eX sa sb dD (.inl (eq_of_beq z1))⟩⟩
    ·rw [if_neg z1]
     have pO:dB+1≠b.size:=fun e=>z1 (by simp [←e])
     by_cases z2:bc+1≥mg
     ·rw [if_pos z2]
      exact wpS_pure ⟨rfl,.inr ⟨_,_,_,_,_,rfl,dD,ha,by omega,by omega⟩⟩
     ·rw [if_neg z2]
      exact wpS_pure ⟨_,_,_,_,_,rfl,rfl,dD,ha,by omega,by omega⟩
   ·rw [decide_eq_false z,if_neg (by simp)]
    refine wpS_bind (aR (by omega) ?_)
    have dD:=gH sa sb mi (by omega) fun j h1 h2=>Int.le_trans (Int.not_lt.mp z) (cO sb h1 h2)
    by_cases z1:(dh+1+1 == a.size)=true
    ·rw [if_pos z1]
     exact wpS_pure ⟨rfl,.inl ⟨_,rfl,eY sa sb dD hl (eq_of_beq z1)⟩⟩
    ·rw [if_neg z1]
     have pO:dh+1+1≠a.size:=fun e=>z1 (by simp [←e])
     by_cases z2:ac+1≥mg
     ·rw [if_pos z2]
      exact wpS_pure ⟨rfl,.inr ⟨_,_,_,_,_,rfl,dD,by omega,hb,by omega⟩⟩
     ·rw [if_neg z2]
      exact wpS_pure ⟨_,_,_,_,_,rfl,rfl,dD,by omega,hb,by omega⟩
  ·rintro c ak ⟨out,dh,dB,ac,bc,rfl,rfl,mi,ha,hb,dC⟩
   exact ⟨rfl,.inr ⟨_,_,_,_,_,rfl,mi,ha,hb,by omega⟩⟩
  ·rintro c ak ⟨rfl,⟨m,e,pm⟩ | ⟨out,dh,dB,ac,bc,rfl,mi,ha,hb,dC⟩⟩
   ·obtain ⟨c1,c2⟩:=c
    dsimp only at e
    subst e
    exact wpS_pure ⟨m,g,rfl,rfl,pm⟩
   ·dsimp only
    refine wpS_bind (wpS_lift (wpAny_rule ⟨rfl,?_⟩))
    refine wpS_bind (wpS_mono (wpS_forRange (I:=fun y c ak=>∃out i j mg ac bc g,c=(none,out,i,j,mg,ac,bc)∧ak=setG st g∧MI key a.toList b.toList out.toList i j∧i+1<a.size∧j<b.size∧x+1≤i+j)
     (Q:=fun c ak=>(∃m g,c.1=some m∧ak=setG st g∧m.toList.Perm (a.toList++b.toList)∧aJ key m.toList)∨∃out i j mg ac bc g,c=(none,out,i,j,mg,ac,bc)∧ak=setG st g∧MI key a.toList b.toList out.toList i j∧i+1<a.size∧j<b.size∧x+1≤i+j) ?_ ?_ ⟨_,_,_,_,_,_,g,rfl,rfl,mi,ha,hb,by omega⟩) ?_)
    ·clear mi ha hb dC
     rintro y c ak _ hy ⟨out,ia,ib,mg,ac,bc,g,rfl,rfl,mi,ha,hb,dC⟩
     dsimp only
     rcases Nat.lt_or_ge 1 mg with zm | zm
     ·rw [if_pos zm]
      refine wpS_bind (ko ?_)
      refine wpS_bind (aR hb (wpS_bind (dY (f:=fun i=>bB false (key (b.getD ib nn)) (key (a.getD (ia+i) nn))) (fun i hi Q q=>dX h (by omega) oa (ob _ hb) (cP _) q) (by omega) (pL sa) fun k k1 k2 k3=>?_)))
      dsimp only
      by_cases zk:k>0
      ·rw [if_pos zk]
       have dE:=xN sa sb mi (n:=k) fun i j hi aS hj cE=>Int.le_trans (fU (k2 i hi)) (cO sb hj cE)
       by_cases w1:(ia+k+1 == a.size)=true
       ·rw [if_pos w1]
        exact wpS_pure (.inl ⟨_,_,rfl,rfl,eY sa sb dE hl (eq_of_beq w1)⟩)
       ·rw [if_neg w1]
        have tI:ia+k+1≠a.size:=fun e=>w1 (by simp [←e])
        by_cases w2:(ia+k == a.size)=true
        ·rw [if_pos w2]
         exact wpS_pure (.inl ⟨_,_,rfl,rfl,eX sa sb dE (.inr (eq_of_beq w2))⟩)
        ·rw [if_neg w2]
         have DT:ia+k≠a.size:=fun e=>w2 (by simp [←e])
         refine wpS_bind (aR hb ?_)
         have bq:=kq sa sb dE hb fun j h1 h2=>by have:=h9 (k3 (j-ia) (by omega) (by omega));rw [show ia+(j-ia)=j by omega] at this;exact Int.le_of_lt this
         by_cases x1:(ib+1 == b.size)=true
         ·rw [if_pos x1]
          exact wpS_pure (.inl ⟨_,_,rfl,rfl,eX sa sb bq (.inl (eq_of_beq x1))⟩)
         ·rw [if_neg x1]
          have i6:ib+1≠b.size:=fun e=>x1 (by simp [←e])
          refine wpS_bind (aR (by omega) (wpS_bind (dY (f:=fun i=>bB true (key (a.getD (ia+k) nn)) (key (b.getD (ib+1+i) nn))) (fun i hi Q q=>dX h (by omega) ob (oa _ (by omega)) (cP _) q) (by omega) (h_ sb) fun k' q1 q2 q3=>?_)))
          dsimp only
          by_cases cj:k'>0
          ·rw [if_pos cj]
           have bU:=pM sa sb bq (n:=k') fun i j hi aS hj cE=>Int.le_trans (Int.le_of_lt (dA (q2 i hi))) (cO sa hj cE)
           by_cases x2:(ib+1+k' == b.size)=true
           ·rw [if_pos x2]
            exact wpS_pure (.inl ⟨_,_,rfl,rfl,eX sa sb bU (.inl (eq_of_beq x2))⟩)
           ·rw [if_neg x2]
            have i7:ib+1+k'≠b.size:=fun e=>x2 (by simp [←e])
            refine wpS_bind (aR (by omega) ?_)
            have aD:=gH sa sb bU (by omega) fun j h1 h2=>by have:=dZ (q3 (j-(ib+1)) (by omega) (by omega));rwa [show ib+1+(j-(ib+1))=j by omega] at this
            by_cases y1:(ia+k+1+1 == a.size)=true
            ·rw [if_pos y1]
             exact wpS_pure (.inl ⟨_,_,rfl,rfl,eY sa sb aD hl (eq_of_beq y1)⟩)
            ·rw [if_neg y1]
             have dF:ia+k+1+1≠a.size:=fun e=>y1 (by simp [←e])
             exact cy (fun _=>wpS_pure (.inr ⟨_,_,_,_,_,_,_,rfl,rfl,aD,by omega,by omega,by omega⟩)) (fun _=>wpS_pure ⟨_,_,_,_,_,_,_,rfl,rfl,aD,by omega,by omega,by omega⟩)
          ·rw [if_neg cj]
           obtain rfl:k'=0:=by omega
           refine wpS_bind (aR (by omega) ?_)
           have aD:=gH sa sb bq (by omega) fun j h1 h2=>by have:=dZ (q3 (j-(ib+1)) (by omega) (by omega));rwa [show ib+1+(j-(ib+1))=j by omega] at this
           by_cases y1:(ia+k+1+1 == a.size)=true
           ·rw [if_pos y1]
            exact wpS_pure (.inl ⟨_,_,rfl,rfl,eY sa sb aD hl (eq_of_beq y1)⟩)
           ·rw [if_neg y1]
            have dF:ia+k+1+1≠a.size:=fun e=>y1 (by simp [←e])
            exact cy (fun _=>wpS_pure (.inr ⟨_,_,_,_,_,_,_,rfl,rfl,aD,by omega,by omega,by omega⟩)) (fun _=>wpS_pure ⟨_,_,_,_,_,_,_,rfl,rfl,aD,by omega,by omega,by omega⟩)
      ·rw [if_neg zk]
       obtain rfl:k=0:=by omega
       refine wpS_bind (aR hb ?_)
       have bq:=kq sa sb mi hb fun j h1 h2=>by have:=h9 (k3 (j-ia) (by omega) (by omega));rw [show ia+(j-ia)=j by omega] at this;exact Int.le_of_lt this
       by_cases x1:(ib+1 == b.size)=true
       ·rw [if_pos x1]
        exact wpS_pure (.inl ⟨_,_,rfl,rfl,eX sa sb bq (.inl (eq_of_beq x1))⟩)
       ·rw [if_neg x1]
        have i6:ib+1≠b.size:=fun e=>x1 (by simp [←e])
        refine wpS_bind (aR (by omega) (wpS_bind (dY (f:=fun i=>bB true (key (a.getD (ia) nn)) (key (b.getD (ib+1+i) nn))) (fun i hi Q q=>dX h (by omega) ob (oa _ (by omega)) (cP _) q) (by omega) (h_ sb) fun k' q1 q2 q3=>?_)))
        dsimp only
        by_cases cj:k'>0
        ·rw [if_pos cj]
         have bU:=pM sa sb bq (n:=k') fun i j hi aS hj cE=>Int.le_trans (Int.le_of_lt (dA (q2 i hi))) (cO sa hj cE)
         by_cases x2:(ib+1+k' == b.size)=true
         ·rw [if_pos x2]
          exact wpS_pure (.inl ⟨_,_,rfl,rfl,eX sa sb bU (.inl (eq_of_beq x2))⟩)
         ·rw [if_neg x2]
          have i7:ib+1+k'≠b.size:=fun e=>x2 (by simp [←e])
          refine wpS_bind (aR (by omega) ?_)
          have aD:=gH sa sb bU (by omega) fun j h1 h2=>by have:=dZ (q3 (j-(ib+1)) (by omega) (by omega));rwa [show ib+1+(j-(ib+1))=j by omega] at this
          by_cases y1:(ia+1+1 == a.size)=true
          ·rw [if_pos y1]
           exact wpS_pure (.inl ⟨_,_,rfl,rfl,eY sa sb aD hl (eq_of_beq y1)⟩)
          ·rw [if_neg y1]
           have dF:ia+1+1≠a.size:=fun e=>y1 (by simp [←e])
           exact cy (fun _=>wpS_pure (.inr ⟨_,_,_,_,_,_,_,rfl,rfl,aD,by omega,by omega,by omega⟩)) (fun _=>wpS_pure ⟨_,_,_,_,_,_,_,rfl,rfl,aD,by omega,by omega,by omega⟩)
        ·rw [if_neg cj]
         obtain rfl:k'=0:=by omega
         refine wpS_bind (aR (by omega) ?_)
         have aD:=gH sa sb bq (by omega) fun j h1 h2=>by have:=dZ (q3 (j-(ib+1)) (by omega) (by omega));rwa [show ib+1+(j-(ib+1))=j by omega] at this
         by_cases y1:(ia+1+1 == a.size)=true
         ·rw [if_pos y1]
          exact wpS_pure (.inl ⟨_,_,rfl,rfl,eY sa sb aD hl (eq_of_beq y1)⟩)
         ·rw [if_neg y1]
          have dF:ia+1+1≠a.size:=fun e=>y1 (by simp [←e])
          exact cy (fun _=>wpS_pure (.inr ⟨_,_,_,_,_,_,_,rfl,rfl,aD,by omega,by omega,by omega⟩)) (fun _=>wpS_pure ⟨_,_,_,_,_,_,_,rfl,rfl,aD,by omega,by omega,by omega⟩)
     ·rw [if_neg (by omega)]
      refine wpS_bind (ko ?_)
      refine wpS_bind (aR hb (wpS_bind (dY (f:=fun i=>bB false (key (b.getD ib nn)) (key (a.getD (ia+i) nn))) (fun i hi Q q=>dX h (by omega) oa (ob _ hb) (cP _) q) (by omega) (pL sa) fun k k1 k2 k3=>?_)))
      dsimp only
      by_cases zk:k>0
      ·rw [if_pos zk]
       have dE:=xN sa sb mi (n:=k) fun i j hi aS hj cE=>Int.le_trans (fU (k2 i hi)) (cO sb hj cE)
       by_cases w1:(ia+k+1 == a.size)=true
       ·rw [if_pos w1]
        exact wpS_pure (.inl ⟨_,_,rfl,rfl,eY sa sb dE hl (eq_of_beq w1)⟩)
       ·rw [if_neg w1]
        have tI:ia+k+1≠a.size:=fun e=>w1 (by simp [←e])
        by_cases w2:(ia+k == a.size)=true
        ·rw [if_pos w2]
         exact wpS_pure (.inl ⟨_,_,rfl,rfl,eX sa sb dE (.inr (eq_of_beq w2))⟩)
        ·rw [if_neg w2]
         have DT:ia+k≠a.size:=fun e=>w2 (by simp [←e])
         refine wpS_bind (aR hb ?_)
         have bq:=kq sa sb dE hb fun j h1 h2=>by have:=h9 (k3 (j-ia) (by omega) (by omega));rw [show ia+(j-ia)=j by omega] at this;exact Int.le_of_lt this
         by_cases x1:(ib+1 == b.size)=true
         ·rw [if_pos x1]
          exact wpS_pure (.inl ⟨_,_,rfl,rfl,eX sa sb bq (.inl (eq_of_beq x1))⟩)
         ·rw [if_neg x1]
          have i6:ib+1≠b.size:=fun e=>x1 (by simp [←e])
          refine wpS_bind (aR (by omega) (wpS_bind (dY (f:=fun i=>bB true (key (a.getD (ia+k) nn)) (key (b.getD (ib+1+i) nn))) (fun i hi Q q=>dX h (by omega) ob (oa _ (by omega)) (cP _) q) (by omega) (h_ sb) fun k' q1 q2 q3=>?_)))
          dsimp only
          by_cases cj:k'>0
          ·rw [if_pos cj]
           have bU:=pM sa sb bq (n:=k') fun i j hi aS hj cE=>Int.le_trans (Int.le_of_lt (dA (q2 i hi))) (cO sa hj cE)
           by_cases x2:(ib+1+k' == b.size)=true
           ·rw [if_pos x2]
            exact wpS_pure (.inl ⟨_,_,rfl,rfl,eX sa sb bU (.inl (eq_of_beq x2))⟩)
           ·rw [if_neg x2]
            have i7:ib+1+k'≠b.size:=fun e=>x2 (by simp [←e])
            refine wpS_bind (aR (by omega) ?_)
            have aD:=gH sa sb bU (by omega) fun j h1 h2=>by have:=dZ (q3 (j-(ib+1)) (by omega) (by omega));rwa [show ib+1+(j-(ib+1))=j by omega] at this
            by_cases y1:(ia+k+1+1 == a.size)=true
            ·rw [if_pos y1]
             exact wpS_pure (.inl ⟨_,_,rfl,rfl,eY sa sb aD hl (eq_of_beq y1)⟩)
            ·rw [if_neg y1]
             have dF:ia+k+1+1≠a.size:=fun e=>y1 (by simp [←e])
             exact cy (fun _=>wpS_pure (.inr ⟨_,_,_,_,_,_,_,rfl,rfl,aD,by omega,by omega,by omega⟩)) (fun _=>wpS_pure ⟨_,_,_,_,_,_,_,rfl,rfl,aD,by omega,by omega,by omega⟩)
          ·rw [if_neg cj]
           obtain rfl:k'=0:=by omega
           refine wpS_bind (aR (by omega) ?_)
           have aD:=gH sa sb bq (by omega) fun j h1 h2=>by have:=dZ (q3 (j-(ib+1)) (by omega) (by omega));rwa [show ib+1+(j-(ib+1))=j by omega] at this
           by_cases y1:(ia+k+1+1 == a.size)=true
           ·rw [if_pos y1]
            exact wpS_pure (.inl ⟨_,_,rfl,rfl,eY sa sb aD hl (eq_of_beq y1)⟩)
           ·rw [if_neg y1]
            have dF:ia+k+1+1≠a.size:=fun e=>y1 (by simp [←e])
            exact cy (fun _=>wpS_pure (.inr ⟨_,_,_,_,_,_,_,rfl,rfl,aD,by omega,by omega,by omega⟩)) (fun _=>wpS_pure ⟨_,_,_,_,_,_,_,rfl,rfl,aD,by omega,by omega,by omega⟩)
      ·rw [if_neg zk]
       obtain rfl:k=0:=by omega
       refine wpS_bind (aR hb ?_)
       have bq:=kq sa sb mi hb fun j h1 h2=>by have:=h9 (k3 (j-ia) (by omega) (by omega));rw [show ia+(j-ia)=j by omega] at this;exact Int.le_of_lt this
       by_cases x1:(ib+1 == b.size)=true
       ·rw [if_pos x1]
        exact wpS_pure (.inl ⟨_,_,rfl,rfl,eX sa sb bq (.inl (eq_of_beq x1))⟩)
       ·rw [if_neg x1]
        have i6:ib+1≠b.size:=fun e=>x1 (by simp [←e])
        refine wpS_bind (aR (by omega) (wpS_bind (dY (f:=fun i=>bB true (key (a.getD (ia) nn)) (key (b.getD (ib+1+i) nn))) (fun i hi Q q=>dX h (by omega) ob (oa _ (by omega)) (cP _) q) (by omega) (h_ sb) fun k' q1 q2 q3=>?_)))
        dsimp only
        by_cases cj:k'>0
        ·rw [if_pos cj]
         have bU:=pM sa sb bq (n:=k') fun i j hi aS hj cE=>Int.le_trans (Int.le_of_lt (dA (q2 i hi))) (cO sa hj cE)
         by_cases x2:(ib+1+k' == b.size)=true
         ·rw [if_pos x2]
          exact wpS_pure (.inl ⟨_,_,rfl,rfl,eX sa sb bU (.inl (eq_of_beq x2))⟩)
         ·rw [if_neg x2]
          have i7:ib+1+k'≠b.size:=fun e=>x2 (by simp [←e])
          refine wpS_bind (aR (by omega) ?_)
          have aD:=gH sa sb bU (by omega) fun j h1 h2=>by have:=dZ (q3 (j-(ib+1)) (by omega) (by omega));rwa [show ib+1+(j-(ib+1))=j by omega] at this
          by_cases y1:(ia+1+1 == a.size)=true
          ·rw [if_pos y1]
           exact wpS_pure (.inl ⟨_,_,rfl,rfl,eY sa sb aD hl (eq_of_beq y1)⟩)
          ·rw [if_neg y1]
           have dF:ia+1+1≠a.size:=fun e=>y1 (by simp [←e])
           exact cy (fun _=>wpS_pure (.inr ⟨_,_,_,_,_,_,_,rfl,rfl,aD,by omega,by omega,by omega⟩)) (fun _=>wpS_pure ⟨_,_,_,_,_,_,_,rfl,rfl,aD,by omega,by omega,by omega⟩)
        ·rw [if_neg cj]
         obtain rfl:k'=0:=by omega
         refine wpS_bind (aR (by omega) ?_)
         have aD:=gH sa sb bq (by omega) fun j h1 h2=>by have:=dZ (q3 (j-(ib+1)) (by omega) (by omega));rwa [show ib+1+(j-(ib+1))=j by omega] at this
         by_cases y1:(ia+1+1 == a.size)=true
         ·rw [if_pos y1]
          exact wpS_pure (.inl ⟨_,_,rfl,rfl,eY sa sb aD hl (eq_of_beq y1)⟩)
         ·rw [if_neg y1]
          have dF:ia+1+1≠a.size:=fun e=>y1 (by simp [←e])
          exact cy (fun _=>wpS_pure (.inr ⟨_,_,_,_,_,_,_,rfl,rfl,aD,by omega,by omega,by omega⟩)) (fun _=>wpS_pure ⟨_,_,_,_,_,_,_,rfl,rfl,aD,by omega,by omega,by omega⟩)
    ·rintro c ak ⟨out,i,j,mg,ac,bc,g,rfl,rfl,mi,ha,hb,dC⟩
     exact .inr ⟨_,_,_,_,_,_,_,rfl,rfl,mi,ha,hb,dC⟩
    ·rintro c ak (⟨m,g,e,rfl,pm⟩ | ⟨out,i,j,mg,ac,bc,g,rfl,rfl,mi,ha,hb,dC⟩)
     ·obtain ⟨c1,c2⟩:=c
      dsimp only at e
      subst e
      exact wpS_pure ⟨m,g,rfl,rfl,pm⟩
     ·dsimp only
      exact wpS_bind (ko (wpS_pure ⟨_,_,_,_,_,rfl,rfl,mi,ha,hb,by omega⟩))
 ·rintro c ak ⟨out,ia,ib,mg,g,rfl,rfl,mi,ha,hb,tH⟩
  exfalso
  omega
 ·rintro c ak ⟨m,g,e,rfl,pm,sm⟩
  obtain ⟨c1,c2⟩:=c
  dsimp only at e
  subst e
  exact wpS_pure (q m g pm sm)
end
theorem DU(a b:Array Keyed):tw a b=(do
 rule "list.sort.merge-hi"
 let total:=a.size+b.size
 let done (out:Array Keyed) (na nb:Nat):=a.extract 0 na++b.extract 0 nb++out.reverse
 let pP (out:Array Keyed) (na nb:Nat):=b.extract 0 nb++a.extract 0 na++out.reverse
 let mut na:=a.size-1
 let mut nb:=b.size
 let mut out:Array Keyed:=#[←elem' a na]
 if na == 0 then return done out na nb
 if nb == 1 then return pP out na nb
 let mut minGallop:=gallopOf (←get)
 for _ in [0:total] do
  let mut eC:=0
  let mut eE:=0
  for _ in [0:total] do
   let some DV ←lt' (←elem' b (nb-1)) (←elem' a (na-1)) | return done out na nb
   if DV then
    na:=na-1;out:=out.push (←elem' a na);eC:=eC+1;eE:=0
    if na == 0 then return done out na nb
    if eC≥minGallop then break
   else
    nb:=nb-1;out:=out.push (←elem' b nb);eE:=eE+1;eC:=0
    if nb == 1 then return pP out na nb
    if eE≥minGallop then break
  rule "list.sort.gallop"
  minGallop:=minGallop+1
  for _ in [0:total] do
   if minGallop>1 then minGallop:=minGallop-1
   m7 minGallop
   let some at_ ←h8 false (←elem' b (nb-1)) a 0 na (na-1) | return done out na nb
   let k:=na-at_
   eC:=k
   if k>0 then
    out:=out++(a.extract at_ na).reverse;na:=at_
    if na == 0 then return done out na nb
   nb:=nb-1;out:=out.push (←elem' b nb)
   if nb == 1 then return pP out na nb
   let some at_ ←h8 true (←elem' a (na-1)) b 0 nb (nb-1) | return done out na nb
   let k:=nb-at_
   eE:=k
   if k>0 then
    out:=out++(b.extract at_ nb).reverse;nb:=at_
    if nb == 1 then return pP out na nb
    if nb == 0 then return done out na nb
   na:=na-1;out:=out.push (←elem' a na)
   if na == 0 then return done out na nb
   if eC<7 && eE<7 then break
  minGallop:=minGallop+1
  m7 minGallop
 unsupported "internal:list.sort.merge-bound"):=rfl
section
variable {key:Keyed→Int}
theorem kr{l:List Keyed}(h:aJ key l):aJ (fun x=>-key x) l.reverse:=by
 unfold aJ
 rw [List.pairwise_reverse]
 exact List.Pairwise.imp (fun h=>Int.neg_le_neg h) h
theorem xO{l:List Keyed}(h:aJ (fun x=>-key x) l):aJ key l.reverse:=by
 unfold aJ
 rw [List.pairwise_reverse]
 exact List.Pairwise.imp (fun h=>Int.le_of_neg_le_neg h) h
theorem fv{a:Array Keyed}{n:Nat}(h:n≤a.size):a.toList.reverse.drop (a.size-n)=(a.extract 0 n).toList.reverse:=by
 rw [List.drop_reverse,eW,List.drop_zero,Nat.sub_zero,Array.length_toList,show a.size-(a.size-n)=n by omega]
theorem pQ{a:Array Keyed}{n m:Nat}(h:n≤a.size)(hm:m≤n):(a.toList.reverse.drop (a.size-n)).take (n-m)=(a.extract m n).reverse.toList:=by
 rw [fv h,Array.toList_reverse,eW,eW,List.drop_zero,Nat.sub_zero,List.take_reverse,List.length_take,Array.length_toList,show min n a.size-(n-m)=m by omega,List.drop_take]
theorem gI{a:Array Keyed}{n m:Nat}(h:n≤a.size){x:Keyed}(hx:x∈(a.extract m n).toList):∃j,m≤j∧j<n∧x=a.getD j nn:=by
 rw [eW] at hx
 obtain ⟨j,h1,h2,rfl⟩:=tF hx
 exact ⟨m+j,by omega,by omega,rfl⟩
theorem xP{a:Array Keyed}{n:Nat}(h:n≤a.size)(h1:1≤n):(a.extract (n-1) n).reverse.toList=[a.getD (n-1) nn]:=by
 rw [Array.toList_reverse,eW,show n-(n-1)=1 by omega,m_ (by omega)]
 rfl
def MH(key:Keyed→Int)(a b out:Array Keyed)(na nb:Nat):Prop:=MI (fun x=>-key x) a.toList.reverse b.toList.reverse out.toList (a.size-na) (b.size-nb)∧na≤a.size∧nb≤b.size
variable {a b:Array Keyed} (sa:aJ key a.toList) (sb:aJ key b.toList) {out:Array Keyed} {na nb:Nat}
include sa sb
theorem tJ(m:MH key a b out na nb){k:Nat}(hk:k≤na)(c:∀i j,k≤i→i<na→j<nb→key (b.getD j nn)≤key (a.getD i nn)):MH key a b (out++(a.extract k na).reverse) k nb:=by
 obtain ⟨m,ha,hb⟩:=m
 refine ⟨?_,by omega,hb⟩
 have:=m.pI (kr sa) (na-k) fun x hx y hy=>by
  rw [pQ ha hk,Array.toList_reverse,List.mem_reverse] at hx
  rw [fv hb,List.mem_reverse] at hy
  obtain ⟨i,i1,i2,rfl⟩:=gI ha hx
  obtain ⟨j,j1,j2,rfl⟩:=gI hb hy
  have:=c i j i1 i2 j2
  omega
 rw [pQ ha hk,show a.size-na+(na-k)=a.size-k by omega] at this
 rw [Array.toList_append]
 exact this
theorem ng(m:MH key a b out na nb){k:Nat}(hk:k≤nb)(c:∀i j,k≤i→i<nb→j<na→key (a.getD j nn)≤key (b.getD i nn)):MH key a b (out++(b.extract k nb).reverse) na k:=by
 obtain ⟨m,ha,hb⟩:=m
 refine ⟨?_,ha,by omega⟩
 have:=m.tE (kr sb) (nb-k) fun x hx y hy=>by
  rw [pQ hb hk,Array.toList_reverse,List.mem_reverse] at hx
  rw [fv ha,List.mem_reverse] at hy
  obtain ⟨i,i1,i2,rfl⟩:=gI hb hx
  obtain ⟨j,j1,j2,rfl⟩:=gI ha hy
  have:=c i j i1 i2 j2
  omega
 rw [pQ hb hk,show b.size-nb+(nb-k)=b.size-k by omega] at this
 rw [Array.toList_append]
 exact this
theorem fV(m:MH key a b out na nb)(h1:1≤na)(c:∀j,j<nb→key (b.getD j nn)≤key (a.getD (na-1) nn)):MH key a b (out.push (a.getD (na-1) nn)) (na-1) nb:=by
 have:=tJ sa sb m (k:=na-1) (by omega) fun i j i1 i2 j1=>by
  rw [show i=na-1 by omega]
  exact c j j1
 have e:out++(a.extract (na-1) na).reverse=out.push (a.getD (na-1) nn):=by
  apply Array.toList_inj.mp
  rw [Array.toList_append,xP m.2.1 h1,Array.toList_push]
 rw [e] at this
 exact this
theorem nh(m:MH key a b out na nb)(h1:1≤nb)(c:∀j,j<na→key (a.getD j nn)≤key (b.getD (nb-1) nn)):MH key a b (out.push (b.getD (nb-1) nn)) na (nb-1):=by
 have:=ng sa sb m (k:=nb-1) (by omega) fun i j i1 i2 j1=>by
  rw [show i=nb-1 by omega]
  exact c j j1
 have e:out++(b.extract (nb-1) nb).reverse=out.push (b.getD (nb-1) nn):=by
  apply Array.toList_inj.mp
  rw [Array.toList_append,xP m.2.2 h1,Array.toList_push]
 rw [e] at this
 exact this
theorem di(m:MH key a b out na nb)(e:na=0∨nb=0):(a.extract 0 na++b.extract 0 nb++out.reverse).toList.Perm (a.toList++b.toList)∧aJ key (a.extract 0 na++b.extract 0 nb++out.reverse).toList:=by
 obtain ⟨m,ha,hb⟩:=m
 have:=m.xM (kr sa) (kr sb) fun x hx y hy=>by
  rw [fv ha,List.mem_reverse] at hx
  rw [fv hb,List.mem_reverse] at hy
  obtain ⟨i,i1,i2,_⟩:=gI ha hx
  obtain ⟨j,j1,j2,_⟩:=gI hb hy
  omega
 rw [fv ha,fv hb] at this
 have er:(a.extract 0 na++b.extract 0 nb++out.reverse).toList=(out.toList++(b.extract 0 nb).toList.reverse++(a.extract 0 na).toList.reverse).reverse:=by
  simp
 rw [er]
 refine ⟨(List.reverse_perm _).trans (this.1.trans ?_),xO this.2⟩
 exact (List.reverse_perm _).append (List.reverse_perm _)
theorem fW(m:MH key a b out na nb)(h0:∀x∈a.toList,key (b.getD 0 nn)≤key x)(e:nb=1):(b.extract 0 nb++a.extract 0 na++out.reverse).toList.Perm (a.toList++b.toList)∧aJ key (b.extract 0 nb++a.extract 0 na++out.reverse).toList:=by
 obtain ⟨m,ha,hb⟩:=m
 have:=m.done (kr sa) (kr sb) fun x hx y hy=>by
  rw [fv ha,List.mem_reverse] at hx
  rw [fv hb,List.mem_reverse] at hy
  obtain ⟨i,i1,i2,rfl⟩:=gI ha hx
  obtain ⟨j,j1,j2,rfl⟩:=gI hb hy
  have:=h0 (a.getD i nn) (by simp [Array.getD,show i<a.size by omega])
  rw [show j=0 by omega]
  omega
 rw [fv ha,fv hb] at this
 have er:(b.extract 0 nb++a.extract 0 na++out.reverse).toList=(out.toList++(a.extract 0 na).toList.reverse++(b.extract 0 nb).toList.reverse).reverse:=by
  simp
 rw [er]
 refine ⟨(List.reverse_perm _).trans (this.1.trans ?_),xO this.2⟩
 exact (List.reverse_perm _).append (List.reverse_perm _)
end
section
variable {prog:Program} {w:World} {A:Around} {E:Value→Shared→Prop} {s:Shared} {κ:SortKind} {key:Keyed→Int} {Ok:Keyed→Prop}
theorem DW(h:eV prog w A s κ key Ok){a b:Array Keyed}(oa:cL Ok a)(ob:cL Ok b)(sa:aJ key a.toList)(sb:aJ key b.toList)(a1:1≤a.size)(b1:1≤b.size)
  (h0:∀x∈a.toList,key (b.getD 0 nn)≤key x) (hl:∀y∈b.toList,key y≤key (a.getD (a.size-1) nn)) {st:SortSt} (hk:kindOf st=κ) {Q:Array Keyed→SortSt→Prop}
  (q:∀m g,m.toList.Perm (a.toList++b.toList)→aJ key m.toList→Q m (setG st g)):wpS (model prog w) A E s (tw a b) Q st:=by
 rw [DU]
 refine wpS_bind (wpS_lift (wpAny_rule ⟨rfl,?_⟩))
 refine wpS_bind (aR (by omega) ?_)
 dsimp only
 have m0:MH key a b (#[a.getD (a.size-1) nn]:Array Keyed) (a.size-1) b.size:=by
  have:MH key a b (#[]:Array Keyed) a.size b.size:=⟨⟨by simp,List.Pairwise.nil,fun x hx=>by simp at hx,fun x hx=>by simp at hx⟩,Nat.le_refl _,Nat.le_refl _⟩
  exact fV sa sb this a1 fun j hj=>hl _ (by simp [Array.getD,hj])
 have cP:∀g,kindOf (setG st g)=κ:=fun _=>hk
 by_cases e1:(a.size-1 == 0)=true
 ·rw [if_pos e1]
  have:=di sa sb m0 (.inl (eq_of_beq e1))
  exact wpS_pure (q _ (gallopOf st) this.1 this.2)
 rw [if_neg e1]
 by_cases e2:(b.size == 1)=true
 ·rw [if_pos e2]
  have:=fW sa sb m0 h0 (eq_of_beq e2)
  exact wpS_pure (q _ (gallopOf st) this.1 this.2)
 rw [if_neg e2]
 have a2:1≤a.size-1:=by
  have:a.size-1≠0:=fun e=>e1 (by simp [e])
  omega
 have b2:2≤b.size:=by
  have:b.size≠1:=fun e=>e2 (by simp [e])
  omega
 refine wpS_bind (wpS_get ?_)
 refine wpS_bind (wpS_mono (wpS_forRange (I:=fun x c ak=>∃(out:Array Keyed) (na nb mg g:Nat),c=(none,na,nb,out,mg)∧ak=setG st g∧MH key a b out na nb∧1≤na∧2≤nb∧x+na+nb≤a.size+b.size)
  (Q:=fun c ak=>∃(m:Array Keyed) (g:Nat),c.1=some m∧ak=setG st g∧m.toList.Perm (a.toList++b.toList)∧aJ key m.toList) ?_ ?_ ⟨_,a.size-1,b.size,_,gallopOf st,rfl,rfl,m0,a2,b2,show 0+(a.size-1)+b.size≤a.size+b.size by omega⟩) ?_)
 ·rintro x c ak _ hx ⟨out,na,nb,mg,g,rfl,rfl,mi,ha,hb,tH⟩
  dsimp only
  refine wpS_bind (wpS_mono (wpS_forRange (I:=fun y c ak=>∃(out:Array Keyed) (aK bf ac bc:Nat),c=(none,aK,bf,out,ac,bc)∧ak=setG st g∧MH key a b out aK bf∧1≤aK∧2≤bf∧y+aK+bf≤na+nb)
   (Q:=fun c ak=>ak=setG st g∧((∃m:Array Keyed,c.1=some m∧m.toList.Perm (a.toList++b.toList)∧aJ key m.toList)∨∃(out:Array Keyed) (aK bf ac bc:Nat),c=(none,aK,bf,out,ac,bc)∧MH key a b out aK bf∧1≤aK∧2≤bf∧1+aK+bf≤na+nb)) ?_ ?_ ⟨_,na,nb,_,_,rfl,rfl,mi,ha,hb,show 0+na+nb≤na+nb by omega⟩) ?_)
  ·rintro y c ak _ hy ⟨out,aK,bf,ac,bc,rfl,rfl,mi,ha,hb,dC⟩
   have DX:=mi.2.1
   have iT:=mi.2.2
   dsimp only
   refine wpS_bind (aR (by omega) (wpS_bind (aR (by omega) (wpS_bind (m9 h (ob (bf-1) (by omega)) (oa (aK-1) (by omega)) (cP _) ?_)))))
   dsimp only
   by_cases z:key (b.getD (bf-1) nn)<key (a.getD (aK-1) nn)
   ·rw [decide_eq_true z,if_pos rfl]
    refine wpS_bind (aR (by omega) ?_)
    have dD:=fV sa sb mi ha fun j hj=>Int.le_trans (cO sb (by omega) (by omega)) (Int.le_of_lt z)
    by_cases z1:(aK-1 == 0)=true
    ·rw [if_pos z1]
     exact wpS_pure ⟨rfl,.inl ⟨_,rfl,di sa sb dD (.inl (eq_of_beq z1))⟩⟩
    ·rw [if_neg z1]
     have pO:aK-1≠0:=fun e=>z1 (by simp [e])
     exact cy (fun _=>wpS_pure ⟨rfl,.inr ⟨_,_,_,_,_,rfl,dD,by omega,hb,by omega⟩⟩) (fun _=>wpS_pure ⟨_,_,_,_,_,rfl,rfl,dD,by omega,hb,by omega⟩)
   ·rw [decide_eq_false z,if_neg (by simp)]
    refine wpS_bind (aR (by omega) ?_)
    have dD:=nh sa sb mi (by omega) fun j hj=>Int.le_trans (cO sa (by omega) (by omega)) (Int.not_lt.mp z)
    by_cases z1:(bf-1 == 1)=true
    ·rw [if_pos z1]
     exact wpS_pure ⟨rfl,.inl ⟨_,rfl,fW sa sb dD h0 (eq_of_beq z1)⟩⟩
    ·rw [if_neg z1]
     have pO:bf-1≠1:=fun e=>z1 (by simp [e])
     exact cy (fun _=>wpS_pure ⟨rfl,.inr ⟨_,_,_,_,_,rfl,dD,ha,by omega,by omega⟩⟩) (fun _=>wpS_pure ⟨_,_,_,_,_,rfl,rfl,dD,ha,by omega,by omega⟩)
  ·rintro c ak ⟨out,aK,bf,ac,bc,rfl,rfl,mi,ha,hb,dC⟩
   exact ⟨rfl,.inr ⟨_,_,_,_,_,rfl,mi,ha,hb,by omega⟩⟩
  ·rintro c ak ⟨rfl,⟨m,e,pm⟩ | ⟨out,aK,bf,ac,bc,rfl,mi,ha,hb,dC⟩⟩
   ·obtain ⟨c1,c2⟩:=c
    dsimp only at e
    subst e
    exact wpS_pure ⟨m,g,rfl,rfl,pm⟩
   ·dsimp only
    refine wpS_bind (wpS_lift (wpAny_rule ⟨rfl,?_⟩))
    refine wpS_bind (wpS_mono (wpS_forRange (I:=fun y c ak=>∃(out:Array Keyed) (i j mg ac bc g:Nat),c=(none,i,j,out,mg,ac,bc)∧ak=setG st g∧MH key a b out i j∧1≤i∧2≤j∧x+1+i+j≤a.size+b.size)
     (Q:=fun c ak=>(∃(m:Array Keyed) (g:Nat),c.1=some m∧ak=setG st g∧m.toList.Perm (a.toList++b.toList)∧aJ key m.toList)∨∃(out:Array Keyed) (i j mg ac bc g:Nat),c=(none,i,j,out,mg,ac,bc)∧ak=setG st g∧MH key a b out i j∧1≤i∧2≤j∧x+1+i+j≤a.size+b.size) ?_ ?_ ⟨_,aK,bf,_,_,_,g,rfl,rfl,mi,ha,hb,by omega⟩) ?_)
    ·clear mi ha hb dC
     rintro y c ak _ hy ⟨out,na,nb,mg,ac,bc,g,rfl,rfl,mi,ha,hb,dC⟩
     have DX:=mi.2.1
     have iT:=mi.2.2
     dsimp only
     rcases Nat.lt_or_ge 1 mg with zm | zm
     ·rw [if_pos zm]
      refine wpS_bind (ko ?_)
      refine wpS_bind (aR (by omega) (wpS_bind (dY (f:=fun i=>bB false (key (b.getD (nb-1) nn)) (key (a.getD (0+i) nn))) (fun i hi Q q=>dX h (by omega) oa (ob _ (by omega)) (cP _) q) (by omega) (fun i j h1 h2 h3=>pL sa (o:=0) i j h1 (by omega) h3) fun k k1 k2 k3=>?_)))
      dsimp only
      by_cases zk:na-k>0
      ·rw [if_pos zk]
       have dE:=tJ sa sb mi (k:=k) k1 fun i j hi aS hj=>by
        have:=h9 (k3 i hi aS)
        rw [Nat.zero_add] at this
        exact Int.le_trans (cO sb (by omega) (by omega)) (Int.le_of_lt this)
       by_cases w1:(k == 0)=true
       ·rw [if_pos w1]
        exact wpS_pure (.inl ⟨_,_,rfl,rfl,di sa sb dE (.inl (eq_of_beq w1))⟩)
       ·rw [if_neg w1]
        have tI:k≠0:=fun e=>w1 (by simp [e])
        refine wpS_bind (aR (by have:=dE.2.2;omega) ?_)
        have bq:=nh sa sb dE (by omega) fun j h1=>by have:=fU (k2 j h1);rw [Nat.zero_add] at this;exact this
        by_cases x1:(nb-1 == 1)=true
        ·rw [if_pos x1]
         exact wpS_pure (.inl ⟨_,_,rfl,rfl,fW sa sb bq h0 (eq_of_beq x1)⟩)
        ·rw [if_neg x1]
         have i6:nb-1≠1:=fun e=>x1 (by simp [e])
         have iT:=bq.2.2
         refine wpS_bind (aR (by omega) (wpS_bind (dY (f:=fun i=>bB true (key (a.getD (k-1) nn)) (key (b.getD (0+i) nn))) (fun i hi Q q=>dX h (by omega) ob (oa _ (by omega)) (cP _) q) (by omega) (fun i j h1 h2 h3=>h_ sb (o:=0) i j h1 (by omega) h3) fun k' q1 q2 q3=>?_)))
         dsimp only
         by_cases cj:nb-1-k'>0
         ·rw [if_pos cj]
          have bU:=ng sa sb bq (k:=k') q1 fun i j hi aS hj=>by
           have:=dZ (q3 i hi aS)
           rw [Nat.zero_add] at this
           exact Int.le_trans (cO sa (by omega) (by omega)) this
          by_cases x2:(k' == 1)=true
          ·rw [if_pos x2]
           exact wpS_pure (.inl ⟨_,_,rfl,rfl,fW sa sb bU h0 (eq_of_beq x2)⟩)
          ·rw [if_neg x2]
           have i7:k'≠1:=fun e=>x2 (by simp [e])
           by_cases x3:(k' == 0)=true
           ·rw [if_pos x3]
            exact wpS_pure (.inl ⟨_,_,rfl,rfl,di sa sb bU (.inr (eq_of_beq x3))⟩)
           ·rw [if_neg x3]
            have tK:k'≠0:=fun e=>x3 (by simp [e])
            refine wpS_bind (aR (by omega) ?_)
            have aD:=fV sa sb bU (by omega) fun j h1=>by have:=dA (q2 j h1);rw [Nat.zero_add] at this;exact Int.le_of_lt this
            by_cases y1:(k-1 == 0)=true
            ·rw [if_pos y1]
             exact wpS_pure (.inl ⟨_,_,rfl,rfl,di sa sb aD (.inl (eq_of_beq y1))⟩)
            ·rw [if_neg y1]
             have dF:k-1≠0:=fun e=>y1 (by simp [e])
             exact cy (fun _=>wpS_pure (.inr ⟨_,_,_,_,_,_,_,rfl,rfl,aD,by omega,by omega,by omega⟩)) (fun _=>wpS_pure ⟨_,_,_,_,_,_,_,rfl,rfl,aD,by omega,by omega,by omega⟩)
         ·rw [if_neg cj]
          obtain rfl:k'=nb-1:=by omega
          refine wpS_bind (aR (by omega) ?_)
          have aD:=fV sa sb bq (by omega) fun j h1=>by have:=dA (q2 j h1);rw [Nat.zero_add] at this;exact Int.le_of_lt this
          by_cases y1:(k-1 == 0)=true
          ·rw [if_pos y1]
           exact wpS_pure (.inl ⟨_,_,rfl,rfl,di sa sb aD (.inl (eq_of_beq y1))⟩)
          ·rw [if_neg y1]
           have dF:k-1≠0:=fun e=>y1 (by simp [e])
           exact cy (fun _=>wpS_pure (.inr ⟨_,_,_,_,_,_,_,rfl,rfl,aD,by omega,by omega,by omega⟩)) (fun _=>wpS_pure ⟨_,_,_,_,_,_,_,rfl,rfl,aD,by omega,by omega,by omega⟩)
      ·rw [if_neg zk]
       obtain rfl:k=na:=by omega
       refine wpS_bind (aR (by have:=mi.2.2;omega) ?_)
       have bq:=nh sa sb mi (by omega) fun j h1=>by have:=fU (k2 j h1);rw [Nat.zero_add] at this;exact this
       by_cases x1:(nb-1 == 1)=true
       ·rw [if_pos x1]
        exact wpS_pure (.inl ⟨_,_,rfl,rfl,fW sa sb bq h0 (eq_of_beq x1)⟩)
       ·rw [if_neg x1]
        have i6:nb-1≠1:=fun e=>x1 (by simp [e])
        have iT:=bq.2.2
        refine wpS_bind (aR (by omega) (wpS_bind (dY (f:=fun i=>bB true (key (a.getD (k-1) nn)) (key (b.getD (0+i) nn))) (fun i hi Q q=>dX h (by omega) ob (oa _ (by omega)) (cP _) q) (by omega) (fun i j h1 h2 h3=>h_ sb (o:=0) i j h1 (by omega) h3) fun k' q1 q2 q3=>?_)))
        dsimp only
        by_cases cj:nb-1-k'>0
        ·rw [if_pos cj]
         have bU:=ng sa sb bq (k:=k') q1 fun i j hi aS hj=>by
          have:=dZ (q3 i hi aS)
          rw [Nat.zero_add] at this
          exact Int.le_trans (cO sa (by omega) (by omega)) this
         by_cases x2:(k' == 1)=true
         ·rw [if_pos x2]
          exact wpS_pure (.inl ⟨_,_,rfl,rfl,fW sa sb bU h0 (eq_of_beq x2)⟩)
         ·rw [if_neg x2]
          have i7:k'≠1:=fun e=>x2 (by simp [e])
          by_cases x3:(k' == 0)=true
          ·rw [if_pos x3]
           exact wpS_pure (.inl ⟨_,_,rfl,rfl,di sa sb bU (.inr (eq_of_beq x3))⟩)
          ·rw [if_neg x3]
           have tK:k'≠0:=fun e=>x3 (by simp [e])
           refine wpS_bind (aR (by omega) ?_)
           have aD:=fV sa sb bU (by omega) fun j h1=>by have:=dA (q2 j h1);rw [Nat.zero_add] at this;exact Int.le_of_lt this
           by_cases y1:(k-1 == 0)=true
           ·rw [if_pos y1]
            exact wpS_pure (.inl ⟨_,_,rfl,rfl,di sa sb aD (.inl (eq_of_beq y1))⟩)
           ·rw [if_neg y1]
            have dF:k-1≠0:=fun e=>y1 (by simp [e])
            exact cy (fun _=>wpS_pure (.inr ⟨_,_,_,_,_,_,_,rfl,rfl,aD,by omega,by omega,by omega⟩)) (fun _=>wpS_pure ⟨_,_,_,_,_,_,_,rfl,rfl,aD,by omega,by omega,by omega⟩)
        ·rw [if_neg cj]
         obtain rfl:k'=nb-1:=by omega
         refine wpS_bind (aR (by omega) ?_)
         have aD:=fV sa sb bq (by omega) fun j h1=>by have:=dA (q2 j h1);rw [Nat.zero_add] at this;exact Int.le_of_lt this
         by_cases y1:(k-1 == 0)=true
         ·rw [if_pos y1]
          exact wpS_pure (.inl ⟨_,_,rfl,rfl,di sa sb aD (.inl (eq_of_beq y1))⟩)
         ·rw [if_neg y1]
          have dF:k-1≠0:=fun e=>y1 (by simp [e])
          exact cy (fun _=>wpS_pure (.inr ⟨_,_,_,_,_,_,_,rfl,rfl,aD,by omega,by omega,by omega⟩)) (fun _=>wpS_pure ⟨_,_,_,_,_,_,_,rfl,rfl,aD,by omega,by omega,by omega⟩)
     ·rw [if_neg (by omega)]
      refine wpS_bind (ko ?_)
      refine wpS_bind (aR (by omega) (wpS_bind (dY (f:=fun i=>bB false (key (b.getD (nb-1) nn)) (key (a.getD (0+i) nn))) (fun i hi Q q=>dX h (by omega) oa (ob _ (by omega)) (cP _) q) (by omega) (fun i j h1 h2 h3=>pL sa (o:=0) i j h1 (by omega) h3) fun k k1 k2 k3=>?_)))
      dsimp only
      by_cases zk:na-k>0
      ·rw [if_pos zk]
       have dE:=tJ sa sb mi (k:=k) k1 fun i j hi aS hj=>by
        have:=h9 (k3 i hi aS)
        rw [Nat.zero_add] at this
        exact Int.le_trans (cO sb (by omega) (by omega)) (Int.le_of_lt this)
       by_cases w1:(k == 0)=true
       ·rw [if_pos w1]
        exact wpS_pure (.inl ⟨_,_,rfl,rfl,di sa sb dE (.inl (eq_of_beq w1))⟩)
       ·rw [if_neg w1]
        have tI:k≠0:=fun e=>w1 (by simp [e])
        refine wpS_bind (aR (by have:=dE.2.2;omega) ?_)
        have bq:=nh sa sb dE (by omega) fun j h1=>by have:=fU (k2 j h1);rw [Nat.zero_add] at this;exact this
        by_cases x1:(nb-1 == 1)=true
        ·rw [if_pos x1]
         exact wpS_pure (.inl ⟨_,_,rfl,rfl,fW sa sb bq h0 (eq_of_beq x1)⟩)
        ·rw [if_neg x1]
         have i6:nb-1≠1:=fun e=>x1 (by simp [e])
         have iT:=bq.2.2
         refine wpS_bind (aR (by omega) (wpS_bind (dY (f:=fun i=>bB true (key (a.getD (k-1) nn)) (key (b.getD (0+i) nn))) (fun i hi Q q=>dX h (by omega) ob (oa _ (by omega)) (cP _) q) (by omega) (fun i j h1 h2 h3=>h_ sb (o:=0) i j h1 (by omega) h3) fun k' q1 q2 q3=>?_)))
         dsimp only
         by_cases cj:nb-1-k'>0
         ·rw [if_pos cj]
          have bU:=ng sa sb bq (k:=k') q1 fun i j hi aS hj=>by
           have:=dZ (q3 i hi aS)
           rw [Nat.zero_add] at this
           exact Int.le_trans (cO sa (by omega) (by omega)) this
          by_cases x2:(k' == 1)=true
          ·rw [if_pos x2]
           exact wpS_pure (.inl ⟨_,_,rfl,rfl,fW sa sb bU h0 (eq_of_beq x2)⟩)
          ·rw [if_neg x2]
           have i7:k'≠1:=fun e=>x2 (by simp [e])
           by_cases x3:(k' == 0)=true
           ·rw [if_pos x3]
            exact wpS_pure (.inl ⟨_,_,rfl,rfl,di sa sb bU (.inr (eq_of_beq x3))⟩)
           ·rw [if_neg x3]
            have tK:k'≠0:=fun e=>x3 (by simp [e])
            refine wpS_bind (aR (by omega) ?_)
            have aD:=fV sa sb bU (by omega) fun j h1=>by have:=dA (q2 j h1);rw [Nat.zero_add] at this;exact Int.le_of_lt this
            by_cases y1:(k-1 == 0)=true
            ·rw [if_pos y1]
             exact wpS_pure (.inl ⟨_,_,rfl,rfl,di sa sb aD (.inl (eq_of_beq y1))⟩)
            ·rw [if_neg y1]
             have dF:k-1≠0:=fun e=>y1 (by simp [e])
             exact cy (fun _=>wpS_pure (.inr ⟨_,_,_,_,_,_,_,rfl,rfl,aD,by omega,by omega,by omega⟩)) (fun _=>wpS_pure ⟨_,_,_,_,_,_,_,rfl,rfl,aD,by omega,by omega,by omega⟩)
         ·rw [if_neg cj]
          obtain rfl:k'=nb-1:=by omega
          refine wpS_bind (aR (by omega) ?_)
          have aD:=fV sa sb bq (by omega) fun j h1=>by have:=dA (q2 j h1);rw [Nat.zero_add] at this;exact Int.le_of_lt this
          by_cases y1:(k-1 == 0)=true
          ·rw [if_pos y1]
           exact wpS_pure (.inl ⟨_,_,rfl,rfl,di sa sb aD (.inl (eq_of_beq y1))⟩)
          ·rw [if_neg y1]
           have dF:k-1≠0:=fun e=>y1 (by simp [e])
           exact cy (fun _=>wpS_pure (.inr ⟨_,_,_,_,_,_,_,rfl,rfl,aD,by omega,by omega,by omega⟩)) (fun _=>wpS_pure ⟨_,_,_,_,_,_,_,rfl,rfl,aD,by omega,by omega,by omega⟩)
      ·rw [if_neg zk]
       obtain rfl:k=na:=by omega
       refine wpS_bind (aR (by have:=mi.2.2;omega) ?_)
       have bq:=nh sa sb mi (by omega) fun j h1=>by have:=fU (k2 j h1);rw [Nat.zero_add] at this;exact this
       by_cases x1:(nb-1 == 1)=true
       ·rw [if_pos x1]
        exact wpS_pure (.inl ⟨_,_,rfl,rfl,fW sa sb bq h0 (eq_of_beq x1)⟩)
       ·rw [if_neg x1]
        have i6:nb-1≠1:=fun e=>x1 (by simp [e])
        have iT:=bq.2.2
        refine wpS_bind (aR (by omega) (wpS_bind (dY (f:=fun i=>bB true (key (a.getD (k-1) nn)) (key (b.getD (0+i) nn))) (fun i hi Q q=>dX h (by omega) ob (oa _ (by omega)) (cP _) q) (by omega) (fun i j h1 h2 h3=>h_ sb (o:=0) i j h1 (by omega) h3) fun k' q1 q2 q3=>?_)))
        dsimp only
        by_cases cj:nb-1-k'>0
        ·rw [if_pos cj]
         have bU:=ng sa sb bq (k:=k') q1 fun i j hi aS hj=>by
          have:=dZ (q3 i hi aS)
          rw [Nat.zero_add] at this
          exact Int.le_trans (cO sa (by omega) (by omega)) this
         by_cases x2:(k' == 1)=true
         ·rw [if_pos x2]
          exact wpS_pure (.inl ⟨_,_,rfl,rfl,fW sa sb bU h0 (eq_of_beq x2)⟩)
         ·rw [if_neg x2]
          have i7:k'≠1:=fun e=>x2 (by simp [e])
          by_cases x3:(k' == 0)=true
          ·rw [if_pos x3]
           exact wpS_pure (.inl ⟨_,_,rfl,rfl,di sa sb bU (.inr (eq_of_beq x3))⟩)
          ·rw [if_neg x3]
           have tK:k'≠0:=fun e=>x3 (by simp [e])
           refine wpS_bind (aR (by omega) ?_)
           have aD:=fV sa sb bU (by omega) fun j h1=>by have:=dA (q2 j h1);rw [Nat.zero_add] at this;exact Int.le_of_lt this
           by_cases y1:(k-1 == 0)=true
           ·rw [if_pos y1]
            exact wpS_pure (.inl ⟨_,_,rfl,rfl,di sa sb aD (.inl (eq_of_beq y1))⟩)
           ·rw [if_neg y1]
            have dF:k-1≠0:=fun e=>y1 (by simp [e])
            exact cy (fun _=>wpS_pure (.inr ⟨_,_,_,_,_,_,_,rfl,rfl,aD,by omega,by omega,by omega⟩)) (fun _=>wpS_pure ⟨_,_,_,_,_,_,_,rfl,rfl,aD,by omega,by omega,by omega⟩)
        ·rw [if_neg cj]
         obtain rfl:k'=nb-1:=by omega
         refine wpS_bind (aR (by omega) ?_)
         have aD:=fV sa sb bq (by omega) fun j h1=>by have:=dA (q2 j h1);rw [Nat.zero_add] at this;exact Int.le_of_lt this
         by_cases y1:(k-1 == 0)=true
         ·rw [if_pos y1]
          exact wpS_pure (.inl ⟨_,_,rfl,rfl,di sa sb aD (.inl (eq_of_beq y1))⟩)
         ·rw [if_neg y1]
          have dF:k-1≠0:=fun e=>y1 (by simp [e])
          exact cy (fun _=>wpS_pure (.inr ⟨_,_,_,_,_,_,_,rfl,rfl,aD,by omega,by omega,by omega⟩)) (fun _=>wpS_pure ⟨_,_,_,_,_,_,_,rfl,rfl,aD,by omega,by omega,by omega⟩)
    ·rintro c ak ⟨out,i,j,mg,ac,bc,g,rfl,rfl,mi,ha,hb,dC⟩
     exact .inr ⟨_,_,_,_,_,_,_,rfl,rfl,mi,ha,hb,dC⟩
    ·rintro c ak (⟨m,g,e,rfl,pm⟩ | ⟨out,i,j,mg,ac,bc,g,rfl,rfl,mi,ha,hb,dC⟩)
     ·obtain ⟨c1,c2⟩:=c
      dsimp only at e
      subst e
      exact wpS_pure ⟨m,g,rfl,rfl,pm⟩
     ·dsimp only
      exact wpS_bind (ko (wpS_pure ⟨_,_,_,_,_,rfl,rfl,mi,ha,hb,by omega⟩))
 ·rintro c ak ⟨out,ia,ib,mg,g,rfl,rfl,mi,ha,hb,tH⟩
  exfalso
  omega
 ·rintro c ak ⟨m,g,e,rfl,pm,sm⟩
  obtain ⟨c1,c2⟩:=c
  dsimp only at e
  subst e
  exact wpS_pure (q m g pm sm)
end
section
variable {prog:Program} {w:World} {A:Around} {E:Value→Shared→Prop} {s:Shared} {κ:SortKind} {key:Keyed→Int} {Ok:Keyed→Prop}
def vA(key:Keyed→Int)(arr:Array Keyed)(i:Nat):Int:=key (arr.getD i nn)
def bE(key:Keyed→Int)(arr:Array Keyed)(lo hi:Nat):Prop:=∀i j,lo≤i→i≤j→j<hi→vA key arr i≤vA key arr j
def eZ(key:Keyed→Int)(arr:Array Keyed)(lo hi:Nat):Prop:=∀i j,lo≤i→i≤j→j<hi→vA key arr j≤vA key arr i
structure Rl (arr aB:Array Keyed) (lo hi:Nat):Prop where
 pm:aB.Perm arr
 out:∀k,k<lo∨hi≤k→aB[k]?=arr[k]?
theorem Rl.refl(arr:Array Keyed)(lo hi:Nat):Rl arr arr lo hi:=⟨Array.Perm.refl _,fun _ _=>rfl⟩
theorem Rl.trans{arr aB av:Array Keyed}{lo hi:Nat}(h:Rl arr aB lo hi)(h':Rl aB av lo hi):Rl arr av lo hi:=⟨h'.pm.trans h.pm,fun k hk=>(h'.out k hk).trans (h.out k hk)⟩
theorem Rl.size{arr aB:Array Keyed}{lo hi:Nat}(h:Rl arr aB lo hi):aB.size=arr.size:=h.pm.size_eq
theorem Rl.wide{arr aB:Array Keyed}{lo hi xQ aS:Nat}(h:Rl arr aB lo hi)(h1:xQ≤lo)(h2:hi≤aS):Rl arr aB xQ aS:=⟨h.pm,fun k hk=>h.out k (by omega)⟩
theorem fw(arr:Array Keyed)(i:Nat):arr.getD i nn=arr[i]?.getD nn:=by
 by_cases z:i<arr.size <;> simp [Array.getD,z]
theorem Rl.v{arr aB:Array Keyed}{lo hi:Nat}(h:Rl arr aB lo hi){k:Nat}(hk:k<lo∨hi≤k):vA key aB k=vA key arr k:=by
 unfold vA
 rw [fw,fw,h.out k hk]
theorem ku{arr aB:Array Keyed}(h:cL Ok arr)(p:aB.Perm arr):cL Ok aB:=fun i hi=>by
 have e:aB.getD i nn=aB[i]:=by simp [Array.getD,hi]
 rw [e]
 have m:aB[i]∈arr:=(Array.Perm.mem_iff p).mp (Array.getElem_mem hi)
 obtain ⟨j,hj,ej⟩:=Array.getElem_of_mem m
 rw [←ej]
 have:=h j hj
 simpa [Array.getD,hj] using this
theorem Rl.ok{arr aB:Array Keyed}{lo hi:Nat}(h:Rl arr aB lo hi)(ok:cL Ok arr):cL Ok aB:=ku ok h.pm
theorem fz{arr:Array Keyed}{i j:Nat}(hj:j≤arr.size):Rl arr (mirror arr i j ((j-i) / 2)) i j:=⟨mirror_perm ..,fun k hk=>by rw [getElem?_mirror_all hj,if_neg (by omega)]⟩
theorem pR{arr:Array Keyed}{i j:Nat}(hj:j≤arr.size){k:Nat}(h1:i≤k)(h2:k<j):vA key (mirror arr i j ((j-i) / 2)) k=vA key arr (i+j-1-k):=by
 unfold vA
 rw [fw,fw,getElem?_mirror_all hj,if_pos ⟨h1,h2⟩]
abbrev aG (κ:SortKind) (arr:Array Keyed) (pend:Array (Nat×Nat×Nat)) (g:Nat):SortSt:=SortSt.mk' κ arr pend g none
variable {arr:Array Keyed} {pend:Array (Nat×Nat×Nat)} {g:Nat}
theorem fA(h:eV prog w A s κ key Ok)(ok:cL Ok arr){i j:Nat}(hi:i<arr.size)(hj:j<arr.size){Q:Option Bool→SortSt→Prop}(q:Q (some (decide (vA key arr i<vA key arr j))) (aG κ arr pend g)):wpS (model prog w) A E s (ltAt' i j) Q (aG κ arr pend g):=by
 rw [ltAt'_eq]
 refine wpS_bind (wpS_get ?_)
 exact wpS_bind (aR hi (wpS_bind (aR hj (m9 h (ok _ hi) (ok _ hj) rfl q))))
theorem gJ{i j:Nat}{Q:Unit→SortSt→Prop}(q:Q () (aG κ (mirror arr i j ((j-i) / 2)) pend g)):wpS (model prog w) A E s (reverseSlice' i j) Q (aG κ arr pend g):=by
 rw [reverseSlice'_eq]
 exact wpS_modify q
theorem bE.more{lo n:Nat}(h:bE key arr lo (lo+n))(n1:1≤n)(c:vA key arr (lo+n-1)≤vA key arr (lo+n)):bE key arr lo (lo+(n+1)):=fun i j h1 h2 h3=>by
 by_cases z:j<lo+n
 ·exact h i j h1 h2 z
 ·obtain rfl:j=lo+n:=by omega
  by_cases y:i=lo+n
  ·rw [y];exact Int.le_refl _
  ·exact Int.le_trans (h i (lo+n-1) h1 (by omega) (by omega)) c
theorem eZ.more{lo n:Nat}(h:eZ key arr lo (lo+n))(n1:1≤n)(c:vA key arr (lo+n)≤vA key arr (lo+n-1)):eZ key arr lo (lo+(n+1)):=fun i j h1 h2 h3=>by
 by_cases z:j<lo+n
 ·exact h i j h1 h2 z
 ·obtain rfl:j=lo+n:=by omega
  by_cases y:i=lo+n
  ·rw [y];exact Int.le_refl _
  ·exact Int.le_trans c (h i (lo+n-1) h1 (by omega) (by omega))
def ni(key:Keyed→Int)(arr:Array Keyed)(lo n q:Nat):Prop:=q+1≤n∧∀i,lo+n-(q+1)≤i→i<lo+n→vA key arr i=vA key arr (lo+n-1)
theorem pS{lo n q:Nat}(hz:lo+n≤arr.size)(d:eZ key arr lo (lo+n))(e:ni key arr lo n q):eZ key (mirror arr (lo+n-(q+1)) (lo+n) ((lo+n-(lo+n-(q+1))) / 2)) lo (lo+n)∧∀k,vA key (mirror arr (lo+n-(q+1)) (lo+n) ((lo+n-(lo+n-(q+1))) / 2)) k=vA key arr k:=by
 have hv:∀k,vA key (mirror arr (lo+n-(q+1)) (lo+n) ((lo+n-(lo+n-(q+1))) / 2)) k=vA key arr k:=fun k=>by
  by_cases z:lo+n-(q+1)≤k∧k<lo+n
  ·rw [pR hz z.1 z.2,e.2 _ (by have:=e.1;omega) (by omega),e.2 k z.1 z.2]
  ·exact (fz hz).v (by omega)
 refine ⟨fun i j h1 h2 h3=>?_,hv⟩
 rw [hv,hv]
 exact d i j h1 h2 h3
theorem pU{lo n:Nat}(hz:lo+n≤arr.size)(d:eZ key arr lo (lo+n)):bE key (mirror arr lo (lo+n) ((lo+n-lo) / 2)) lo (lo+n):=fun i j h1 h2 h3=>by
 rw [pR hz h1 (by omega),pR hz (by omega) h3]
 exact d _ _ (by omega) (by omega) (by omega)
end
section
variable {prog:Program} {w:World} {A:Around} {E:Value→Shared→Prop} {s:Shared} {κ:SortKind} {key:Keyed→Int} {Ok:Keyed→Prop} {arr:Array Keyed} {pend:Array (Nat×Nat×Nat)} {g:Nat}
theorem nj(h:eV prog w A s κ key Ok)(ok:cL Ok arr){lo m bt:Nat}(hz:lo+bt≤arr.size)(m1:1≤m)(mn:m≤bt)(sg:bE key arr lo (lo+m)){body:Nat→Option (Option Nat)×Nat→StateT SortSt Sem (ForInStep (Option (Option Nat)×Nat))}{R:Option (Option Nat)×Nat→SortSt→Prop}
  (hb:∀x n (R:ForInStep (Option (Option Nat)×Nat)→SortSt→Prop),1≤n→n<bt→R (if vA key arr (lo+n)<vA key arr (lo+n-1) then .done (none,n) else .yield (none,n+1)) (aG κ arr pend g)→wpS (model prog w) A E s (body x (none,n)) R (aG κ arr pend g))
  (k:∀n,m≤n→n≤bt→bE key arr lo (lo+n)→(n<bt→vA key arr (lo+n)<vA key arr (lo+n-1))→R (none,n) (aG κ arr pend g)) :
  wpS (model prog w) A E s (forIn [m:bt] (none,m) body) R (aG κ arr pend g):=by
 refine wpS_forRange (I:=fun x c ak=>ak=aG κ arr pend g∧c=(none,x)∧m≤x∧x≤bt∧bE key arr lo (lo+x)) ?_ ?_ ⟨rfl,rfl,Nat.le_refl _,mn,sg⟩
 ·rintro x c ak _ hx ⟨rfl,rfl,g1,g2,g3⟩
  refine hb x x _ (by omega) hx ?_
  by_cases z:vA key arr (lo+x)<vA key arr (lo+x-1)
  ·rw [if_pos z]
   exact k x g1 g2 g3 fun _=>z
  ·rw [if_neg z]
   exact ⟨rfl,rfl,by omega,by omega,g3.more (by omega) (Int.not_lt.mp z)⟩
 ·rintro c ak ⟨rfl,rfl,g1,g2,g3⟩
  have e:max m bt=bt:=by omega
  rw [e] at g3 ⊢
  exact k bt mn (Nat.le_refl _) g3 fun z=>absurd z (Nat.lt_irrefl _)
theorem DY(h:eV prog w A s κ key Ok)(ok:cL Ok arr){lo bt:Nat}(hz:lo+bt≤arr.size)(n1:1≤bt){Q:Option Nat→SortSt→Prop}
  (k:∀n aB,1≤n→n≤bt→Rl arr aB lo (lo+bt)→bE key aB lo (lo+n)→Q (some n) (aG κ aB pend g)):wpS (model prog w) A E s (countRun' lo bt) Q (aG κ arr pend g):=by
 rw [countRun'_eq]
 refine wpS_bind (nj h ok hz (Nat.le_refl 1) n1 (fun i j h1 h2 h3=>by rw [show i=j by omega];exact Int.le_refl _) ?_ fun n m1 mn sg br=>?_)
 ·intro x n R a1 a2 r
  dsimp only
  refine wpS_bind (fA h ok (by omega) (by omega) ?_)
  dsimp only
  by_cases z:vA key arr (lo+n)<vA key arr (lo+n-1)
  ·rw [if_pos z] at r
   rw [decide_eq_true z,if_pos rfl]
   exact wpS_pure r
  ·rw [if_neg z] at r
   rw [decide_eq_false z,if_neg (by simp)]
   exact wpS_pure r
 dsimp only
 by_cases e1:(n == bt)=true
 ·rw [if_pos e1]
  exact wpS_pure (k n arr m1 mn (Rl.refl ..) sg)
 rw [if_neg e1]
 have ba:n<bt:=by
  have:n≠bt:=fun e=>e1 (by simp [e])
  omega
 have xR:=br ba
 by_cases e2:n>1
 ·rw [if_pos e2]
  refine wpS_bind (fA h ok (by omega) (by omega) ?_)
  dsimp only
  by_cases z:vA key arr lo<vA key arr (lo+n-1)
  ·rw [decide_eq_true z,if_pos rfl]
   exact wpS_pure (k n arr m1 mn (Rl.refl ..) sg)
  ·rw [decide_eq_false z,if_neg (by simp)]
   refine wpS_bind (gJ ?_)
   have ev:∀i,lo≤i→i<lo+n→vA key arr i=vA key arr (lo+n-1):=fun i h1 h2=>by
    have a1:=sg lo i (Nat.le_refl _) h1 h2
    have a2:=sg i (lo+n-1) h1 (by omega) (by omega)
    omega
   have hv:∀i,vA key (mirror arr lo (lo+n) ((lo+n-lo) / 2)) i=vA key arr i:=fun i=>by
    by_cases y:lo≤i∧i<lo+n
    ·rw [pR (by omega) y.1 y.2,ev _ (by omega) (by omega),ev i y.1 y.2]
    ·exact (fz (by omega)).v (by omega)
   have d1:eZ key (mirror arr lo (lo+n) ((lo+n-lo) / 2)) lo (lo+n):=fun i j h1 h2 h3=>by
    rw [hv,hv,ev i h1 (by omega),ev j (by omega) h3]
    exact Int.le_refl _
   have pV:Rl arr (mirror arr lo (lo+n) ((lo+n-lo) / 2)) lo (lo+bt):=(fz (by omega)).wide (Nat.le_refl _) (by omega)
   have xS:vA key (mirror arr lo (lo+n) ((lo+n-lo) / 2)) (lo+n)<vA key (mirror arr lo (lo+n) ((lo+n-lo) / 2)) (lo+n-1):=by
    rw [hv,hv]
    exact xR
   generalize mirror arr lo (lo+n) ((lo+n-lo) / 2)=DZ at d1 pV xS ⊢
   refine wpS_bind (wpS_lift (wpAny_rule ⟨rfl,?_⟩))
   refine wpS_bind (wpS_mono (wpS_forRange (I:=fun x c ak=>∃(av:Array Keyed) (q:Nat),ak=aG κ av pend g∧c=(none,x,q)∧Rl arr av lo (lo+bt)∧eZ key av lo (lo+x)∧ni key av lo x q∧x≤bt∧1≤x)
    (Q:=fun c ak=>∃(av:Array Keyed) (n q:Nat),ak=aG κ av pend g∧c=(none,n,q)∧Rl arr av lo (lo+bt)∧eZ key av lo (lo+n)∧ni key av lo n q∧n≤bt∧1≤n) ?_ ?_ ⟨DZ,0,rfl,rfl,pV,d1.more (by omega) (Int.le_of_lt xS),⟨by omega,fun i h1 h2=>by rw [show i=lo+(n+1)-1 by omega]⟩,by omega,by omega⟩) ?_)
   ·rintro x c ak _ hx ⟨av,q,rfl,rfl,b5,d2,e2,x1,x2⟩
    have e8:=b5.ok ok
    have z2:=b5.size
    dsimp only
    refine wpS_bind (fA h e8 (by omega) (by omega) ?_)
    dsimp only
    by_cases z:vA key av (lo+x)<vA key av (lo+x-1)
    ·rw [decide_eq_true z,if_pos rfl]
     by_cases y:q>0
     ·rw [if_pos y]
      refine wpS_bind (gJ (wpS_pure ?_))
      obtain ⟨d3,hv⟩:=pS (by omega) d2 e2
      refine ⟨_,0,rfl,rfl,b5.trans ((fz (by omega)).wide (by have:=e2.1;omega) (by omega)),d3.more (by omega) (by rw [hv,hv];exact Int.le_of_lt z),⟨by omega,fun i h1 h2=>by rw [show i=lo+(x+1)-1 by omega]⟩,by omega,by omega⟩
     ·rw [if_neg y]
      exact wpS_pure ⟨_,0,rfl,rfl,b5,d2.more (by omega) (Int.le_of_lt z),⟨by omega,fun i h1 h2=>by rw [show i=lo+(x+1)-1 by omega]⟩,by omega,by omega⟩
    ·rw [decide_eq_false z,if_neg (by simp)]
     refine wpS_bind (fA h e8 (by omega) (by omega) ?_)
     dsimp only
     by_cases y:vA key av (lo+x-1)<vA key av (lo+x)
     ·rw [decide_eq_true y,if_pos rfl]
      exact wpS_pure ⟨_,_,_,rfl,rfl,b5,d2,e2,x1,x2⟩
     ·rw [decide_eq_false y,if_neg (by simp)]
      have ev:vA key av (lo+x)=vA key av (lo+x-1):=by omega
      refine wpS_pure ⟨_,_,rfl,rfl,b5,d2.more (by omega) (by omega),⟨by have:=e2.1;omega,fun i h1 h2=>?_⟩,by omega,by omega⟩
      rw [show lo+(x+1)-1=lo+x by omega]
      by_cases w:i=lo+x
      ·rw [w]
      ·rw [ev]
       exact e2.2 i (by omega) (by omega)
   ·rintro c ak ⟨av,q,rfl,rfl,b5,d2,e2,x1,x2⟩
    exact ⟨av,_,q,rfl,rfl,b5,d2,e2,x1,x2⟩
   ·rintro c ak ⟨av,n2,q2,rfl,rfl,b5,d2,e2,x1,x2⟩
    have z2:=b5.size
    dsimp only
    by_cases y:q2>0
    ·rw [if_pos y]
     obtain ⟨d3,hv⟩:=pS (by omega) d2 e2
     refine wpS_bind (gJ (wpS_bind (gJ ?_)))
     have fB:=b5.trans ((fz (arr:=av) (i:=lo+n2-(q2+1)) (j:=lo+n2) (by omega)).wide (by have:=e2.1;omega) (show lo+n2≤lo+bt by omega))
     generalize mirror av (lo+n2-(q2+1)) (lo+n2) _=bu at d3 fB ⊢
     have z3:=fB.size
     have cY:=pU (by omega) d3
     have a9:=fB.trans ((fz (arr:=bu) (i:=lo) (j:=lo+n2) (by omega)).wide (Nat.le_refl lo) (show lo+n2≤lo+bt by omega))
     generalize mirror bu lo (lo+n2) _=aE at cY a9 ⊢
     have fC:=Rl.ok a9 ok
     have z4:=Rl.size a9
     refine wpS_bind (nj h fC (by omega) (by omega) (by omega) cY ?_ fun m m1 mn i8 _=>wpS_pure (k m aE (by omega) mn a9 i8))
     intro x n R a1 a2 r
     dsimp only
     refine wpS_bind (fA h fC (by omega) (by omega) ?_)
     dsimp only
     by_cases z:vA key aE (lo+n)<vA key aE (lo+n-1)
     ·rw [if_pos z] at r
      rw [decide_eq_true z,if_pos rfl]
      exact wpS_pure r
     ·rw [if_neg z] at r
      rw [decide_eq_false z,if_neg (by simp)]
      exact wpS_pure r
    ·rw [if_neg y]
     refine wpS_bind (gJ ?_)
     have cY:=pU (by omega) d2
     have a9:=b5.trans ((fz (arr:=av) (i:=lo) (j:=lo+n2) (by omega)).wide (Nat.le_refl lo) (show lo+n2≤lo+bt by omega))
     generalize mirror av lo (lo+n2) _=aE at cY a9 ⊢
     have fC:=Rl.ok a9 ok
     have z4:=Rl.size a9
     refine wpS_bind (nj h fC (by omega) (by omega) (by omega) cY ?_ fun m m1 mn i8 _=>wpS_pure (k m aE (by omega) mn a9 i8))
     intro x n R a1 a2 r
     dsimp only
     refine wpS_bind (fA h fC (by omega) (by omega) ?_)
     dsimp only
     by_cases z:vA key aE (lo+n)<vA key aE (lo+n-1)
     ·rw [if_pos z] at r
      rw [decide_eq_true z,if_pos rfl]
      exact wpS_pure r
     ·rw [if_neg z] at r
      rw [decide_eq_false z,if_neg (by simp)]
      exact wpS_pure r
 ·rw [if_neg e2]
  have d1:eZ key arr lo (lo+n):=fun i j h1 h2 h3=>by
   rw [show i=j by omega]
   exact Int.le_refl _
  have pV:Rl arr arr lo (lo+bt):=Rl.refl ..
  refine wpS_bind (wpS_lift (wpAny_rule ⟨rfl,?_⟩))
  refine wpS_bind (wpS_mono (wpS_forRange (I:=fun x c ak=>∃(av:Array Keyed) (q:Nat),ak=aG κ av pend g∧c=(none,x,q)∧Rl arr av lo (lo+bt)∧eZ key av lo (lo+x)∧ni key av lo x q∧x≤bt∧1≤x)
   (Q:=fun c ak=>∃(av:Array Keyed) (n q:Nat),ak=aG κ av pend g∧c=(none,n,q)∧Rl arr av lo (lo+bt)∧eZ key av lo (lo+n)∧ni key av lo n q∧n≤bt∧1≤n) ?_ ?_ ⟨arr,0,rfl,rfl,pV,d1.more (by omega) (Int.le_of_lt xR),⟨by omega,fun i h1 h2=>by rw [show i=lo+(n+1)-1 by omega]⟩,by omega,by omega⟩) ?_)
  ·rintro x c ak _ hx ⟨av,q,rfl,rfl,b5,d2,e2,x1,x2⟩
   have e8:=b5.ok ok
   have z2:=b5.size
   dsimp only
   refine wpS_bind (fA h e8 (by omega) (by omega) ?_)
   dsimp only
   by_cases z:vA key av (lo+x)<vA key av (lo+x-1)
   ·rw [decide_eq_true z,if_pos rfl]
    by_cases y:q>0
    ·rw [if_pos y]
     refine wpS_bind (gJ (wpS_pure ?_))
     obtain ⟨d3,hv⟩:=pS (by omega) d2 e2
     refine ⟨_,0,rfl,rfl,b5.trans ((fz (by omega)).wide (by have:=e2.1;omega) (by omega)),d3.more (by omega) (by rw [hv,hv];exact Int.le_of_lt z),⟨by omega,fun i h1 h2=>by rw [show i=lo+(x+1)-1 by omega]⟩,by omega,by omega⟩
    ·rw [if_neg y]
     exact wpS_pure ⟨_,0,rfl,rfl,b5,d2.more (by omega) (Int.le_of_lt z),⟨by omega,fun i h1 h2=>by rw [show i=lo+(x+1)-1 by omega]⟩,by omega,by omega⟩
   ·rw [decide_eq_false z,if_neg (by simp)]
    refine wpS_bind (fA h e8 (by omega) (by omega) ?_)
    dsimp only
    by_cases y:vA key av (lo+x-1)<vA key av (lo+x)
    ·rw [decide_eq_true y,if_pos rfl]
     exact wpS_pure ⟨_,_,_,rfl,rfl,b5,d2,e2,x1,x2⟩
    ·rw [decide_eq_false y,if_neg (by simp)]
     have ev:vA key av (lo+x)=vA key av (lo+x-1):=by omega
     refine wpS_pure ⟨_,_,rfl,rfl,b5,d2.more (by omega) (by omega),⟨by have:=e2.1;omega,fun i h1 h2=>?_⟩,by omega,by omega⟩
     rw [show lo+(x+1)-1=lo+x by omega]
     by_cases w:i=lo+x
     ·rw [w]
     ·rw [ev]
      exact e2.2 i (by omega) (by omega)
  ·rintro c ak ⟨av,q,rfl,rfl,b5,d2,e2,x1,x2⟩
   exact ⟨av,_,q,rfl,rfl,b5,d2,e2,x1,x2⟩
  ·rintro c ak ⟨av,n2,q2,rfl,rfl,b5,d2,e2,x1,x2⟩
   have z2:=b5.size
   dsimp only
   by_cases y:q2>0
   ·rw [if_pos y]
    obtain ⟨d3,hv⟩:=pS (by omega) d2 e2
    refine wpS_bind (gJ (wpS_bind (gJ ?_)))
    have fB:=b5.trans ((fz (arr:=av) (i:=lo+n2-(q2+1)) (j:=lo+n2) (by omega)).wide (by have:=e2.1;omega) (show lo+n2≤lo+bt by omega))
    generalize mirror av (lo+n2-(q2+1)) (lo+n2) _=bu at d3 fB ⊢
    have z3:=fB.size
    have cY:=pU (by omega) d3
    have a9:=fB.trans ((fz (arr:=bu) (i:=lo) (j:=lo+n2) (by omega)).wide (Nat.le_refl lo) (show lo+n2≤lo+bt by omega))
    generalize mirror bu lo (lo+n2) _=aE at cY a9 ⊢
    have fC:=Rl.ok a9 ok
    have z4:=Rl.size a9
    refine wpS_bind (nj h fC (by omega) (by omega) (by omega) cY ?_ fun m m1 mn i8 _=>wpS_pure (k m aE (by omega) mn a9 i8))
    intro x n R a1 a2 r
    dsimp only
    refine wpS_bind (fA h fC (by omega) (by omega) ?_)
    dsimp only
    by_cases z:vA key aE (lo+n)<vA key aE (lo+n-1)
    ·rw [if_pos z] at r
     rw [decide_eq_true z,if_pos rfl]
     exact wpS_pure r
    ·rw [if_neg z] at r
     rw [decide_eq_false z,if_neg (by simp)]
     exact wpS_pure r
   ·rw [if_neg y]
    refine wpS_bind (gJ ?_)
    have cY:=pU (by omega) d2
    have a9:=b5.trans ((fz (arr:=av) (i:=lo) (j:=lo+n2) (by omega)).wide (Nat.le_refl lo) (show lo+n2≤lo+bt by omega))
    generalize mirror av lo (lo+n2) _=aE at cY a9 ⊢
    have fC:=Rl.ok a9 ok
    have z4:=Rl.size a9
    refine wpS_bind (nj h fC (by omega) (by omega) (by omega) cY ?_ fun m m1 mn i8 _=>wpS_pure (k m aE (by omega) mn a9 i8))
    intro x n R a1 a2 r
    dsimp only
    refine wpS_bind (fA h fC (by omega) (by omega) ?_)
    dsimp only
    by_cases z:vA key aE (lo+n)<vA key aE (lo+n-1)
    ·rw [if_pos z] at r
     rw [decide_eq_true z,if_pos rfl]
     exact wpS_pure r
    ·rw [if_neg z] at r
     rw [decide_eq_false z,if_neg (by simp)]
     exact wpS_pure r
end
section
variable {prog:Program} {w:World} {A:Around} {E:Value→Shared→Prop} {s:Shared} {κ:SortKind} {key:Keyed→Int} {Ok:Keyed→Prop} {arr:Array Keyed} {pend:Array (Nat×Nat×Nat)} {g:Nat}
theorem D3{i j:Nat}{Q:Unit→SortSt→Prop}(q:Q () (aG κ (bubble arr i (i-j)) pend g)):wpS (model prog w) A E s (moveDown' i j) Q (aG κ arr pend g):=by
 rw [moveDown'_eq]
 exact wpS_modify q
theorem xT{i d k:Nat}(hi:i<arr.size)(hd:d≤i):vA key (bubble arr i d) k=if k=i-d then vA key arr i else if i-d<k∧k≤i then vA key arr (k-1) else vA key arr k:=by
 unfold vA
 rw [fw,getElem?_bubble hi d hd,fw arr i,fw arr (k-1),fw arr k]
 by_cases a:k=i-d
 ·rw [if_pos a,if_pos a]
 ·rw [if_neg a,if_neg a]
  by_cases b:i-d<k∧k≤i
  ·rw [if_pos b,if_pos b]
  ·rw [if_neg b,if_neg b]
theorem D7{i d lo hi:Nat}(h:i<arr.size)(hd:d≤i)(h1:lo≤i-d)(h2:i<hi):Rl arr (bubble arr i d) lo hi:=⟨bubble_perm ..,fun k hk=>by
 rw [getElem?_bubble h d hd,if_neg (by omega),if_neg (by omega)]⟩
theorem D8(h:eV prog w A s κ key Ok)(ok:cL Ok arr){lo n m:Nat}(hz:lo+n≤arr.size)(m1:1≤m)(mn:m≤n)(sg:bE key arr lo (lo+m)){Q:Bool→SortSt→Prop}
  (k:∀aB,Rl arr aB lo (lo+n)→bE key aB lo (lo+n)→Q true (aG κ aB pend g)):wpS (model prog w) A E s (binarySort' lo n m) Q (aG κ arr pend g):=by
 rw [binarySort'_eq]
 have em:max m 1=m:=by omega
 rw [em]
 refine wpS_bind (wpS_mono (wpS_forRange (I:=fun x c ak=>∃av:Array Keyed,ak=aG κ av pend g∧c=(none,())∧Rl arr av lo (lo+n)∧bE key av lo (lo+x)∧m≤x∧x≤n)
  (Q:=fun c ak=>∃av:Array Keyed,ak=aG κ av pend g∧c=(none,())∧Rl arr av lo (lo+n)∧bE key av lo (lo+n)) ?_ ?_ ⟨arr,rfl,rfl,Rl.refl ..,sg,Nat.le_refl _,mn⟩) ?_)
 ·rintro x c ak _ hx ⟨av,rfl,rfl,rl,sg,x1,x2⟩
  have e8:=rl.ok ok
  have z2:=rl.size
  dsimp only
  refine wpS_bind (wpS_mono (wpS_forRange (I:=fun y c ak=>∃l r:Nat,ak=aG κ av pend g∧c=(none,l,r)∧l≤r∧r≤x∧r-l+y≤x∧(∀i,i<l→vA key av (lo+i)≤vA key av (lo+x))∧(∀i,r≤i→i<x→vA key av (lo+x)≤vA key av (lo+i)))
   (Q:=fun c ak=>∃l:Nat,ak=aG κ av pend g∧c=(none,l,l)∧l≤x∧(∀i,i<l→vA key av (lo+i)≤vA key av (lo+x))∧(∀i,l≤i→i<x→vA key av (lo+x)≤vA key av (lo+i))) ?_ ?_ ⟨0,x,rfl,rfl,by omega,Nat.le_refl _,show x-0+0≤x by omega,fun i hi=>absurd hi (Nat.not_lt_zero _),fun i h1 h2=>by omega⟩) ?_)
  ·rintro y c ak _ hy ⟨l,r,rfl,rfl,g1,g2,g3,g4,g5⟩
   dsimp only
   by_cases z:l≥r
   ·rw [if_pos z]
    obtain rfl:l=r:=by omega
    exact wpS_pure ⟨l,rfl,rfl,g2,g4,g5⟩
   ·rw [if_neg z]
    refine wpS_bind (fA h e8 (by omega) (by omega) ?_)
    dsimp only
    by_cases w:vA key av (lo+x)<vA key av (lo+(l+r) / 2)
    ·rw [decide_eq_true w,if_pos rfl]
     exact wpS_pure ⟨l,_,rfl,rfl,by omega,by omega,by omega,g4,fun i h1 h2=>Int.le_trans (Int.le_of_lt w) (sg _ _ (by omega) (by omega) (by omega))⟩
    ·rw [decide_eq_false w,if_neg (by simp)]
     exact wpS_pure ⟨_,r,rfl,rfl,by omega,g2,by omega,fun i h1=>Int.le_trans (sg _ _ (by omega) (by omega) (by omega)) (Int.not_lt.mp w),g5⟩
  ·rintro c ak ⟨l,r,rfl,rfl,g1,g2,g3,g4,g5⟩
   have:max 0 x=x:=by omega
   obtain rfl:l=r:=by omega
   exact ⟨l,rfl,rfl,g2,g4,g5⟩
  ·rintro c ak ⟨l,rfl,rfl,g2,g4,g5⟩
   dsimp only
   refine wpS_bind (D3 (wpS_pure ?_))
   have ed:lo+x-(lo+l)=x-l:=by omega
   rw [ed]
   refine ⟨_,rfl,rfl,rl.trans (D7 (by omega) (by omega) (by omega) (by omega)),fun i j h1 h2 h3=>?_,by omega,by omega⟩
   have e0:lo+x-(x-l)=lo+l:=by omega
   rw [xT (by omega) (by omega),xT (by omega) (by omega),e0]
   have f4:∀i,lo≤i→i<lo+l→vA key av i≤vA key av (lo+x):=fun i a b=>by have:=g4 (i-lo) (by omega);rwa [show lo+(i-lo)=i by omega] at this
   have f5:∀i,lo+l≤i→i<lo+x→vA key av (lo+x)≤vA key av i:=fun i a b=>by have:=g5 (i-lo) (by omega) (by omega);rwa [show lo+(i-lo)=i by omega] at this
   by_cases a1:i=lo+l
   ·rw [if_pos a1]
    by_cases b1:j=lo+l
    ·rw [if_pos b1];exact Int.le_refl _
    ·rw [if_neg b1,if_pos (by omega)]
     exact f5 _ (by omega) (by omega)
   ·rw [if_neg a1]
    by_cases a2:lo+l<i∧i≤lo+x
    ·rw [if_pos a2,if_neg (by omega),if_pos (by omega)]
     exact sg _ _ (by omega) (by omega) (by omega)
    ·rw [if_neg a2]
     by_cases b1:j=lo+l
     ·rw [if_pos b1]
      exact f4 i h1 (by omega)
     ·rw [if_neg b1]
      by_cases b2:lo+l<j∧j≤lo+x
      ·rw [if_pos b2]
       exact Int.le_trans (f4 i h1 (by omega)) (f5 _ (by omega) (by omega))
      ·rw [if_neg b2]
       exact sg _ _ (by omega) (by omega) (by omega)
 ·rintro c ak ⟨av,rfl,rfl,rl,sg,x1,x2⟩
  have:max m n=n:=by omega
  rw [this] at sg
  exact ⟨av,rfl,rfl,rl,sg⟩
 ·rintro c ak ⟨av,rfl,rfl,rl,sg⟩
  exact wpS_pure (k av rl sg)
end
theorem D9(i:Nat):mergeAt' i=(do
 let s ←get
 let (some (sa,na,power),some (sb,nb,_)):=((pendingOf s)[i]?,(pendingOf s)[i+1]?) | unsupported "internal:list.sort.pending"
 set (setPending s (((pendingOf s).setIfInBounds i (sa,na+nb,power)).eraseIdxIfInBounds (i+1)))
 let some k ←h8 false (←elem' (arrOf s) sb) (arrOf s) sa na 0 | return false
 let (sa,na):=(sa+k,na-k)
 if na == 0 then return true
 let some nb ←h8 true (←elem' (arrOf s) (sa+na-1)) (arrOf s) sb nb (nb-1) | return false
 if nb == 0 then return true
 let x:=(arrOf s).extract sa sb
 let y:=(arrOf s).extract sb (sb+nb)
 let merged ←if na≤nb then tu x y else tw x y
 modify fun s=>setArr s (merged.toList.zipIdx.foldl (fun a (p,j)=>a.setIfInBounds (sa+j) p) (arrOf s))
 return (failedOf (←get)).isNone):=rfl
def putL(m:List Keyed)(o:Nat)(arr:Array Keyed)(n:Nat):Array Keyed:=(m.zipIdx n).foldl (fun a (p,j)=>a.setIfInBounds (o+j) p) arr
theorem xU(m:List Keyed)(o:Nat):∀(arr:Array Keyed) (n k:Nat),o+n+m.length≤arr.size→(putL m o arr n)[k]?=if o+n≤k∧k<o+n+m.length then m[k-(o+n)]? else arr[k]?:=by
 induction m with
 | nil=>
  intro arr n k _
  rw [if_neg (by simp)]
  rfl
 | cons x m ih=>
  intro arr n k hz
  rw [List.length_cons] at hz ⊢
  show (putL m o (arr.setIfInBounds (o+n) x) (n+1))[k]?=_
  rw [ih _ _ _ (by simp;omega)]
  by_cases a:o+(n+1)≤k∧k<o+(n+1)+m.length
  ·rw [if_pos a,if_pos (by omega),show k-(o+n)=(k-(o+(n+1)))+1 by omega]
   rfl
  ·rw [if_neg a]
   by_cases b:k=o+n
   ·subst b
    rw [if_pos (by omega),Nat.sub_self]
    simp [show o+n<arr.size by omega]
   ·rw [if_neg (by omega)]
    rw [Array.getElem?_setIfInBounds_ne (by omega)]
theorem D_{m:List Keyed}{o:Nat}{arr:Array Keyed}(hz:o+m.length≤arr.size):(putL m o arr 0).toList=arr.toList.take o++m++arr.toList.drop (o+m.length):=by
 refine List.ext_getElem? fun k=>?_
 have e:(putL m o arr 0).toList[k]?=(putL m o arr 0)[k]?:=by simp
 rw [e,xU m o arr 0 k (by omega),Nat.add_zero]
 by_cases a:k<o
 ·rw [if_neg (by omega),List.append_assoc,List.getElem?_append_left (by simp;omega),List.getElem?_take_of_lt a]
  simp
 ·by_cases b:k<o+m.length
  ·rw [if_pos (by omega),List.append_assoc,List.getElem?_append_right (by simp;omega),List.getElem?_append_left (by simp;omega)]
   congr 1
   simp
   omega
  ·rw [if_neg (by omega),List.getElem?_append_right (by simp;omega),List.getElem?_drop]
   have:o+m.length+(k-(arr.toList.take o++m).length)=k:=by simp;omega
   rw [this]
   simp
section
variable {prog:Program} {w:World} {A:Around} {E:Value→Shared→Prop} {s:Shared} {κ:SortKind} {key:Keyed→Int} {Ok:Keyed→Prop} {arr:Array Keyed} {pend:Array (Nat×Nat×Nat)} {g:Nat}
theorem xV{lo hi:Nat}(h:bE key arr lo hi)(hz:hi≤arr.size):aJ key (arr.extract lo hi).toList:=by
 unfold aJ
 rw [List.pairwise_iff_getElem]
 intro i j aS hj tG
 have h1:i<hi-lo∧j<hi-lo:=by
  simp at aS hj
  omega
 have:=h (lo+i) (lo+j) (by omega) (by omega) (by omega)
 unfold vA at this
 simpa [Array.getD,show lo+i<arr.size by omega,show lo+j<arr.size by omega] using this
theorem tL{lo hi i:Nat}(hz:hi≤arr.size)(aS:lo+i<hi):(arr.extract lo hi).getD i nn=arr.getD (lo+i) nn:=by
 simp [Array.getD,show lo+i<arr.size by omega,show i<min hi arr.size-lo by omega]
theorem xW(ok:cL Ok arr){lo hi:Nat}(hz:hi≤arr.size):cL Ok (arr.extract lo hi):=fun i aS=>by
 have:lo+i<hi:=by simp at aS;omega
 rw [tL hz this]
 exact ok _ (by omega)
theorem ext_mem{lo hi:Nat}(hz:hi≤arr.size){x:Keyed}(hx:x∈(arr.extract lo hi).toList):∃j,lo≤j∧j<hi∧x=arr.getD j nn:=gI hz hx
theorem Ea{σ:Type}{st ak:σ}{Q:PUnit→σ→Prop}{M:Model}(q:Q ⟨⟩ ak):wpS M A E s (set ak:StateT σ Sem PUnit) Q st:=by
 unfold wpS
 rw [StateT.run_set]
 exact wpAny_pure ⟨rfl,q⟩
theorem Eb{sa sb aK bf na nb:Nat}{m:Array Keyed}(hz:sb+nb≤arr.size)(h0:sa+na=sb)(hk:aK≤na)(hb:bf≤nb)(pm:m.toList.Perm ((arr.extract (sa+aK) sb).toList++(arr.extract sb (sb+bf)).toList))(sm:aJ key m.toList)
  (s1:bE key arr sa sb) (s2:bE key arr sb (sb+nb)) (Ec:aK<na) (xX:1≤nb)
  (c1:∀i,i<aK→vA key arr (sa+i)≤vA key arr sb) (c2:∀i,bf≤i→i<nb→vA key arr (sb-1)≤vA key arr (sb+i)) :
  Rl arr (putL m.toList (sa+aK) arr 0) sa (sb+nb)∧bE key (putL m.toList (sa+aK) arr 0) sa (sb+nb):=by
 have lm:m.toList.length=(na-aK)+bf:=by
  rw [pm.length_eq,List.length_append,eW,eW]
  simp
  omega
 have hsz:sa+aK+m.toList.length≤arr.size:=by omega
 have at':=xU m.toList (sa+aK) arr 0
 have rl:Rl arr (putL m.toList (sa+aK) arr 0) sa (sb+nb):=by
  refine ⟨Array.perm_iff_toList_perm.mpr ?_,fun k cP=>?_⟩
  ·rw [D_ hsz]
   have e:arr.toList=arr.toList.take (sa+aK)++((arr.extract (sa+aK) sb).toList++(arr.extract sb (sb+bf)).toList)++arr.toList.drop (sa+aK+m.toList.length):=by
    rw [eW,eW,show sa+aK+m.toList.length=sb+bf by omega,show sb+bf-sb=bf by omega]
    have t1:arr.toList.drop (sa+aK)=(arr.toList.drop (sa+aK)).take (sb-(sa+aK))++arr.toList.drop sb:=by
     have:=(List.take_append_drop (sb-(sa+aK)) (arr.toList.drop (sa+aK))).symm
     rw [List.drop_drop,show sa+aK+(sb-(sa+aK))=sb by omega] at this
     exact this
    have t2:arr.toList.drop sb=(arr.toList.drop sb).take bf++arr.toList.drop (sb+bf):=by
     have:=(List.take_append_drop bf (arr.toList.drop sb)).symm
     rw [List.drop_drop] at this
     exact this
    have t0:=(List.take_append_drop (sa+aK) arr.toList).symm
    rw [t1,t2] at t0
    rw [List.append_assoc,List.append_assoc]
    exact t0
   refine List.Perm.trans ?_ (List.Perm.of_eq e.symm)
   exact List.Perm.append_right _ (List.Perm.append_left _ pm)
  ·rw [at' k (by omega),if_neg (by omega)]
 have vo:∀k,k<sa+aK∨sb+bf≤k→vA key (putL m.toList (sa+aK) arr 0) k=vA key arr k:=fun k cP=>by
  unfold vA
  rw [fw,at' k (by omega),if_neg (by omega),fw]
 have vm:∀k,sa+aK≤k→k<sb+bf→∃hj:k-(sa+aK)<m.toList.length,vA key (putL m.toList (sa+aK) arr 0) k=key (m.toList[k-(sa+aK)]'hj):=fun k h1 h2=>by
  have hj:k-(sa+aK)<m.toList.length:=by omega
  refine ⟨hj,?_⟩
  unfold vA
  rw [fw,at' k (by omega),if_pos (by omega),Nat.add_zero,List.getElem?_eq_getElem hj]
  rfl
 have vq:∀k,sa+aK≤k→k<sb+bf→∃q,sa+aK≤q∧q<sb+bf∧vA key (putL m.toList (sa+aK) arr 0) k=vA key arr q:=fun k h1 h2=>by
  obtain ⟨hj,e⟩:=vm k h1 h2
  have mm:=pm.mem_iff.mp (List.getElem_mem hj)
  rcases List.mem_append.mp mm with mm | mm
  ·obtain ⟨q,q1,q2,eq⟩:=ext_mem (by omega) mm
   exact ⟨q,q1,by omega,by rw [e,eq];rfl⟩
  ·obtain ⟨q,q1,q2,eq⟩:=ext_mem (by omega) mm
   exact ⟨q,by omega,q2,by rw [e,eq];rfl⟩
 have d1:∀i,sa≤i→i<sa+aK→vA key arr i≤vA key arr sb:=fun i a b=>by
  have:=c1 (i-sa) (by omega)
  rwa [show sa+(i-sa)=i by omega] at this
 have d2:∀j,sb+bf≤j→j<sb+nb→vA key arr (sb-1)≤vA key arr j:=fun j a b=>by
  have:=c2 (j-sb) (by omega) (by omega)
  rwa [show sb+(j-sb)=j by omega] at this
 refine ⟨rl,fun i j h1 h2 h3=>?_⟩
 by_cases i1:i<sa+aK
 ·rw [vo i (.inl i1)]
  by_cases j1:j<sa+aK
  ·rw [vo j (.inl j1)]
   exact s1 i j h1 h2 (by omega)
  ·by_cases j2:j<sb+bf
   ·obtain ⟨q,q1,q2,e⟩:=vq j (by omega) j2
    rw [e]
    by_cases q3:q<sb
    ·exact s1 i q h1 (by omega) q3
    ·exact Int.le_trans (d1 i h1 i1) (s2 sb q (Nat.le_refl _) (by omega) (by omega))
   ·rw [vo j (.inr (by omega))]
    exact Int.le_trans (d1 i h1 i1) (s2 sb j (Nat.le_refl _) (by omega) h3)
 ·by_cases i2:i<sb+bf
  ·by_cases j2:j<sb+bf
   ·obtain ⟨x1,e1⟩:=vm i (by omega) i2
    obtain ⟨x2,e2⟩:=vm j (by omega) j2
    rw [e1,e2]
    by_cases z:i=j
    ·subst z;exact Int.le_refl _
    ·exact List.pairwise_iff_getElem.mp sm _ _ x1 x2 (by omega)
   ·obtain ⟨q,q1,q2,e⟩:=vq i (by omega) i2
    rw [e,vo j (.inr (by omega))]
    by_cases q3:q<sb
    ·exact Int.le_trans (s1 q (sb-1) (by omega) (by omega) (by omega)) (d2 j (by omega) h3)
    ·exact s2 q j (by omega) (by omega) h3
  ·rw [vo i (.inr (by omega)),vo j (.inr (by omega))]
   exact s2 i j (by omega) h2 h3
theorem Ed(h:eV prog w A s κ key Ok)(ok:cL Ok arr){i sa na pw nb gK:Nat}(e1:pend[i]?=some (sa,na,pw))(e2:pend[i+1]?=some (sa+na,nb,gK))(Ec:1≤na)(xX:1≤nb)(hz:sa+na+nb≤arr.size)
  (s1:bE key arr sa (sa+na)) (s2:bE key arr (sa+na) (sa+na+nb)) {Q:Bool→SortSt→Prop}
  (k:∀aB g',Rl arr aB sa (sa+na+nb)→bE key aB sa (sa+na+nb)→Q true (aG κ aB ((pend.setIfInBounds i (sa,na+nb,pw)).eraseIdxIfInBounds (i+1)) g')):wpS (model prog w) A E s (mergeAt' i) Q (aG κ arr pend g):=by
 rw [D9]
 refine wpS_bind (wpS_get ?_)
 have mV:(pendingOf (aG κ arr pend g))[i]?=some (sa,na,pw):=e1
 have Ee:(pendingOf (aG κ arr pend g))[i+1]?=some (sa+na,nb,gK):=e2
 rw [mV,Ee]
 dsimp only
 refine wpS_bind (Ea ?_)
 refine wpS_bind (aR (by show sa+na<arr.size;omega) ?_)
 refine wpS_bind (dY (f:=fun j=>bB false (vA key arr (sa+na)) (vA key arr (sa+j))) (fun j hj Q q=>dX (κ:=κ) h (by show sa+j<arr.size;omega) ok (ok _ (by omega)) rfl q) (by omega) ?_ fun t t1 t2 t3=>?_)
 ·intro i j h1 h2 h3
  have:vA key arr (sa+i)≤vA key arr (sa+na):=Int.le_trans (s1 _ _ (by omega) (by omega) (by omega)) (fU h3)
  show (!decide (vA key arr (sa+na)<vA key arr (sa+i)))=true
  simpa using this
 dsimp only
 by_cases z1:(na-t == 0)=true
 ·rw [if_pos z1]
  have tz:t=na:=by
   have:=eq_of_beq z1
   omega
  subst tz
  refine wpS_pure (k arr g (Rl.refl ..) fun i j h1 h2 h3=>?_)
  by_cases i1:i<sa+t
  ·by_cases j1:j<sa+t
   ·exact s1 i j h1 h2 j1
   ·have:=fU (t2 (i-sa) (by omega))
    rw [show sa+(i-sa)=i by omega] at this
    exact Int.le_trans this (s2 _ _ (Nat.le_refl _) (by omega) (by omega))
  ·exact s2 i j (by omega) h2 (by omega)
 rw [if_neg z1]
 have tn:t<na:=by
  have:na-t≠0:=fun e=>z1 (by simp [e])
  omega
 refine wpS_bind (aR (by show sa+t+(na-t)-1<arr.size;omega) ?_)
 have el:sa+t+(na-t)-1=sa+na-1:=by omega
 rw [el]
 refine wpS_bind (dY (f:=fun j=>bB true (vA key arr (sa+na-1)) (vA key arr (sa+na+j))) (fun j hj Q q=>dX (κ:=κ) h (by show sa+na+j<arr.size;omega) ok (ok _ (by omega)) rfl q) (by omega) ?_ fun u u1 u2 u3=>?_)
 ·intro i j h1 h2 h3
  exact decide_eq_true (Int.lt_of_le_of_lt (s2 _ _ (by omega) (by omega) (by omega)) (dA h3))
 dsimp only
 have Ef:=h9 (t3 (na-1) (by omega) (by omega))
 rw [show sa+(na-1)=sa+na-1 by omega] at Ef
 by_cases z2:(u == 0)=true
 ·exfalso
  have:=dZ (u3 0 (by have:=eq_of_beq z2;omega) (by omega))
  rw [Nat.add_zero] at this
  omega
 rw [if_neg z2]
 have un:1≤u:=by
  have:u≠0:=fun e=>z2 (by simp [e])
  omega
 have ox:=xW ok (lo:=sa+t) (hi:=sa+na) (by omega)
 have oy:=xW ok (lo:=sa+na) (hi:=sa+na+u) (by omega)
 have sx:aJ key (arr.extract (sa+t) (sa+na)).toList:=xV (fun i j h1 h2 h3=>s1 i j (by omega) h2 h3) (by omega)
 have sy:aJ key (arr.extract (sa+na) (sa+na+u)).toList:=xV (fun i j h1 h2 h3=>s2 i j h1 h2 (by omega)) (by omega)
 have zx:(arr.extract (sa+t) (sa+na)).size=na-t:=by simp;omega
 have zy:(arr.extract (sa+na) (sa+na+u)).size=u:=by simp;omega
 have h0:∀x∈(arr.extract (sa+t) (sa+na)).toList,key ((arr.extract (sa+na) (sa+na+u)).getD 0 nn)≤key x:=fun x hx=>by
  obtain ⟨j,j1,j2,rfl⟩:=ext_mem (by omega) hx
  rw [tL (by omega) (by omega),Nat.add_zero]
  have:=h9 (t3 (j-sa) (by omega) (by omega))
  rw [show sa+(j-sa)=j by omega] at this
  exact Int.le_of_lt this
 have hl:∀y∈(arr.extract (sa+na) (sa+na+u)).toList,key y≤key ((arr.extract (sa+t) (sa+na)).getD ((arr.extract (sa+t) (sa+na)).size-1) nn):=fun y hy=>by
  obtain ⟨j,j1,j2,rfl⟩:=ext_mem (by omega) hy
  rw [zx,tL (by omega) (by omega),show sa+t+(na-t-1)=sa+na-1 by omega]
  have:=dA (u2 (j-(sa+na)) (by omega))
  rw [show sa+na+(j-(sa+na))=j by omega] at this
  exact Int.le_of_lt this
 have fin:∀(m:Array Keyed) (g':Nat),m.toList.Perm ((arr.extract (sa+t) (sa+na)).toList++(arr.extract (sa+na) (sa+na+u)).toList)→aJ key m.toList→Q true (aG κ (putL m.toList (sa+t) arr 0) ((pend.setIfInBounds i (sa,na+nb,pw)).eraseIdxIfInBounds (i+1)) g'):=fun m g' pm sm=>by
  obtain ⟨rl,sg⟩:=Eb (sb:=sa+na) hz rfl (Nat.le_of_lt tn) u1 pm sm s1 s2 tn xX (fun i hi=>fU (t2 i hi)) (fun i h1 h2=>dZ (u3 i h1 h2))
  exact k _ g' rl sg
 refine cy (fun _=>?_) (fun _=>?_)
 ·refine wpS_bind (DS (κ:=κ) h ox oy sx sy (by omega) (by omega) h0 hl rfl fun m g' pm sm=>?_)
  exact wpS_bind (wpS_modify (wpS_bind (wpS_get (wpS_pure (fin m g' pm sm)))))
 ·refine wpS_bind (DW (κ:=κ) h ox oy sx sy (by omega) (by omega) h0 hl rfl fun m g' pm sm=>?_)
  exact wpS_bind (wpS_modify (wpS_bind (wpS_get (wpS_pure (fin m g' pm sm)))))
end
def bz(key:Keyed→Int)(arr:Array Keyed):List (Nat×Nat×Nat)→Nat→Nat→Prop
 | [],lo,hi=>lo=hi
 | p::r,lo,hi=>p.1=lo∧1≤p.2.1∧bE key arr lo (lo+p.2.1)∧bz key arr r (lo+p.2.1) hi
section
variable {key:Keyed→Int} {arr aB:Array Keyed}
theorem bz.le:∀{l:List (Nat×Nat×Nat)} {lo hi:Nat},bz key arr l lo hi→lo+l.length≤hi
 | [],lo,hi,h=>by
  have:lo=hi:=h
  simp
  omega
 | p::r,lo,hi,h=>by
  have:=bz.le h.2.2.2
  have:=h.2.1
  simp only [List.length_cons]
  omega
theorem bE.aY{lo hi a b:Nat}(h:bE key arr lo hi)(rl:Rl arr aB a b)(d:hi≤a∨b≤lo):bE key aB lo hi:=fun i j h1 h2 h3=>by
 rw [rl.v (by omega),rl.v (by omega)]
 exact h i j h1 h2 h3
theorem bz.aY:∀{l:List (Nat×Nat×Nat)} {lo hi a b:Nat},bz key arr l lo hi→Rl arr aB a b→hi≤a∨b≤lo→bz key aB l lo hi
 | [],lo,hi,a,b,h,_,_=>h
 | p::r,lo,hi,a,b,h,rl,d=>by
  have:=h.2.2.2.le
  refine ⟨h.1,h.2.1,h.2.2.1.aY rl (by omega),h.2.2.2.aY rl (by omega)⟩
theorem bz.snoc:∀{l:List (Nat×Nat×Nat)} {lo hi n pw:Nat},bz key arr l lo hi→1≤n→bE key arr hi (hi+n)→bz key arr (l++[(hi,n,pw)]) lo (hi+n)
 | [],lo,hi,n,pw,h,n1,s=>by
  obtain rfl:lo=hi:=h
  exact ⟨rfl,n1,s,rfl⟩
 | p::r,lo,hi,n,pw,h,n1,s=>⟨h.1,h.2.1,h.2.2.1,h.2.2.2.snoc n1 s⟩
theorem bz.two:∀{l:List (Nat×Nat×Nat)} {lo hi i:Nat},bz key arr l lo hi→i+1<l.length→∃sa na pw nb gK,l[i]?=some (sa,na,pw)∧l[i+1]?=some (sa+na,nb,gK)∧1≤na∧1≤nb∧lo≤sa∧sa+na+nb≤hi∧bE key arr sa (sa+na)∧bE key arr (sa+na) (sa+na+nb) ∧
  ∀aB,Rl arr aB sa (sa+na+nb)→bE key aB sa (sa+na+nb)→bz key aB ((l.set i (sa,na+nb,pw)).eraseIdx (i+1)) lo hi
 | [],lo,hi,i,h,aS=>by simp at aS
 | [p],lo,hi,i,h,aS=>by simp at aS
 | p::q::r,lo,hi,0,h,_=>by
  obtain ⟨p1,p2,pw⟩:=p
  obtain ⟨q1,q2,gK⟩:=q
  obtain ⟨e1,n1,s1,e2,n2,s2,c⟩:=h
  dsimp only at e1 n1 s1 e2 n2 s2 c
  subst e1
  subst e2
  have:=c.le
  refine ⟨p1,p2,pw,q2,gK,rfl,rfl,n1,n2,Nat.le_refl _,by omega,s1,s2,fun aB rl sg=>?_⟩
  show bz key aB ((p1,p2+q2,pw)::r) p1 hi
  refine ⟨rfl,by show 1≤p2+q2;omega,by show bE key aB p1 (p1+(p2+q2));rw [←Nat.add_assoc];exact sg,?_⟩
  show bz key aB r (p1+(p2+q2)) hi
  rw [←Nat.add_assoc]
  exact c.aY rl (.inr (Nat.le_refl _))
 | p::q::r,lo,hi,i+1,h,aS=>by
  obtain ⟨sa,na,pw,nb,gK,e1,e2,n1,n2,l1,l2,s1,s2,k⟩:=h.2.2.2.two (i:=i) (by simpa using aS)
  refine ⟨sa,na,pw,nb,gK,e1,e2,n1,n2,by omega,l2,s1,s2,fun aB rl sg=>?_⟩
  exact ⟨h.1,h.2.1,h.2.2.1.aY rl (.inl l1),k aB rl sg⟩
theorem bz.last:∀{l:List (Nat×Nat×Nat)} {lo hi pw:Nat},bz key arr l lo hi→bz key arr (l.modify (l.length-1) fun x=>(x.1,x.2.1,pw)) lo hi
 | [],lo,hi,pw,h=>h
 | [p],lo,hi,pw,h=>h
 | p::q::r,lo,hi,pw,h=>⟨h.1,h.2.1,h.2.2.1,h.2.2.2.last⟩
theorem bz.one{l:List (Nat×Nat×Nat)}{hi:Nat}(h:bz key arr l 0 hi)(hl:l.length≤1):bE key arr 0 hi:=by
 match l,h,hl with
 | [],h,_=>
  have:0=hi:=h
  exact fun i j h1 h2 h3=>by omega
 | [p],h,_=>
  have:=h.2.2.1
  have e:0+p.2.1=hi:=h.2.2.2
  rw [←e]
  exact this
 | p::q::r,_,hl=>simp at hl
end
section
variable {prog:Program} {w:World} {A:Around} {E:Value→Shared→Prop} {s:Shared} {κ:SortKind} {key:Keyed→Int} {Ok:Keyed→Prop} {arr:Array Keyed} {pend:Array (Nat×Nat×Nat)} {g:Nat}
theorem tM(h:eV prog w A s κ key Ok)(ok:cL Ok arr){i hi:Nat}(c:bz key arr pend.toList 0 hi)(hz:hi≤arr.size)(aS:i+1<pend.size){Q:Bool→SortSt→Prop}
  (k:∀aB tN g',Rl arr aB 0 hi→bz key aB tN.toList 0 hi→tN.size+1=pend.size→Q true (aG κ aB tN g')):wpS (model prog w) A E s (mergeAt' i) Q (aG κ arr pend g):=by
 obtain ⟨sa,na,pw,nb,gK,e1,e2,n1,n2,l1,l2,s1,s2,kk⟩:=c.two (i:=i) (by simpa using aS)
 refine Ed h ok (by simpa using e1) (by simpa using e2) n1 n2 (by omega) s1 s2 fun aB g' rl sg=>?_
 refine k _ _ _ (rl.wide (Nat.zero_le _) l2) ?_ ?_
 ·have:=kk aB rl sg
  simpa using this
 ·rw [←Array.length_toList,Array.toList_eraseIdxIfInBounds,List.length_eraseIdx,if_pos (by simpa using aS)]
  simp
  omega
theorem Eg(h:eV prog w A s κ key Ok)(ok:cL Ok arr){Q:Unit→SortSt→Prop}
  (k:∀aB ak,aB.Perm arr→bE key aB 0 arr.size→arrOf ak=aB→failedOf ak=none→Q () ak):wpS (model prog w) A E s sortRuns' Q (aG κ arr #[] g):=by
 rw [sortRuns'_eq]
 refine wpS_bind (wpS_get ?_)
 dsimp only
 have es:(arrOf (aG κ arr #[] g)).size=arr.size:=rfl
 rw [es]
 refine wpS_bind (wpS_mono (wpS_forRange (I:=fun x c ak=>∃(av:Array Keyed) (ck:Array (Nat×Nat×Nat)) (g2 lo:Nat),ak=aG κ av ck g2∧c=(none,lo)∧av.Perm arr∧bz key av ck.toList 0 lo∧lo≤arr.size∧x≤lo)
  (Q:=fun c ak=>∃(av:Array Keyed) (ck:Array (Nat×Nat×Nat)) (g2:Nat),ak=aG κ av ck g2∧c=(none,arr.size)∧av.Perm arr∧bz key av ck.toList 0 arr.size) ?_ ?_ ⟨arr,#[],g,0,rfl,rfl,Array.Perm.refl _,rfl,Nat.zero_le _,Nat.le_refl _⟩) ?_)
 ·rintro x c ak _ hx ⟨av,ck,g2,lo,rfl,rfl,ic,i9,l1,l2⟩
  have e8:=ku ok ic
  have z2:=ic.size_eq
  dsimp only
  by_cases z:lo≥arr.size
  ·rw [if_pos z]
   obtain rfl:lo=arr.size:=by omega
   exact wpS_pure ⟨av,ck,g2,rfl,rfl,ic,i9⟩
  rw [if_neg z]
  refine wpS_bind (DY h e8 (by omega) (by omega) fun n bu n1 nn fB sg=>?_)
  have cm:=fB.pm.trans ic
  have xY:=ku ok cm
  have z3:=cm.size_eq
  have d5:=i9.aY fB (.inl (Nat.le_refl _))
  dsimp only
  by_cases y:n<minRun' arr.size arr.size 0
  ·rw [if_pos y]
   refine wpS_bind (wpS_lift (wpAny_rule ⟨rfl,?_⟩))
   refine wpS_bind (D8 h xY (n:=min (arr.size-lo) (minRun' arr.size arr.size 0)) (by omega) n1 (by omega) sg fun aE a9 cY=>?_)
   rw [if_neg (by simp)]
   have cZ:=d5.aY a9 (.inl (Nat.le_refl _))
   have tO:=a9.pm.trans cm
   clear d5 cm xY z3 sg fB a9
   have f1:1≤min (arr.size-lo) (minRun' arr.size arr.size 0):=by omega
   have f2:lo+min (arr.size-lo) (minRun' arr.size arr.size 0)≤arr.size:=by omega
   generalize min (arr.size-lo) (minRun' arr.size arr.size 0)=fo at cY f1 f2 ⊢
   revert cZ tO cY
   generalize aE=bu
   intro d5 cm cY
   refine wpS_bind (wpS_get ?_)
   have eb:(pendingOf (aG κ bu ck g2)).back?=ck.back?:=rfl
   rw [eb]
   cases ck.back? with
   | none=>
    dsimp only
    exact wpS_bind (wpS_modify (wpS_pure ⟨bu,ck.push (lo,fo,0),g2,lo+fo,rfl,rfl,cm,by rw [Array.toList_push];exact d5.snoc f1 cY,f2,by have:=f1;omega⟩))
   | some p=>
    obtain ⟨Eh,pW,Ei⟩:=p
    dsimp only
    have z3:=cm.size_eq
    refine wpS_bind (wpS_mono (wpS_forRange (I:=fun y c ak=>∃(aE:Array Keyed) (aV:Array (Nat×Nat×Nat)) (g4:Nat),ak=aG κ aE aV g4∧c=(none,())∧Rl bu aE 0 lo∧bz key aE aV.toList 0 lo)
     (Q:=fun c ak=>∃(aE:Array Keyed) (aV:Array (Nat×Nat×Nat)) (g4:Nat),ak=aG κ aE aV g4∧c=(none,())∧Rl bu aE 0 lo∧bz key aE aV.toList 0 lo) ?_ (fun c ak hh=>hh) ⟨bu,ck,g2,rfl,rfl,Rl.refl ..,d5⟩) ?_)
    ·rintro y c ak _ hy ⟨aE,aV,g4,rfl,rfl,a9,cZ⟩
     have z4:=a9.size
     refine wpS_bind (wpS_get ?_)
     have hx:∀o,o=(if (pendingOf (aG κ aE aV g4)).size>1 then (pendingOf (aG κ aE aV g4))[(pendingOf (aG κ aE aV g4)).size-2]? else none)→o.isSome=true→aV.size>1:=fun o ho hs=>by
      by_cases z:aV.size>1
      ·exact z
      ·rw [if_neg z] at ho
       rw [ho] at hs
       cases hs
     generalize eo:(if (pendingOf (aG κ aE aV g4)).size>1 then (pendingOf (aG κ aE aV g4))[(pendingOf (aG κ aE aV g4)).size-2]? else none)=o
     cases o with
     | none=>exact wpS_pure ⟨aE,aV,g4,rfl,rfl,a9,cZ⟩
     | some p=>
      have gt:=hx _ eo.symm rfl
      obtain ⟨q1,q2,Ej⟩:=p
      dsimp only
      refine cy (fun _=>wpS_pure ⟨aE,aV,g4,rfl,rfl,a9,cZ⟩) (fun _=>?_)
      refine wpS_bind (tM h (ku ok (a9.pm.trans cm)) cZ (by omega) (show aV.size-2+1<aV.size by omega) fun tQ tR g5 tS tT _=>?_)
      rw [if_neg (by simp)]
      exact wpS_pure ⟨tQ,tR,g5,rfl,rfl,a9.trans tS,tT⟩
    ·rintro c ak ⟨aE,aV,g4,rfl,rfl,a9,cZ⟩
     dsimp only
     refine wpS_bind (wpS_modify (wpS_bind (wpS_modify (wpS_pure ⟨aE,_,g4,lo+fo,rfl,rfl,a9.pm.trans cm,?_,f2,by have:=f1;omega⟩))))
     rw [Array.toList_push]
     refine bz.snoc ?_ f1 (bE.aY cY a9 (.inr (Nat.le_refl _)))
     rw [Array.toList_modify]
     exact cZ.last
  ·rw [if_neg y]
   have f2:lo+n≤arr.size:=by omega
   refine wpS_bind (wpS_get ?_)
   have eb:(pendingOf (aG κ bu ck g2)).back?=ck.back?:=rfl
   rw [eb]
   cases ck.back? with
   | none=>
    dsimp only
    exact wpS_bind (wpS_modify (wpS_pure ⟨bu,ck.push (lo,n,0),g2,lo+n,rfl,rfl,cm,by rw [Array.toList_push];exact d5.snoc n1 sg,f2,by have:=n1;omega⟩))
   | some p=>
    obtain ⟨Eh,pW,Ei⟩:=p
    dsimp only
    have z3:=cm.size_eq
    refine wpS_bind (wpS_mono (wpS_forRange (I:=fun y c ak=>∃(aE:Array Keyed) (aV:Array (Nat×Nat×Nat)) (g4:Nat),ak=aG κ aE aV g4∧c=(none,())∧Rl bu aE 0 lo∧bz key aE aV.toList 0 lo)
     (Q:=fun c ak=>∃(aE:Array Keyed) (aV:Array (Nat×Nat×Nat)) (g4:Nat),ak=aG κ aE aV g4∧c=(none,())∧Rl bu aE 0 lo∧bz key aE aV.toList 0 lo) ?_ (fun c ak hh=>hh) ⟨bu,ck,g2,rfl,rfl,Rl.refl ..,d5⟩) ?_)
    ·rintro y c ak _ hy ⟨aE,aV,g4,rfl,rfl,a9,cZ⟩
     have z4:=a9.size
     refine wpS_bind (wpS_get ?_)
     have hx:∀o,o=(if (pendingOf (aG κ aE aV g4)).size>1 then (pendingOf (aG κ aE aV g4))[(pendingOf (aG κ aE aV g4)).size-2]? else none)→o.isSome=true→aV.size>1:=fun o ho hs=>by
      by_cases z:aV.size>1
      ·exact z
      ·rw [if_neg z] at ho
       rw [ho] at hs
       cases hs
     generalize eo:(if (pendingOf (aG κ aE aV g4)).size>1 then (pendingOf (aG κ aE aV g4))[(pendingOf (aG κ aE aV g4)).size-2]? else none)=o
     cases o with
     | none=>exact wpS_pure ⟨aE,aV,g4,rfl,rfl,a9,cZ⟩
     | some p=>
      have gt:=hx _ eo.symm rfl
      obtain ⟨q1,q2,Ej⟩:=p
      dsimp only
      refine cy (fun _=>wpS_pure ⟨aE,aV,g4,rfl,rfl,a9,cZ⟩) (fun _=>?_)
      refine wpS_bind (tM h (ku ok (a9.pm.trans cm)) cZ (by omega) (show aV.size-2+1<aV.size by omega) fun tQ tR g5 tS tT _=>?_)
      rw [if_neg (by simp)]
      exact wpS_pure ⟨tQ,tR,g5,rfl,rfl,a9.trans tS,tT⟩
    ·rintro c ak ⟨aE,aV,g4,rfl,rfl,a9,cZ⟩
     dsimp only
     refine wpS_bind (wpS_modify (wpS_bind (wpS_modify (wpS_pure ⟨aE,_,g4,lo+n,rfl,rfl,a9.pm.trans cm,?_,f2,by have:=n1;omega⟩))))
     rw [Array.toList_push]
     refine bz.snoc ?_ n1 (bE.aY sg a9 (.inr (Nat.le_refl _)))
     rw [Array.toList_modify]
     exact cZ.last
 ·rintro c ak ⟨av,ck,g2,lo,rfl,rfl,ic,i9,l1,l2⟩
  obtain rfl:lo=arr.size:=by omega
  exact ⟨av,ck,g2,rfl,rfl,ic,i9⟩
 ·rintro c ak ⟨av,ck,g2,rfl,rfl,ic,i9⟩
  dsimp only
  have pz:=i9.le
  refine wpS_bind (wpS_mono (wpS_forRange (I:=fun x c ak=>∃(bu:Array Keyed) (cn:Array (Nat×Nat×Nat)) (g3:Nat),ak=aG κ bu cn g3∧c=(none,())∧bu.Perm arr∧bz key bu cn.toList 0 arr.size∧cn.size+x≤arr.size)
   (Q:=fun c ak=>∃(bu:Array Keyed) (cn:Array (Nat×Nat×Nat)) (g3:Nat),ak=aG κ bu cn g3∧c=(none,())∧bu.Perm arr∧bz key bu cn.toList 0 arr.size∧cn.size≤1) ?_ ?_ ⟨av,ck,g2,rfl,rfl,ic,i9,show ck.size+0≤arr.size by simpa using pz⟩) ?_)
  ·rintro x c ak _ hx ⟨bu,cn,g3,rfl,rfl,cm,d5,l3⟩
   have z3:=cm.size_eq
   refine wpS_bind (wpS_get ?_)
   by_cases z:(pendingOf (aG κ bu cn g3)).size≤1
   ·rw [if_pos z]
    exact wpS_pure ⟨bu,cn,g3,rfl,rfl,cm,d5,z⟩
   ·rw [if_neg z]
    have z':1<cn.size:=Nat.lt_of_not_le z
    have go:∀i,i+1<cn.size→wpS (model prog w) A E s (mergeAt' i) (fun b ak=>b=true∧∃(aE:Array Keyed) (aV:Array (Nat×Nat×Nat)) (g4:Nat),ak=aG κ aE aV g4∧aE.Perm arr∧bz key aE aV.toList 0 arr.size∧aV.size+(x+1)≤arr.size) (aG κ bu cn g3):=fun i hi=>by
     refine tM h (ku ok cm) d5 (by omega) hi fun aE aV g4 a9 cZ sz=>⟨rfl,aE,aV,g4,rfl,a9.pm.trans cm,cZ,by omega⟩
    refine wpS_bind (wpS_mono (go _ ?_) ?_)
    ·show (if _ then _ else _)+1<cn.size
     have e:(pendingOf (aG κ bu cn g3)).size=cn.size:=rfl
     rw [e]
     have:∀c:Bool,(if c=true then cn.size-2-1 else cn.size-2)+1<cn.size:=fun c=>by cases c <;> simp <;> omega
     exact this _
    ·rintro b ak ⟨rfl,aE,aV,g4,rfl,tO,cZ,l4⟩
     rw [if_neg (by simp)]
     exact wpS_pure ⟨aE,aV,g4,rfl,rfl,tO,cZ,l4⟩
  ·rintro c ak ⟨bu,cn,g3,rfl,rfl,cm,d5,l3⟩
   exact ⟨bu,cn,g3,rfl,rfl,cm,d5,by omega⟩
  ·rintro c ak ⟨bu,cn,g3,rfl,rfl,cm,d5,l3⟩
   exact wpS_pure (k bu _ cm (d5.one (by simpa using l3)) rfl rfl)
end
end Tm
namespace My
open PySem PySem.W PyProof.Rows Tm
section
variable {prog:Program} {w:World} {A:Around} {E:Value→Shared→Prop} {s:Shared}
def cF(h:Heap)(v:Value)(x y:Int):Prop:=∃a o t u e,v=.ref a∧h.get? a=some o∧o.cls=.type "tuple"∧o.data=.seq #[.int x t,.int y u] e
theorem Ek{v v':Value}{x y x' y':Int}(h1:cF s.heap v x y)(h2:cF s.heap v' x' y'){Q:Bool→Shared→Prop}(h:Q (decide (x<x'∨x=x'∧y<y')) s):wpAny (model prog w) A (keyLt' (tuples' true) v v') Q E s:=by
 obtain ⟨a,o,t,u,e,rfl,g,_,d⟩:=h1
 obtain ⟨a',o',t',u',e',rfl,g',_,d'⟩:=h2
 refine kat_lt g d g' d' ?_
 show KatLex prog w A true (decide (2<2)) Q [(.int x t,.int x' t'),(.int y u,.int y' u')] 0 s
 refine kat_cons (wpAny_eqBool_int ?_)
 by_cases z:x=x'
 ·subst z
  rw [show (x == x)=true by simp]
  refine kat_yes (kat_cons (wpAny_eqBool_int ?_))
  by_cases z2:y=y'
  ·subst z2
   rw [show (y == y)=true by simp]
   refine kat_yes (kat_nil ?_)
   rw [decide_eq_false (by omega)] at h
   exact h
  ·rw [show (y == y')=false by simp [z2]]
   refine kat_no ?_
   show wpAny (model prog w) A (oneLt' false (.int y u) (.int y' u')) Q _ s
   refine kat_one _ _ (lt_int ?_)
   show Q (decide (y<y')) s
   rw [show decide (y<y')=decide (x<x∨x=x∧y<y') from decide_eq_decide.mpr (by omega)]
   exact h
 ·rw [show (x == x')=false by simp [z]]
  refine kat_no ?_
  show wpAny (model prog w) A (oneLt' true (.int x t) (.int x' t')) Q _ s
  refine oneLt_int ?_
  rw [show decide (x<x')=decide (x<x'∨x=x'∧y<y') from decide_eq_decide.mpr (by omega)]
  exact h
theorem xZ{h:Heap}:∀{vs:List Value},(∀v∈vs,∃x y,cF h v x y)→∃fs:List Value,KatTups h vs fs∧fs.length=vs.length∧∀f∈fs,∃n t,f=.int n t
 | [],_=>⟨[],.nil,rfl,fun f hf=>by cases hf⟩
 | v::vs,hv=>by
  obtain ⟨fs,k,l,i⟩:=xZ (vs:=vs) fun v h=>hv v (List.mem_cons_of_mem _ h)
  obtain ⟨x,y,a,o,t,u,e,rfl,g,c,d⟩:=hv v List.mem_cons_self
  refine ⟨.int x t::fs,.cons g c d rfl k,by rw [List.length_cons,List.length_cons,l],fun f hf=>?_⟩
  rcases List.mem_cons.mp hf with rfl | hf
  ·exact ⟨x,t,rfl⟩
  ·exact i f hf
theorem perm_back{α β:Type}{f:α→β}{l m:List β}(h:l.Perm m):∀q:List α,m=q.map f→∃p:List α,p.Perm q∧l=p.map f:=by
 induction h with
 | nil=>
  intro q e
  exact ⟨q,List.Perm.refl _,e⟩
 | cons x _ ih=>
  intro q e
  match q,e with
  | a::q,e=>
   obtain ⟨rfl,e'⟩:=List.cons.inj e
   obtain ⟨p,hp,rfl⟩:=ih q e'
   exact ⟨a::p,hp.cons a,rfl⟩
 | swap x y _=>
  intro q e
  match q,e with
  | a::b::q,e=>
   obtain ⟨rfl,e'⟩:=List.cons.inj e
   obtain ⟨rfl,rfl⟩:=List.cons.inj e'
   exact ⟨b::a::q,List.Perm.swap ..,rfl⟩
 | trans _ _ El Em=>
  intro q e
  obtain ⟨p,hp,e1⟩:=Em q e
  obtain ⟨p',En,e2⟩:=El p e1
  exact ⟨p',En.trans hp,e2⟩
theorem cF.uniq{h:Heap}{v:Value}{x y x' y':Int}(h1:cF h v x y)(h2:cF h v x' y'):x=x'∧y=y':=by
 obtain ⟨a,o,t,u,e,rfl,g,_,d⟩:=h1
 obtain ⟨a',o',t',u',e',ev,g',_,d'⟩:=h2
 cases ev
 rw [g] at g'
 cases g'
 rw [d] at d'
 simp at d'
 exact ⟨d'.1.1.1,d'.1.2.1⟩
open Classical in
noncomputable def tU (h:Heap) (k:Keyed):Int:=if e:∃z:Int×Int,cF h k.1 z.1 z.2 then (choose e).1*1000+(choose e).2 else 0
theorem pX{h:Heap}{v u:Value}{x y:Int}(p:cF h v x y):tU h (v,u)=x*1000+y:=by
 have e:∃z:Int×Int,cF h (v,u).1 z.1 z.2:=⟨(x,y),p⟩
 unfold tU
 rw [dif_pos e]
 obtain ⟨a,b⟩:=(Classical.choose_spec e).uniq p
 rw [a,b]
theorem Eo{vs:List Value}{x y:Nat→Int}(h2:2≤vs.length)(hv:∀i v,vs[i]?=some v→cF s.heap v (x i) (y i)∧0≤y i∧y i<1000){Q:SortSt→Shared→Prop}
  (hQ:∀(p:Array Nat) (st:SortSt),fT vs.length p→hZ (fun i=>x i*1000+y i) p vs.length→(arrOf st).map (·.2)=List.toArray (p.toList.map fun i=>vs.getD i Value.none)→failedOf st=none→Q st s) :
  wpAny (model prog w) A (sortRuns'.run (SortSt.mk' (tuples' true) (vs.toArray.zip vs.toArray) #[] 7 none)) (fun r s'=>Q r.2 s') E s:=by
 have az:(vs.toArray.zip vs.toArray).size=vs.length:=by simp
 have ag:∀i,i<vs.length→(vs.toArray.zip vs.toArray).getD i nn=(vs.getD i Value.none,vs.getD i Value.none):=fun i hi=>by
  simp [Array.getD,hi]
 have ga:∀i (hi:i<vs.length),cF s.heap (vs.getD i Value.none) (x i) (y i)∧0≤y i∧y i<1000:=fun i hi=>by
  refine hv i _ ?_
  simp [hi]
 have lt:eV prog w A s (tuples' true) (tU s.heap) (fun k=>∃a b,cF s.heap k.1 a b∧0≤b∧b<1000):=by
  rintro ⟨u,u'⟩ ⟨v,v'⟩ ⟨a,b,p1,b0,b1⟩ ⟨c,d,p2,d0,d1⟩ C hC
  refine Ek p1 p2 ?_
  rw [pX p1,pX p2] at hC
  rw [show decide (a<c∨a=c∧b<d)=decide (a*1000+b<c*1000+d) from decide_eq_decide.mpr (by omega)]
  exact hC
 have ok:cL (fun k=>∃a b,cF s.heap k.1 a b∧0≤b∧b<1000) (vs.toArray.zip vs.toArray):=fun i hi=>by
  rw [az] at hi
  rw [ag i hi]
  exact ⟨_,_,ga i hi⟩
 refine wpAny_mono (Eg (E:=E) (Q:=fun _ st=>Q st s) (g:=7) lt ok fun aB st pm sg ha hf=>?_) (fun r s' h'=>by obtain ⟨rfl,h'⟩:=h';exact h') fun _ _ e=>e
 have el:(vs.toArray.zip vs.toArray).toList=(List.range vs.length).map fun i=>(vs.getD i Value.none,vs.getD i Value.none):=by
  refine List.ext_getElem (by simp) fun i h1 h2=>?_
  have hi:i<vs.length:=by simpa using h2
  simp [hi]
 obtain ⟨p,hp,ep⟩:=perm_back (Array.perm_iff_toList_perm.mp pm) _ el
 have pl:p.length=vs.length:=by rw [hp.length_eq,List.length_range]
 have Ep:∀i∈p,i<vs.length:=fun i hi=>List.mem_range.mp (hp.mem_iff.mp hi)
 have hsz:aB.size=vs.length:=by rw [pm.size_eq,az]
 have gd:∀i,i<vs.length→aB.getD i nn=(vs.getD (p.toArray.getD i 0) Value.none,vs.getD (p.toArray.getD i 0) Value.none)∧p.toArray.getD i 0<vs.length:=fun i hi=>by
  have e1:aB.getD i nn=aB.toList[i]'(by simp;omega):=by simp [Array.getD,show i<aB.size by omega]
  have e2:p.toArray.getD i 0=p[i]'(by omega):=by simp [Array.getD,show i<p.length by omega]
  rw [e1,e2]
  refine ⟨?_,Ep _ (List.getElem_mem _)⟩
  simp [ep]
 refine hQ p.toArray st (Array.perm_iff_toList_perm.mpr (by simpa using hp)) (fun i j h1 h3=>?_) ?_ hf
 ·have:=sg i j (Nat.zero_le _) h1 (by rw [az];exact h3)
  unfold vA at this
  obtain ⟨e1,l1⟩:=gd i (by omega)
  obtain ⟨e2,l2⟩:=gd j h3
  rw [e1,e2,pX (ga _ l1).1,pX (ga _ l2).1] at this
  exact this
 ·rw [ha]
  apply Array.toList_inj.mp
  rw [Array.toList_map,ep,List.map_map]
  rfl
theorem Er{vs:List Value}{Q:SortKind→Shared→Prop}(h1:1≤vs.length)(hv:∀v∈vs,∃x y,cF s.heap v x y)(h:Q (tuples' true) s):wpAny (model prog w) A (keyKind' vs.toArray) Q E s:=by
 obtain ⟨fs,k,l,i⟩:=xZ hv
 refine kat_kind (T:=Value.type "int") k (by omega) (fun v hv=>?_) rfl h
 obtain ⟨n,t,rfl⟩:=i v hv
 exact .now
theorem cF.mono{h h':Heap}{v:Value}{x y:Int}(k:∀b o,h.get? b=some o→h'.get? b=some o)(p:cF h v x y):cF h' v x y:=by
 obtain ⟨a,o,t,u,e,rfl,g,c,d⟩:=p
 exact ⟨a,o,t,u,e,rfl,k _ _ g,c,d⟩
theorem Es{a:Addr}{vs:List Value}{n:Nat}{x y:Nat→Int}{P:PySem.Fin→Shared→Prop}(ho:s.heap.get? a=some (seqObj "list" vs.toArray n))(pY:vs.length<1000)(hv:∀i v,vs[i]?=some v→cF s.heap v (x i) (y i)∧0≤y i∧y i<1000)
  (h:∀(p:Array Nat),fT vs.length p→hZ (fun i=>x i*1000+y i) p vs.length→P (.done (.ret .none)) {s with heap:=sortedHeap s.heap a vs (List.toArray (p.toList.map fun i=>vs.getD i Value.none))}) :
  wpAny (model prog w) A (Builtin.«list.sort» ⟨[.ref a],[]⟩) P E s:=by
 have sl:vs.length≤sizeLine:=by rw [sizeLine_eq];omega
 have lt:=Heap.lt_size ho
 obtain ⟨e1,g1⟩:∃e,(s.heap.update a (Obj.mapSeq fun _=>#[])).get? a=some (seqObj "list" #[] e):=⟨_,get?_update_seq ho fun _=>#[]⟩
 have z1:(s.heap.update a (Obj.mapSeq fun _=>#[])).objs.size=s.heap.objs.size:=Heap.size_update _ _ _
 have up:∀b u,b<s.heap.objs.size→(s.heap.update a (Obj.mapSeq fun _=>#[])).get? b=some u→(((s.heap.update a (Obj.mapSeq fun _=>#[])).push (seqObj "tuple" vs.toArray 0)).push (seqObj "list" #[] 0)).get? b=some u:=fun b u hb hu=>by
  rw [Heap.get?_push_ne _ _ _ (Nat.ne_of_lt (by rw [size_push',z1];exact Nat.lt_succ_of_lt hb)),Heap.get?_push_ne _ _ _ (Nat.ne_of_lt (by rw [z1];exact hb))]
  exact hu
 have g3:=up a _ lt g1
 have x4:∀i v,vs[i]?=some v→cF (((s.heap.update a (Obj.mapSeq fun _=>#[])).push (seqObj "tuple" vs.toArray 0)).push (seqObj "list" #[] 0)) v (x i) (y i)∧0≤y i∧y i<1000:=fun i v hi=>by
  obtain ⟨⟨b,o,t,u,e,rfl,g,cc,d⟩,y0⟩:=hv i v hi
  have nb:b≠a:=fun q=>by
   rw [q,ho] at g
   cases g
   exact absurd (Value.type.inj cc) (by decide)
  refine ⟨⟨b,o,t,u,e,rfl,up b o (Heap.lt_size g) ?_,cc,d⟩,y0⟩
  rw [Heap.get?_update_ne _ _ _ _ nb]
  exact g
 rw [list_sort_plain]
 refine wpAny_bind (listItems_at ho rfl (wpAny_bind (listUpdate_at ho rfl ?_ (by rw [List.size_toArray];omega) (Nat.zero_le _))))
 refine wpAny_bind (seqEpoch_at g1 rfl (wpAny_bind (wpAny_newTuple ?_ (by show vs.length≤_;omega))))
 refine wpAny_bind (wpAny_newList (wpAny_holding ?_) (Nat.zero_le _))
 show wpAny (model prog w) A _ P E {s with heap:=((s.heap.update a (Obj.mapSeq fun _=>#[])).push (seqObj "tuple" vs.toArray 0)).push (seqObj "list" #[] 0)}
 dsimp only
 have fin:∀(st:SortSt) (p:Array Nat),fT vs.length p→hZ (fun i=>x i*1000+y i) p vs.length→(arrOf st).map (·.2)=List.toArray (p.toList.map fun i=>vs.getD i Value.none)→failedOf st=none→
   wpAny (model prog w) A (do
    let touched:=(←seqEpoch a) != e1
    Builtin.List.listUpdate (.ref a) fun _=>(arrOf st).map (·.2)
    if let some e:=failedOf st then rule "list.sort.comparison-raised";throw e
    if touched then rule "list.sort.modified";raiseError "ValueError" "list modified during sort"
    ret .none) P E {s with heap:=((s.heap.update a (Obj.mapSeq fun _=>#[])).push (seqObj "tuple" vs.toArray 0)).push (seqObj "list" #[] 0)}:=fun st p hp hu ha hf=>by
  refine wpAny_bind (seqEpoch_at g3 rfl (wpAny_bind (listUpdate_at g3 rfl ?_ (Nat.zero_le _) ?_)))
  ·rw [hf,ha]
   simp only [bne_self_eq_false,Bool.false_eq_true,if_false]
   exact wpAny_pure (h p hp hu)
  ·rw [ha,List.size_toArray,List.length_map,Array.length_toList,hp.size]
   omega
 by_cases z:vs.toArray.size<2
 ·rw [if_pos z,if_pos z]
  refine wpAny_bind (wpAny_pure ?_)
  rw [StateT.run_pure]
  refine wpAny_bind (wpAny_pure ?_)
  have len:vs.length<2:=by simpa using z
  refine fin _ (List.toArray (List.range vs.length)) (Array.Perm.refl _) (fun a b h1 h2=>by
   obtain rfl:a=b:=by omega
   exact Int.le_refl _) ?_ rfl
  match vs,len with
  | [],_=>
   show Array.map (·.2) ((#[]:Array Value).zip #[])=_
   simp
  | [v],_=>
   show Array.map (·.2) (#[v].zip #[v])=_
   simp
 ·rw [if_neg z,if_neg z]
  have len:2≤vs.length:=by simpa using z
  refine wpAny_bind (Er (by omega) (fun v hm=>?_) ?_)
  ·obtain ⟨i,hi,rfl⟩:=List.getElem_of_mem hm
   exact ⟨_,_,(x4 i _ (by simp [hi])).1⟩
  ·refine wpAny_bind (wpAny_mono (Eo (Q:=fun st s'=>s'={s with heap:=((s.heap.update a (Obj.mapSeq fun _=>#[])).push (seqObj "tuple" vs.toArray 0)).push (seqObj "list" #[] 0)}∧∃p,fT vs.length p∧hZ (fun i=>x i*1000+y i) p vs.length∧(arrOf st).map (·.2)=List.toArray (p.toList.map fun i=>vs.getD i Value.none)∧failedOf st=none) len x4 fun p st a1 a2 a3 a4=>⟨rfl,p,a1,a2,a3,a4⟩) ?_ fun _ _ e=>e)
   rintro ⟨⟨⟩,st⟩ s' ⟨rfl,p,a1,a2,a3,a4⟩
   exact fin st p a1 a2 a3 a4
end
open PySem PySem.W PyProof.Rows
section
variable {prog:Program} {w:World} {A:Around} {E:Value→Shared→Prop} {s:Shared}
theorem Et{l:Addr}{vs:List Value}{x y:Nat→Int}{Q:Value→Shared→Prop}(hl:s.heap.IsList l vs.toArray)(pY:vs.length<1000)(hv:∀i v,vs[i]?=some v→cF s.heap v (x i) (y i)∧0≤y i∧y i<1000)
  (h:∀(p:Array Nat) (h':Heap) (c:Nat),fT vs.length p→hZ (fun i=>x i*1000+y i) p vs.length→(∀b o,s.heap.get? b=some o→h'.get? b=some o)→h'.get? (s.heap.objs.size+1)=some (seqObj "list" (List.toArray (p.toList.map fun i=>vs.getD i Value.none)) c)→Q (.ref (s.heap.objs.size+1)) {s with heap:=h'}) :
  wpAny (model prog w) A (call (.builtin "sorted") [.ref l]) Q E s:=by
 have sl:vs.length≤sizeLine:=by rw [sizeLine_eq];omega
 refine Calls.call_function_entry kind_sorted plain_sorted entry_sorted (args_sorted1 _) ?_
 unfold Builtin.«sorted»
 refine wpAny_bind (m:=checkCount "sorted" 1 1 _) (wpAny_pure (wpAny_bind (collect_list hl (wpAny_bind (wpAny_newList ?_ sl)) sl)))
 have zz:((s.heap.push (seqObj "list" #[] 0)).update s.heap.objs.size (Obj.mapSeq (·++vs.toArray))).objs.size=s.heap.objs.size+1:=by rw [Heap.size_update,size_push']
 have kp:∀b o,s.heap.get? b=some o→(((s.heap.push (seqObj "list" #[] 0)).update s.heap.objs.size (Obj.mapSeq (·++vs.toArray))).push (seqObj "list" vs.toArray 0)).get? b=some o:=fun b o g=>by
  have lt:=Heap.lt_size g
  rw [Heap.get?_push_ne _ _ _ (Nat.ne_of_lt (by rw [zz];exact Nat.lt_succ_of_lt lt)),Heap.get?_update_ne _ _ _ _ (Nat.ne_of_lt lt),Heap.get?_push_ne _ _ _ (Nat.ne_of_lt lt)]
  exact g
 have gL:(((s.heap.push (seqObj "list" #[] 0)).update s.heap.objs.size (Obj.mapSeq (·++vs.toArray))).push (seqObj "list" vs.toArray 0)).get? (s.heap.objs.size+1)=some (seqObj "list" vs.toArray 0):=by
  rw [←zz]
  exact Heap.get?_push_size _ rfl
 show wpAny _ _ _ _ _ {s with heap:=((s.heap.push (seqObj "list" #[] 0)).update s.heap.objs.size (Obj.mapSeq (·++vs.toArray))).push (seqObj "list" vs.toArray 0)}
 rw [zz]
 generalize ((s.heap.push (seqObj "list" #[] 0)).update s.heap.objs.size (Obj.mapSeq (·++vs.toArray))).push (seqObj "list" vs.toArray 0)=h1 at kp gL
 refine wpAny_bind (wpAny_holding (wpAny_call_entry slot_list_sort ⟨_,gL,rfl⟩ entry_list_sort (Es (s:={s with heap:=h1}) gL pY (fun i v hi=>⟨(hv i v hi).1.mono kp,(hv i v hi).2⟩) fun p hp hu=>⟨_,rfl,?_⟩) (args_list_sort _)))
 have Eu:=Heap.lt_size gL
 have z1:(h1.update (s.heap.objs.size+1) (Obj.mapSeq fun _=>#[])).objs.size=h1.objs.size:=Heap.size_update _ _ _
 obtain ⟨e1,g1⟩:∃e,(h1.update (s.heap.objs.size+1) (Obj.mapSeq fun _=>#[])).get? (s.heap.objs.size+1)=some (seqObj "list" #[] e):=⟨_,get?_update_seq gL fun _=>#[]⟩
 have up:∀b u,b<h1.objs.size→(h1.update (s.heap.objs.size+1) (Obj.mapSeq fun _=>#[])).get? b=some u→(((h1.update (s.heap.objs.size+1) (Obj.mapSeq fun _=>#[])).push (seqObj "tuple" vs.toArray 0)).push (seqObj "list" #[] 0)).get? b=some u:=fun b u hb hu=>by
  rw [Heap.get?_push_ne _ _ _ (Nat.ne_of_lt (by rw [size_push',z1];exact Nat.lt_succ_of_lt hb)),Heap.get?_push_ne _ _ _ (Nat.ne_of_lt (by rw [z1];exact hb))]
  exact hu
 have g3:=up _ _ Eu g1
 refine wpAny_pure ⟨_,rfl,h p _ _ hp hu (fun b o g=>?_) (get?_update_seq g3 fun _=>List.toArray (p.toList.map fun i=>vs.getD i Value.none))⟩
 have g':=kp b o g
 have ne:b≠s.heap.objs.size+1:=Nat.ne_of_lt (Nat.lt_succ_of_lt (Heap.lt_size g))
 show (Heap.update _ _ _).get? b=some o
 rw [Heap.get?_update_ne _ _ _ _ ne]
 refine up b o (Heap.lt_size g') ?_
 rw [Heap.get?_update_ne _ _ _ _ ne]
 exact g'
end
end My
namespace L2
open PySem PySem.W PyProof.Rows My
def x5:List V→Hp→VK→Prop:=fun xs H Q=>∃(a:Addr) (vs:List V) (x y:Nat→Int),xs=[.ref a]∧H a=some (.lst vs)∧vs.length<1000∧(∀(i:Nat) (v:V),vs[i]?=some v→(∃b,v=.ref b∧H b=some (.tup [.int (x i),.int (y i)]))∧0≤y i∧y i<1000) ∧
 ∀(p:Array Nat) (l:Addr),fT vs.length p→hZ (fun i=>x i*1000+y i) p vs.length→H l=none→Q (.ref l) (upd H l (.lst (p.toList.map fun i=>vs.getD i .aF)))
theorem x6{xs:List V}{us:List Value}(r:Vals xs us):∀(ns:List Nat),(∀i∈ns,i<xs.length)→Vals (ns.map fun i=>xs.getD i .aF) (ns.map fun i=>us.getD i Value.none)
 | [],_=>.nil
 | i::ns,h=>by
  have hi:=h i List.mem_cons_self
  obtain ⟨u,e,ru⟩:=r.get (i:=i) (x:=xs[i]) (by simp [hi])
  refine .cons ?_ (x6 r ns fun j hj=>h j (List.mem_cons_of_mem _ hj))
  dsimp only
  rw [show xs.getD i .aF=xs[i] by simp [hi],show us.getD i Value.none=u by rw [List.getD_eq_getElem?_getD,e];rfl]
  exact ru
theorem tV{X:Cx}:dg X (.builtin "sorted") x5:=by
 intro pins s σ H xs us Q I r h
 obtain ⟨a,vs,x,y,rfl,ha,pY,hv,k⟩:=h
 obtain ⟨u,rfl,ru⟩:=vals1 r
 cases ru
 obtain ⟨ai,rv,pl,hz⟩:=I.list (.of ha)
 have hl:=rv.length
 refine Et (x:=x) (y:=y) pl.isList (by omega) (fun i v hi=>?_) fun p h' c hp hu kp g=>?_
 ·have aS:i<vs.length:=by
   have:=(List.getElem?_eq_some_iff.mp hi).1
   omega
  have gi:vs[i]?=some vs[i]:=by simp [aS]
  obtain ⟨⟨b,eb,hb⟩,Ew⟩:=hv i _ gi
  obtain ⟨u,eu,ru⟩:=rv.get gi
  rw [hi] at eu
  cases eu
  rw [eb] at ru
  cases ru
  obtain ⟨_,hV,r2,o,g,cl,e,d⟩:=(show a_ X.prog X.w H s.heap b (.tup [.int (x i),.int (y i)]) from I.ar b _ hb)
  obtain ⟨u1,u2,rfl,q1,q2⟩:=vals2 r2
  obtain ⟨t1,rfl⟩:=q1
  obtain ⟨t2,rfl⟩:=q2
  exact ⟨⟨b,o,t1,t2,e,rfl,g,cl,d⟩,Ew⟩
 ·rw [←hl] at hp hu
  have sz:=hp.size
  refine ⟨.ref (s.heap.objs.size+1),_,I.laid (t':=s.toks) (o:=.lst (p.toList.map fun i=>vs.getD i .aF)) kp (Nat.le_succ _) ⟨?_,p.toList.map fun i=>ai.getD i Value.none,c,?_,g⟩,rfl,k p _ hp hu (I.ar.fresh (Nat.le_succ _))⟩
  ·rw [List.length_map,Array.length_toList,sz]
   exact hz
  ·refine x6 rv _ fun i hi=>?_
   have m:i∈List.toArray (List.range vs.length):=(Array.Perm.mem_iff hp).mp (Array.mem_toList_iff.mp hi)
   simpa using m
end L2
namespace My
open PySem L2
def Ex(K:PySem.W.Frag):R2:=fun x y H Q=>∃a b xs,x=.ref a∧y=.ref b∧aX K H a xs∧H b=some (.lst [])∧Q (.bl (!xs.isEmpty)) H
theorem x8{X:Cx}(hu:X.A.units+64<cLine):b3 X (compareOp .NotEq) (Ex X.K):=by
 intro pins s σ H x y v u Q I rx ry h
 obtain ⟨a,b,xs,rfl,rfl,h1,h2,q⟩:=h
 cases rx
 cases ry
 obtain ⟨us,r1,t1,_⟩:=I.list h1
 obtain ⟨vs,r2,t2,_⟩:=I.list (aX.of h2)
 have l1:=r1.length
 have l2:=r2.length
 cases xs with
 | nil=>
  refine SeqAt.RcNeAt.lists (e:=fun _=>true) t1.isList t2.isList (by simp at l1 l2 ⊢;omega) (by omega) (fun j z1 z2=>?_) _ _ _ _ ?_
  ·simp at l1
   have:us=[]:=List.length_eq_zero_iff.mp l1.symm
   subst this
   simp at z1
  ·rw [all_range]
   exact ⟨.bl false,H,I,rfl,q⟩
 | cons w ws=>
  refine SeqAt.RcNeAt.lists_lengths t1.isList t2.isList ?_ (by omega) _ _ _ _ ⟨.bl true,H,I,rfl,q⟩
  simp at l1 l2 ⊢
  omega
theorem nk{c:TT}{t u:TS}{D:Ends}{σ:St}{H:Hp}(M:St→Hp→Prop)(hM:∀σ H,M σ H→D.nx σ H)(k:∀R:St→Hp→Prop,(∀σ H,M σ H→R σ H)→rJ c t u {D with nx:=R} σ H):rJ c t u D σ H:=k D.nx hM
theorem Ey{wi:TI}{ρ:St→St}{te:TE}{σ:St}{H:Hp}{Q:VK}{P a:Addr}{n:Nat}(hn:n<sizeLine)
  (eB:∀R:It→Hp→Prop,(∀(H1:Hp),aw P H H1→aZ H1 P a→R (gu 0 n) H1)→wi σ H R)
  (Pr:Addr→Nat→V→Hp→Prop) (mono:∀D i y Hc H' ys,Pr D i y Hc→Hc D=some (.lst ys)→D≠P→(∀b o,b≠D→b≠P→Hc b=some o→H' b=some o)→Pr D i y H')
  (step:∀(D:Addr) (i:Nat),i<n→∀(Hc:Hp) (R:VK),aw P H Hc→aZ Hc P a→(∃ys,Hc D=some (.lst ys))→D≠P→(∀y H3,aw P Hc H3→aZ H3 P a→Pr D i y H3→R y H3)→te (some (.int (0+(i:Int)))::ρ σ) Hc R)
  (fin:∀(D:Addr) (ys:List V) (Hc:Hp),D≠P→er P H D=none→aw P H Hc→aZ Hc P a→ys.length=n→(∀(i:Nat) (y:V),ys[i]?=some y→Pr D i y Hc)→Hc D=some (.lst ys)→Q (.ref D) Hc):en wi ρ (fun _ H Q=>Q true H) te σ H Q:=by
 refine eB _ fun H1 s1 p1=>?_
 intro D nD
 have nP:=p1.ne nD
 refine ⟨fun i m ys Hc=>m=n-i∧i≤n∧Hc D=some (.lst ys)∧aw P H1 Hc∧aZ Hc P a∧ys.length=i∧∀j y,ys[j]?=some y→Pr D j y Hc,⟨_,rfl,Nat.zero_le _,aq,(aw.refl H1).but nD,p1.upd nP,rfl,fun j y e=>by simp at e⟩,?_⟩
 rintro i m ys Hc ⟨rfl,hi,eD,sH,pc,el,hP⟩
 refine ⟨eD,?_⟩
 by_cases ba:i<n
 ·refine .inr ⟨ba,fun x H' hy=>?_⟩
  obtain ⟨rfl,rfl⟩:=hy
  rw [if_pos rfl]
  refine step D i (by omega) _ _ (s1.trans sH) pc ⟨ys,eD⟩ nP fun y H3 s3 p3 hp=>?_
  have e3:=s3.at nP eD
  refine ⟨e3,by omega,n-(i+1),by omega,rfl,ba,aq,(sH.trans s3).but nD,p3.upd nP,by simp [el],fun j y' e=>?_⟩
  have aY:∀b o,b≠D→b≠P→H3 b=some o→upd H3 D (.lst (ys++[y])) b=some o:=fun b o nb _ e=>by rw [aC nb];exact e
  by_cases hj:j<i
  ·have e':ys[j]?=some y':=by rw [List.getElem?_append_left (by omega)] at e;exact e
   refine mono D j y' H' _ ys (hP j y' e') eD nP fun b o nb np e=>?_
   exact aY b o nb np (s3.at np e)
  ·have hj:j=i:=by
    have:=(List.getElem?_eq_some_iff.mp e).1
    simp at this
    omega
   subst hj
   have e':y'=y:=by rw [List.getElem?_append_right (by omega),el,Nat.sub_self] at e;simpa using e.symm
   subst e'
   exact mono D _ _ H3 _ ys hp e3 nP aY
 ·have e:i=n:=by omega
  subst e
  exact .inl ⟨Nat.le_refl _,fin D ys Hc nP (none_of s1 (by rw [b4 nP];exact nD)) (s1.trans sH) pc el hP eD⟩
def Ez(K:PySem.W.Frag):Sp:=fun vs H Q _=>∃(P a l:Addr) (ns:List Int) (xs:List V),vs=[.ref P,.ref l]∧aZ H P a∧aX K (er P H) a (ns.map V.int)∧l≠P∧H l=some (.lst xs)∧xs.length≤100 ∧
 ∀(r:Addr) (ys:List V) (H':Hp),aw P H H'→aZ H' P a→er P H r=none→r≠P→H' r=some (.lst ys)→ys.Perm xs→Q (.ref r) H'
def EA(K:PySem.W.Frag):Sp:=fun vs H Q _=>∃(P a:Addr) (ns:List Int) (way size wide i j:Int),vs=[.ref P,.int way,.int size,.int wide,.int i,.int j]∧aZ H P a∧aX K (er P H) a (ns.map V.int) ∧
 ∀(b:Bool) (H':Hp),aw P H H'→aZ H' P a→Q (.bl b) H'
theorem x9{α:Type}:∀(zs:List α) (k:Nat) (h:k<zs.length),(zs[k]::zs.eraseIdx k).Perm zs
 | _::_,0,_=>.refl _
 | z::zs,k+1,h=>(List.Perm.swap _ _ _).trans ((x9 zs k (by simpa using h)).cons z)
def aN(H:Hp)(vs:List V)(L:List (Int×Int)):Prop:=vs.length=L.length∧∀(k:Nat) (v:V) (p:Int×Int),vs[k]?=some v→L[k]?=some p→∃b,v=.ref b∧H b=some (.tup [.int p.1,.int p.2])
theorem aN.nil(H:Hp):aN H [] []:=⟨rfl,fun k v p h=>by simp at h⟩
theorem aN.mono{H H':Hp}{vs:List V}{L:List (Int×Int)}(h:aN H vs L)(s:aj H H'):aN H' vs L:=⟨h.1,fun k v p h1 h2=>by
 obtain ⟨b,e,g⟩:=h.2 k v p h1 h2
 exact ⟨b,e,s _ _ g⟩⟩
theorem aN.aY{H H':Hp}{vs:List V}{L:List (Int×Int)}{r:Addr}{xs:List V}(h:aN H vs L)(e:H r=some (.lst xs))(k:∀b o,b≠r→H b=some o→H' b=some o):aN H' vs L:=⟨h.1,fun i v p h1 h2=>by
 obtain ⟨b,eb,g⟩:=h.2 i v p h1 h2
 refine ⟨b,eb,k b _ (fun z=>?_) g⟩
 rw [z,e] at g
 cases g⟩
theorem aN.push{H:Hp}{vs:List V}{L:List (Int×Int)}{b:Addr}{p:Int×Int}(h:aN H vs L)(e:H b=some (.tup [.int p.1,.int p.2])):aN H (vs++[.ref b]) (L++[p]):=⟨by simp [h.1],fun k v q h1 h2=>by
 have hl:=h.1
 by_cases z:k<vs.length
 ·rw [List.getElem?_append_left z] at h1
  rw [List.getElem?_append_left (by omega)] at h2
  exact h.2 k v q h1 h2
 ·have hk:=(List.getElem?_eq_some_iff.mp h1).1
  rw [List.length_append,List.length_singleton] at hk
  obtain rfl:k=vs.length:=by omega
  rw [List.getElem?_append_right (Nat.le_refl _),Nat.sub_self] at h1
  rw [List.getElem?_append_right (by omega),show vs.length-L.length=0 by omega] at h2
  cases h1
  cases h2
  exact ⟨b,rfl,e⟩⟩
structure dG (n:Nat) (L:List (Int×Int)):Prop where
 nd:L.Nodup
 lt:∀p∈L,0≤p.1∧p.1<p.2∧p.2<n
 bA:L.length≤n*n / 2
def lexLt(p q:Int×Int):Prop:=p.1<q.1∨p.1=q.1∧p.2<q.2
theorem EB{M:List (Int×Int)}{p:Array Nat}(P:fT M.length p)(U:hZ (fun i=>(M.getD i (0,0)).1*1000+(M.getD i (0,0)).2) p M.length)(nd:M.Nodup)(b:∀q∈M,0≤q.2∧q.2<1000) :
  (p.toList.map fun i=>M.getD i (0,0)).Perm M∧(p.toList.map fun i=>M.getD i (0,0)).Pairwise lexLt:=by
 have pm:p.toList.Perm (List.range M.length):=Array.perm_iff_toList_perm.mp P
 have pn:p.toList.Nodup:=pm.nodup_iff.mpr List.nodup_range
 have lt:∀i∈p.toList,i<M.length:=fun i hi=>List.mem_range.mp (pm.mem_iff.mp hi)
 refine ⟨?_,?_⟩
 ·have e:((List.range M.length).map fun i=>M.getD i (0,0))=M:=by
   refine List.ext_getElem (by simp) fun i h1 h2=>?_
   rw [List.getElem_map,List.getElem_range,getD_at h2]
  have:=pm.map fun i=>M.getD i (0,0)
  rw [e] at this
  exact this
 ·rw [List.pairwise_iff_getElem]
  intro i j hi hj tG
  rw [List.length_map] at hi hj
  rw [List.getElem_map,List.getElem_map]
  have sz:=P.size
  have li:p.toList[i]<M.length:=lt _ (List.getElem_mem _)
  have lj:p.toList[j]<M.length:=lt _ (List.getElem_mem _)
  have u:=U i j (by omega) (by rw [←sz,←Array.length_toList];exact hj)
  unfold vN at u
  have gi:p.getD i 0=p.toList[i]:=by
   have:i<p.size:=by rw [←Array.length_toList];exact hi
   simp [Array.getD,this]
  have gj:p.getD j 0=p.toList[j]:=by
   have:j<p.size:=by rw [←Array.length_toList];exact hj
   simp [Array.getD,this]
  rw [gi,gj] at u
  dsimp only at u
  rw [getD_at li,getD_at lj] at u
  rw [getD_at li,getD_at lj]
  have ne:M[p.toList[i]]≠M[p.toList[j]]:=fun e=>by
   have e1:=(List.getElem_inj nd).mp e
   have e2:=(List.getElem_inj pn).mp e1
   omega
  have b1:=b _ (List.getElem_mem li)
  have b2:=b _ (List.getElem_mem lj)
  generalize M[p.toList[i]]=x at u ne b1
  generalize M[p.toList[j]]=y at u ne b2
  obtain ⟨x1,x2⟩:=x
  obtain ⟨y1,y2⟩:=y
  unfold lexLt
  dsimp only at u b1 b2 ⊢
  by_cases z:x1<y1
  ·exact .inl z
  ·right
   have e1:x1=y1:=by omega
   subst e1
   refine ⟨rfl,?_⟩
   by_cases y:x2=y2
   ·subst y
    exact absurd rfl ne
   ·omega
theorem nq{α β:Type}{f:α→β}:∀{L:List α},L.Nodup→(∀p q,p∈L→q∈L→f p=f q→p=q)→(L.map f).Nodup
 | [],_,_=>List.nodup_nil
 | x::L,h,k=>by
  obtain ⟨h1,h2⟩:=List.nodup_cons.mp h
  refine List.nodup_cons.mpr ⟨fun m=>?_,nq h2 fun p q hp hq=>k p q (List.mem_cons_of_mem _ hp) (List.mem_cons_of_mem _ hq)⟩
  obtain ⟨y,hy,e⟩:=List.mem_map.mp m
  have:=k y x (List.mem_cons_of_mem _ hy) List.mem_cons_self e
  rw [this] at hy
  exact h1 hy
def dH(nm:Nat→Int)(p:Int×Int):Int×Int:=(min (nm p.1.toNat) (nm p.2.toNat),max (nm p.1.toNat) (nm p.2.toNat))
structure tW (n:Nat) (nm:Nat→Int):Prop where
 lt:∀i,i<n→0≤nm i∧nm i<n
 inj:∀i j,i<n→j<n→nm i=nm j→i=j
theorem EC{n:Nat}{nm:Nat→Int}{L:List (Int×Int)}(h:dG n L)(N:tW n nm):dG n (L.map (dH nm)) where
 nd:=by
  refine nq h.nd fun p q hp hq e=>?_
  have a:=h.lt p hp
  have b:=h.lt q hq
  obtain ⟨p1,p2⟩:=p
  obtain ⟨q1,q2⟩:=q
  obtain ⟨i,rfl⟩:=Int.eq_ofNat_of_zero_le (show 0≤p1 by dsimp only at a;omega)
  obtain ⟨j,rfl⟩:=Int.eq_ofNat_of_zero_le (show 0≤p2 by dsimp only at a;omega)
  obtain ⟨k,rfl⟩:=Int.eq_ofNat_of_zero_le (show 0≤q1 by dsimp only at b;omega)
  obtain ⟨l,rfl⟩:=Int.eq_ofNat_of_zero_le (show 0≤q2 by dsimp only at b;omega)
  dsimp only at a b
  have e1:=congrArg Prod.fst e
  have e2:=congrArg Prod.snd e
  unfold dH at e1 e2
  simp only [Int.toNat_natCast] at e1 e2
  have ij:nm i≠nm j:=fun z=>by have:=N.inj i j (by omega) (by omega) z;omega
  have kl:nm k≠nm l:=fun z=>by have:=N.inj k l (by omega) (by omega) z;omega
  by_cases z:nm i=nm k
  ·have e3:nm j=nm l:=by omega
   have i1:=N.inj i k (by omega) (by omega) z
   have i2:=N.inj j l (by omega) (by omega) e3
   rw [i1,i2]
  ·have e3:nm i=nm l:=by omega
   have e4:nm j=nm k:=by omega
   have i1:=N.inj i l (by omega) (by omega) e3
   have i2:=N.inj j k (by omega) (by omega) e4
   omega
 lt:=fun p hp=>by
  obtain ⟨q,hq,rfl⟩:=List.mem_map.mp hp
  have a:=h.lt q hq
  have n1:=N.lt q.1.toNat (by omega)
  have n2:=N.lt q.2.toNat (by omega)
  have ne:nm q.1.toNat≠nm q.2.toNat:=fun z=>by have:=N.inj _ _ (by omega) (by omega) z;omega
  unfold dH
  dsimp only
  omega
 bA:=by rw [List.length_map];exact h.bA
theorem dG.perm{n:Nat}{L L':List (Int×Int)}(h:dG n L)(p:L'.Perm L):dG n L':=⟨p.nodup_iff.mpr h.nd,fun q hq=>h.lt q (p.mem_iff.mp hq),by rw [p.length_eq];exact h.bA⟩
def bY(H:Hp)(t:Addr)(n:Nat)(L:List (Int×Int)):Prop:=∃(lt:Addr) (us:List V),H t=some (.tup [.int (n:Int),.ref lt])∧H lt=some (.tup us)∧aN H us L
def ED:Sp:=fun vs H Q _=>∃(l r:Addr) (n:Nat) (us ws:List V) (L:List (Int×Int)) (nm:Nat→Int),vs=[.int (n:Int),.ref l,.ref r]∧H l=some (.lst us)∧aN H us L∧dG n L∧n≤30∧H r=some (.lst ws)∧ws.length=n∧(∀i,i<n→ws[i]?=some (.int (nm i)))∧tW n nm ∧
 ∀(t:Addr) (L':List (Int×Int)) (H':Hp),aj H H'→H t=none→bY H' t n L'→dG n L'→L'.Pairwise lexLt→L'.Perm (L.map (dH nm))→Q (.ref t) H'
theorem aN.pick{H:Hp}{us:List V}{M:List (Int×Int)}(h:aN H us M)(ns:List Nat)(hn:∀i∈ns,i<M.length):aN H (ns.map fun i=>us.getD i .aF) (ns.map fun i=>M.getD i (0,0)):=⟨by simp,fun k v p h1 h2=>by
 have hl:=h.1
 have hk:k<ns.length:=by
  have:=(List.getElem?_eq_some_iff.mp h1).1
  simpa using this
 have hi:=hn ns[k] (List.getElem_mem hk)
 rw [List.getElem?_map,List.getElem?_eq_getElem hk] at h1 h2
 cases h1
 cases h2
 dsimp only
 have aS:ns[k]<us.length:=by omega
 rw [getD_at hi]
 have e:us.getD ns[k] .aF=us[ns[k]]:=by simp [aS]
 rw [e]
 exact h.2 ns[k] _ _ (by simp [aS]) (by simp [hi])⟩
theorem EE{K:PySem.W.Frag}{wi:TI}{ρ:St→St}{tt:TT}{te:TE}{σ:St}{H:Hp}{Q:VK}{P a l:Addr}{xs:List V}(hn:xs.length<sizeLine)(nl:l≠P)(el:H l=some (.lst xs))(pc:aZ H P a)
  (eB:∀R:It→Hp→Prop,R (iL K l) H→wi σ H R)
  (test:∀(i:Nat) (x:V),xs[i]?=some x→∀(Hc:Hp) (R:Bool→Hp→Prop),aw P H Hc→aZ Hc P a→(∀b H3,aw P Hc H3→aZ H3 P a→R b H3)→tt (some x::ρ σ) Hc R)
  (elem:∀(x:V) (Hc:Hp) (R:VK),R x Hc→te (some x::ρ σ) Hc R)
  (fin:∀(D:Addr) (ys:List V) (Hc:Hp),D≠P→er P H D=none→aw P H Hc→aZ Hc P a→ys.Sublist xs→Hc D=some (.lst ys)→Q (.ref D) Hc):en wi ρ tt te σ H Q:=by
 refine eB _ fun D nD=>?_
 have nP:=pc.ne nD
 have lD:l≠D:=fun e=>by rw [e,nD] at el;cases el
 refine ⟨fun i m ys Hc=>m=xs.length-i∧i≤xs.length∧Hc D=some (.lst ys)∧aw P H Hc∧aZ Hc P a∧ys.Sublist (xs.take i),⟨_,rfl,Nat.zero_le _,aq,(aw.refl H).but nD,pc.upd nP,by simp⟩,?_⟩
 rintro i m ys Hc ⟨rfl,hi,eD,sH,x_,sub⟩
 refine ⟨eD,?_⟩
 have i_:=sH.at nl el
 by_cases ba:i<xs.length
 ·refine .inr ⟨⟨xs,xs[i],.of i_,by simp [ba]⟩,fun x H' hy=>?_⟩
  obtain ⟨rfl,hx⟩:=hy
  have ex:=hx xs (.of i_)
  refine test i x ex _ _ sH x_ fun b H3 s3 p3=>?_
  have tk:xs.take (i+1)=xs.take i++[x]:=by rw [List.take_succ,ex];rfl
  have e3:=s3.at nP eD
  cases b with
  | true=>
   rw [if_pos rfl]
   refine elem x H3 _ ⟨e3,?_,xs.length-(i+1),by omega,rfl,ba,aq,(sH.trans s3).but nD,p3.upd nP,?_⟩
   ·have:=sub.length_le
    rw [List.length_take] at this
    omega
   ·rw [tk]
    exact sub.append (List.Sublist.refl _)
  | false=>
   rw [if_neg (by simp)]
   refine ⟨xs.length-(i+1),by omega,rfl,ba,e3,sH.trans s3,p3,?_⟩
   rw [tk]
   exact sub.trans (List.sublist_append_left _ _)
 ·have e:i=xs.length:=by omega
  subst e
  rw [List.take_length] at sub
  exact .inl ⟨⟨xs,.of i_,by omega⟩,fin D ys Hc nP (by rw [b4 nP];exact nD) sH x_ sub eD⟩
def cQ(k:Nat)(d:List Nat):Prop:=d.Pairwise (fun a b=>b<a)∧∀x∈d,x<k
theorem cQ.len:∀{d:List Nat} {k:Nat},cQ k d→d.length≤k
 | [],_,_=>Nat.zero_le _
 | x::d,k,h=>by
  obtain ⟨h1,h2⟩:=List.pairwise_cons.mp h.1
  have:=cQ.len (k:=x) ⟨h2,fun y hy=>h1 y hy⟩
  have:=h.2 x List.mem_cons_self
  rw [List.length_cons]
  omega
theorem cQ.nil(k:Nat):cQ k []:=⟨List.Pairwise.nil,fun x hx=>by cases hx⟩
theorem cQ.sub{k:Nat}{d e:List Nat}(h:cQ k d)(s:e.Sublist d):cQ k e:=⟨h.1.sublist s,fun x hx=>h.2 x (s.subset hx)⟩
theorem cQ.put{j k:Nat}{d:List Nat}(h:cQ k d)(hk:k<j):cQ j (k::d):=⟨List.pairwise_cons.mpr ⟨h.2,h.1⟩,fun x hx=>by
 rcases List.mem_cons.mp hx with rfl | hx
 ·exact hk
 ·have:=h.2 x hx
  omega⟩
theorem cQ.nd{k:Nat}{d:List Nat}(h:cQ k d):d.Nodup:=h.1.imp fun h=>by omega
def cG(d:List Nat):List V:=d.map fun(x:Nat)=>V.int (x:Int)
theorem tX:∀{d:List Nat} {ys:List V},ys.Sublist (cG d)→∃e:List Nat,e.Sublist d∧ys=cG e
 | [],ys,h=>⟨[],List.Sublist.refl _,by
  have h:ys.Sublist []:=h
  rw [List.sublist_nil.mp h]
  rfl⟩
 | x::d,ys,h=>by
  have h:ys.Sublist (V.int (x:Int)::cG d):=h
  cases h with
  | cons _ h=>
   obtain ⟨e,h1,h2⟩:=tX h
   exact ⟨e,h1.cons _,h2⟩
  | cons_cons _ h=>
   obtain ⟨e,h1,h2⟩:=tX h
   exact ⟨x::e,.cons_cons _ h1,by rw [h2];rfl⟩
structure gM (j:Nat) (L:List (Int×Int)):Prop where
 nd:L.Nodup
 lt:∀p∈L,0≤p.1∧p.1<p.2∧p.2<j
 bA:2*L.length≤j*(j-1)
theorem gM.nil:gM 1 []:=⟨List.nodup_nil,(fun p hp=>by cases hp),by simp⟩
theorem gM.ok{n:Nat}{L:List (Int×Int)}(h:gM n L):dG n L:=⟨h.nd,h.lt,by
 have:=h.bA
 have:n*(n-1)≤n*n:=Nat.mul_le_mul_left _ (by omega)
 omega⟩
theorem gM.more{j:Nat}{L:List (Int×Int)}{d:List Nat}(h:gM j L)(hd:cQ j d):gM (j+1) (L++d.map fun(x:Nat)=>((x:Int),(j:Int))) where
 nd:=by
  refine List.nodup_append.mpr ⟨h.nd,nq hd.nd fun p q _ _ e=>by
   have:=congrArg Prod.fst e
   dsimp only at this
   omega,fun p hp q hq e=>?_⟩
  obtain ⟨x,_,rfl⟩:=List.mem_map.mp hq
  have:=h.lt p hp
  rw [e] at this
  dsimp only at this
  omega
 lt:=fun p hp=>by
  rcases List.mem_append.mp hp with hp | hp
  ·have:=h.lt p hp
   omega
  ·obtain ⟨x,hx,rfl⟩:=List.mem_map.mp hp
   have:=hd.2 x hx
   dsimp only
   omega
 bA:=by
  have a:=h.bA
  have b:=hd.len
  rw [List.length_append,List.length_map,Nat.add_sub_cancel]
  cases j with
  | zero=>
   rw [Nat.zero_mul] at a
   rw [Nat.mul_zero]
   omega
  | succ j=>
   rw [Nat.add_sub_cancel] at a
   have e:(j+1+1)*(j+1)=(j+1)*j+2*(j+1):=by grind
   rw [e]
   omega
def EF(K:PySem.W.Frag):Sp:=fun vs H Q _=>∃(P a:Addr) (ns:List Int) (n:Nat),vs=[.ref P,.int (n:Int)]∧aZ H P a∧aX K (er P H) a (ns.map V.int)∧1≤n∧n≤30 ∧
 ∀(r:Addr) (us:List V) (L:List (Int×Int)) (H':Hp),aw P H H'→aZ H' P a→er P H r=none→r≠P→H' r=some (.lst us)→aN (er P H') us L→dG n L→Q (.ref r) H'
def EG(H:Hp)(vs:List V)(j:Nat)(D:Nat→List Nat):Prop:=vs.length=j∧∀k,k<j→cQ k (D k)∧∃b,vs[k]?=some (.ref b)∧H b=some (.lst (cG (D k)))
theorem tY{P r:Addr}{H:Hp}{o:HO}:∀b o',b≠r→er P H b=some o'→er P (upd H r o) b=some o':=fun b o' nb e=>by
 by_cases z:b=P
 ·subst z
  unfold er at e
  rw [if_pos rfl] at e
  cases e
 ·rw [b4 z] at e ⊢
  rw [aC nb]
  exact e
theorem aN.cat{H:Hp}{us zs:List V}{L M:List (Int×Int)}(h:aN H us L)(g:aN H zs M):aN H (us++zs) (L++M):=⟨by simp [h.1,g.1],fun k v p h1 h2=>by
 have hl:=h.1
 by_cases z:k<us.length
 ·rw [List.getElem?_append_left z] at h1
  rw [List.getElem?_append_left (by omega)] at h2
  exact h.2 k v p h1 h2
 ·rw [List.getElem?_append_right (by omega)] at h1
  rw [List.getElem?_append_right (by omega),show k-L.length=k-us.length by omega] at h2
  exact g.2 _ v p h1 h2⟩
theorem EH{d:List Nat}{i:Nat}{x:V}(h:(cG d)[i]?=some x):∃y,d[i]?=some y∧x=.int (y:Int):=by
 unfold cG at h
 rw [List.getElem?_map] at h
 cases e:d[i]? with
 | none=>rw [e] at h;cases h
 | some y=>rw [e] at h;cases h;exact ⟨y,rfl,rfl⟩
theorem nu{P a b:Addr}{H:Hp}{xs:List V}(p:aZ H P a)(e:H b=some (.tup xs)):er P H b=some (.tup xs):=by
 refine tf (fun z=>?_) e
 obtain ⟨x,y,eP,_⟩:=p
 rw [z,eP] at e
 cases e
structure dm (j i:Nat) (L:List (Int×Int)):Prop where
 nd:L.Nodup
 lt:∀p∈L,0≤p.1∧p.1<p.2∧(p.2<j∨p.2=j∧p.1<i)
 bA:2*L.length≤j*(j-1)+2*i
theorem dm.start:dm 0 0 []:=⟨List.nodup_nil,(fun p hp=>by cases hp),by simp⟩
theorem dm.skip{j i:Nat}{L:List (Int×Int)}(h:dm j i L):dm j (i+1) L:=⟨h.nd,fun p hp=>by
 have:=h.lt p hp
 omega,by
 have:=h.bA
 omega⟩
theorem dm.push{j i:Nat}{L:List (Int×Int)}(h:dm j i L)(hi:i<j):dm j (i+1) (L++[((i:Int),(j:Int))]) where
 nd:=by
  refine List.nodup_append.mpr ⟨h.nd,by simp,fun p hp q hq e=>?_⟩
  rw [List.mem_singleton.mp hq] at e
  have:=h.lt p hp
  rw [e] at this
  dsimp only at this
  omega
 lt:=fun p hp=>by
  rcases List.mem_append.mp hp with hp | hp
  ·have:=h.lt p hp
   omega
  ·rw [List.mem_singleton.mp hp]
   dsimp only
   omega
 bA:=by
  have:=h.bA
  rw [List.length_append,List.length_singleton]
  omega
theorem dm.next{j:Nat}{L:List (Int×Int)}(h:dm j j L):dm (j+1) 0 L:=⟨h.nd,fun p hp=>by
 have:=h.lt p hp
 omega,by
 have a:=h.bA
 rw [Nat.add_sub_cancel]
 cases j with
 | zero=>omega
 | succ j=>
  rw [Nat.add_sub_cancel] at a
  have e:(j+1+1)*(j+1)=(j+1)*j+2*(j+1):=by grind
  rw [e]
  omega⟩
theorem dm.ok{n:Nat}{L:List (Int×Int)}(h:dm n 0 L):dG n L:=⟨h.nd,fun p hp=>by
 have:=h.lt p hp
 omega,by
 have:=h.bA
 have:n*(n-1)≤n*n:=Nat.mul_le_mul_left _ (by omega)
 omega⟩
theorem EI(n:Nat):(bx n).Nodup:=nq List.nodup_range fun p q _ _ e=>by
 have:=V.int.inj e
 omega
theorem ya{n:Nat}{ys:List V}(h:ys.Perm (bx n)):∃nm:Nat→Int,ys.length=n∧(∀i,i<n→ys[i]?=some (.int (nm i)))∧tW n nm:=by
 have ln:ys.length=n:=by rw [h.length_eq];unfold bx;simp
 have nd:ys.Nodup:=h.nodup_iff.mpr (EI n)
 have each:∀i,∃x:Int,i<n→ys[i]?=some (.int x)∧0≤x∧x<n:=fun i=>by
  by_cases hi:i<n
  ·have aS:i<ys.length:=by omega
   have m:ys[i]∈bx n:=h.mem_iff.mp (List.getElem_mem aS)
   obtain ⟨k,hk,e⟩:=List.mem_map.mp m
   have:=List.mem_range.mp hk
   exact ⟨(k:Int),fun _=>⟨by rw [e];simp [aS],by omega,by omega⟩⟩
  ·exact ⟨0,fun z=>absurd z hi⟩
 obtain ⟨nm,hn⟩:=Classical.axiomOfChoice each
 refine ⟨nm,ln,fun i hi=>(hn i hi).1,fun i hi=>(hn i hi).2,fun i j hi hj e=>?_⟩
 have a:=(hn i hi).1
 have b:=(hn j hj).1
 rw [e] at a
 have aS:i<ys.length:=by omega
 have cE:j<ys.length:=by omega
 rw [List.getElem?_eq_getElem aS] at a
 rw [List.getElem?_eq_getElem cE] at b
 exact (List.getElem_inj nd).mp ((Option.some.inj a).trans (Option.some.inj b).symm)
def EJ(K:PySem.W.Frag):Sp:=fun vs H Q _=>∃(P a:Addr) (ns:List Int) (most:Nat),vs=[.ref P,.int (most:Int)]∧aZ H P a∧aX K (er P H) a (ns.map V.int)∧1≤most∧most≤30 ∧
 ∀(t:Addr) (n:Nat) (L:List (Int×Int)) (H':Hp),aw P H H'→aZ H' P a→er P H t=none→t≠P→bY (er P H') t n L→dG n L→L.Pairwise lexLt→1≤n→n≤most→Q (.ref t) H'
theorem aN.er{P a:Addr}{H:Hp}{us:List V}{L:List (Int×Int)}(h:aN H us L)(p:aZ H P a):aN (er P H) us L:=⟨h.1,fun k v q h1 h2=>by
 obtain ⟨b,e,g⟩:=h.2 k v q h1 h2
 exact ⟨b,e,nu p g⟩⟩
theorem bY.er{P a t:Addr}{H:Hp}{n:Nat}{L:List (Int×Int)}(h:bY H t n L)(p:aZ H P a):bY (er P H) t n L:=by
 obtain ⟨lt,us,h1,h2,h3⟩:=h
 exact ⟨lt,us,nu p h1,nu p h2,h3.er p⟩
theorem bY.mono{t:Addr}{H H':Hp}{n:Nat}{L:List (Int×Int)}(h:bY H t n L)(s:aj H H'):bY H' t n L:=by
 obtain ⟨lt,us,h1,h2,h3⟩:=h
 exact ⟨lt,us,s _ _ h1,s _ _ h2,h3.mono s⟩
theorem EK{wi:TI}{ρ:St→St}{tt:TT}{te:TE}{σ:St}{H:Hp}{Q:VK}{xs:List V}(pr:Nat→Bool)(eB:∀R:It→Hp→Prop,(∀J,gG J xs H→R J H)→wi σ H R)(hn:xs.length<sizeLine)
  (P:Addr→Nat→V→Hp→Prop) (mono:∀D i y H H' ys,P D i y H→H D=some (.lst ys)→(∀b o,b≠D→H b=some o→H' b=some o)→P D i y H')
  (test:∀(i:Nat) (x:V),xs[i]?=some x→∀(Hc:Hp) (R:Bool→Hp→Prop),aj H Hc→R (pr i) Hc→tt (some x::ρ σ) Hc R)
  (step:∀D (i:Nat) (x:V),xs[i]?=some x→∀(Hc:Hp) (R:VK),aj H Hc→(∃ys,Hc D=some (.lst ys))→(∀y H3,aj Hc H3→P D i y H3→R y H3)→te (some x::ρ σ) Hc R)
  (fin:∀D ys Hc,H D=none→aj H Hc→ys.length=((List.range xs.length).filter pr).length→(∀(k i:Nat) (y:V),ys[k]?=some y→((List.range xs.length).filter pr)[k]?=some i→P D i y Hc)→Hc D=some (.lst ys)→Q (.ref D) Hc):en wi ρ tt te σ H Q:=by
 refine eB _ fun J js=>?_
 intro D nD
 refine ⟨fun i m ys Hc=>m=xs.length-i∧i≤xs.length∧Hc D=some (.lst ys)∧aj H Hc∧ys.length=((List.range i).filter pr).length∧∀(k i':Nat) (y:V),ys[k]?=some y→((List.range i).filter pr)[k]?=some i'→P D i' y Hc,⟨_,rfl,Nat.zero_le _,aq,dW (aj.refl H) nD,rfl,fun k i y h=>by simp at h⟩,?_⟩
 rintro i m ys Hc ⟨rfl,hi,eD,sH,ly,hP⟩
 refine ⟨eD,?_⟩
 by_cases ba:i<xs.length
 ·refine .inr ⟨js.go i Hc sH ba,fun x H' hy=>?_⟩
  obtain ⟨rfl,hx⟩:=js.cW i Hc x H' sH hy
  refine test i x (hx ba) _ _ sH ?_
  have fs:(List.range (i+1)).filter pr=(List.range i).filter pr++(if pr i=true then [i] else []):=by
   rw [List.range_succ,List.filter_append]
   congr 1
   cases e:pr i <;> simp [e]
  have fl:((List.range i).filter pr).length≤i:=Nat.le_trans (List.length_filter_le _ _) (by simp)
  cases e:pr i with
  | true=>
   rw [if_pos rfl]
   refine step D i x (hx ba) _ _ sH ⟨_,eD⟩ fun y H3 s3 hp=>?_
   have e3:=s3 _ _ eD
   have aY:∀b o,b≠D→H3 b=some o→upd H3 D (.lst (ys++[y])) b=some o:=fun b o nb e=>by rw [aC nb];exact e
   refine ⟨e3,by omega,xs.length-(i+1),by omega,rfl,ba,aq,dW (sH.trans s3) nD,?_,fun k i' y' h1 h2=>?_⟩
   ·rw [fs,e,if_pos rfl,List.length_append,List.length_append,ly]
    rfl
   ·rw [fs,e,if_pos rfl] at h2
    by_cases z:k<ys.length
    ·rw [List.getElem?_append_left z] at h1
     rw [List.getElem?_append_left (by omega)] at h2
     refine mono D i' y' H' _ ys (hP k i' y' h1 h2) eD fun b o nb e=>aY b o nb (s3 _ _ e)
    ·have hk:=(List.getElem?_eq_some_iff.mp h1).1
     rw [List.length_append,List.length_singleton] at hk
     obtain rfl:k=ys.length:=by omega
     rw [List.getElem?_append_right (Nat.le_refl _),Nat.sub_self] at h1
     rw [List.getElem?_append_right (by omega),show ys.length-((List.range i).filter pr).length=0 by omega] at h2
     cases h1
     cases h2
     exact mono D _ _ H3 _ ys hp e3 aY
  | false=>
   rw [if_neg (by simp)]
   refine ⟨xs.length-(i+1),by omega,rfl,ba,eD,sH,?_,fun k i' y' h1 h2=>?_⟩
   ·rw [fs,e,if_neg (by simp),List.append_nil]
    exact ly
   ·rw [fs,e,if_neg (by simp),List.append_nil] at h2
    exact hP k i' y' h1 h2
 ·have e:i=xs.length:=by omega
  subst e
  exact .inl ⟨js.stop _ Hc sH (Nat.le_refl _),fin D ys Hc nD sH ly hP eD⟩
theorem yb{p:Int×Int}:¬lexLt p p:=fun h=>by
 unfold lexLt at h
 omega
theorem EL{p q:Int×Int}(h1:lexLt p q)(h2:lexLt q p):False:=by
 unfold lexLt at h1 h2
 omega
theorem yc:∀{A B:List (Int×Int)},A.Pairwise lexLt→B.Pairwise lexLt→(∀p,p∈A↔p∈B)→A=B
 | [],[],_,_,_=>rfl
 | [],b::B,_,_,h=>absurd ((h b).mpr List.mem_cons_self) (by simp)
 | a::A,[],_,_,h=>absurd ((h a).mp List.mem_cons_self) (by simp)
 | a::A,b::B,ha,hb,h=>by
  obtain ⟨a1,a2⟩:=List.pairwise_cons.mp ha
  obtain ⟨b1,b2⟩:=List.pairwise_cons.mp hb
  have e:a=b:=by
   rcases List.mem_cons.mp ((h a).mp List.mem_cons_self) with z | z
   ·exact z
   ·rcases List.mem_cons.mp ((h b).mpr List.mem_cons_self) with y | y
    ·exact y.symm
    ·exact (EL (b1 a z) (a1 b y)).elim
  subst e
  rw [yc a2 b2 fun p=>⟨fun m=>?_,fun m=>?_⟩]
  ·rcases List.mem_cons.mp ((h p).mp (List.mem_cons_of_mem _ m)) with z | z
   ·subst z
    exact (yb (a1 _ m)).elim
   ·exact z
  ·rcases List.mem_cons.mp ((h p).mpr (List.mem_cons_of_mem _ m)) with z | z
   ·subst z
    exact (yb (b1 _ m)).elim
   ·exact z
end My
namespace L2
open PySem PySem.Spec PyProof.Rows
end L2
namespace My
open PySem L2
def tZ(n:Nat)(L:List (Int×Int)):Tr:=.tp [.fl (.int (n:Int)),.tp (L.map fun p=>.tp [.fl (.int p.1),.fl (.int p.2)])]
theorem yd{H:Hp}{t:Addr}{n:Nat}{L:List (Int×Int)}(h:bY H t n L):fu H (tZ n L) (.ref t):=by
 obtain ⟨lt,us,e1,e2,h3⟩:=h
 refine .tp e1 rfl fun i v tr h1 h2=>?_
 match i,h1,h2 with
 | 0,h1,h2=>cases h1;cases h2;exact .fl rfl
 | 1,h1,h2=>
  cases h1
  cases h2
  refine .tp e2 (by rw [List.length_map];exact h3.1) fun k v tr g1 g2=>?_
  have hk:k<L.length:=by
   have:=(List.getElem?_eq_some_iff.mp g2).1
   simpa using this
  rw [List.getElem?_map,List.getElem?_eq_getElem hk] at g2
  cases g2
  obtain ⟨b,rfl,eb⟩:=h3.2 k v L[k] g1 (by simp [hk])
  refine .tp eb rfl fun m v tr f1 f2=>?_
  match m,f1,f2 with
  | 0,f1,f2=>cases f1;cases f2;exact .fl rfl
  | 1,f1,f2=>cases f1;cases f2;exact .fl rfl
  | m+2,f1,_=>cases f1
 | i+2,h1,_=>cases h1
theorem EM(n:Nat)(L:List (Int×Int)):(tZ n L).In 3:=fun t ht=>by
 rcases List.mem_cons.mp ht with rfl | ht
 ·trivial
 ·rw [List.mem_singleton.mp ht]
  intro u hu
  obtain ⟨p,_,rfl⟩:=List.mem_map.mp hu
  intro w hw
  rcases List.mem_cons.mp hw with rfl | hw
  ·trivial
  ·rw [List.mem_singleton.mp hw];trivial
end My
namespace L2
open PySem PySem.Spec PyProof.Rows
section
variable (P:Program) (w:World)
end
section
variable {P:Program} {w:World} {H H':Hp} {h h':Heap} {a:Addr} {o:HO}
end
section
variable {P:Program} {w:World} {H:Hp} {h h':Heap} {x e:Addr} {o':HO}
end
section
variable {fs rG ex mr:List Addr} {H H1 H2:Hp} {h h1 h2 h':Heap} {a x e:Addr} {o:HO}
end
section
variable {X:Cx} {pins:List (Addr×Obj)} {σ:List (Option V)} {H H':Hp} {s:Shared} {h':Heap}
end
section
variable {X:Cx}
variable {a b:Expr} {ta tb:TE} {pos:Pos}
variable {tA mD:TT} {rest:List Expr}
end
section
variable {X:Cx} {pins:List (Addr×Obj)} {σ:St} {H:Hp} {s:Shared} {a:Addr} {xs ys:List V}
end
section
variable {X:Cx} {pins:List (Addr×Obj)} {σ:St} {H:Hp} {s:Shared} {E:Value→Shared→Prop}
end
section
variable {X:Cx} {st:Stmt} {rest:List Stmt} {t u:TS} {e:Expr} {te:TE} {pos:Pos}
end
section
variable {X:Cx} {pos:Pos}
end
section
variable {X:Cx} {pos:Pos}
end
section
variable {X:Cx} {tg:Expr}
end
section
variable {X:Cx} {a b c:Expr} {ta tb tc:TE} {pos:Pos}
end
section
variable {X:Cx} {a b c:Expr} {ta tb tc:TE} {pos:Pos}
end
section
variable {prog:Program} {w:World} {A:Around} {E:Value→Shared→Prop} {s:Shared} {K:PySem.W.Frag} {x dx C f:Addr} {mA:Str→Option Value} {name:Str} {v:Value}
end
section
variable {P:Program} {w:World} {H H':Hp} {h h':Heap} {a C dx:Addr} {fs rG:List (Str×V)}
end
section
variable {X:Cx} {pins:List (Addr×Obj)} {σ:St} {H:Hp} {s:Shared} {a C dx:Addr} {fs:List (Str×V)} {f:Str} {v:V} {A:Around} {E:Value→Shared→Prop}
end
section
variable {X:Cx} {o e value:Expr} {f:Str} {pos pos' oK:Pos} {ta tv:TE}
end
section
variable {X:Cx} {pins:List (Addr×Obj)} {σ:St} {H:Hp} {s:Shared} {A:Around} {E:Value→Shared→Prop} {Q:Value→Shared→Prop} {c:Value} {b:Bool}
end
section
variable {X:Cx} {e:Expr} {es:List Expr} {te:TE} {t:TA} {pos:Pos}
end
section
variable {X:Cx} {pins:List (Addr×Obj)} {σ:St} {H:Hp} {s s':Shared}
end
section
variable {X:Cx} {CX:dw} {k:Nat} {f C:Addr} {fd:FuncData} {ps:List Str} {sp:Sp} {fN:List V} {ds:List Value} {E:XK} {x m:Str} {p pos apos:Pos} {e o:Expr} {es:List Expr} {ta:TE} {t:TA}
end
section
variable {X:Cx} {CX:dw} {k:Nat} {f C:Addr} {fd:FuncData} {ps ks:List Str} {sp:Sp} {E:XK} {x m:Str} {p pos apos wJ:Pos} {e o:Expr} {es:List Expr} {BX:List Keyword} {te ta:TE} {t tk:TA} {nm:Option Str}
variable {g:List Value→List Value→List Value} {gV:List V→List V→List V}
end
section
variable {X:Cx} {x:Str} {p pos:Pos} {e:Expr} {es:List Expr} {t:TA} {id T:String} {r:List V→Hp→VK→Prop}
end
section
variable {κ:Type} [DecidableEq κ]
def eF(ae:List (κ×V))(k:κ):Option V:=(ae.find? fun kv=>decide (kv.1=k)).map (·.2)
def putK(ae:List (κ×V))(k:κ)(v:V):List (κ×V):=
 if (ae.any fun kv=>decide (kv.1=k))=true then ae.map (fun kv=>if kv.1=k then (kv.1,v) else kv) else ae++[(k,v)]
theorem pZ{p:κ×V}{r:List (κ×V)}{k:κ}(e:p.1=k):eF (p::r) k=some p.2:=by simp [eF,List.find?_cons,e]
theorem p9{p:κ×V}{r:List (κ×V)}{k:κ}(e:¬p.1=k):eF (p::r) k=eF r k:=by simp [eF,List.find?_cons,e]
theorem ye(k:κ):∀ae:List (κ×V),(ae.any fun kv=>decide (kv.1=k))=(eF ae k).isSome
 | []=>rfl
 | p::r=>by
  rw [List.any_cons]
  by_cases e:p.1=k
  ·simp only [pZ e,decide_eq_true e,Bool.true_or,Option.isSome_some]
  ·rw [p9 e,decide_eq_false e,Bool.false_or];exact ye k r
theorem t4(ae:List (κ×V))(k:κ)(v:V):(putK ae k v).length≤ae.length+1:=by
 unfold putK
 split
 ·rw [List.length_map];omega
 ·rw [List.length_append,List.length_cons,List.length_nil];omega
theorem iG.nz{o:Option V}{u:Option Value}(r:iG o u):o.isSome=u.isSome:=by
 cases o with
 | none=>cases u with
  | none=>rfl
  | some _=>exact (show False from r).elim
 | some _=>cases u with
  | none=>exact (show False from r).elim
  | some _=>rfl
theorem KV.val{ae:List (κ×V)}{vs:List (κ×Value)}(r:KV ae vs)(k:κ):iG (eF ae k) (valueAt vs k):=by
 unfold KV at r
 induction r with
 | nil=>exact True.intro
 | @cons p q ps qs h t ih=>
  obtain ⟨h1,h2⟩:=h
  by_cases e:p.1=k
  ·have e':q.1=k:=h1.symm.trans e
   have b:valueAt (q::qs) k=some q.2:=by simp [valueAt,List.find?_cons,e']
   rw [pZ e,b];exact h2
  ·have e':¬q.1=k:=fun z=>e (h1.trans z)
   have b:valueAt (q::qs) k=valueAt qs k:=by simp [valueAt,List.find?_cons,e']
   rw [p9 e,b];exact ih
theorem KV.any{ae:List (κ×V)}{vs:List (κ×Value)}(r:KV ae vs)(k:κ):(ae.any fun kv=>decide (kv.1=k))=vs.any fun kv=>decide (kv.1=k):=by
 unfold KV at r
 induction r with
 | nil=>rfl
 | cons h t ih=>rw [List.any_cons,List.any_cons,ih,h.1]
theorem KV.t6{ae:List (κ×V)}{vs:List (κ×Value)}(r:KV ae vs)(k:κ){y:V}{u:Value}(ry:RelV y u) :
  KV (ae.map fun kv=>if kv.1=k then (kv.1,y) else kv) (vs.map fun kv=>if kv.1=k then (kv.1,u) else kv):=by
 unfold KV at r ⊢
 induction r with
 | nil=>exact .nil
 | @cons p q ps qs h t ih=>
  rw [List.map_cons,List.map_cons]
  refine .cons ?_ ih
  obtain ⟨h1,h2⟩:=h
  by_cases e:p.1=k
  ·rw [if_pos e,if_pos (h1.symm.trans e)];exact ⟨h1,ry⟩
  ·rw [if_neg e,if_neg (fun z=>e (h1.trans z))];exact ⟨h1,h2⟩
theorem KV.put{ae:List (κ×V)}{vs:List (κ×Value)}(r:KV ae vs)(k:κ){y:V}{u:Value}(ry:RelV y u):KV (putK ae k y) (stored vs k u):=by
 unfold putK stored
 rw [r.any k]
 by_cases e:(vs.any fun kv=>decide (kv.1=k))=true
 ·rw [if_pos e,if_pos e];exact r.t6 k ry
 ·rw [if_neg e,if_neg e];exact Paired.snoc r ⟨rfl,ry⟩
theorem KV.length{ae:List (κ×V)}{vs:List (κ×Value)}(r:KV ae vs):ae.length=vs.length:=Paired.length r
end
theorem nB{P:Program}{w:World}{k:Key}{u:Value}(r:RelV (kV k) u):(cM P w).is k u=true:=by
 cases k with
 | inl i=>obtain ⟨t,e⟩:=(show ∃t,u=Value.int i t from r);subst e;exact AX P w i t
 | inr x=>obtain ⟨t,e⟩:=(show ∃t,u=Value.str x t from r);subst e;exact AY P w x t
theorem yf{P:Program}{w:World}:∀{ks:List Key} {us:List Value},Vals (ks.map kV) us→ItemsAre (cM P w) ks us
 | [],_,r=>by rw [List.map_nil] at r;cases r;exact .nil
 | k::ks,_,r=>by
  rw [List.map_cons] at r
  cases r with
  | cons h t=>exact .cons (nB h) (yf t)
abbrev KT (H:Hp):List (List Key×V)→List (List Key×Addr×Value)→Prop:=Paired fun p q=>p.1=q.1∧H q.2.1=some (.tup (p.1.map kV))∧RelV p.2 q.2.2
theorem KT.val{H:Hp}{ae:List (List Key×V)}{xs:List (List Key×Addr×Value)}(r:KT H ae xs)(k:List Key):iG (eF ae k) ((atKey xs k).map (·.2)):=by
 induction r with
 | nil=>exact True.intro
 | @cons p q ps qs h t ih=>
  obtain ⟨h1,_,h2⟩:=h
  by_cases e:p.1=k
  ·have e':q.1=k:=h1.symm.trans e
   have b:atKey (q::qs) k=some q.2:=by simp [atKey,List.find?_cons,e']
   rw [pZ e,b];exact h2
  ·have e':¬q.1=k:=fun z=>e (h1.trans z)
   have b:atKey (q::qs) k=atKey qs k:=by simp [atKey,List.find?_cons,e']
   rw [p9 e,b];exact ih
theorem KT.t6{H:Hp}{ae:List (List Key×V)}{xs:List (List Key×Addr×Value)}(r:KT H ae xs)(k:List Key){y:V}{u:Value}(ry:RelV y u) :
  KT H (ae.map fun kv=>if kv.1=k then (kv.1,y) else kv) (xs.map (putAt k u)):=by
 induction r with
 | nil=>exact .nil
 | @cons p q ps qs h t ih=>
  rw [List.map_cons,List.map_cons]
  refine .cons ?_ ih
  obtain ⟨h1,h2,h3⟩:=h
  unfold putAt
  by_cases e:p.1=k
  ·rw [if_pos e,if_pos (h1.symm.trans e)];exact ⟨h1,h2,ry⟩
  ·rw [if_neg e,if_neg (fun z=>e (h1.trans z))];exact ⟨h1,h2,h3⟩
theorem KT.put{H:Hp}{ae:List (List Key×V)}{xs:List (List Key×Addr×Value)}(r:KT H ae xs)(k:List Key){b:Addr}{y:V}{u:Value}(hb:H b=some (.tup (k.map kV)))(ry:RelV y u) :
  KT H (putK ae k y) (storedH xs k b u):=by
 have e:(ae.any fun kv=>decide (kv.1=k))=(atKey xs k).isSome:=by
  rw [ye,(r.val k).nz,Option.isSome_map]
 unfold putK storedH
 rw [e]
 by_cases q:(atKey xs k).isSome=true
 ·rw [if_pos q,if_pos q];exact r.t6 k ry
 ·rw [if_neg q,if_neg q];exact Paired.snoc r ⟨rfl,hb,ry⟩
theorem KT.keeps{H H':Hp}{ae:List (List Key×V)}{xs:List (List Key×Addr×Value)}(r:KT H ae xs)(ht:∀b ys,H b=some (.tup ys)→H' b=some (.tup ys)):KT H' ae xs:=
 Paired.rF r fun _ _ z=>⟨z.1,ht _ _ z.2.1,z.2.2⟩
section
variable {P:Program} {w:World} {H:Hp} {h:Heap} {a:Addr}
theorem yg{u:HO}(ok:bj P w H h)(e:Rd H a u):a_ P w H h a u:=e.ok ok
theorem t7{ae:List (Key×V)}(ok:bj P w H h)(e:Rd H a (.dK ae)):ae.length≤sizeLine∧(a == sysModules)=false∧∃vs,KV ae vs∧h.DictOf (cM P w) a vs:=
 show a_ P w H h a (.dK ae) from yg ok e
theorem yh{ae:List (Key×V)}(ok:bj P w H h)(e:H a=some (.dK ae)):ae.length≤sizeLine∧(a == sysModules)=false∧∃vs,KV ae vs∧h.DictOf (cM P w) a vs:=t7 ok (.inl e)
theorem p_{ks:List Key}(ok:bj P w H h)(e:H a=some (.tup (ks.map kV))):(tupleKind (cM P w)).is h ks a:=by
 obtain ⟨_,ai,r,o,h1,h2,n,h3⟩:=(show a_ P w H h a (.tup (ks.map kV)) from ok a _ e)
 exact ⟨o,ai.toArray,n,h1,h2,h3,by simpa using yf r⟩
theorem t8{ae:List (List Key×V)}(ok:bj P w H h)(e:Rd H a (.dT ae)):ae.length≤sizeLine∧(a == sysModules)=false ∧
  ∃xs,KT H ae xs∧h.DictOfH (tupleKind (cM P w)) a xs:=by
 obtain ⟨z,y,xs,r,o,es,ep,h1,h2,h3,h4,h5⟩:=(show a_ P w H h a (.dT ae) from yg ok e)
 refine ⟨z,y,xs,r,o,es,ep,h1,h2,h3,h4,fun x hx=>?_,h5⟩
 have all:∀{l:List (List Key×V)} {m:List (List Key×Addr×Value)},KT H l m→∀x∈m,(tupleKind (cM P w)).is h x.1 x.2.1:=by
  intro l m q
  induction q with
  | nil=>intro x hx;exact nomatch hx
  | @cons p q ps qs hq t ih=>
   intro x hx
   rcases List.mem_cons.mp hx with e | hx
   ·subst e
    exact p_ ok (by rw [←hq.1];exact hq.2.1)
   ·exact ih x hx
 exact all r x hx
theorem yi{ae:List (List Key×V)}(ok:bj P w H h)(e:H a=some (.dT ae)):ae.length≤sizeLine∧(a == sysModules)=false ∧
  ∃xs,KT H ae xs∧h.DictOfH (tupleKind (cM P w)) a xs:=t8 ok (.inl e)
end
def qa(H:Hp)(a:Addr)(y:V)(r:Option V):Prop:=
 (∃ae k,Rd H a (.dK ae)∧y=kV k∧r=eF ae k)∨∃ae k b,Rd H a (.dT ae)∧y=.ref b∧H b=some (.tup (k.map kV))∧r=eF ae k
def ja(H:Hp)(a:Addr)(y v:V)(H':Hp):Prop:=
 (∃ae k,H a=some (.dK ae)∧y=kV k∧ae.length<sizeLine∧H'=upd H a (.dK (putK ae k v))) ∨
 ∃ae k b,H a=some (.dT ae)∧y=.ref b∧H b=some (.tup (k.map kV))∧ae.length<sizeLine∧H'=upd H a (.dT (putK ae k v))
theorem ja.t{H:Hp}{a b:Addr}{ae:List (List Key×V)}{k:List Key}{v:V}(e:H a=some (.dT ae))(eb:H b=some (.tup (k.map kV)))(hl:ae.length<sizeLine) :
  ja H a (.ref b) v (upd H a (.dT (putK ae k v))):=.inr ⟨ae,k,b,e,rfl,eb,hl,rfl⟩
section
variable {X:Cx} {pins:List (Addr×Obj)} {σ:St} {H:Hp} {s:Shared} {a:Addr} {y v:V} {u r:Value} {o:Option V} {A:Around} {E:Value→Shared→Prop}
theorem Inv.big(I:Inv X pins σ H s):sysModules<s.heap.objs.size:=by
 have h:mainGlobals<s.heap.objs.size:=(I.mod.glob.keeps I.bk).lt
 exact Nat.lt_trans (by decide) h
theorem EN{Q:Value→Shared→Prop}(hu:A.units+1<cLine)(I:Inv X pins σ H s)(g:qa H a y o)(ry:RelV y u)(h:∀s',Inv X pins σ H s'→Q (.bool o.isSome) s') :
  wpAny (model X.prog X.w) A (compareOp .In u (.ref a)) Q E s:=by
 rcases g with ⟨ae,k,e,ey,l⟩ | ⟨ae,k,b,e,ey,eb,l⟩
 ·subst ey
  obtain ⟨z,hd,vs,rel,dd⟩:=t7 I.ar e
  refine wpAny_in_of (nB ry) hd dd.mapOf ?_
  rw [←(rel.val k).nz,←l]
  exact h _ (I.tok _)
 ·subst ey
  cases (show u=Value.ref b from ry)
  obtain ⟨z,hd,xs,rel,dd⟩:=t8 I.ar e
  refine wpAny_in_heap (tupleKind_room_in1 hu) (p_ I.ar eb) hd dd ?_
  have q:=(rel.val k).nz
  rw [Option.isSome_map] at q
  rw [←q,←l]
  exact h _ (I.tok _)
theorem EO{Q:Value→Shared→Prop}(hu:A.units+1<cLine)(I:Inv X pins σ H s)(g:qa H a y o)(ry:RelV y u)(h:∀s',Inv X pins σ H s'→Q (.bool (!o.isSome)) s') :
  wpAny (model X.prog X.w) A (compareOp .NotIn u (.ref a)) Q E s:=by
 rcases g with ⟨ae,k,e,ey,l⟩ | ⟨ae,k,b,e,ey,eb,l⟩
 ·subst ey
  obtain ⟨z,hd,vs,rel,dd⟩:=t7 I.ar e
  refine wpAny_notIn_of (nB ry) hd dd.mapOf ?_
  rw [←(rel.val k).nz,←l]
  exact h _ (I.tok _)
 ·subst ey
  cases (show u=Value.ref b from ry)
  obtain ⟨z,hd,xs,rel,dd⟩:=t8 I.ar e
  refine wpAny_notIn_heap (tupleKind_room_in1 hu) (p_ I.ar eb) hd dd ?_
  have q:=(rel.val k).nz
  rw [Option.isSome_map] at q
  rw [←q,←l]
  exact h _ (I.tok _)
theorem t_{h':Heap}{t':Nat}{ob:HO}(I:Inv X pins σ H s)(mu:mq (H a))(hs:Heap.SameBut a s.heap h')(he:∃q,h'.get? a=some q)(new:a_ X.prog X.w (upd H a ob) h' a ob) :
  Inv X pins σ (upd H a ob) {s with heap:=h',toks:=t'}:=
 I.write (x:=a) (e:=a) mu (.inl rfl) (fun b q hb z=>(hs.2 b hb).trans z) he new
theorem yj{P:Program}{w:World}{H':Hp}{h':Heap}{ae:List (Key×V)}{vs:List (Key×Value)}(z:ae.length≤sizeLine)(hd:(a == sysModules)=false)(rel:KV ae vs)(dd:h'.DictOf (cM P w) a vs) :
  a_ P w H' h' a (.dK ae):=⟨z,hd,vs,rel,dd⟩
theorem ER{H':Hp}{Q:Unit→Shared→Prop}(hu:A.units+1<cLine)(I:Inv X pins σ H s)(g:ja H a y v H')(ry:RelV y u)(rv:RelV v r)(h:∀s',Inv X pins σ H' s'→Q () s') :
  wpAny (model X.prog X.w) A (setItem (.ref a) u r) Q E s:=by
 rcases g with ⟨ae,k,e,ey,l,eH⟩ | ⟨ae,k,b,e,ey,eb,l,eH⟩
 ·subst ey eH
  obtain ⟨z,hd,vs,rel,dd⟩:=yh I.ar e
  have hz:vs.length≤sizeLine:=by rw [←rel.length];exact z
  have hl:(putK ae k v).length≤sizeLine:=by have:=t4 ae k v;omega
  refine wpAny_setItem_pairs (hsz:=hz) (nB ry) dd fun h' hW hs=>h _ ?_
  have he:∃q,h'.get? a=some q:=let ⟨q,_,_,hq,_⟩:=hW;⟨q,hq⟩
  exact t_ I (by rw [e];exact True.intro) hs he (yj hl hd (rel.put k rv) hW)
 ·subst ey eH
  cases (show u=Value.ref b from ry)
  obtain ⟨z,hd,xs,rel,dd⟩:=yi I.ar e
  have hz:xs.length≤sizeLine:=by rw [←Paired.length rel];exact z
  have hl:(putK ae k v).length≤sizeLine:=by have:=t4 ae k v;omega
  refine wpAny_setItem_heap (hsz:=hz) (tupleKind_room_in1 hu) (p_ I.ar eb) dd fun h' hW hs=>h _ ?_
  obtain ⟨q,es,ep,hq,h2,h3,h4,_,h5⟩:=hW
  refine t_ I (by rw [e];exact True.intro) hs ⟨q,hq⟩ ⟨hl,hd,_,(rel.put k eb rv).keeps fun c ys ec=>?_,q,es,ep,hq,h2,h3,h4,h5⟩
  rw [aC (AZ ec e (fun z=>nomatch z))]
  exact ec
end
section
variable {X:Cx} {pins:List (Addr×Obj)} {σ:St} {H:Hp} {s:Shared} {a:Addr} {ae:List (Key×V)} {k:Key} {u:Value} {A:Around} {E:Value→Shared→Prop}
end
def ES(ty td:TE):TE:=fun σ H Q=>ty σ H fun y H1=>td σ H1 fun x H2=>∃a o,x=.ref a∧qa H2 a y o∧Q (.bl o.isSome) H2
def ET(ty td:TE):TE:=fun σ H Q=>ty σ H fun y H1=>td σ H1 fun x H2=>∃a o,x=.ref a∧qa H2 a y o∧Q (.bl (!o.isSome)) H2
def EU(td ty tv:TE):TS:=fun D σ H=>tv σ H fun v H1=>td σ H1 fun x H2=>ty σ H2 fun y H3=>∃a H4,x=.ref a∧ja H3 a y v H4∧D.nx σ H4
section
variable {X:Cx} {o i e value:Expr} {pos pos' oK:Pos} {td ty tv:TE}
theorem EV(hu:X.A.units+1<cLine)(hi:PE X i ty)(ho:PE X o td):PC X .In i o (ES ty td):=by
 intro pins s σ H Q I h
 refine ay (hi pins s σ H _ I h) fun iv s1 ⟨y,H1,I1,ry,q1⟩=>ay (ho pins s1 σ H1 _ I1 q1) fun u s2 ⟨x,H2,I2,rx,a,ov,ex,g,q2⟩=>?_
 subst ex
 obtain rfl:u=Value.ref a:=rx
 exact EN hu I2 g ry fun s3 I3=>⟨.bl ov.isSome,H2,I3,rfl,q2⟩
theorem EW(hu:X.A.units+1<cLine)(hi:PE X i ty)(ho:PE X o td):PC X .NotIn i o (ET ty td):=by
 intro pins s σ H Q I h
 refine ay (hi pins s σ H _ I h) fun iv s1 ⟨y,H1,I1,ry,q1⟩=>ay (ho pins s1 σ H1 _ I1 q1) fun u s2 ⟨x,H2,I2,rx,a,ov,ex,g,q2⟩=>?_
 subst ex
 obtain rfl:u=Value.ref a:=rx
 exact EO hu I2 g ry fun s3 I3=>⟨.bl (!ov.isSome),H2,I3,rfl,q2⟩
theorem ie(hu:X.A.units+1<cLine)(ho:PE X o td)(hi:PE X i ty)(hv:PE X value tv)(hs:swapsWith value (some (.Subscript o i pos')) pos.line X.env=pure false) :
  PS X (.Assign [.Subscript o i pos'] value pos) (EU td ty tv):=by
 intro pins s σ H D I h
 refine wpAny_Assign_Subscript (ay (hv pins s σ H _ I h) fun r s1 ⟨v,H1,I1,rv,q1⟩=>ay (ho pins s1 σ H1 _ I1 q1) fun u s2 ⟨x,H2,I2,rx,q2⟩=>ay (hi pins s2 σ H2 _ I2 q2) fun iv s3 ⟨y,H3,I3,ry,a,H4,ex,g,q3⟩=>?_) hs
 subst ex
 obtain rfl:u=Value.ref a:=rx
 exact ER hu I3 g ry rv fun s4 I4=>⟨σ,H4,I4,q3⟩
end
theorem yk{P:Program}{w:World}{H:Hp}(h:Heap)(hb:sysModules<h.objs.size):a_ P w H (h.push {cls:=.type "dict",data:=.dict #[]}) h.objs.size (.dK []):=
 ⟨Nat.zero_le _,beq_eq_false_iff_ne.mpr (Ne.symm (Nat.ne_of_lt hb)),[],.nil,Heap.DictOf.new h⟩
theorem EX{P:Program}{w:World}{H:Hp}(h:Heap)(hb:sysModules<h.objs.size):a_ P w H (h.push {cls:=.type "dict",data:=.dict #[]}) h.objs.size (.dT []):=
 ⟨Nat.zero_le _,beq_eq_false_iff_ne.mpr (Ne.symm (Nat.ne_of_lt hb)),[],.nil,_,#[],0,Heap.get?_push_size _ rfl,⟨rfl,rfl,rfl⟩,rfl,rfl,List.nodup_nil⟩
def EY:TE:=fun _ H Q=>∀p,H p=none→Q (.ref p) (upd H p (.dK []))
def EZ:TE:=fun _ H Q=>∀p,H p=none→Q (.ref p) (upd H p (.dT []))
section
variable {X:Cx} {pos:Pos}
theorem E1:PE X (.Dict [] [] pos) EY:=fun pins s σ H Q I h=>
 wpAny_Dict_empty ⟨.ref s.heap.objs.size,_,I.laid (a:=s.heap.objs.size) (o:=.dK []) (t':=s.toks) (fun _ _ q=>Heap.get?_push_of_some _ q) (Nat.le_refl _) (yk s.heap I.big),rfl,h _ (I.ar.fresh (Nat.le_refl _))⟩
theorem E2:PE X (.Dict [] [] pos) EZ:=fun pins s σ H Q I h=>
 wpAny_Dict_empty ⟨.ref s.heap.objs.size,_,I.laid (a:=s.heap.objs.size) (o:=.dT []) (t':=s.toks) (fun _ _ q=>Heap.get?_push_of_some _ q) (Nat.le_refl _) (EX s.heap I.big),rfl,h _ (I.ar.fresh (Nat.le_refl _))⟩
end
def ua:List (TE×TE)→St→Hp→(List (V×V)→Hp→Prop)→Prop
 | [],_,H,Q=>Q [] H
 | (tk,tv)::r,σ,H,Q=>tk σ H fun x H1=>tv σ H1 fun y H2=>ua r σ H2 fun ps H3=>Q ((x,y)::ps) H3
abbrev VV:List (V×V)→List (Value×Value)→Prop:=Paired fun p q=>RelV p.1 q.1∧RelV p.2 q.2
def qb(X:Cx)(pos:Pos)(keys:List (Option Expr))(values:List Expr)(gN:List (TE×TE)):Prop:=
 ∀(pins:List (Addr×Obj)) (s:Shared) (σ:St) (H:Hp) (Q:List (V×V)→Hp→Prop),Inv X pins σ H s→ua gN σ H Q→
  wpAny (model X.prog X.w) X.A (evalPairs (pairTrees keys values X.env pos)) (fun vs s'=>∃ps H',Inv X pins σ H' s'∧VV ps vs∧Q ps H') X.xe s
theorem E3{X:Cx}{pos:Pos}:qb X pos [] [] []:=fun pins s σ H Q I h=>pairTrees_nil_walk ⟨[],H,I,.nil,h⟩
theorem E4{X:Cx}{pos:Pos}{k v:Expr}{ks:List (Option Expr)}{vs:List Expr}{tk tv:TE}{gN:List (TE×TE)}(hk:PE X k tk)(hv:PE X v tv)(hr:qb X pos ks vs gN) :
  qb X pos (some k::ks) (v::vs) ((tk,tv)::gN):=fun pins s σ H Q I h=>
 pairTrees_cons_walk (ay (hk pins s σ H _ I h) fun u s1 ⟨x,H1,I1,rx,q1⟩=>ay (hv pins s1 σ H1 _ I1 q1) fun w2 s2 ⟨y,H2,I2,ry,q2⟩=>
  ay (hr pins s2 σ H2 _ I2 q2) fun ws s3 ⟨ps,H3,I3,rel,q3⟩=>⟨(x,y)::ps,H3,I3,.cons ⟨rx,ry⟩ rel,q3⟩)
def ig(ae more:List (Key×V)):List (Key×V):=more.foldl (fun acc kv=>putK acc kv.1 kv.2) ae
theorem KV.merge:∀{more:List (Key×V)} {rs:List (Key×Value)} {ae:List (Key×V)} {vs:List (Key×Value)},KV more rs→KV ae vs→KV (ig ae more) (merged vs rs):=by
 intro more rs ae vs r
 unfold KV at r
 induction r generalizing ae vs with
 | nil=>intro q;exact q
 | @cons p q ps qs h t ih=>
  intro r0
  have e:KV (putK ae p.1 p.2) (stored vs q.1 q.2):=by
   have:=r0.put p.1 h.2
   rw [←h.1];exact this
  exact ih e
theorem yl:∀(more ae:List (Key×V)),(ig ae more).length≤ae.length+more.length
 | [],ae=>by show ae.length≤ae.length+0;omega
 | p::r,ae=>by
  have h1:=yl r (putK ae p.1 p.2)
  have h2:=t4 ae p.1 p.2
  show (ig (putK ae p.1 p.2) r).length≤_
  rw [List.length_cons];omega
theorem ym{P:Program}{w:World}:∀{ae:List (Key×V)} {ws:List (Value×Value)},VV (ae.map fun kv=>(kV kv.1,kv.2)) ws→∃rs,Carries (cM P w) ws rs∧KV ae rs
 | [],_,r=>by rw [List.map_nil] at r;cases r;exact ⟨[],True.intro,.nil⟩
 | p::ae,_,r=>by
  rw [List.map_cons] at r
  cases r with
  | @cons a b as bs h t=>
   obtain ⟨rs,c,q⟩:=ym (P:=P) (w:=w) t
   obtain ⟨b1,b2⟩:=b
   exact ⟨(p.1,b2)::rs,⟨nB h.1,rfl,c⟩,.cons ⟨rfl,h.2⟩ q⟩
def E5(gN:List (TE×TE)):TE:=fun σ H Q=>∀p,H p=none→ua gN σ (upd H p (.dK [])) fun ps H2=>H2 p=some (.dK [])∧∃ae:List (Key×V),ps=ae.map (fun kv=>(kV kv.1,kv.2))∧ae.length≤15∧Q (.ref p) (upd H2 p (.dK (ig [] ae)))
theorem E6{X:Cx}{pos:Pos}{keys:List (Option Expr)}{values:List Expr}{gN:List (TE×TE)}(h:qb X pos keys values gN)(sE:keys.all (·.isSome)=true)(hl:keys.length=values.length)(h0:keys≠[])
  (E7:keys.length≤15):PE X (.Dict keys values pos) (E5 gN):=by
 intro pins s σ H Q I q
 have hn:=I.ar.fresh (Nat.le_refl s.heap.objs.size)
 have I1:=I.laid (a:=s.heap.objs.size) (o:=.dK []) (h':=s.heap.push {cls:=.type "dict",data:=.dict #[]}) (t':=s.toks) (fun _ _ q=>Heap.get?_push_of_some _ q) (Nat.le_refl _) (yk s.heap I.big)
 refine wpAny_Dict_walk (knd:=cM X.prog X.w) sE hl h0 E7 (ay (h pins _ σ _ _ I1 (q _ hn)) fun ws s2 ⟨ps,H2,I2,rel,e,ae,ep,lk,q2⟩=>?_)
 subst ep
 obtain ⟨rs,c,rk⟩:=ym (P:=X.prog) (w:=X.w) rel
 obtain ⟨z,hd,L_,r0,dd⟩:=yh I2.ar e
 cases r0
 refine ⟨rs,c,dd,fun h' hW hs=>⟨.ref s.heap.objs.size,_,?_,rfl,q2⟩⟩
 have hz:(ig [] ae).length≤sizeLine:=by
  have h1:=yl ae []
  rw [List.length_nil] at h1
  rw [sizeLine_eq];omega
 have he:∃q,h'.get? s.heap.objs.size=some q:=let ⟨q,_,_,hq,_⟩:=hW;⟨q,hq⟩
 exact t_ I2 (by rw [e];exact True.intro) hs he (yj hz hd (rk.merge .nil) hW)
section
variable {X:Cx} {pins:List (Addr×Obj)} {σ:St} {H:Hp} {s:Shared} {a:Addr} {y d:V} {u r:Value} {o:Option V} {A:Around} {E:Value→Shared→Prop}
end
section
variable {X:Cx} {o e f:Expr} {apos dy:Pos} {td ty tx:TE}
end
section
variable {X:Cx} {pins:List (Addr×Obj)} {σ:St} {H:Hp} {s:Shared} {a:Addr} {ae:List (Key×V)} {A:Around} {E:Value→Shared→Prop}
end
section
variable {X:Cx} {pins:List (Addr×Obj)} {σ:St} {H:Hp} {s:Shared} {a:Addr} {y:V} {u:Value} {A:Around} {E:Value→Shared→Prop}
end
end L2
namespace oT
open PySem PySem.W PySem.Calls PyProof.Rows
section
variable {prog:Program} {w:World} {A:Around} {E:Value→Shared→Prop} {s:Shared} {K:Frag}
end
end oT
namespace L2
open PySem PySem.Spec PyProof.Rows
section
variable {P:Program} {w:World} {K:PySem.W.Frag} {mg:Str→Option Value} {base:Heap}
end
section
variable {X:Cx}
end
section
variable {κ:Type} [DecidableEq κ]
end
def ub(o:Obj):Nat:=match o.data with
 | .dict _ ep=>ep
 | _=>0
def ky(a:Addr)(o:Obj)(ae:List (Key×V)):It:=
 ⟨fun i H=>H a=some (.bg o (.dK ae))∧i<ae.length,fun i H x H'=>H'=H∧∃kv,ae[i]?=some kv∧x=kV kv.1,fun i H=>H a=some (.bg o (.dK ae))∧ae.length≤i⟩
theorem E8{k:Key}{v:Value}(h:iF k v=true):RelV (kV k) v:=by
 rcases fH h with ⟨i,t,rfl,rfl⟩ | ⟨x,t,rfl,rfl⟩
 ·exact ⟨t,rfl⟩
 ·exact ⟨t,rfl⟩
theorem yn{ae:List (Key×V)}{vs:List (Key×Value)}:∀{i:Nat} {kv:Key×V},KV ae vs→ae[i]?=some kv→∃v,vs[i]?=some (kv.1,v)
 | _,_,.nil,h=>by simp at h
 | 0,kv,.cons (b:=b) r _,h=>by
  simp at h
  subst h
  obtain ⟨k,v⟩:=b
  have e:_=k:=r.1
  exact ⟨v,by rw [e];rfl⟩
 | i+1,kv,.cons _ t,h=>by
  simp at h
  obtain ⟨v,e⟩:=yn t h
  exact ⟨v,by simpa using e⟩
section
variable {X:Cx} {pins:List (Addr×Obj)} {σ:St} {H:Hp} {s:Shared}
theorem Inv.uc{a:Addr}{o:Obj}{ae:List (Key×V)}(I:Inv X pins σ H s)(h:H a=some (.bg o (.dK ae))):∃vs,KV ae vs∧s.heap.DictAt (cM X.prog X.w) a vs (ub o):=by
 obtain ⟨g,_,_,vs,r,o',es,ep,g',c,d,rest⟩:=(show a_ X.prog X.w H s.heap a (.bg o (.dK ae)) from I.ar a _ h)
 rw [g] at g'
 cases g'
 refine ⟨vs,r,o,es,g,c,?_,rest⟩
 rw [d]
 unfold ub
 rw [d]
end
theorem E9{P:Program}{w:World}{K:PySem.W.Frag}{tg:Expr}(a it:Addr)(o:Obj)(ae:List (Key×V)):Turn P w K tg (ky a o ae) [it] it (fun i h=>h.IsKeyIter it a i ae.length (ub o)) where
 mem:=by simp
 obj:=fun i h st b hb=>by
  have e:b=it:=by simpa using hb
  subst e
  obtain ⟨o,e,c,d⟩:=st
  exact ⟨o,e,fun v z=>by rw [d] at z;cases z⟩
 keep:=fun i h h' st k=>by
  obtain ⟨o,e,c,d⟩:=st
  exact ⟨o,k it (by simp) o e,c,d⟩
 item:=by
  intro X hP hw hK hc i pins s σ H E I hf st hg
  subst hP hw hK
  obtain ⟨eH,hi⟩:=hg
  obtain ⟨vs,r,hm⟩:=I.uc eH
  have lr:ae.length=vs.length:=Paired.length r
  have ek:ae[i]?=some ae[i]:=by simp [hi]
  obtain ⟨v,ev⟩:=yn r ek
  obtain ⟨f0,f1,f2,f3,f4,f5⟩:=hf it (by simp)
  rw [lr] at st
  refine wpAny_pyNext_dict_item st hm ev fun key h' hk ak sb=>?_
  have I1:Inv X pins σ H {s with heap:=h'}:=I.turned (t':=s.toks) (fun b o hb e=>(sb.2 b hb).trans e) f0 f1 f3 f4 f5
  obtain ⟨o',e,c,d⟩:=id ak
  rw [←lr] at ak
  exact ⟨key,rfl,oD (s:={s with heap:=h'}) e c d (by decide) ⟨kV ae[i].1,H,I1,E8 hk,⟨rfl,_,ek,rfl⟩,ak,fun b hb=>(hf b hb).1⟩⟩
 done:=by
  intro X hP hw hK hc i pins s σ H E I hf st hg
  subst hP hw hK
  obtain ⟨eH,hi⟩:=hg
  obtain ⟨vs,r,hm⟩:=I.uc eH
  have lr:ae.length=vs.length:=Paired.length r
  obtain ⟨f0,f1,f2,f3,f4,f5⟩:=hf it (by simp)
  rw [lr] at st
  exact wpAny_pyNext_dict_end (I.ok.hd hc) st hm (by simp;omega) fun h' eb=>⟨rfl,I.turned (t':=s.toks) (fun b o hb e=>eb b o hb e) f0 f1 f3 f4 f5⟩
 self:=fun _ _ _ _ _ st h=>wpAny_pyIter_keyiter st h
section
variable {X:Cx} {tg:Expr}
def E_(tl:TE):TI:=fun σ H R=>tl σ H fun x H1=>∃a ae,x=.ref a∧((H1 a=some (.dK ae)∧∀o,R (ky a o ae) (upd H1 a (.bg o (.dK ae))))∨∃o,H1 a=some (.bg o (.dK ae))∧R (ky a o ae) H1)
theorem Fb{l:Expr}{tl:TE}(hl:PE X l tl):PI X tg l (E_ tl):=by
 intro pins s σ H R I h
 refine ay (hl pins s σ H _ I h) fun v s1 ⟨x,H1,I1,r1,q1⟩=>?_
 obtain ⟨a,ae,e,q⟩:=q1
 subst e
 cases r1
 have main:∀{H2:Hp} {o:Obj},Inv X pins σ H2 s1→H2 a=some (.bg o (.dK ae))→R (ky a o ae) H2→wpAny (model X.prog X.w) X.A (pyIter (.ref a)) (rM X pins σ tg R) X.xe s1:=fun{H2 o} I2 eH q=>by
  obtain ⟨vs,r,hm⟩:=I2.uc eH
  obtain ⟨_,_,sys,_⟩:=(show a_ X.prog X.w H2 s1.heap a (.bg o (.dK ae)) from I2.ar a _ eH)
  have lr:ae.length=vs.length:=Paired.length r
  refine wpAny_pyIter_dict sys hm ?_
  refine ⟨s1.heap.objs.size,[s1.heap.objs.size],_,_,H2,rfl,I2.kept (t':=s1.toks) fun b o e=>Heap.get?_push_of_some _ e,E9 a _ o ae,⟨_,Heap.get?_push_size _ rfl,rfl,by rw [lr];rfl⟩,fun b hb=>?_,q⟩
  have e:b=s1.heap.objs.size:=by simpa using hb
  subst e
  exact I2.mF (Nat.le_refl _) (I2.ar.fresh (Nat.le_refl _))
 rcases q with ⟨eH,q⟩ | ⟨o,eH,q⟩
 ·obtain ⟨hz,sys,vs,r,o,es,ep,g,c,d,rest⟩:=(show a_ X.prog X.w H1 s1.heap a (.dK ae) from I1.ar a _ eH)
  refine main (H2:=upd H1 a (.bg o (.dK ae))) ?_ aq (q o)
  exact I1.write (t':=s1.toks) (x:=a) (e:=a) (by rw [eH];exact trivial) (.inl rfl) (fun b u _ e=>e) ⟨o,g⟩ ⟨g,hz,sys,vs,r,o,es,ep,g,c,d,rest⟩
 ·exact main I1 eH q
end
theorem yo:∀{us:List Value} {ns:List Int},IntsAre us ns→Vals (ns.map V.int) us
 | _,_,.nil=>.nil
 | _,_,.cons a u r=>.cons ⟨u,rfl⟩ (yo r)
def Fc:List V→Hp→VK→Prop:=fun xs H Q=>∃(a:Addr) (zs:List Int),xs=[.ref a]∧H a=some (.lst (zs.map V.int))∧zs.length<64∧∀(ws:List Int) (D:Addr),ws.Perm zs→ws.Pairwise (·≤·)→H D=none→Q (.ref D) (upd H D (.lst (ws.map V.int)))
theorem yp{X:Cx}:dg X (.builtin "sorted") Fc:=by
 intro pins s σ H xs us Q I r h
 obtain ⟨a,zs,rfl,ha,pY,k⟩:=h
 obtain ⟨u,rfl,ru⟩:=vals1 r
 cases ru
 obtain ⟨ai,rv,pl,hz⟩:=I.list (.of ha)
 have hl:=rv.length
 rw [List.length_map] at hl
 refine sorted_ints pl.isList (intsAre_of rv) (by omega) fun out yq a1 a2 a3=>?_
 obtain ⟨e,he⟩:=sortedAll_at s.heap ai out
 refine ⟨.ref (s.heap.objs.size+1),_,I.laid (t':=s.toks) (o:=.lst (yq.map .int)) (fun _ _=>sortedAll_old) (Nat.le_succ _) ⟨?_,out.toList,e,yo a1,?_⟩,rfl,k yq _ a2 a3 (I.ar.fresh (Nat.le_succ _))⟩
 ·rw [List.length_map,a2.length_eq]
  rw [sizeLine_eq];omega
 ·simpa using he
end L2
namespace My
open PySem L2
def dk(ks:List Nat):List (Key×V):=ks.map fun k:Nat=>((Sum.inl (k:Int):Key),V.bl true)
def bF(ks:List Nat)(k:Nat):List Nat:=if k∈ks then ks else ks++[k]
theorem yr{a b:Nat}:((Sum.inl (a:Int):Key)=Sum.inl (b:Int))↔a=b:=by
 constructor
 ·intro h
  have:=Sum.inl.inj h
  omega
 ·rintro rfl;rfl
theorem yt(ks:List Nat):(dk ks).length=ks.length:=List.length_map _
theorem Fd(ks:List Nat)(k:Nat):((dk ks).any fun kv=>decide (kv.1=(Sum.inl (k:Int):Key)))=decide (k∈ks):=by
 rw [Bool.eq_iff_iff,List.any_eq_true,decide_eq_true_iff]
 constructor
 ·rintro ⟨kv,h1,h2⟩
  obtain ⟨j,hj,rfl⟩:=List.mem_map.mp h1
  have:=yr.mp (of_decide_eq_true h2)
  subst this
  exact hj
 ·intro h
  exact ⟨_,List.mem_map.mpr ⟨k,h,rfl⟩,decide_eq_true rfl⟩
theorem yu(ks:List Nat)(k:Nat):putK (dk ks) (Sum.inl (k:Int):Key) (V.bl true)=dk (bF ks k):=by
 unfold putK bF
 rw [Fd]
 by_cases h:k∈ks
 ·rw [if_pos (decide_eq_true h),if_pos h]
  unfold dk
  rw [List.map_map]
  refine List.map_congr_left fun j _=>?_
  show (if _ then _ else _)=_
  split <;> rfl
 ·rw [if_neg (by rw [decide_eq_true_iff];exact h),if_neg h]
  unfold dk
  rw [List.map_append]
  rfl
theorem yv(ks:List Nat)(k:Nat):eF (dk ks) (Sum.inl (k:Int):Key)=if k∈ks then some (V.bl true) else none:=by
 induction ks with
 | nil=>simp [dk,eF]
 | cons j r ih=>
  by_cases h:j=k
  ·subst h
   rw [if_pos (List.mem_cons_self ..)]
   exact pZ rfl
  ·show eF ((Sum.inl (j:Int),V.bl true)::dk r) _=_
   rw [p9 (fun e=>h (yr.mp e)),ih]
   by_cases m:k∈r
   ·rw [if_pos m,if_pos (List.mem_cons_of_mem _ m)]
   ·rw [if_neg m,if_neg (fun x=>by rcases List.mem_cons.mp x with e | e;exact h e.symm;exact m e)]
theorem d6{ks:List Nat}{k j:Nat}:j∈bF ks k↔j∈ks∨j=k:=by
 unfold bF
 by_cases h:k∈ks
 ·rw [if_pos h]
  constructor
  ·exact .inl
  ·rintro (e | rfl)
   ·exact e
   ·exact h
 ·rw [if_neg h,List.mem_append,List.mem_singleton]
theorem Fe{ks:List Nat}{k:Nat}(h:ks.Nodup):(bF ks k).Nodup:=by
 unfold bF
 by_cases m:k∈ks
 ·rw [if_pos m];exact h
 ·rw [if_neg m]
  refine List.nodup_append.mpr ⟨h,(by simp),fun a ha b hb=>?_⟩
  rw [List.mem_singleton] at hb
  subst hb
  rintro rfl
  exact m ha
def e9(n:Nat)(ks:List Nat):Prop:=ks.Nodup∧∀k∈ks,k<n
theorem e9.nil(n:Nat):e9 n []:=⟨List.nodup_nil,fun _ h=>by cases h⟩
theorem e9.add{n k:Nat}{ks:List Nat}(h:e9 n ks)(hk:k<n):e9 n (bF ks k):=⟨Fe h.1,fun j hj=>by
 rcases d6.mp hj with e | rfl
 ·exact h.2 j e
 ·exact hk⟩
theorem ud:∀{n:Nat} {ks:List Nat},ks.Nodup→(∀k∈ks,k<n)→ks.length≤n
 | 0,ks,_,h=>by
  cases ks with
  | nil=>exact Nat.le_refl _
  | cons a r=>exact absurd (h a (List.mem_cons_self ..)) (Nat.not_lt_zero _)
 | n+1,ks,nd,h=>by
  have e:=ud (n:=n) (ks:=ks.erase n) (nd.erase n) (fun k hk=>by
   have m:=(List.Nodup.mem_erase_iff nd).mp hk
   have:=h k m.2
   have:=m.1
   omega)
  by_cases hm:n∈ks
  ·have:=List.length_erase_of_mem hm
   omega
  ·rw [List.erase_of_not_mem hm] at e
   omega
theorem e9.len{n:Nat}{ks:List Nat}(h:e9 n ks):ks.length≤n:=ud h.1 h.2
structure b_ (H:Hp) (D:Addr) (n:Nat) (ds:Nat→Addr) (un:Nat→Prop) (f:Nat→List Nat):Prop where
 lst:H D=some (.lst ((List.range n).map fun i=>V.ref (ds i)))
 inj:∀i j,i<n→j<n→ds i=ds j→i=j
 ne:∀i,i<n→ds i≠D
 at':∀i,i<n→un i→H (ds i)=some (.dK (dk (f i)))
 pl:∀i,i<n→e9 n (f i)
def b6(f:Nat→List Nat)(i:Nat)(ks:List Nat):Nat→List Nat:=fun j=>if j=i then ks else f j
theorem b_.put{H:Hp}{D:Addr}{n:Nat}{ds:Nat→Addr}{un:Nat→Prop}{f:Nat→List Nat}(h:b_ H D n ds un f){i j:Nat}(hi:i<n)(hj:j<n)(ui:un i)(hn:n≤1000) :
  ja H (ds i) (.int (j:Int)) (.bl true) (upd H (ds i) (.dK (dk (bF (f i) j))))∧b_ (upd H (ds i) (.dK (dk (bF (f i) j)))) D n ds un (b6 f i (bF (f i) j)):=by
 refine ⟨.inl ⟨dk (f i),Sum.inl (j:Int),h.at' i hi ui,rfl,?_,by rw [yu]⟩,?_,h.inj,h.ne,fun k hk uk=>?_,fun k hk=>?_⟩
 ·rw [yt]
  have:=(h.pl i hi).len
  exact Nat.lt_of_le_of_lt this (Nat.lt_of_le_of_lt hn (by rw [sizeLine_eq];decide))
 ·rw [aC (Ne.symm (h.ne i hi))]
  exact h.lst
 ·unfold b6
  by_cases e:k=i
  ·subst e
   rw [if_pos rfl,aq]
  ·rw [if_neg e,aC (fun z=>e (h.inj k i hk hi z))]
   exact h.at' k hk uk
 ·unfold b6
  by_cases e:k=i
  ·rw [if_pos e];exact (h.pl i hi).add hj
  ·rw [if_neg e];exact h.pl k hk
theorem b_.ix{H:Hp}{D:Addr}{n:Nat}{ds:Nat→Addr}{un:Nat→Prop}{f:Nat→List Nat}(h:b_ H D n ds un f){i:Nat}(hi:i<n):eR ((List.range n).map fun i=>V.ref (ds i)) (i:Int)=some (V.ref (ds i)):=
 iR (by rw [List.getElem?_map,List.getElem?_range hi];rfl)
def fX(n:Nat)(L:List (Int×Int)):Prop:=∀p∈L,0≤p.1∧p.1<(n:Int)∧0≤p.2∧p.2<(n:Int)
def cR(n:Nat)(L:List (Int×Int))(f:Nat→List Nat):Prop:=∀i j:Nat,i<n→(j∈f i↔((i:Int),(j:Int))∈L∨((j:Int),(i:Int))∈L)
theorem cR.nil(n:Nat):cR n [] (fun _=>[]):=fun i j _=>by simp
theorem cR.more{n:Nat}{L:List (Int×Int)}{f:Nat→List Nat}(h:cR n L f){i j:Nat}(hi:i<n)(hj:j<n):cR n (L++[((i:Int),(j:Int))]) (b6 (b6 f i (bF (f i) j)) j (bF (b6 f i (bF (f i) j) j) i)):=fun a b ha=>by
 have e1:∀x y:Nat,y∈b6 f i (bF (f i) j) x↔y∈f x∨(x=i∧y=j):=fun x y=>by
  unfold b6
  by_cases e:x=i
  ·subst e
   rw [if_pos rfl,d6]
   simp
  ·rw [if_neg e]
   simp [e]
 have e2:b∈b6 (b6 f i (bF (f i) j)) j (bF (b6 f i (bF (f i) j) j) i) a↔b∈b6 f i (bF (f i) j) a∨(a=j∧b=i):=by
  unfold b6
  by_cases e:a=j
  ·subst e
   rw [if_pos rfl,d6]
   simp
  ·rw [if_neg e]
   simp [e]
 rw [e2,e1,h a b ha]
 simp only [List.mem_append,List.mem_singleton,Prod.mk.injEq]
 constructor
 ·rintro ((e | e) | ⟨rfl,rfl⟩)
  ·rcases e with e | e
   ·exact .inl (.inl e)
   ·exact .inr (.inl e)
  ·exact .inl (.inr ⟨by omega,by omega⟩)
  ·exact .inr (.inr ⟨rfl,rfl⟩)
 ·rintro ((e | ⟨e1,e2⟩) | (e | ⟨e1,e2⟩))
  ·exact .inl (.inl (.inl e))
  ·exact .inl (.inr ⟨by omega,by omega⟩)
  ·exact .inl (.inl (.inr e))
  ·exact .inr ⟨by omega,by omega⟩
def Ff:Sp:=fun vs H Q _=>∃(t:Addr) (n:Nat) (L:List (Int×Int)),vs=[.ref t]∧bY H t n L∧fX n L∧n≤1000 ∧
 ∀(H':Hp) (D:Addr) (ds:Nat→Addr) (f:Nat→List Nat),aj H H'→H D=none→(∀i,i<n→H (ds i)=none)→b_ H' D n ds (fun _=>True) f→cR n L f→Q (.ref D) H'
end My
namespace L2
open PySem PySem.Spec PyProof.Rows
def Fg(K:PySem.W.Frag):R2:=fun x y H Q=>∃(a b:Addr) (xs ys:List Int),x=.ref a∧y=.ref b∧aX K H a (xs.map V.int)∧aX K H b (ys.map V.int)∧Q (.bl (decide (xs=ys))) H
theorem Fh{X:Cx}(hu:X.A.units+64<cLine):b3 X (compareOp .Eq) (Fg X.K):=by
 intro pins s σ H x y v u Q I rx ry h
 obtain ⟨a,b,xs,ys,rfl,rfl,h1,h2,q⟩:=h
 cases rx
 cases ry
 obtain ⟨us,r1,t1,_⟩:=I.list h1
 obtain ⟨vs,r2,t2,_⟩:=I.list h2
 have l1:=r1.length
 have l2:=r2.length
 rw [List.length_map] at l1 l2
 by_cases hl:xs.length=ys.length
 ·refine SeqAt.RcAt.lists (e:=fun j=>eU (.int (xs.getD j 0)) (.int (ys.getD j 0))) t1.isList t2.isList (by simp;omega) (by omega) (fun j z1 z2=>?_) _ _ _ _ ?_
  ·have pO:j<us.length:=by simpa using z1
   have Ma:j<vs.length:=by simpa using z2
   have ex:(xs.map V.int)[j]?=some (.int (xs.getD j 0)):=by
    rw [List.getElem?_map,List.getD_eq_getElem?_getD]
    simp [show j<xs.length by omega]
   have ey:(ys.map V.int)[j]?=some (.int (ys.getD j 0)):=by
    rw [List.getElem?_map,List.getD_eq_getElem?_getD]
    simp [show j<ys.length by omega]
   obtain ⟨x',mr,rx⟩:=r1.get ex
   obtain ⟨y',tm,ry⟩:=r2.get ey
   have e1:us.toArray[j]=x':=by simpa using (List.getElem?_eq_some_iff.mp mr).2
   have e2:vs.toArray[j]=y':=by simpa using (List.getElem?_eq_some_iff.mp tm).2
   rw [e1,e2]
   exact oQ rx ry rfl rfl
  ·rw [show us.toArray.size=xs.length by simp;omega,DJ hl]
   exact ⟨.bl (decide (xs=ys)),H,I,rfl,q⟩
 ·rw [decide_eq_false (fun e=>hl (by rw [e]))] at q
  refine SeqAt.RcAt.lists_lengths t1.isList t2.isList ?_ (by omega) _ _ _ _ ⟨.bl false,H,I,rfl,q⟩
  simp
  omega
end L2
namespace My
open PySem L2
def iN(k:Nat):Int:=(k:Int)
def fD(zs:List Int)(n:Nat):Prop:=zs.Perm ((List.range n).map iN)
instance (zs:List Int) (n:Nat):Decidable (fD zs n):=by unfold fD;exact inferInstance
theorem Fi(n:Nat):((List.range n).map iN).Pairwise (·≤·):=by
 rw [List.pairwise_map]
 exact List.Pairwise.imp (fun h=>by unfold iN;omega) List.pairwise_lt_range
theorem Fj{ws zs:List Int}{n:Nat}(p:ws.Perm zs)(o:ws.Pairwise (·≤·)):decide (ws=(List.range n).map iN)=decide (fD zs n):=by
 by_cases h:fD zs n
 ·rw [decide_eq_true h]
  refine decide_eq_true ?_
  exact (p.trans h).eq_of_pairwise (fun a b _ _ h1 h2=>by omega) o (Fi n)
 ·rw [decide_eq_false h]
  refine decide_eq_false fun e=>h ?_
  subst e
  exact p.symm
def Fl:Sp:=fun vs H Q _=>∃(a:Addr) (zs:List Int) (n:Nat),vs=[.ref a,.int (n:Int)]∧H a=some (.lst (zs.map V.int))∧zs.length<64∧n≤1000∧(∀H',aj H H'→Q (.bl (decide (fD zs n))) H')
def Fm(N:Addr):Sp:=fun vs H Q E=>∃(a:Addr) (zs:List Int) (n:Nat),vs=[.ref a,.int (n:Int)]∧H a=some (.lst (zs.map V.int))∧zs.length<64∧n≤1000 ∧
 (¬fD zs n→∀H',aj H H'→E (.ref N) none H')∧(fD zs n→∀H',aj H H'→Q .aF H')
def Fn(H:Hp)(a:Addr)(n:Nat)(o:List Nat):Prop:=H a=some (.lst (o.map fun k:Nat=>V.int (k:Int)))∧o.Perm (List.range n)
def Fo:Sp:=fun vs H Q _=>∃(a:Addr) (n:Nat) (o:List Nat),vs=[.ref a]∧Fn H a n o∧n≤1000 ∧
 ∀(r:Addr) (H':Hp),aj H H'→H r=none→H' r=some (.lst ((List.range n).map fun p=>V.int (o.idxOf p:Int)))→Q (.ref r) H'
theorem Fp{H H1:Hp}(s:aj H H1){D:Addr}(e:H1 D=none):H D=none:=by
 cases z:H D with
 | none=>rfl
 | some o=>rw [s _ _ z] at e;cases e
theorem qc{H H1:Hp}(s:aj H H1){D:Addr}{o:HO}(e:H1 D=none):aj H (upd H1 D o):=dW s (Fp s e)
theorem yw{n k:Nat}(h:k<n):gy n (k:Int)=some k:=by
 unfold gy
 rw [if_pos (by omega),if_pos (by omega),Int.toNat_natCast]
def e_(o:List Nat)(k p:Nat):Int:=if o.idxOf p<k then (o.idxOf p:Int) else 0
theorem jb{n:Nat}{o:List Nat}(h:o.Perm (List.range n)):o.Nodup:=h.nodup_iff.mpr List.nodup_range
theorem ik{n:Nat}{o:List Nat}(h:o.Perm (List.range n)):o.length=n:=by rw [h.length_eq,List.length_range]
theorem dq{n:Nat}{o:List Nat}(h:o.Perm (List.range n)){p:Nat}:p∈o↔p<n:=by rw [h.mem_iff,List.mem_range]
theorem nC{o:List Nat}(nd:o.Nodup){k:Nat}(hk:k<o.length):o.idxOf o[k]=k:=nd.idxOf_getElem k hk
theorem ir{o:List Nat}{p:Nat}(h:p∈o):∃hk:o.idxOf p<o.length,o[o.idxOf p]=p:=⟨List.idxOf_lt_length_of_mem h,List.getElem_idxOf _⟩
theorem Fq{n:Nat}{o:List Nat}(h:o.Perm (List.range n)){k:Nat}(hk:k<o.length):((List.range n).map fun p=>V.int (e_ o k p)).set o[k] (.int (k:Int))=(List.range n).map fun p=>V.int (e_ o (k+1) p):=by
 have nd:=jb h
 refine List.ext_getElem (by simp) fun q h1 h2=>?_
 have hq:q<n:=by simpa using h2
 rw [List.getElem_set]
 by_cases e:o[k]=q
 ·rw [if_pos e]
  simp only [List.getElem_map,List.getElem_range]
  unfold e_
  rw [←e,nC nd hk,if_pos (Nat.lt_succ_self k)]
 ·rw [if_neg e]
  simp only [List.getElem_map,List.getElem_range]
  unfold e_
  have ne:o.idxOf q≠k:=fun z=>by
   obtain ⟨hz,ez⟩:=ir ((dq h).mpr hq)
   subst z
   exact e ez
  by_cases z:o.idxOf q<k
  ·rw [if_pos z,if_pos (by omega)]
  ·rw [if_neg z,if_neg (by omega)]
theorem Fs(n:Nat)(o:List Nat):(List.replicate n [V.int 0]).flatten=(List.range n).map fun p=>V.int (e_ o 0 p):=by
 have e:∀n:Nat,(List.replicate n [V.int 0]).flatten=List.replicate n (V.int 0):=fun n=>by
  induction n with
  | zero=>rfl
  | succ n ih=>rw [List.replicate_succ,List.flatten_cons,ih];rfl
 rw [e]
 refine List.ext_getElem (by simp) fun q h1 h2=>?_
 simp [e_]
theorem Ft{n:Nat}{o:List Nat}(h:o.Perm (List.range n)):(List.range n).map (fun p=>V.int (e_ o o.length p))=(List.range n).map fun p=>V.int (o.idxOf p:Int):=by
 refine List.map_congr_left fun p hp=>?_
 unfold e_
 rw [if_pos (List.idxOf_lt_length_of_mem ((dq h).mpr (List.mem_range.mp hp)))]
def iu(n:Nat)(ds:Nat→Addr)(un:Nat→Prop)(H H':Hp):Prop:=∀b o,H b=some o→(∀i,i<n→un i→b≠ds i)→H' b=some o
theorem iu.refl{n:Nat}{ds:Nat→Addr}{un:Nat→Prop}{H:Hp}:iu n ds un H H:=fun _ _ h _=>h
theorem iu.put{n:Nat}{ds:Nat→Addr}{un:Nat→Prop}{H H1:Hp}(h:iu n ds un H H1){i:Nat}(hi:i<n)(ui:un i){o:HO}:iu n ds un H (upd H1 (ds i) o):=fun b u e k=>by
 rw [aC (k i hi ui)]
 exact h b u e k
theorem take_snoc{α:Type}{xs:List α}{i:Nat}{x:α}(h:xs[i]?=some x):xs.take (i+1)=xs.take i++[x]:=by rw [List.take_succ,h];rfl
def dr(n:Nat)(f:Nat→List Nat)(ps:List Nat)(i j:Nat)(g:Nat→List Nat):Prop:=∀a b:Nat,a<n→(b∈g a↔b∈f a∨(a≠b∧(a∈ps.take i∧b∈ps∨ps[i]?=some a∧b∈ps.take j)))
theorem dr.start(n:Nat)(f:Nat→List Nat)(ps:List Nat):dr n f ps 0 0 f:=fun a b _=>by simp
theorem dr.row{n:Nat}{f g:Nat→List Nat}{ps:List Nat}{i:Nat}(h:dr n f ps i ps.length g):dr n f ps (i+1) 0 g:=fun a b ha=>by
 rw [h a b ha,List.take_length]
 cases e:ps[i]? with
 | none=>
  have:ps.length≤i:=List.getElem?_eq_none_iff.mp e
  rw [List.take_of_length_le this,List.take_of_length_le (by omega)]
  simp
 | some x=>
  rw [take_snoc e]
  simp only [List.mem_append,List.mem_singleton,Option.some.injEq,List.take_zero,List.not_mem_nil,and_false,or_false]
  constructor
  ·rintro (z | ⟨z,z1 | z1⟩)
   ·exact .inl z
   ·exact .inr ⟨z,.inl z1.1,z1.2⟩
   ·exact .inr ⟨z,.inr z1.1.symm,z1.2⟩
  ·rintro (z | ⟨z,z1 | z1,z2⟩)
   ·exact .inl z
   ·exact .inr ⟨z,.inl ⟨z1,z2⟩⟩
   ·exact .inr ⟨z,.inr ⟨z1.symm,z2⟩⟩
theorem dr.same{n:Nat}{f g:Nat→List Nat}{ps:List Nat}{i j x:Nat}(h:dr n f ps i j g)(hi:ps[i]?=some x)(hj:ps[j]?=some x):dr n f ps i (j+1) g:=fun a b ha=>by
 rw [h a b ha,take_snoc hj]
 simp only [List.mem_append,List.mem_singleton,hi,Option.some.injEq]
 constructor
 ·rintro (z | ⟨z,z1 | z1⟩)
  ·exact .inl z
  ·exact .inr ⟨z,.inl z1⟩
  ·exact .inr ⟨z,.inr ⟨z1.1,.inl z1.2⟩⟩
 ·rintro (z | ⟨z,z1 | ⟨z1,z2 | z2⟩⟩)
  ·exact .inl z
  ·exact .inr ⟨z,.inl z1⟩
  ·exact .inr ⟨z,.inr ⟨z1,z2⟩⟩
  ·exact absurd (z1.symm.trans z2.symm) z
theorem dr.put{n:Nat}{f g:Nat→List Nat}{ps:List Nat}{i j x y:Nat}(h:dr n f ps i j g)(hi:ps[i]?=some x)(hj:ps[j]?=some y)(ne:x≠y):dr n f ps i (j+1) (b6 g x (bF (g x) y)):=fun a b ha=>by
 have e1:b∈b6 g x (bF (g x) y) a↔b∈g a∨(a=x∧b=y):=by
  unfold b6
  by_cases e:a=x
  ·subst e
   rw [if_pos rfl,d6]
   simp
  ·rw [if_neg e]
   simp [e]
 rw [e1,h a b ha,take_snoc hj]
 simp only [List.mem_append,List.mem_singleton,hi,Option.some.injEq]
 constructor
 ·rintro ((z | ⟨z,z1 | z1⟩) | ⟨rfl,rfl⟩)
  ·exact .inl z
  ·exact .inr ⟨z,.inl z1⟩
  ·exact .inr ⟨z,.inr ⟨z1.1,.inl z1.2⟩⟩
  ·exact .inr ⟨ne,.inr ⟨rfl,.inr rfl⟩⟩
 ·rintro (z | ⟨z,z1 | ⟨z1,z2 | z2⟩⟩)
  ·exact .inl (.inl z)
  ·exact .inl (.inr ⟨z,.inl z1⟩)
  ·exact .inl (.inr ⟨z,.inr ⟨z1,z2⟩⟩)
  ·exact .inr ⟨z1.symm,z2⟩
theorem dr.done{n:Nat}{f g:Nat→List Nat}{ps:List Nat}(h:dr n f ps ps.length 0 g):∀a b:Nat,a<n→(b∈g a↔b∈f a∨(a≠b∧a∈ps∧b∈ps)):=fun a b ha=>by
 rw [h a b ha,List.take_length]
 simp
def Fu:Sp:=fun vs H Q _=>∃(D pl:Addr) (n:Nat) (ds:Nat→Addr) (un:Nat→Prop) (f:Nat→List Nat) (ps:List Nat),vs=[.ref D,.ref pl]∧b_ H D n ds un f∧H pl=some (.lst (ps.map fun k:Nat=>V.int (k:Int)))∧(∀p∈ps,p<n∧un p)∧n≤1000 ∧
 ∀(H':Hp) (g:Nat→List Nat),iu n ds un H H'→b_ H' D n ds un g→(∀a b:Nat,a<n→(b∈g a↔b∈f a∨(a≠b∧a∈ps∧b∈ps)))→Q .aF H'
theorem b_.mono{H H':Hp}{D:Addr}{n:Nat}{ds:Nat→Addr}{un:Nat→Prop}{f:Nat→List Nat}(h:b_ H D n ds un f)(s:aj H H'):b_ H' D n ds un f:=⟨s _ _ h.lst,h.inj,h.ne,fun i hi ui=>s _ _ (h.at' i hi ui),h.pl⟩
theorem b_.less{H:Hp}{D:Addr}{n:Nat}{ds:Nat→Addr}{un yy:Nat→Prop}{f:Nat→List Nat}(h:b_ H D n ds un f)(k:∀i,i<n→yy i→un i):b_ H D n ds yy f:=⟨h.lst,h.inj,h.ne,fun i hi ui=>h.at' i hi (k i hi ui),h.pl⟩
theorem b_.upd{H:Hp}{D:Addr}{n:Nat}{ds:Nat→Addr}{un:Nat→Prop}{f:Nat→List Nat}(h:b_ H D n ds un f){x:Addr}{o:HO}(n1:x≠D)(n2:∀i,i<n→un i→ds i≠x):b_ (upd H x o) D n ds un f:=⟨by rw [aC (Ne.symm n1)];exact h.lst,h.inj,h.ne,fun i hi ui=>by rw [aC (n2 i hi ui)];exact h.at' i hi ui,h.pl⟩
theorem Fv{a:Addr}{o:Obj}{ae:List (Key×V)}{H1:Hp}(h:H1 a=some (.bg o (.dK ae))):gG (ky a o ae) (ae.map fun kv=>kV kv.1) H1 where
 go:=fun i Hc s hi=>⟨s _ _ h,by simpa using hi⟩
 cW:=fun i Hc x H' s y=>⟨y.1,fun _=>by
  obtain ⟨kv,e,rfl⟩:=y.2
  rw [List.getElem?_map,e]
  rfl⟩
 stop:=fun i Hc s hi=>⟨s _ _ h,by simpa using hi⟩
theorem Fw(ks:List Nat):(dk ks).map (fun kv=>kV kv.1)=ks.map fun k:Nat=>V.int (k:Int):=by
 unfold dk
 rw [List.map_map]
 rfl
theorem Fx(ks:List Nat):(List.range ks.length).map (fun i=>ks.getD i 0)=ks:=by
 refine List.ext_getElem (by simp) fun i h1 h2=>?_
 simp [List.getD_eq_getElem?_getD,h2]
theorem Fy(ks:List Nat)(pr:Nat→Bool):((List.range ks.length).filter fun i=>pr (ks.getD i 0)).map (fun i=>ks.getD i 0)=ks.filter pr:=by
 have e:=List.filter_map (f:=fun i=>ks.getD i 0) (l:=List.range ks.length) (p:=pr)
 rw [Fx] at e
 exact e.symm
theorem Fz{ρ:St→St}{tt:TT}{te:TE}{σ:St}{H:Hp}{Q:VK}{ks:List Nat}{a:Addr}{ob:Obj}(h:H a=some (.bg ob (.dK (dk ks))))(pr:Nat→Bool)(hl:ks.length<sizeLine)
  (test:∀k∈ks,∀(Hc:Hp) (R:Bool→Hp→Prop),aj H Hc→R (pr k) Hc→tt (some (.int (k:Int))::ρ σ) Hc R)
  (step:∀k∈ks,∀(Hc:Hp) (R:VK),R (.int (k:Int)) Hc→te (some (.int (k:Int))::ρ σ) Hc R)
  (fin:∀D Hc,H D=none→aj H Hc→Hc D=some (.lst ((ks.filter pr).map fun k:Nat=>V.int (k:Int)))→Q (.ref D) Hc):en (fun _ H R=>R (ky a ob (dk ks)) H) ρ tt te σ H Q:=by
 have at':∀{i:Nat} {x:V},(ks.map fun k:Nat=>V.int (k:Int))[i]?=some x→i<ks.length∧x=.int ((ks.getD i 0:Nat):Int)∧ks.getD i 0∈ks:=fun{i x} hx=>by
  have hi:i<ks.length:=by
   have:=(List.getElem?_eq_some_iff.mp hx).1
   simpa using this
  rw [List.getElem?_map] at hx
  simp [hi] at hx
  rw [getD_at hi]
  exact ⟨hi,hx.symm,List.getElem_mem hi⟩
 refine EK (xs:=ks.map fun k:Nat=>V.int (k:Int)) (fun i=>pr (ks.getD i 0)) (fun R k=>k _ (by rw [←Fw];exact Fv h)) (by rw [List.length_map];exact hl) (fun _ i y _=>y=.int ((ks.getD i 0:Nat):Int)) (fun _ _ _ _ _ _ h _ _=>h) ?_ ?_ ?_
 ·intro i x hx Hc R sc hR
  obtain ⟨_,rfl,m⟩:=at' hx
  exact test _ m Hc R sc hR
 ·intro D i x hx Hc R sc _ kc
  obtain ⟨_,rfl,m⟩:=at' hx
  exact step _ m Hc R (kc _ Hc (aj.refl _) rfl)
 ·intro D ys Hc nD sc ly hP eD
  refine fin D Hc nD sc ?_
  rw [eD,←Fy ks pr,List.map_map]
  rw [List.length_map] at ly hP
  congr 2
  refine List.ext_getElem (by simpa using ly) fun k h1 h2=>?_
  have h3:k<((List.range ks.length).filter fun i=>pr (ks.getD i 0)).length:=by simpa using h2
  rw [List.getElem_map]
  exact hP k _ _ (List.getElem?_eq_getElem h1) (List.getElem?_eq_getElem h3)
theorem yA{ws:List Int}{ks:List Nat}(p:ws.Perm (ks.map iN)):∃ms:List Nat,ws=ms.map iN∧ms.Perm ks:=by
 refine ⟨ws.map Int.toNat,?_,?_⟩
 ·rw [List.map_map]
  conv=>lhs;rw [←List.map_id ws]
  refine List.map_congr_left fun z hz=>?_
  obtain ⟨k,_,rfl⟩:=List.mem_map.mp (p.mem_iff.mp hz)
  show iN k=iN (Int.toNat (iN k))
  unfold iN
  rw [Int.toNat_natCast]
 ·have:=p.map Int.toNat
  rw [List.map_map] at this
  have e:ks.map (Int.toNat ∘ iN)=ks:=by
   conv=>rhs;rw [←List.map_id ks]
   exact List.map_congr_left fun k _=>Int.toNat_natCast k
  rw [e] at this
  exact this
structure fY (n:Nat) (o:List Nat) (p:Nat) (ms:List Nat):Prop where
 up:ms.Pairwise (· < ·)
 lt:∀q∈ms,q<n
 la:∀q∈ms,o.idxOf p<o.idxOf q
theorem FA{n:Nat}{o:List Nat}{p:Nat}{ks ms:List Nat}(hk:e9 n ks)(h:ms.Perm (ks.filter fun q=>decide (o.idxOf p<o.idxOf q)))(s:(ms.map iN).Pairwise (·≤·)):fY n o p ms:=by
 have m:∀q∈ms,q∈ks∧o.idxOf p<o.idxOf q:=fun q hq=>by
  have:=List.mem_filter.mp (h.mem_iff.mp hq)
  exact ⟨this.1,by simpa using this.2⟩
 refine ⟨?_,fun q hq=>hk.2 q (m q hq).1,fun q hq=>(m q hq).2⟩
 have nd:ms.Nodup:=h.nodup_iff.mpr (hk.1.filter _)
 rw [List.pairwise_map] at s
 refine List.Pairwise.imp₂ (fun a b h1 h2=>?_) s nd
 have h1:(a:Int)≤(b:Int):=h1
 have h2:a≠b:=h2
 omega
def yB(H:Hp)(D:Addr)(n:Nat)(rs:Nat→Addr)(g:Nat→List Nat):Prop:=H D=some (.lst ((List.range n).map fun p=>V.ref (rs p)))∧∀p,p<n→H (rs p)=some (.lst ((g p).map fun k:Nat=>V.int (k:Int)))
theorem FC{zs:List Int}{n:Nat}(h:fD zs n):∃o:List Nat,zs=o.map iN∧o.Perm (List.range n):=yA h
def fb(rs:Nat→Addr)(p:Nat)(x:Addr):Nat→Addr:=fun q=>if q=p then x else rs q
theorem FD(n:Nat)(rs:Nat→Addr)(p:Nat)(x:Addr):((List.range n).map fun q=>V.ref (rs q)).set p (.ref x)=(List.range n).map fun q=>V.ref (fb rs p x q):=by
 refine List.ext_getElem (by simp) fun q h1 h2=>?_
 rw [List.getElem_set,List.getElem_map,List.getElem_range,List.getElem_map,List.getElem_range]
 unfold fb
 by_cases e:p=q
 ·subst e
  rw [if_pos rfl,if_pos rfl]
 ·rw [if_neg e,if_neg (Ne.symm e)]
theorem yC{rs:Nat→Addr}{p:Nat}{x:Addr}:fb rs p x p=x:=if_pos rfl
theorem FE{rs:Nat→Addr}{p q:Nat}{x:Addr}(h:q≠p):fb rs p x q=rs q:=if_neg h
theorem FF{f:Nat→List Nat}{p:Nat}{x:List Nat}:b6 f p x p=x:=if_pos rfl
theorem FG{f:Nat→List Nat}{p q:Nat}{x:List Nat}(h:q≠p):b6 f p x q=f q:=if_neg h
theorem iw{n:Nat}{g:Nat→V}{p:Nat}(h:p<n):eR ((List.range n).map g) (p:Int)=some (g p):=iR (by rw [List.getElem?_map,List.getElem?_range h];rfl)
theorem FH(o ks:List Nat)(p:Nat):(ks.filter fun q=>decide ((o.idxOf p:Int)<(o.idxOf q:Int)))=ks.filter fun q=>decide (o.idxOf p<o.idxOf q):=by
 refine List.filter_congr fun q _=>?_
 rw [Bool.eq_iff_iff,decide_eq_true_iff,decide_eq_true_iff]
 omega
theorem gO{n:Nat}{o:List Nat}(h:o.Perm (List.range n)){p q:Nat}(hp:p<n)(hq:q<n)(ne:p≠q):o.idxOf p≠o.idxOf q:=fun z=>by
 obtain ⟨h1,e1⟩:=ir ((dq h).mpr hp)
 obtain ⟨h2,e2⟩:=ir ((dq h).mpr hq)
 refine ne ?_
 rw [←e1,←e2]
 congr 1
theorem yE{wi:TI}{ρ:St→St}{tt:TT}{te:TE}{σ:St}{H:Hp}{Q:VK}(h:wi σ H fun J H1=>en (fun _ H R=>R J H) ρ tt te σ H1 Q):en wi ρ tt te σ H Q:=h
end My
namespace L2
open PySem PySem.Spec PyProof.Rows
section
variable {X:Cx} {pins:List (Addr×Obj)} {σ:St} {H:Hp} {s:Shared}
end
end L2
namespace My
open PySem L2
theorem ue{n:Nat}{o:List Nat}(h:o.Perm (List.range n)){p:Nat}{ms:List Nat}(k:fY n o p ms):ms.length≤n-1-o.idxOf p:=by
 have nd:(ms.map fun q=>o.idxOf q-(o.idxOf p+1)).Nodup:=by
  rw [List.nodup_iff_pairwise_ne,List.pairwise_map]
  refine List.Pairwise.imp_of_mem (fun{a b} ha hb lt=>?_) k.up
  have h1:=k.la a ha
  have h2:=k.la b hb
  have ne:=gO h (k.lt a ha) (k.lt b hb) (Nat.ne_of_lt lt)
  omega
 have:=ud (n:=n-1-o.idxOf p) nd (fun x hx=>by
  obtain ⟨q,hq,rfl⟩:=List.mem_map.mp hx
  have h1:=k.la q hq
  have h2:=(ir ((dq h).mpr (k.lt q hq))).1
  rw [ik h] at h2
  omega)
 rwa [List.length_map] at this
theorem yF{f g:Nat→Nat}:∀{l:List Nat},(∀p∈l,f p≤g p)→(l.map f).sum≤(l.map g).sum
 | [],_=>Nat.le_refl _
 | a::r,h=>by
  have h1:=h a (List.mem_cons_self ..)
  have h2:=yF (l:=r) fun p hp=>h p (List.mem_cons_of_mem _ hp)
  simp only [List.map_cons,List.sum_cons]
  omega
def bR(p q:Nat):Int×Int:=(if (q:Int)<(p:Int) then (q:Int) else (p:Int),if (q:Int)>(p:Int) then (q:Int) else (p:Int))
theorem uf{n p q:Nat}(hp:p<n)(hq:q<n):0≤(bR p q).2∧(bR p q).2<(n:Int):=by
 unfold bR
 dsimp only
 split <;> omega
theorem aN.app{H:Hp}{xs ys:List V}{M N:List (Int×Int)}(h:aN H xs M)(h':aN H ys N):aN H (xs++ys) (M++N):=by
 have l1:=h.1
 have l2:=h'.1
 refine ⟨by simp [l1,l2],fun k v p h1 h2=>?_⟩
 by_cases e:k<xs.length
 ·rw [List.getElem?_append_left e] at h1
  rw [List.getElem?_append_left (by omega)] at h2
  exact h.2 k v p h1 h2
 ·rw [List.getElem?_append_right (by omega)] at h1
  rw [List.getElem?_append_right (by omega),←l1] at h2
  exact h'.2 _ v p h1 h2
theorem FI{g:Nat→Nat}{n k:Nat}(h:k≤n):((List.range k).map g).sum≤((List.range n).map g).sum:=by
 induction n with
 | zero=>rw [Nat.le_zero.mp h];exact Nat.le_refl _
 | succ n ih=>
  by_cases e:k=n+1
  ·subst e;exact Nat.le_refl _
  ·have:=ih (by omega)
   rw [List.range_succ,List.map_append,List.sum_append]
   omega
end My
namespace L2
open PySem PySem.Spec PyProof.Rows
theorem FJ{X:Cx}{E:XK}(L:mR X E):PassesOwn (model X.prog X.w) X.A X.env X.xe:=by
 rw [L.xe]
 exact PassesOwn.leaving
end L2
namespace My
open PySem L2
def FK:Sp:=fun vs H Q _=>∃m:Nat,vs=[.int (m:Int)]∧m≤1000∧Q (.int ((m:Int)*m+3*m+1)) H
end My
namespace L2
open PySem PySem.Spec PyProof.Rows
end L2
namespace My
open PySem L2
end My
namespace L2
open PySem PySem.Spec PyProof.Rows
end L2
namespace My
open PySem L2
end My
namespace L2
open PySem PySem.Spec PyProof.Rows
theorem FL{X:Cx}{K:PySem.W.Frag}(hk:X.K=K:=by rfl):b3 X (compareOp .In) (w_ K false):=by
 subst hk
 exact xb
end L2
namespace My
open PySem L2
def ug:V→Nat
 | .int i=>i.toNat
 | _=>0
theorem FN{ys:List V}{n:Nat}(p:ys.Perm (bx n)):∃o:List Nat,ys=o.map (fun k:Nat=>V.int (k:Int))∧o.Perm (List.range n):=by
 refine ⟨ys.map ug,?_,?_⟩
 ·rw [List.map_map]
  conv=>lhs;rw [←List.map_id ys]
  refine List.map_congr_left fun y hy=>?_
  obtain ⟨k,_,rfl⟩:=List.mem_map.mp (p.mem_iff.mp hy)
  show V.int (k:Int)=V.int (((k:Int).toNat:Nat):Int)
  rw [Int.toNat_natCast]
 ·have:=p.map ug
  unfold bx at this
  rw [List.map_map] at this
  have e:(List.range n).map (ug ∘ fun i:Nat=>V.int (i:Int))=List.range n:=by
   conv=>rhs;rw [←List.map_id (List.range n)]
   exact List.map_congr_left fun k _=>Int.toNat_natCast k
  rw [e] at this
  exact this
theorem Mb(xs:List V)(k:Nat)(h:k≤xs.length):eQ xs none (some (k:Int))=xs.take k:=by
 unfold eQ HT.cK
 simp only
 rw [if_neg (by omega),Int.toNat_natCast,Nat.min_eq_left h,Nat.sub_zero]
 rfl
theorem FO(xs:List V)(k:Nat)(h:k≤xs.length):eQ xs (some (k:Int)) none=xs.drop k:=by
 unfold eQ HT.cK
 simp only
 rw [if_neg (by omega),Int.toNat_natCast,Nat.min_eq_left h]
 exact List.take_of_length_le (by rw [List.length_drop];exact Nat.le_refl _)
inductive iy (aU:Nat→Nat→Prop) (aT:Nat→Prop) (s:Nat):Nat→Prop where
 | start:iy aU aT s s
 | step {a b:Nat}:iy aU aT s a→(a=s∨aT a)→aU a b→iy aU aT s b
structure cz (n:Nat) (aU:Nat→Nat→Prop) (aT:Nat→Prop) (s:Nat) (here:Option Nat) (dn:Nat→Prop) (ks ws:List Nat):Prop where
 pl:e9 n ks
 st:s∈ks
 rc:∀k∈ks,iy aU aT s k
 wt:∀w∈ws,w∈ks∧(w=s∨aT w)
 cl:∀k∈ks,(k=s∨aT k)→k∈ws∨∀b,aU k b→b∈ks∨(here=some k∧¬dn b)
variable {n:Nat} {aU:Nat→Nat→Prop} {aT:Nat→Prop} {s:Nat}
theorem cz.start(hs:s<n){dn:Nat→Prop}:cz n aU aT s none dn [s] [s]:=
 ⟨⟨by simp,fun k hk=>by rw [List.mem_singleton.mp hk];exact hs⟩,List.mem_singleton.mpr rfl,fun k hk=>by rw [List.mem_singleton.mp hk];exact .start,fun w hw=>⟨hw,.inl (List.mem_singleton.mp hw)⟩,fun k hk _=>.inl hk⟩
theorem cz.pop{dn:Nat→Prop}{ks ws:List Nat}{h:Nat}(k:cz n aU aT s none dn ks (ws++[h])):cz n aU aT s (some h) (fun _=>False) ks ws:=
 ⟨k.pl,k.st,k.rc,fun w hw=>k.wt w (List.mem_append_left _ hw),fun x hx ox=>by
  rcases k.cl x hx ox with e | e
  ·rcases List.mem_append.mp e with e | e
   ·exact .inl e
   ·exact .inr fun b _=>.inr ⟨by rw [List.mem_singleton.mp e],fun z=>z⟩
  ·exact .inr fun b hb=>.inl ((e b hb).resolve_right fun z=>by cases z.1)⟩
theorem cz.old{h b:Nat}{dn:Nat→Prop}{ks ws:List Nat}(k:cz n aU aT s (some h) dn ks ws)(hb:b∈ks):cz n aU aT s (some h) (fun x=>dn x∨x=b) ks ws:=
 ⟨k.pl,k.st,k.rc,k.wt,fun x hx ox=>by
  rcases k.cl x hx ox with e | e
  ·exact .inl e
  ·refine .inr fun c hc=>?_
   rcases e c hc with e | e
   ·exact .inl e
   ·by_cases z:c=b
    ·rw [z];exact .inl hb
    ·exact .inr ⟨e.1,fun q=>q.elim e.2 z⟩⟩
theorem cz.new{h b:Nat}{dn:Nat→Prop}{ks ws vs:List Nat}(k:cz n aU aT s (some h) dn ks ws)(hb:b∉ks)(bn:b<n)(hh:h∈ks)(oh:h=s∨aT h)(ab:aU h b)(hv:(aT b∧vs=ws++[b])∨(¬aT b∧vs=ws)):cz n aU aT s (some h) (fun x=>dn x∨x=b) (bF ks b) vs:=by
 have bs:b≠s:=fun z=>hb (z▸k.st)
 have sub:∀w∈ws,w∈vs:=fun w hw=>by
  rcases hv with ⟨_,rfl⟩ | ⟨_,rfl⟩
  ·exact List.mem_append_left _ hw
  ·exact hw
 refine ⟨k.pl.add bn,d6.mpr (.inl k.st),fun x hx=>?_,fun w hw=>?_,fun x hx ox=>?_⟩
 ·rcases d6.mp hx with e | rfl
  ·exact k.rc x e
  ·exact .step (k.rc h hh) oh ab
 ·rcases hv with ⟨tb,rfl⟩ | ⟨_,rfl⟩
  ·rcases List.mem_append.mp hw with e | e
   ·exact ⟨d6.mpr (.inl (k.wt w e).1),(k.wt w e).2⟩
   ·rw [List.mem_singleton.mp e]
    exact ⟨d6.mpr (.inr rfl),.inr tb⟩
  ·exact ⟨d6.mpr (.inl (k.wt w hw).1),(k.wt w hw).2⟩
 ·rcases d6.mp hx with e | rfl
  ·rcases k.cl x e ox with e | e
   ·exact .inl (sub x e)
   ·refine .inr fun c hc=>?_
    rcases e c hc with e | e
    ·exact .inl (d6.mpr (.inl e))
    ·by_cases z:c=b
     ·exact .inl (d6.mpr (.inr z))
     ·exact .inr ⟨e.1,fun q=>q.elim e.2 z⟩
  ·rcases hv with ⟨tb,rfl⟩ | ⟨tb,rfl⟩
   ·exact .inl (List.mem_append_right _ (List.mem_singleton.mpr rfl))
   ·exact absurd ox (fun z=>z.elim bs tb)
theorem cz.next{h:Nat}{dn FP:Nat→Prop}{ks ws:List Nat}(k:cz n aU aT s (some h) dn ks ws)(all:∀b,aU h b→dn b):cz n aU aT s none FP ks ws:=
 ⟨k.pl,k.st,k.rc,k.wt,fun x hx ox=>by
  rcases k.cl x hx ox with e | e
  ·exact .inl e
  ·refine .inr fun c hc=>.inl ?_
   rcases e c hc with e | ⟨e,e2⟩
   ·exact e
   ·cases e
    exact absurd (all c hc) e2⟩
theorem cz.done{dn:Nat→Prop}{ks:List Nat}(k:cz n aU aT s none dn ks [])(x:Nat):x∈ks↔iy aU aT s x:=by
 refine ⟨k.rc x,fun h=>?_⟩
 induction h with
 | start=>exact k.st
 | step _ o ab ih=>
  rcases k.cl _ ih o with e | e
  ·cases e
  ·exact (e _ ab).resolve_right fun z=>by cases z.1
theorem FQ{ks:List Nat}{b:Nat}(h:b∉ks):(bF ks b).length=ks.length+1:=by
 unfold bF
 rw [if_neg h,List.length_append]
 rfl
end My
namespace L2
open PySem PySem.Spec PyProof.Rows
end L2
namespace My
open PySem L2
def iz(n:Nat)(f:Nat→List Nat)(a b:Nat):Prop:=a<n∧b∈f a
theorem uh(done:List Nat)(k:Nat):iS (.int (k:Int)) (done.map fun k:Nat=>V.int (k:Int))=decide (k∈done):=by
 unfold iS
 rw [Bool.eq_iff_iff,List.any_eq_true,decide_eq_true_iff]
 constructor
 ·rintro ⟨y,hy,e⟩
  obtain ⟨j,hj,rfl⟩:=List.mem_map.mp hy
  have e:((j:Int) == (k:Int))=true:=e
  rw [beq_iff_eq] at e
  have:j=k:=by omega
  subst this
  exact hj
 ·intro h
  exact ⟨_,List.mem_map.mpr ⟨k,h,rfl⟩,pB rfl⟩
theorem FR(done:List Nat):(done.map fun k:Nat=>V.int (k:Int)).all ei=true:=by
 rw [List.all_eq_true]
 intro x hx
 obtain ⟨j,_,rfl⟩:=List.mem_map.mp hx
 rfl
def dI(g:Nat→List Nat)(i j:Nat):Nat→List Nat:=b6 g i (g i++[j])
theorem yG{g:Nat→List Nat}{i j a b:Nat}:b∈dI g i j a↔b∈g a∨(a=i∧b=j):=by
 unfold dI b6
 by_cases e:a=i
 ·subst e
  rw [if_pos rfl,List.mem_append,List.mem_singleton]
  simp
 ·rw [if_neg e]
  simp [e]
theorem uj{g:Nat→List Nat}{i j a:Nat}:(dI g i j a).length≤(g a).length+1:=by
 unfold dI b6
 by_cases e:a=i
 ·subst e
  rw [if_pos rfl,List.length_append]
  exact Nat.le_refl _
 ·rw [if_neg e];omega
theorem cR.snoc{n:Nat}{L:List (Int×Int)}{g:Nat→List Nat}(h:cR n L g){i j:Nat}:cR n (L++[((i:Int),(j:Int))]) (dI (dI g i j) j i):=fun a b ha=>by
 rw [yG,yG,h a b ha]
 simp only [List.mem_append,List.mem_singleton,Prod.mk.injEq]
 constructor
 ·rintro (((e | e) | ⟨rfl,rfl⟩) | ⟨rfl,rfl⟩)
  ·exact .inl (.inl e)
  ·exact .inr (.inl e)
  ·exact .inl (.inr ⟨rfl,rfl⟩)
  ·exact .inr (.inr ⟨rfl,rfl⟩)
 ·rintro ((e | ⟨e1,e2⟩) | (e | ⟨e1,e2⟩))
  ·exact .inl (.inl (.inl e))
  ·exact .inl (.inr ⟨by omega,by omega⟩)
  ·exact .inl (.inl (.inr e))
  ·exact .inr ⟨by omega,by omega⟩
structure fE (H:Hp) (D:Addr) (n:Nat) (rs:Nat→Addr) (g:Nat→List Nat):Prop where
 lst:H D=some (.lst ((List.range n).map fun i=>V.ref (rs i)))
 inj:∀i j,i<n→j<n→rs i=rs j→i=j
 ne:∀i,i<n→rs i≠D
 at':∀i,i<n→H (rs i)=some (.lst ((g i).map fun k:Nat=>V.int (k:Int)))
theorem fE.snoc{H:Hp}{D:Addr}{n:Nat}{rs:Nat→Addr}{g:Nat→List Nat}(h:fE H D n rs g){i:Nat}(j:Nat)(hi:i<n):fE (upd H (rs i) (.lst (((g i).map fun k:Nat=>V.int (k:Int))++[V.int (j:Int)]))) D n rs (dI g i j):=by
 refine ⟨by rw [aC (Ne.symm (h.ne i hi))];exact h.lst,h.inj,h.ne,fun a ha=>?_⟩
 unfold dI b6
 by_cases e:a=i
 ·subst e
  rw [if_pos rfl,aq,List.map_append]
  rfl
 ·rw [if_neg e,aC (fun z=>e (h.inj a i ha hi z))]
  exact h.at' a ha
def FT:Sp:=fun vs H Q _=>∃(D d:Addr) (n:Nat) (rs:Nat→Addr) (g:Nat→List Nat) (done:List Nat) (p:Nat),vs=[.ref D,.ref d,.int (p:Int)]∧fE H D n rs g∧(∀i,i<n→∀j∈g i,j<n)∧H d=some (.lst (done.map fun k:Nat=>V.int (k:Int)))∧done.length≤1000∧p<n∧n≤60 ∧
 ∀(H':Hp) (mt:Addr) (ks:List Nat),aj H H'→H mt=none→H' mt=some (.dK (dk ks))→e9 n ks→(∀x,x∈ks↔iy (iz n g) (·∈done) p x)→Q (.ref mt) H'
end My
namespace L2
open PySem PySem.Spec PyProof.Rows
end L2
namespace My
open PySem L2
end My
namespace L2
open PySem PySem.Spec PyProof.Rows My
end L2
namespace My
open PySem L2
def nE(p q:Int×Int):Prop:=p.1*1000+p.2≤q.1*1000+q.2
theorem FU{M:List (Int×Int)}{p:Array Nat}(P:fT M.length p)(U:hZ (fun i=>(M.getD i (0,0)).1*1000+(M.getD i (0,0)).2) p M.length) :
  (p.toList.map fun i=>M.getD i (0,0)).Perm M∧(p.toList.map fun i=>M.getD i (0,0)).Pairwise nE:=by
 have pm:p.toList.Perm (List.range M.length):=Array.perm_iff_toList_perm.mp P
 have lt:∀i∈p.toList,i<M.length:=fun i hi=>List.mem_range.mp (pm.mem_iff.mp hi)
 refine ⟨?_,?_⟩
 ·have e:((List.range M.length).map fun i=>M.getD i (0,0))=M:=by
   refine List.ext_getElem (by simp) fun i h1 h2=>?_
   rw [List.getElem_map,List.getElem_range,getD_at h2]
  have:=pm.map fun i=>M.getD i (0,0)
  rw [e] at this
  exact this
 ·rw [List.pairwise_iff_getElem]
  intro i j hi hj tG
  rw [List.length_map] at hi hj
  rw [List.getElem_map,List.getElem_map]
  have sz:=P.size
  have u:=U i j (by omega) (by rw [←sz,←Array.length_toList];exact hj)
  unfold vN at u
  have gi:p.getD i 0=p.toList[i]:=by
   have:i<p.size:=by rw [←Array.length_toList];exact hi
   simp [Array.getD,this]
  have gj:p.getD j 0=p.toList[j]:=by
   have:j<p.size:=by rw [←Array.length_toList];exact hj
   simp [Array.getD,this]
  rw [gi,gj] at u
  exact u
theorem yH{H:Hp}{l:Addr}{us:List V}{M:List (Int×Int)}{Q:VK}(el:H l=some (.lst us))(hM:aN H us M)(Mc:M.length<1000)(b:∀q∈M,0≤q.2∧q.2<1000)
  (k:∀(l':Addr) (ws:List V) (N:List (Int×Int)) (H':Hp),aj H H'→H l'=none→H' l'=some (.lst ws)→aN H' ws N→N.Perm M→N.Pairwise nE→Q (.ref l') H'):x5 [.ref l] H Q:=by
 have lX:=hM.1
 refine ⟨l,us,fun i=>(M.getD i (0,0)).1,fun i=>(M.getD i (0,0)).2,rfl,el,by omega,fun i v hv=>?_,fun p l' hp hu jc=>?_⟩
 ·have hi:i<M.length:=by
   rw [←lX]
   exact (List.getElem?_eq_some_iff.mp hv).1
  obtain ⟨c,rfl,ec⟩:=hM.2 i v M[i] hv (by simp [hi])
  dsimp only
  rw [getD_at hi]
  exact ⟨⟨c,rfl,ec⟩,b _ (List.getElem_mem hi)⟩
 ·rw [lX] at hp hu
  obtain ⟨pm,pw⟩:=FU hp hu
  have hP:aN H (p.toList.map fun i=>us.getD i .aF) (p.toList.map fun i=>M.getD i (0,0)):=hM.pick _ fun i hi=>by
   have:p.toList.Perm (List.range M.length):=Array.perm_iff_toList_perm.mp hp
   exact List.mem_range.mp (this.mem_iff.mp hi)
  exact k l' _ _ _ (aQ jc) jc aq (hP.mono (aQ jc)) pm pw
end My
namespace L2
open PySem PySem.Spec PyProof.Rows My
end L2
namespace My
open PySem L2
inductive Wk (aU:Nat→Nat→Prop) (aT:Nat→Prop) (s:Nat):Nat→Prop where
 | one {b:Nat}:aU s b→Wk aU aT s b
 | more {a b:Nat}:Wk aU aT s a→aT a→aU a b→Wk aU aT s b
section
variable {aU:Nat→Nat→Prop} {aT nF:Nat→Prop} {s t:Nat}
theorem FV(t:Nat):iy aU aT s t↔t=s∨Wk aU aT s t:=by
 constructor
 ·intro h
  induction h with
  | start=>exact .inl rfl
  | step _ o ab ih=>
   rcases ih with rfl | w
   ·exact .inr (.one ab)
   ·rcases o with rfl | o
    ·exact .inr (.one ab)
    ·exact .inr (.more w o ab)
 ·rintro (rfl | h)
  ·exact .start
  ·induction h with
   | one ab=>exact .step .start (.inl rfl) ab
   | more _ o ab ih=>exact .step ih (.inr o) ab
theorem Wk.mono(h:Wk aU aT s t)(k:∀x,aT x→nF x):Wk aU nF s t:=by
 induction h with
 | one ab=>exact .one ab
 | more _ o ab ih=>exact .more ih (k _ o) ab
theorem Wk.imp{yI:Nat→Nat→Prop}(h:Wk aU aT s t)(k:∀a b,aU a b→yI a b):Wk yI aT s t:=by
 induction h with
 | one ab=>exact .one (k _ _ ab)
 | more _ o ab ih=>exact .more ih o (k _ _ ab)
theorem Wk.cons{a:Nat}(ab:aU s a)(ta:aT a)(h:Wk aU aT a t):Wk aU aT s t:=by
 induction h with
 | one e=>exact .more (.one ab) ta e
 | more _ o e ih=>exact .more ih o e
theorem Wk.symm(sy:∀a b,aU a b→aU b a)(h:Wk aU aT s t):Wk aU aT t s:=by
 induction h with
 | one ab=>exact .one (sy _ _ ab)
 | more _ o ab ih=>exact ih.cons (sy _ _ ab) o
theorem Wk.trans{p:Nat}(h:Wk aU aT s p)(tp:aT p)(h':Wk aU aT p t):Wk aU aT s t:=by
 induction h' with
 | one ab=>exact .more h tp ab
 | more _ o ab ih=>exact .more ih o ab
theorem Wk.step{p:Nat}(k:∀x,nF x↔aT x∨x=p):Wk aU nF s t↔Wk aU aT s t∨(Wk aU aT s p∧Wk aU aT p t):=by
 constructor
 ·intro h
  induction h with
  | one ab=>exact .inl (.one ab)
  | more _ o ab ih=>
   rcases (k _).mp o with o | rfl
   ·rcases ih with ih | ⟨i1,i2⟩
    ·exact .inl (.more ih o ab)
    ·exact .inr ⟨i1,.more i2 o ab⟩
   ·rcases ih with ih | ⟨i1,_⟩
    ·exact .inr ⟨ih,.one ab⟩
    ·exact .inr ⟨i1,.one ab⟩
 ·have m:∀x,aT x→nF x:=fun x h=>(k x).mpr (.inl h)
  rintro (h | ⟨h,h'⟩)
  ·exact h.mono m
  ·exact (h.mono m).trans ((k p).mpr (.inr rfl)) (h'.mono m)
end
def aL(n:Nat)(L:List (Int×Int))(a b:Nat):Prop:=a<n∧b<n∧(((a:Int),(b:Int))∈L∨((b:Int),(a:Int))∈L)
theorem kA{n:Nat}{L:List (Int×Int)}(a b:Nat)(h:aL n L a b):aL n L b a:=⟨h.2.1,h.1,h.2.2.symm⟩
def kB(L:List (Int×Int)):Prop:=∀p∈L,p.1≠p.2
def cf(n:Nat)(o:List Nat)(k x:Nat):Prop:=x<n∧o.idxOf x<k
def jd(n:Nat)(L:List (Int×Int))(o:List Nat)(k:Nat)(f:Nat→List Nat):Prop:=∀a b:Nat,a<n→b<n→k≤o.idxOf a→k≤o.idxOf b→(b∈f a↔a≠b∧Wk (aL n L) (cf n o k) a b)
theorem jd.start{n:Nat}{L:List (Int×Int)}{o:List Nat}{f:Nat→List Nat}(nb:cR n L f)(ns:kB L):jd n L o 0 f:=fun a b ha hb _ _=>by
 rw [nb a b ha]
 constructor
 ·intro h
  refine ⟨fun e=>?_,.one ⟨ha,hb,h⟩⟩
  subst e
  rcases h with h | h <;> exact ns _ h rfl
 ·rintro ⟨_,h⟩
  cases h with
  | one ab=>exact ab.2.2
  | more _ o _=>exact absurd o.2 (Nat.not_lt_zero _)
theorem jd.step{n:Nat}{L:List (Int×Int)}{o:List Nat}(ho:o.Perm (List.range n)){k p:Nat}{f g:Nat→List Nat}{ms:List Nat}(h:jd n L o k f)(hp:p<n)(ip:o.idxOf p=k)(hm:∀q,q∈ms↔q∈f p∧k<o.idxOf q)(ml:∀q∈ms,q<n)
  (con:∀a b:Nat,a<n→(b∈g a↔b∈f a∨(a≠b∧a∈ms∧b∈ms))):jd n L o (k+1) g:=fun a b ha hb ka kb=>by
 have th:∀x,cf n o (k+1) x↔cf n o k x∨x=p:=fun x=>by
  unfold cf
  constructor
  ·rintro ⟨h1,h2⟩
   by_cases e:o.idxOf x=k
   ·right
    by_cases z:x=p
    ·exact z
    ·exact absurd (e.trans ip.symm) (gO ho h1 hp z)
   ·exact .inl ⟨h1,by omega⟩
  ·rintro (⟨h1,h2⟩ | rfl)
   ·exact ⟨h1,by omega⟩
   ·exact ⟨hp,by omega⟩
 have ap:a≠p:=fun e=>by subst e;omega
 have bp:b≠p:=fun e=>by subst e;omega
 have ea:=h p a hp ha (by omega) (by omega)
 have eb:=h p b hp hb (by omega) (by omega)
 rw [con a b ha,h a b ha hb (by omega) (by omega),hm a,hm b,ea,eb,Wk.step th]
 constructor
 ·rintro (⟨h1,h2⟩ | ⟨h1,⟨⟨_,h2⟩,_⟩,⟨_,h3⟩,_⟩)
  ·exact ⟨h1,.inl h2⟩
  ·exact ⟨h1,.inr ⟨h2.symm kA,h3⟩⟩
 ·rintro ⟨h1,h2 | ⟨h2,h3⟩⟩
  ·exact .inl ⟨h1,h2⟩
  ·exact .inr ⟨h1,⟨⟨Ne.symm ap,h2.symm kA⟩,by omega⟩,⟨Ne.symm bp,h3⟩,by omega⟩
def je(n:Nat)(L:List (Int×Int))(o:List Nat)(p:Nat)(ms:List Nat):Prop:=∀q,q∈ms↔q<n∧o.idxOf p<o.idxOf q∧Wk (aL n L) (cf n o (o.idxOf p)) p q
def FW(N:Addr):Sp:=fun vs H Q E=>∃(t a:Addr) (n:Nat) (L:List (Int×Int)) (zs:List Int),vs=[.ref t,.ref a]∧bY H t n L∧fX n L∧kB L∧n≤60∧H a=some (.lst (zs.map V.int))∧zs.length<64 ∧
 (¬fD zs n→∀H',aj H H'→E (.ref N) none H') ∧
 ∀o:List Nat,zs=o.map iN→o.Perm (List.range n)→∀(H':Hp) (D:Addr) (rs:Nat→Addr) (g:Nat→List Nat),aj H H'→H D=none→(∀p,p<n→H (rs p)=none)→yB H' D n rs g→(∀p,p<n→fY n o p (g p)∧je n L o p (g p))→Q (.ref D) H'
theorem qd{p q p' q':Nat}(h:bR p q=bR p' q'):(p=p'∧q=q')∨(p=q'∧q=p'):=by
 unfold bR at h
 have h1:=congrArg Prod.fst h
 have h2:=congrArg Prod.snd h
 dsimp only at h1 h2
 split at h1 <;> split at h1 <;> split at h2 <;> split at h2 <;> omega
def dJ(n:Nat)(L:List (Int×Int))(o:List Nat)(M:List (Int×Int)):Prop:=M.Pairwise lexLt∧∀z,z∈M↔∃p q:Nat,p<n∧q<n∧o.idxOf p<o.idxOf q∧Wk (aL n L) (cf n o (o.idxOf p)) p q∧z=bR p q
theorem dJ.lt{n:Nat}{L:List (Int×Int)}{o:List Nat}{M:List (Int×Int)}(h:dJ n L o M):∀z∈M,0≤z.1∧z.1<z.2∧z.2<(n:Int):=fun z hz=>by
 obtain ⟨p,q,hp,hq,hi,_,rfl⟩:=(h.2 z).mp hz
 have ne:p≠q:=fun e=>by subst e;omega
 unfold bR
 dsimp only
 split <;> split <;> omega
theorem yJ{N:List (Int×Int)}(h:N.Pairwise nE)(nd:N.Nodup)(b:∀q∈N,0≤q.2∧q.2<1000):N.Pairwise lexLt:=by
 have:=List.Pairwise.and h nd
 refine List.Pairwise.imp_of_mem (fun{x y} hx hy FX=>?_) this
 obtain ⟨h1,h2⟩:=FX
 have b1:=b x hx
 have b2:=b y hy
 obtain ⟨x1,x2⟩:=x
 obtain ⟨y1,y2⟩:=y
 unfold nE at h1
 unfold lexLt
 dsimp only at *
 by_cases z:x1<y1
 ·exact .inl z
 ·right
  have e1:x1=y1:=by omega
  subst e1
  refine ⟨rfl,?_⟩
  by_cases y:x2=y2
  ·subst y
   exact absurd rfl h2
  ·omega
theorem FY{n:Nat}{o:List Nat}(h:o.Perm (List.range n))(n9:n≤30){g:Nat→List Nat}(k:∀p,p<n→fY n o p (g p)):((List.range n).map fun p=>(g p).length).sum≤435:=by
 have a:=yF (l:=List.range n) (f:=fun p=>(g p).length) (g:=fun p=>n-1-o.idxOf p) fun p hp=>ue h (k p (List.mem_range.mp hp))
 have b:((List.range n).map fun p=>n-1-o.idxOf p).sum=(o.map fun p=>n-1-o.idxOf p).sum:=((h.map _).symm).sum_nat
 have c:(o.map fun p=>n-1-o.idxOf p)=(List.range n).map fun k=>n-1-k:=by
  have nd:=jb h
  refine List.ext_getElem (by simp [ik h]) fun i h1 h2=>?_
  rw [List.getElem_map,List.getElem_map,List.getElem_range,nC nd (by simpa using h1)]
 have d:∀n:Nat,n≤30→((List.range n).map fun k=>n-1-k).sum≤435:=by decide
 rw [c] at b
 have:=d n n9
 omega
structure qe (H:Hp) (g:Nat→List Nat) (k:Nat) (xs:List V) (M:List (Int×Int)):Prop where
 at':aN H xs M
 len:M.length=((List.range k).map fun p=>(g p).length).sum
 mem:∀z,z∈M↔∃p q:Nat,p<k∧q∈g p∧z=bR p q
 nd:M.Nodup
theorem qe.more{H H':Hp}{n:Nat}{o:List Nat}{g:Nat→List Nat}{k:Nat}{xs ys:List V}{M:List (Int×Int)}(h:qe H g k xs M)(s:aN H xs M→aN H' xs M)(hk:k<n)(hg:∀p,p<n→fY n o p (g p))(hy:aN H' ys ((g k).map (bR k))):qe H' g (k+1) (xs++ys) (M++(g k).map (bR k)):=by
 have gk:=hg k hk
 refine ⟨(s h.at').app hy,by rw [List.length_append,h.len,List.length_map,List.range_succ,List.map_append,List.sum_append];simp,fun z=>?_,?_⟩
 ·rw [List.mem_append,h.mem,List.mem_map]
  constructor
  ·rintro (⟨p,q,h1,h2,h3⟩ | ⟨q,h1,rfl⟩)
   ·exact ⟨p,q,by omega,h2,h3⟩
   ·exact ⟨k,q,by omega,h1,rfl⟩
  ·rintro ⟨p,q,h1,h2,rfl⟩
   by_cases e:p=k
   ·subst e
    exact .inr ⟨q,h2,rfl⟩
   ·exact .inl ⟨p,q,by omega,h2,rfl⟩
 ·refine List.nodup_append.mpr ⟨h.nd,?_,fun a ha b hb e=>?_⟩
  ·refine nq (List.Pairwise.imp (fun h=>Nat.ne_of_lt h) gk.up) fun q q' hq o7 e=>?_
   rcases qd e with ⟨_,e⟩ | ⟨e1,e2⟩
   ·exact e
   ·omega
  ·subst e
   obtain ⟨p,q,h1,h2,rfl⟩:=(h.mem a).mp ha
   obtain ⟨q',o7,e⟩:=List.mem_map.mp hb
   rcases qd e with ⟨e1,e2⟩ | ⟨e1,e2⟩
   ·omega
   ·have l1:=(hg p (by omega)).la q h2
    have l2:=gk.la q' o7
    subst e1
    subst e2
    omega
def FZ(N:Addr):Sp:=fun vs H Q E=>∃(t a:Addr) (n:Nat) (L:List (Int×Int)) (zs:List Int),vs=[.ref t,.ref a]∧bY H t n L∧fX n L∧kB L∧n≤30∧H a=some (.lst (zs.map V.int))∧zs.length<64 ∧
 (¬fD zs n→∀H',aj H H'→E (.ref N) none H') ∧
 ∀o:List Nat,zs=o.map iN→o.Perm (List.range n)→∀(H':Hp) (t':Addr) (M:List (Int×Int)),aj H H'→H t'=none→bY H' t' n M→dJ n L o M→M.length≤435→Q (.ref t') H'
structure cS (n:Nat) (L:List (Int×Int)) (o:List Nat) (k j:Nat) (M:List (Int×Int)):Prop where
 mem:∀z,z∈M↔∃p q:Nat,p<n∧q<n∧o.idxOf p<o.idxOf q∧Wk (aL n L) (cf n o (o.idxOf p)) p q∧z=bR p q∧(o.idxOf p<k∨(o.idxOf p=k∧o.idxOf q<k+1+j))
 nd:M.Nodup
theorem cS.start(n:Nat)(L:List (Int×Int))(o:List Nat):cS n L o 0 0 []:=⟨fun z=>⟨(fun h=>by cases h),fun⟨p,q,_,_,h,_,_,h'⟩=>by omega⟩,List.nodup_nil⟩
theorem cS.row{n:Nat}{L:List (Int×Int)}{o:List Nat}{k j:Nat}{M:List (Int×Int)}(h:cS n L o k j M)(ho:o.Perm (List.range n))(hj:n≤k+1+j):cS n L o (k+1) 0 M:=⟨fun z=>by
 rw [h.mem]
 constructor
 ·rintro ⟨p,q,h1,h2,h3,h4,h5,h6⟩
  exact ⟨p,q,h1,h2,h3,h4,h5,.inl (by omega)⟩
 ·rintro ⟨p,q,h1,h2,h3,h4,h5,h6⟩
  have:=(ir ((dq ho).mpr h2)).1
  rw [ik ho] at this
  refine ⟨p,q,h1,h2,h3,h4,h5,?_⟩
  by_cases e:o.idxOf p<k
  ·exact .inl e
  ·exact .inr ⟨by omega,by omega⟩,h.nd⟩
theorem cS.skip{n:Nat}{L:List (Int×Int)}{o:List Nat}{k j p q:Nat}{M:List (Int×Int)}(h:cS n L o k j M)(ho:o.Perm (List.range n))(hp:p<n)(hq:q<n)(ip:o.idxOf p=k)(iq:o.idxOf q=k+1+j)(nw:¬Wk (aL n L) (cf n o k) p q):cS n L o k (j+1) M:=⟨fun z=>by
 rw [h.mem]
 constructor
 ·rintro ⟨p,q,h1,h2,h3,h4,h5,h6⟩
  exact ⟨p,q,h1,h2,h3,h4,h5,by omega⟩
 ·rintro ⟨p',q',h1,h2,h3,h4,h5,h6⟩
  refine ⟨p',q',h1,h2,h3,h4,h5,?_⟩
  rcases h6 with h6 | ⟨h6,h7⟩
  ·exact .inl h6
  ·refine .inr ⟨h6,?_⟩
   by_cases e:o.idxOf q'=k+1+j
   ·have e1:p'=p:=by
     by_cases z:p'=p
     ·exact z
     ·exact absurd (h6.trans ip.symm) (gO ho h1 hp z)
    have e2:q'=q:=by
     by_cases z:q'=q
     ·exact z
     ·exact absurd (e.trans iq.symm) (gO ho h2 hq z)
    subst e1
    subst e2
    rw [ip] at h4
    exact absurd h4 nw
   ·omega,h.nd⟩
theorem cS.put{n:Nat}{L:List (Int×Int)}{o:List Nat}{k j p q:Nat}{M:List (Int×Int)}(h:cS n L o k j M)(ho:o.Perm (List.range n))(hp:p<n)(hq:q<n)(ip:o.idxOf p=k)(iq:o.idxOf q=k+1+j)(w:Wk (aL n L) (cf n o k) p q):cS n L o k (j+1) (M++[bR p q]):=by
 refine ⟨fun z=>?_,List.nodup_append.mpr ⟨h.nd,by simp,fun a ha b hb e=>?_⟩⟩
 ·rw [List.mem_append,List.mem_singleton,h.mem]
  constructor
  ·rintro (⟨p,q,h1,h2,h3,h4,h5,h6⟩ | rfl)
   ·exact ⟨p,q,h1,h2,h3,h4,h5,by omega⟩
   ·exact ⟨p,q,hp,hq,by omega,by rw [ip];exact w,rfl,.inr ⟨ip,by omega⟩⟩
  ·rintro ⟨p',q',h1,h2,h3,h4,h5,h6⟩
   by_cases e:o.idxOf p'=k∧o.idxOf q'=k+1+j
   ·right
    have e1:p'=p:=by
     by_cases z:p'=p
     ·exact z
     ·exact absurd (e.1.trans ip.symm) (gO ho h1 hp z)
    have e2:q'=q:=by
     by_cases z:q'=q
     ·exact z
     ·exact absurd (e.2.trans iq.symm) (gO ho h2 hq z)
    rw [h5,e1,e2]
   ·exact .inl ⟨p',q',h1,h2,h3,h4,h5,by omega⟩
 ·subst e
  rw [List.mem_singleton] at hb
  obtain ⟨p',q',h1,h2,h3,h4,h5,h6⟩:=(h.mem a).mp ha
  rw [hb] at h5
  rcases qd h5 with ⟨rfl,rfl⟩ | ⟨rfl,rfl⟩
  ·omega
  ·omega
theorem cS.done{n:Nat}{L:List (Int×Int)}{o:List Nat}{M N:List (Int×Int)}(h:cS n L o n 0 M)(ho:o.Perm (List.range n))(p:N.Perm M)(so:N.Pairwise nE)(n1:n≤1000):dJ n L o N:=by
 have mem:∀z,z∈N↔∃p q:Nat,p<n∧q<n∧o.idxOf p<o.idxOf q∧Wk (aL n L) (cf n o (o.idxOf p)) p q∧z=bR p q:=fun z=>by
  rw [p.mem_iff,h.mem]
  constructor
  ·rintro ⟨p,q,h1,h2,h3,h4,h5,h6⟩
   exact ⟨p,q,h1,h2,h3,h4,h5⟩
  ·rintro ⟨p,q,h1,h2,h3,h4,h5⟩
   have:=(ir ((dq ho).mpr h1)).1
   rw [ik ho] at this
   exact ⟨p,q,h1,h2,h3,h4,h5,.inl this⟩
 refine ⟨yJ so (p.nodup_iff.mpr h.nd) fun z hz=>?_,mem⟩
 obtain ⟨p,q,h1,h2,_,_,rfl⟩:=(mem z).mp hz
 have:=uf h1 h2
 omega
theorem cS.bd{n:Nat}{L:List (Int×Int)}{o:List Nat}{k j:Nat}{M:List (Int×Int)}(h:cS n L o k j M)(n1:n≤1000):∀z∈M,0≤z.2∧z.2<1000:=fun z hz=>by
 obtain ⟨p,q,h1,h2,_,_,rfl,_⟩:=(h.mem z).mp hz
 have:=uf h1 h2
 omega
theorem F0{n:Nat}{L:List (Int×Int)}{o:List Nat}{g:Nat→List Nat}(ho:o.Perm (List.range n))(nb:cR n L g)(eG:fX n L){k p q:Nat}(hk:k≤n)(ne:q≠p):iy (iz n g) (·∈o.take k) p q↔Wk (aL n L) (cf n o k) p q:=by
 have ad:∀a b,iz n g a b↔aL n L a b:=fun a b=>by
  unfold iz aL
  constructor
  ·rintro ⟨h1,h2⟩
   have h3:=(nb a b h1).mp h2
   refine ⟨h1,?_,h3⟩
   rcases h3 with e | e
   ·have:=eG _ e
    omega
   ·have:=eG _ e
    omega
  ·rintro ⟨h1,_,h3⟩
   exact ⟨h1,(nb a b h1).mpr h3⟩
 have th:∀x,x∈o.take k↔cf n o k x:=fun x=>by
  unfold cf
  have nd:=jb ho
  constructor
  ·intro h
   obtain ⟨i,hi,e⟩:=List.mem_take_iff_getElem.mp h
   have aS:i<o.length:=by omega
   refine ⟨(dq ho).mp (List.mem_of_mem_take h),?_⟩
   rw [←e,nC nd aS]
   omega
  ·rintro ⟨h1,h2⟩
   obtain ⟨cP,e⟩:=ir ((dq ho).mpr h1)
   rw [List.mem_take_iff_getElem]
   exact ⟨o.idxOf x,by omega,e⟩
 rw [FV]
 constructor
 ·rintro (e | h)
  ·exact absurd e ne
  ·exact (h.imp fun a b=>(ad a b).mp).mono fun x=>(th x).mp
 ·intro h
  exact .inr ((h.imp fun a b=>(ad a b).mpr).mono fun x=>(th x).mpr)
end My
namespace L2
open PySem PySem.Spec PyProof.Rows
section
variable {X:Cx} {a b:Expr} {rest:List Expr} {pos:Pos} {ta tb:TE}
end
end L2
namespace My
open PySem L2
end My
namespace L2
open PySem PySem.Spec PyProof.Rows
section
variable {prog:Program} {w:World} {A:Around} {E:Value→Shared→Prop} {s:Shared}
end
section
variable {prog:Program} {w:World} {A:Around} {E:Value→Shared→Prop} {s:Shared}
end
section
variable {X:Cx}
end
section
variable {prog:Program} {w:World} {A:Around} {E:Value→Shared→Prop} {s:Shared}
end
end L2
namespace My
open PySem L2
end My
namespace L2
open PySem PySem.Spec PyProof.Rows
end L2
namespace My
open PySem L2
end My
namespace L2
open PySem PySem.Spec PyProof.Rows
section
variable {X:Cx}
end
end L2
namespace My
open PySem L2
def p2(g:Nat→Nat→Nat):List Nat→Nat
 | []=>0
 | x::l=>(l.map (g x)).sum+p2 g l
def p3(f:Nat→Nat→Nat→Nat):List Nat→Nat
 | []=>0
 | x::l=>p2 (f x) l+p3 f l
theorem yK{g:Nat→Nat→Nat}(sy:∀x y,g x y=g y x){l l':List Nat}(p:l.Perm l'):p2 g l=p2 g l':=by
 induction p with
 | nil=>rfl
 | cons x p ih=>simp only [p2,ih];rw [(p.map (g x)).sum_nat]
 | swap x y l=>simp only [p2,List.map_cons,List.sum_cons];rw [sy x y];omega
 | trans _ _ h1 h2=>exact h1.trans h2
theorem F1{f:Nat→Nat→Nat→Nat}(s1:∀x y z,f x y z=f y x z)(s2:∀x y z,f x y z=f x z y){l l':List Nat}(p:l.Perm l'):p3 f l=p3 f l':=by
 induction p with
 | nil=>rfl
 | cons x p ih=>simp only [p3,ih];rw [yK (s2 x) p]
 | swap x y l=>
  simp only [p3,p2]
  rw [show l.map (f y x)=l.map (f x y) from List.map_congr_left fun z _=>s1 y x z]
  omega
 | trans _ _ h1 h2=>exact h1.trans h2
theorem fZ{l:List Nat}{f g:Nat→Nat}(h:∀x∈l,f x=g x):(l.map f).sum=(l.map g).sum:=congrArg List.sum (List.map_congr_left h)
theorem nG{l:List Nat}{f:Nat→Nat}(h:∀x∈l,f x=0):(l.map f).sum=0:=by
 induction l with
 | nil=>rfl
 | cons x l ih=>rw [List.map_cons,List.sum_cons,h x List.mem_cons_self,ih fun y hy=>h y (List.mem_cons_of_mem _ hy)]
theorem F2{l:List Nat}{f g:Nat→Nat}(h:∀x∈l,f x≤g x):(l.map f).sum≤(l.map g).sum:=by
 induction l with
 | nil=>exact Nat.le_refl _
 | cons x l ih=>
  rw [List.map_cons,List.sum_cons,List.map_cons,List.sum_cons]
  have:=h x List.mem_cons_self
  have:=ih fun y hy=>h y (List.mem_cons_of_mem _ hy)
  omega
theorem F3{l:List Nat}{f g:Nat→Nat}:(l.map fun x=>f x+g x).sum=(l.map f).sum+(l.map g).sum:=by
 induction l with
 | nil=>rfl
 | cons x l ih=>simp only [List.map_cons,List.sum_cons,ih];omega
theorem F4{l:List Nat}{b c:Nat}(nd:l.Nodup)(hb:b∈l):(l.map fun y=>if y=b then c else 0).sum=c:=by
 induction l with
 | nil=>cases hb
 | cons x l ih=>
  rw [List.map_cons,List.sum_cons]
  obtain ⟨n1,n2⟩:=List.nodup_cons.mp nd
  rcases List.mem_cons.mp hb with rfl | h
  ·rw [if_pos rfl,nG fun y hy=>if_neg (fun e:y=b=>n1 (e▸hy))]
   omega
  ·rw [if_neg (fun e:x=b=>n1 (e▸h)),ih n2 h]
   omega
theorem um{g g':Nat→Nat→Nat}{l:List Nat}(nd:l.Nodup)(h:∀x∈l,∀y∈l,x≠y→g x y=g' x y):p2 g l=p2 g' l:=by
 induction l with
 | nil=>rfl
 | cons x l ih=>
  obtain ⟨n1,n2⟩:=List.nodup_cons.mp nd
  show (l.map (g x)).sum+p2 g l=(l.map (g' x)).sum+p2 g' l
  rw [fZ fun y hy=>h x List.mem_cons_self y (List.mem_cons_of_mem _ hy) fun e=>n1 (e▸hy),ih n2 fun a ha b hb=>h a (List.mem_cons_of_mem _ ha) b (List.mem_cons_of_mem _ hb)]
theorem uo{g g':Nat→Nat→Nat}{l:List Nat}(h:∀x∈l,∀y∈l,g x y≤g' x y):p2 g l≤p2 g' l:=by
 induction l with
 | nil=>exact Nat.le_refl _
 | cons x l ih=>
  show (l.map (g x)).sum+p2 g l≤(l.map (g' x)).sum+p2 g' l
  exact Nat.add_le_add (F2 fun y hy=>h x List.mem_cons_self y (List.mem_cons_of_mem _ hy)) (ih fun a ha b hb=>h a (List.mem_cons_of_mem _ ha) b (List.mem_cons_of_mem _ hb))
theorem F5{f f':Nat→Nat→Nat→Nat}{l:List Nat}(h:∀x∈l,∀y∈l,∀z∈l,f x y z≤f' x y z):p3 f l≤p3 f' l:=by
 induction l with
 | nil=>exact Nat.le_refl _
 | cons x l ih=>
  show p2 (f x) l+p3 f l≤p2 (f' x) l+p3 f' l
  exact Nat.add_le_add (uo fun y hy z hz=>h x List.mem_cons_self y (List.mem_cons_of_mem _ hy) z (List.mem_cons_of_mem _ hz)) (ih fun a ha b hb c hc=>h a (List.mem_cons_of_mem _ ha) b (List.mem_cons_of_mem _ hb) c (List.mem_cons_of_mem _ hc))
theorem F6{g g':Nat→Nat→Nat}{l:List Nat}:p2 (fun x y=>g x y+g' x y) l=p2 g l+p2 g' l:=by
 induction l with
 | nil=>rfl
 | cons x l ih=>simp only [p2,ih,F3];omega
theorem yL{g:Nat→Nat→Nat}{l:List Nat}(h:∀x∈l,∀y,g x y=0):p2 g l=0:=by
 induction l with
 | nil=>rfl
 | cons x l ih=>
  show (l.map (g x)).sum+p2 g l=0
  rw [nG fun y _=>h x List.mem_cons_self y,ih fun a ha=>h a (List.mem_cons_of_mem _ ha)]
theorem F7{l:List Nat}{a b c:Nat}(pw:l.Pairwise (· < ·))(ha:a∈l)(hb:b∈l)(ab:a<b):p2 (fun i j=>if i=a∧j=b then c else 0) l=c:=by
 induction l with
 | nil=>cases ha
 | cons x l ih=>
  obtain ⟨n1,n2⟩:=List.pairwise_cons.mp pw
  have nd:l.Nodup:=n2.imp fun h=>Nat.ne_of_lt h
  show (l.map fun j=>if x=a∧j=b then c else 0).sum+p2 _ l=c
  rcases List.mem_cons.mp ha with rfl | h
  ·have gP:b∈l:=by
    rcases List.mem_cons.mp hb with rfl | h
    ·omega
    ·exact h
   rw [show (l.map fun j=>if a=a∧j=b then c else 0).sum=(l.map fun y=>if y=b then c else 0).sum from fZ fun y _=>by simp,F4 nd gP,yL fun i hi j=>if_neg fun e=>by
    have:=n1 i hi
    omega]
   omega
  ·have xa:=n1 a h
   have gP:b∈l:=by
    rcases List.mem_cons.mp hb with rfl | h
    ·omega
    ·exact h
   rw [nG fun y _=>if_neg fun e=>by omega,ih n2 h gP]
   omega
theorem nH{g:Nat→Nat→Nat}{l:List Nat}(pw:l.Pairwise (· < ·)):p2 g l=(l.map fun y=>(l.map fun z=>if y<z then g y z else 0).sum).sum:=by
 induction l with
 | nil=>rfl
 | cons x l ih=>
  obtain ⟨n1,n2⟩:=List.pairwise_cons.mp pw
  show (l.map (g x)).sum+p2 g l=_
  rw [List.map_cons,List.sum_cons,List.map_cons,List.sum_cons,if_neg (Nat.lt_irrefl x),ih n2]
  rw [show (l.map fun z=>if x<z then g x z else 0).sum=(l.map (g x)).sum from fZ fun z hz=>if_pos (n1 z hz)]
  rw [show (l.map fun y=>((x::l).map fun z=>if y<z then g y z else 0).sum).sum=(l.map fun y=>(l.map fun z=>if y<z then g y z else 0).sum).sum from fZ fun y hy=>by
   rw [List.map_cons,List.sum_cons,if_neg (by have:=n1 y hy;omega)]
   omega]
  omega
theorem F8{f:Nat→Nat→Nat→Nat}{l:List Nat}(pw:l.Pairwise (· < ·)):p3 f l=p2 (fun x y=>(l.map fun z=>if y<z then f x y z else 0).sum) l:=by
 induction l with
 | nil=>rfl
 | cons x l ih=>
  obtain ⟨n1,n2⟩:=List.pairwise_cons.mp pw
  have nd:l.Nodup:=n2.imp fun h=>Nat.ne_of_lt h
  have one:∀u,∀y∈l,((x::l).map fun z=>if y<z then f u y z else 0).sum=(l.map fun z=>if y<z then f u y z else 0).sum:=fun u y hy=>by
   rw [List.map_cons,List.sum_cons,if_neg (by have:=n1 y hy;omega)]
   omega
  show p2 (f x) l+p3 f l=(l.map fun y=>((x::l).map fun z=>if y<z then f x y z else 0).sum).sum+p2 (fun u y=>((x::l).map fun z=>if y<z then f u y z else 0).sum) l
  rw [ih n2,nH n2,fZ (one x),um nd fun u _ y hy _=>one u y hy]
theorem kC(n:Nat):(List.range n).Pairwise (· < ·):=List.pairwise_lt_range
theorem ur{n:Nat}{W:Nat→Nat→Nat}:∀{M:List (Int×Int)},M.Nodup→(∀z∈M,0≤z.1∧z.1<z.2∧z.2<(n:Int))→(M.map fun z=>W z.1.toNat z.2.toNat).sum=p2 (fun i j=>if ((i:Int),(j:Int))∈M then W i j else 0) (List.range n)
 | [],_,_=>by
  rw [yL fun i _ j=>if_neg fun h=>nomatch h]
  rfl
 | z::M,nd,lt=>by
  obtain ⟨n1,n2⟩:=List.nodup_cons.mp nd
  obtain ⟨z0,z1,z2⟩:=lt z List.mem_cons_self
  rw [List.map_cons,List.sum_cons,ur n2 fun y hy=>lt y (List.mem_cons_of_mem _ hy)]
  have d:=F7 (c:=W z.1.toNat z.2.toNat) (kC n) (a:=z.1.toNat) (b:=z.2.toNat) (List.mem_range.mpr (by omega)) (List.mem_range.mpr (by omega)) (by omega)
  rw [←d,←F6]
  refine um List.nodup_range fun i _ j _ _=>?_
  by_cases e:i=z.1.toNat∧j=z.2.toNat
  ·have ez:((i:Int),(j:Int))=z:=by
    obtain ⟨e1,e2⟩:=e
    subst e1
    subst e2
    rw [Int.toNat_of_nonneg z0,Int.toNat_of_nonneg (by omega)]
   obtain ⟨e1,e2⟩:=e
   have hm:((i:Int),(j:Int))∈z::M:=ez.symm▸List.mem_cons_self
   have hn:¬((i:Int),(j:Int))∈M:=fun h=>n1 (ez▸h)
   rw [if_pos ⟨e1,e2⟩,if_pos hm,if_neg hn,←e1,←e2,Nat.add_zero]
  ·rw [if_neg e]
   have:((i:Int),(j:Int))≠z:=fun h=>e (by subst h;exact ⟨(Int.toNat_natCast i).symm,(Int.toNat_natCast j).symm⟩)
   by_cases h:((i:Int),(j:Int))∈M
   ·rw [if_pos h,if_pos (List.mem_cons_of_mem _ h)]
    omega
   ·rw [if_neg h,if_neg fun h'=>(List.mem_cons.mp h').elim this h]
def rL(M:List (Int×Int))(a b:Nat):Bool:=decide (((a:Int),(b:Int))∈M) || decide (((b:Int),(a:Int))∈M)
theorem f9{M:List (Int×Int)}{a b:Nat}:rL M a b=true↔((a:Int),(b:Int))∈M∨((b:Int),(a:Int))∈M:=by
 unfold rL
 rw [Bool.or_eq_true,decide_eq_true_iff,decide_eq_true_iff]
theorem kD(M:List (Int×Int))(a b:Nat):rL M a b=rL M b a:=Bool.or_comm ..
def fF(r:Nat→Nat→Bool)(x y:Nat):Nat:=if r x y then 1 else 0
def dM(r:Nat→Nat→Bool)(x y z:Nat):Nat:=if r x y && r x z && r y z then 1 else 0
def gQ(n:Nat)(M:List (Int×Int)):Nat:=p3 (dM (rL M)) (List.range n)
def f_(n:Nat)(M:List (Int×Int)):Nat:=4*M.length+2*gQ n M+n
theorem qf{n:Nat}{M:List (Int×Int)}(nd:M.Nodup)(lt:∀z∈M,0≤z.1∧z.1<z.2∧z.2<(n:Int)):M.length=p2 (fF (rL M)) (List.range n):=by
 have:=ur (W:=fun _ _=>1) nd lt
 rw [show (M.map fun z=>(fun _ _=>1:Nat→Nat→Nat) z.1.toNat z.2.toNat).sum=M.length from by
  clear this nd lt
  induction M with
  | nil=>rfl
  | cons z M ih=>rw [List.map_cons,List.sum_cons,ih,List.length_cons];exact Nat.add_comm 1 _] at this
 rw [this,nH (kC n),nH (kC n)]
 refine fZ fun i _=>fZ fun j _=>?_
 by_cases ij:i<j
 ·rw [if_pos ij,if_pos ij]
  unfold fF
  by_cases h:((i:Int),(j:Int))∈M
  ·rw [if_pos h,if_pos (f9.mpr (.inl h))]
  ·rw [if_neg h,if_neg fun h'=>by
    rcases f9.mp h' with h' | h'
    ·exact h h'
    ·have:=lt _ h'
     omega]
 ·rw [if_neg ij,if_neg ij]
theorem F9{n:Nat}{M:List (Int×Int)}(nd:M.Nodup)(lt:∀z∈M,0≤z.1∧z.1<z.2∧z.2<(n:Int)) :
  (M.map fun z=>((List.range n).filter fun k=>decide (z.2.toNat<k) && rL M z.1.toNat k && rL M z.2.toNat k).length).sum=gQ n M:=by
 have:=ur (n:=n) (W:=fun i j=>((List.range n).filter fun k=>decide (j<k) && rL M i k && rL M j k).length) nd lt
 rw [this]
 unfold gQ
 rw [F8 (kC n),nH (kC n),nH (kC n)]
 refine fZ fun i _=>fZ fun j _=>?_
 by_cases ij:i<j
 ·rw [if_pos ij,if_pos ij]
  have fl:∀(l:List Nat) (c:Nat→Bool),(l.filter c).length=(l.map fun k=>if c k then 1 else 0).sum:=fun l c=>by
   induction l with
   | nil=>rfl
   | cons x l ih=>
    rw [List.filter_cons,List.map_cons,List.sum_cons]
    by_cases h:c x
    ·rw [if_pos h,if_pos h,List.length_cons,ih];omega
    ·rw [if_neg h,if_neg h,ih];omega
  by_cases h:((i:Int),(j:Int))∈M
  ·rw [if_pos h,fl]
   refine fZ fun k _=>?_
   unfold dM
   by_cases jk:j<k
   ·rw [if_pos jk,decide_eq_true jk,f9.mpr (.inl h)]
   ·rw [if_neg jk,decide_eq_false jk]
    rfl
  ·rw [if_neg h,nG fun k _=>?_]
   by_cases jk:j<k
   ·rw [if_pos jk]
    unfold dM
    rw [if_neg fun h'=>?_]
    rw [Bool.and_eq_true,Bool.and_eq_true] at h'
    rcases f9.mp h'.1.1 with h' | h'
    ·exact h h'
    ·have:=lt _ h'
     omega
   ·rw [if_neg jk]
 ·rw [if_neg ij,if_neg ij]
theorem F_(M:List (Int×Int))(x y z:Nat):dM (rL M) x y z=dM (rL M) y x z:=by
 unfold dM
 rw [kD M y x]
 cases rL M x y <;> cases rL M x z <;> cases rL M y z <;> rfl
theorem Ga(M:List (Int×Int))(x y z:Nat):dM (rL M) x y z=dM (rL M) x z y:=by
 unfold dM
 rw [kD M z y]
 cases rL M x y <;> cases rL M x z <;> cases rL M y z <;> rfl
theorem yM(a:Nat→Bool):∀l:List Nat,2*p2 (fun y z=>if a y && a z then 1 else 0) l+(l.map fun y=>if a y then 1 else 0).sum=(l.map fun y=>if a y then 1 else 0).sum*(l.map fun y=>if a y then 1 else 0).sum
 | []=>rfl
 | x::l=>by
  have ih:=yM a l
  simp only [p2,List.map_cons,List.sum_cons]
  by_cases h:a x
  ·simp only [h,Bool.true_and,if_true]
   simp only [Nat.add_mul,Nat.mul_add]
   omega
  ·simp only [h,Bool.false_and,Bool.false_eq_true,if_false]
   rw [nG fun _ _=>rfl,Nat.zero_add,Nat.zero_add]
   exact ih
def Good(r:Nat→Nat→Bool)(m:Nat→Nat):List Nat→Prop
 | []=>True
 | x::l=>m x=(l.map fun y=>if r x y then 1 else 0).sum∧(∀y∈l,∀z∈l,y≠z→r x y=true→r x z=true→r y z=true)∧Good r m l
theorem yN{r:Nat→Nat→Bool}{m:Nat→Nat}:∀{l:List Nat},l.Nodup→Good r m l→(l.map fun x=>m x*m x+3*m x+1).sum=4*p2 (fF r) l+2*p3 (dM r) l+l.length
 | [],_,_=>rfl
 | x::l,nd,⟨h1,h2,h3⟩=>by
  obtain ⟨n1,n2⟩:=List.nodup_cons.mp nd
  have ih:=yN n2 h3
  have e:p2 (dM r x) l=p2 (fun y z=>if r x y && r x z then 1 else 0) l:=um n2 fun y hy z hz yz=>by
   unfold dM
   by_cases a:r x y <;> by_cases b:r x z
   ·simp [a,b,h2 y hy z hz yz a b]
   ·simp [a,b]
   ·simp [a,b]
   ·simp [a,b]
  have e2:(l.map (fF r x)).sum=m x:=h1.symm
  have pk:=yM (r x) l
  rw [←h1] at pk
  show m x*m x+3*m x+1+(l.map fun x=>m x*m x+3*m x+1).sum=4*((l.map (fF r x)).sum+p2 (fF r) l)+2*(p2 (dM r x) l+p3 (dM r) l)+(l.length+1)
  rw [ih,e2,e]
  omega
theorem uu{n:Nat}{L M:List (Int×Int)}{o:List Nat}(f:dJ n L o M){a b:Nat}(h:aL n M a b){k:Nat}(hk:o.idxOf a≤k∨o.idxOf b≤k):Wk (aL n L) (cf n o k) a b:=by
 have go:∀{a b:Nat},((a:Int),(b:Int))∈M→(o.idxOf a≤k∨o.idxOf b≤k)→Wk (aL n L) (cf n o k) a b:=fun{a b} hm hk=>by
  obtain ⟨p,q,hp,hq,pq,w,e⟩:=(f.2 _).mp hm
  have e:bR a b=bR p q:=by
   rw [←e]
   have:=f.lt _ hm
   unfold bR
   rw [if_neg (by omega),if_pos (by omega)]
  rcases qd e with ⟨rfl,rfl⟩ | ⟨rfl,rfl⟩
  ·exact w.mono fun x hx=>⟨hx.1,by have:=hx.2;omega⟩
  ·exact (w.symm kA).mono fun x hx=>⟨hx.1,by have:=hx.2;omega⟩
 rcases h.2.2 with h | h
 ·exact go h hk
 ·exact (go h hk.symm).symm kA
theorem gR{n:Nat}{L M:List (Int×Int)}{o:List Nat}(f:dJ n L o M){a b:Nat}(ha:a<n)(hb:b<n)(ab:o.idxOf a<o.idxOf b):rL M a b=true↔Wk (aL n L) (cf n o (o.idxOf a)) a b:=by
 constructor
 ·intro h
  exact uu f ⟨ha,hb,f9.mp h⟩ (.inl (Nat.le_refl _))
 ·intro w
  have hm:=(f.2 _).mpr ⟨a,b,ha,hb,ab,w,rfl⟩
  rw [f9]
  unfold bR at hm
  by_cases h:(b:Int)<(a:Int)
  ·rw [if_pos h,if_neg (by omega)] at hm
   exact .inr hm
  ·by_cases h':(b:Int)>(a:Int)
   ·rw [if_neg h,if_pos h'] at hm
    exact .inl hm
   ·have e:a=b:=by omega
    subst e
    omega
theorem Gb{n:Nat}{L M N:List (Int×Int)}{o:List Nat}(f:dJ n L o M)(f':dJ n M o N):N=M:=by
 refine yc f'.1 f.1 fun z=>?_
 rw [f'.2 z,f.2 z]
 have key:∀p q:Nat,p<n→q<n→o.idxOf p<o.idxOf q→(Wk (aL n M) (cf n o (o.idxOf p)) p q↔Wk (aL n L) (cf n o (o.idxOf p)) p q):=fun p q hp hq pq=>by
  constructor
  ·intro w
   have go:∀t,Wk (aL n M) (cf n o (o.idxOf p)) p t→Wk (aL n L) (cf n o (o.idxOf p)) p t:=fun t w=>by
    induction w with
    | one ab=>exact uu f ab (.inl (Nat.le_refl _))
    | more _ ta ab ih=>exact ih.trans ta (uu f ab (.inl (Nat.le_of_lt ta.2)))
   exact go q w
  ·intro w
   exact .one ⟨hp,hq,f9.mp ((gR f hp hq pq).mpr w)⟩
 constructor
 ·rintro ⟨p,q,hp,hq,pq,w,e⟩
  exact ⟨p,q,hp,hq,pq,(key p q hp hq pq).mp w,e⟩
 ·rintro ⟨p,q,hp,hq,pq,w,e⟩
  exact ⟨p,q,hp,hq,pq,(key p q hp hq pq).mpr w,e⟩
theorem Gd(l:List Nat)(c:Nat→Bool):(l.map fun k=>if c k then 1 else 0).sum=(l.filter c).length:=by
 induction l with
 | nil=>rfl
 | cons x l ih=>
  rw [List.filter_cons,List.map_cons,List.sum_cons]
  by_cases h:c x
  ·rw [if_pos h,if_pos h,List.length_cons,ih];omega
  ·rw [if_neg h,if_neg h,ih];omega
theorem yO{n:Nat}{L M:List (Int×Int)}{o:List Nat}(ho:o.Perm (List.range n))(f:dJ n L o M){g:Nat→List Nat}(hg:∀p,p<n→fY n o p (g p)∧je n L o p (g p)):∀(l pre:List Nat),o=pre++l→Good (rL M) (fun x=>(g x).length) l
 | [],_,_=>trivial
 | x::l,pre,e=>by
  have nd:=jb ho
  have yP:=nd
  rw [e,List.nodup_append] at yP
  obtain ⟨np,nx,dj⟩:=yP
  obtain ⟨Ge,nl⟩:=List.nodup_cons.mp nx
  have hx:x<n:=(dq ho).mp (by rw [e];simp)
  have ix:o.idxOf x=pre.length:=by
   rw [e,List.idxOf_append,if_neg fun h=>dj x h x List.mem_cons_self rfl,List.idxOf_cons_self,Nat.zero_add]
  have il:∀y,y∈l↔y<n∧o.idxOf x<o.idxOf y:=fun y=>by
   constructor
   ·intro h
    refine ⟨(dq ho).mp (by rw [e];simp [h]),?_⟩
    have yx:y≠x:=fun q=>Ge (q▸h)
    rw [ix,e,List.idxOf_append,if_neg fun h'=>dj y h' y (List.mem_cons_of_mem _ h) rfl,List.idxOf_cons,show (x == y)=false from by simpa using yx.symm]
    simp only [cond_false]
    omega
   ·rintro ⟨h,h'⟩
    have hm:=(dq ho).mpr h
    rw [e,List.mem_append,List.mem_cons] at hm
    rcases hm with hm | rfl | hm
    ·rw [ix,e,List.idxOf_append,if_pos hm] at h'
     have:=List.idxOf_lt_length_of_mem hm
     omega
    ·omega
    ·exact hm
  refine ⟨?_,?_,yO ho f hg l (pre++[x]) (by rw [e];simp)⟩
  ·rw [Gd]
   obtain ⟨gk,gw⟩:=hg x hx
   refine ((List.perm_ext_iff_of_nodup (gk.up.imp fun h=>Nat.ne_of_lt h) (nl.filter _)).mpr fun q=>?_).length_eq
   rw [gw q,List.mem_filter,il q]
   constructor
   ·rintro ⟨h1,h2,h3⟩
    exact ⟨⟨h1,h2⟩,(gR f hx h1 h2).mpr h3⟩
   ·rintro ⟨⟨h1,h2⟩,h3⟩
    exact ⟨h1,h2,(gR f hx h1 h2).mp h3⟩
  ·intro y hy z hz yz ry rz
   obtain ⟨y1,y2⟩:=(il y).mp hy
   obtain ⟨z1,z2⟩:=(il z).mp hz
   have wy:=(gR f hx y1 y2).mp ry
   have wz:=(gR f hx z1 z2).mp rz
   have ne:=gO ho y1 z1 yz
   have both:∀k,o.idxOf x<k→Wk (aL n L) (cf n o k) y z:=fun k hk=>by
    have m:∀t,cf n o (o.idxOf x) t→cf n o k t:=fun t ht=>⟨ht.1,by have:=ht.2;omega⟩
    exact ((wy.symm kA).mono m).trans ⟨hx,hk⟩ (wz.mono m)
   by_cases h:o.idxOf y<o.idxOf z
   ·exact (gR f y1 z1 h).mpr (both _ y2)
   ·rw [kD]
    exact (gR f z1 y1 (by omega)).mpr ((both _ z2).symm kA)
theorem Gf{n:Nat}{L M:List (Int×Int)}{o:List Nat}(ho:o.Perm (List.range n))(f:dJ n L o M){g:Nat→List Nat}(hg:∀p,p<n→fY n o p (g p)∧je n L o p (g p)) :
  ((List.range n).map fun x=>(g x).length*(g x).length+3*(g x).length+1).sum=f_ n M:=by
 have nd:M.Nodup:=f.1.imp fun h e=>by subst e;unfold lexLt at h;omega
 have gs:=yN (jb ho) (yO ho f hg o [] rfl)
 rw [←(ho.map fun x=>(g x).length*(g x).length+3*(g x).length+1).sum_nat,gs]
 unfold f_ gQ
 rw [qf nd f.lt,yK (fun x y=>by unfold fF;rw [kD]) ho,F1 (F_ M) (Ga M) ho,ho.length_eq,List.length_range]
theorem Gg{n:Nat}{L M:List (Int×Int)}{o:List Nat}(ho:o.Perm (List.range n))(f:dJ n L o M)(nl:L.Nodup)(lt:∀z∈L,0≤z.1∧z.1<z.2∧z.2<(n:Int)):f_ n L≤f_ n M:=by
 have nd:M.Nodup:=f.1.imp fun h e=>by subst e;unfold lexLt at h;omega
 have sub:∀a b:Nat,rL L a b=true→rL M a b=true:=by
  have go:∀a b:Nat,((a:Int),(b:Int))∈L→rL M a b=true:=fun a b h=>by
   have:=lt _ h
   have ha:a<n:=by omega
   have hb:b<n:=by omega
   have ne:=gO ho ha hb (by omega)
   by_cases ab:o.idxOf a<o.idxOf b
   ·exact (gR f ha hb ab).mpr (.one ⟨ha,hb,.inl h⟩)
   ·rw [kD]
    exact (gR f hb ha (by omega)).mpr (.one ⟨hb,ha,.inr h⟩)
  intro a b h
  rcases f9.mp h with h | h
  ·exact go a b h
  ·rw [kD]
   exact go b a h
 have h1:p2 (fF (rL L)) (List.range n)≤p2 (fF (rL M)) (List.range n):=uo fun x _ y _=>by
  unfold fF
  by_cases h:rL L x y
  ·rw [if_pos h,if_pos (sub x y h)]
   exact Nat.le_refl _
  ·rw [if_neg h]
   exact Nat.zero_le _
 have h2:gQ n L≤gQ n M:=F5 fun x _ y _ z _=>by
  unfold dM
  by_cases h:(rL L x y && rL L x z && rL L y z)=true
  ·rw [if_pos h]
   rw [Bool.and_eq_true,Bool.and_eq_true] at h
   rw [sub x y h.1.1,sub x z h.1.2,sub y z h.2]
   exact Nat.le_refl _
  ·rw [if_neg h]
   exact Nat.zero_le _
 unfold f_
 rw [qf nl lt,qf nd f.lt]
 omega
def Gh(N:Addr):Sp:=fun vs H Q E=>∃(t a:Addr) (n:Nat) (L:List (Int×Int)) (zs:List Int),vs=[.ref t,.ref a]∧bY H t n L∧fX n L∧kB L∧n≤30∧H a=some (.lst (zs.map V.int))∧zs.length<64 ∧
 (¬fD zs n→∀H',aj H H'→E (.ref N) none H') ∧
 ∀o:List Nat,zs=o.map iN→o.Perm (List.range n)→∀(H':Hp),aj H H'→∀d:Nat,(∀M,dJ n L o M→d=f_ n M)→Q (.int (d:Int)) H'
def Gi:Sp:=fun vs H Q _=>∃(t:Addr) (n:Nat) (L:List (Int×Int)),vs=[.ref t]∧bY H t n L∧fX n L∧n≤60∧L.length≤500 ∧
 ∀(H':Hp) (D:Addr) (rs:Nat→Addr) (g:Nat→List Nat),aj H H'→H D=none→(∀i,i<n→H (rs i)=none)→fE H' D n rs g→cR n L g→(∀i,(g i).length≤2*L.length)→((∀p∈L,p.1<p.2)→L.Nodup→∀i,(g i).Nodup)→Q (.ref D) H'
def Gj:Sp:=fun vs H Q _=>∃(t:Addr) (n:Nat) (L:List (Int×Int)),vs=[.ref t]∧bY H t n L∧L.Nodup∧(∀z∈L,0≤z.1∧z.1<z.2∧z.2<(n:Int))∧n≤30∧L.length≤500 ∧
 ∀H':Hp,aj H H'→Q (.int (gQ n L:Int)) H'
def Gk:Sp:=fun vs H Q _=>∃(t:Addr) (n:Nat) (L:List (Int×Int)),vs=[.ref t]∧bY H t n L∧L.Nodup∧(∀z∈L,0≤z.1∧z.1<z.2∧z.2<(n:Int))∧n≤30∧L.length≤500 ∧
 ∀H':Hp,aj H H'→Q (.int (f_ n L:Int)) H'
end My
namespace L2
open PySem
section
variable {prog:Program} {w:World} {A:Around} {E:Value→Shared→Prop} {s:Shared}
def dN(h:Heap)(d:Addr)(es:Array DictEntry)(ep:Nat):Prop:=∃o,h.get? d=some o∧o.ExactDict∧o.data=.dict es ep
theorem dN.ty{d:Addr}{es:Array DictEntry}{ep:Nat}(h:dN s.heap d es ep):s.TypeIs (.ref d) "dict":=let ⟨o,ho,hc,_⟩:=h;⟨o,ho,hc.1⟩
theorem dN.to{h h':Heap}{d:Addr}{es:Array DictEntry}{ep:Nat}(x:dN h d es ep)(e:∀o,h.get? d=some o→h'.get? d=some o):dN h' d es ep:=let ⟨o,ho,r⟩:=x;⟨o,e _ ho,r⟩
theorem Gm{d:Addr}{es:Array DictEntry}{ep:Nat}{Q:Value→Shared→Prop}(hd:(d == sysModules)=false)(hm:dN s.heap d es ep)
  (hQ:∀h',h'=s.heap.push {cls:=.type "dict_keyiterator",data:=.fields #[.ref d,.int 0 0,.int es.size 0,.int ep 0]}→Q (.ref s.heap.objs.size) {s with heap:=h'}):wpAny (model prog w) A (pyIter (.ref d)) Q E s:=by
 have hT:=hm.ty
 obtain ⟨o,ho,hc,kF⟩:=hm
 refine wpAny_pyIter_slot hT F.slot_dict_iter (wpAny_call_entry F.slot_dict_iter hT F.entry_dict_iter ?_ (F.args_dict_iter_1 _))
 unfold Builtin.«dict.__iter__»
 refine wpAny_bind ?_
 unfold Builtin.Dict.dictSlotNone
 refine wpAny_bind (wpAny_notOrdered_dict hT (wpAny_pure ?_))
 show wpAny _ _ (Builtin.Dict.showsAll d >>= _) _ _ s
 unfold Builtin.Dict.showsAll
 rw [if_neg (by rw [hd];exact Bool.false_ne_true)]
 refine wpAny_bind (wpAny_pure (wpAny_bind (wpAny_dictEntries ho kF (wpAny_bind (wpAny_dictEpoch ho kF ?_)))))
 refine wpAny_bind (wpAny_newObj_type (wpAny_pure ⟨_,rfl,"dict_keyiterator",_,⟨_,Heap.get?_push_size _ rfl,rfl⟩,F.slot_dict_keyiterator_next.lookup,?_⟩))
 exact hQ _ rfl
theorem Gn{it d:Addr}{i ep:Nat}{es:Array DictEntry}{Q:Option Value→Shared→Prop}(hit:s.heap.IsKeyIter it d i es.size ep)(hm:dN s.heap d es ep)(hi:i<es.size)
  (hQ:∀h',h'.IsKeyIter it d (i+1) es.size ep→Heap.SameBut it s.heap h'→Q (some es[i].key) {s with heap:=h'}):wpAny (model prog w) A (pyNext (.ref it)) Q E s:=by
 have hT:=hit.typeIs
 obtain ⟨o,ho,hc,hd⟩:=id hit
 obtain ⟨od,nI,df,nJ⟩:=hm
 unfold pyNext
 refine wpAny_bind (wpAny_attempt (wpAny_callSpecial?_slot (name:=Str.ofString "__next__") hT F.slot_dict_keyiterator_next (wpAny_call_entry F.slot_dict_keyiterator_next hT F.entry_dict_keyiterator_next ?_ (F.args_dict_keyiterator_next_1 _))))
 refine wpAny_bind (wpAny_pure (wpAny_bind (wpAny_bind ?_)))
 first | refine wpAny_bind (wpAny_typeNameOfWhole_keyiter hT (wpAny_pure ?_)) | refine wpAny_bind (wpAny_typeNameOf_keyiter hT (wpAny_pure ?_))
 refine wpAny_bind (wpAny_fieldsOf ho hd ?_)
 simp only [show Builtin.Dict_items.ownsTuple "dict_keyiterator" = false from by decide,Bool.false_eq_true,if_false]
 show wpAny _ _ (if (Value.ref d == Value.none)=true then _ else _) _ _ s
 rw [if_neg (show ¬((Value.ref d == Value.none)=true) from Bool.false_ne_true)]
 refine wpAny_bind (wpAny_pure (wpAny_bind (wpAny_dictEntries nI nJ ?_)))
 rw [if_neg (by simp)]
 refine wpAny_bind (wpAny_pure (wpAny_bind (wpAny_dictEpoch nI nJ ?_)))
 rw [if_neg (by simp)]
 refine wpAny_pure ?_
 simp only [show ¬((i:Int)<0) from by omega,if_false,Int.toNat_natCast,Array.getElem?_eq_getElem hi]
 refine wpAny_bind ?_
 first | refine wpAny_bind (wpAny_typeNameOfWhole_keyiter hT (wpAny_pure ?_)) | refine wpAny_bind (wpAny_typeNameOf_keyiter hT (wpAny_pure ?_))
 refine wpAny_bind (wpAny_isOneOf_keyiter hT ?_)
 show wpAny _ _ (setField (.ref it) 1 (rawInt ((i:Int)+1)) >>= _) _ _ s
 refine wpAny_bind (wpAny_setField ho hd (by simp) ?_)
 have yQ:(s.heap.update it (Obj.mapFields (·.setIfInBounds 1 (rawInt ((i:Int)+1))))).IsKeyIter it d (i+1) es.size ep:=
  ⟨_,Heap.get?_update_self _ ho (Obj.isFreed_of_fields (Obj.data_mapFields hd _)),(Obj.cls_mapFields ..).trans hc,by rw [Obj.data_mapFields hd];simp [rawInt]⟩
 refine wpAny_bind (wpAny_holding ?_)
 refine wpAny_bind (wpAny_isOneOf_keyiter (s:={s with heap:=s.heap.update it (Obj.mapFields (·.setIfInBounds 1 (rawInt ((i:Int)+1))))}) yQ.typeIs ?_)
 show wpAny _ _ (pure es[i].key) _ _ _
 exact wpAny_pure (wpAny_pure ⟨_,rfl,wpAny_pure (hQ _ yQ (Heap.SameBut.update ..))⟩)
theorem Gp{it d:Addr}{ep:Nat}{es:Array DictEntry}{Q:Option Value→Shared→Prop}(hh:A.handled=none)(hit:s.heap.IsKeyIter it d es.size es.size ep)(hm:dN s.heap d es ep)
  (hQ:∀h',Heap.ExtBut it s.heap h'→Q none {s with heap:=h'}):wpAny (model prog w) A (pyNext (.ref it)) Q E s:=by
 have hT:=hit.typeIs
 obtain ⟨o,ho,hc,hd⟩:=id hit
 obtain ⟨od,nI,df,nJ⟩:=hm
 unfold pyNext
 refine wpAny_bind (wpAny_attempt (wpAny_callSpecial?_slot (name:=Str.ofString "__next__") hT F.slot_dict_keyiterator_next (wpAny_call_entry F.slot_dict_keyiterator_next hT F.entry_dict_keyiterator_next ?_ (F.args_dict_keyiterator_next_1 _))))
 refine wpAny_bind (wpAny_pure (wpAny_bind (wpAny_bind ?_)))
 first | refine wpAny_bind (wpAny_typeNameOfWhole_keyiter hT (wpAny_pure ?_)) | refine wpAny_bind (wpAny_typeNameOf_keyiter hT (wpAny_pure ?_))
 refine wpAny_bind (wpAny_fieldsOf ho hd ?_)
 simp only [show Builtin.Dict_items.ownsTuple "dict_keyiterator" = false from by decide,Bool.false_eq_true,if_false]
 show wpAny _ _ (if (Value.ref d == Value.none)=true then _ else _) _ _ s
 rw [if_neg (show ¬((Value.ref d == Value.none)=true) from Bool.false_ne_true)]
 refine wpAny_bind (wpAny_pure (wpAny_bind (wpAny_dictEntries nI nJ ?_)))
 rw [if_neg (by simp)]
 refine wpAny_bind (wpAny_pure (wpAny_bind (wpAny_dictEpoch nI nJ ?_)))
 rw [if_neg (by simp)]
 refine wpAny_pure ?_
 simp only [show ¬((es.size:Int)<0) from by omega,if_false,Int.toNat_natCast,Array.getElem?_eq_none (Nat.le_refl es.size)]
 refine wpAny_bind ?_
 first | refine wpAny_bind (wpAny_typeNameOfWhole_keyiter hT (wpAny_pure ?_)) | refine wpAny_bind (wpAny_typeNameOf_keyiter hT (wpAny_pure ?_))
 show wpAny _ _ (setField (.ref it) 0 .none >>= _) _ _ s
 refine wpAny_bind (wpAny_setField ho hd (by simp) ?_)
 show wpAny _ _ (newExc (.type "StopIteration") [] >>= _) _ _ _
 refine wpAny_bind ?_
 simp only [newExc,newTuple]
 refine wpAny_bind (wpAny_newObj_type ?_ (by size_fits))
 refine wpAny_bind (m:=firstArgMember _ _) (wpAny_of_eq (a:=Value.none) (by first | rfl | (simp only [firstArgMember];rfl)) ?_)
 refine wpAny_newObj_type ?_ (by size_fits)
 simp only [raiseNew]
 refine wpAny_bind (wpAny_handled ?_)
 rw [show A.in1.handled=none from hh]
 refine wpAny_bind (wpAny_pure (wpAny_throw ?_))
 refine wpAny_bind (wpAny_isInstance (T:="StopIteration") (b:=true) ⟨_,Heap.get?_push_size _ rfl,rfl⟩ isSubtype_stop ?_)
 exact wpAny_pure (hQ _ (((Heap.SameBut.update ..).extBut.push _).push _))
theorem Gq(hh:A.handled=none)(I d:Addr)(mZ:d≠I)(es:Array DictEntry)(ep:Nat) :
  Walks prog w A I [I,d] [I] es.size (fun i v=>∃e,es[i]?=some e∧v=e.key) (fun i h=>h.IsKeyIter I d i es.size ep∧dN h d es ep) where
 sub:=fun b hb=>by simp at hb;simp [hb]
 frame:=fun _ _ _ st hk=>⟨st.1.at fun o e=>hk I (by simp) o e,st.2.to fun o e=>hk d (by simp) o e⟩
 item:=fun i s Q E hi st hQ=>Gn st.1 st.2 hi fun h' Gr sb=>hQ _ h' s.toks ⟨_,Array.getElem?_eq_getElem hi,rfl⟩ ⟨Gr,st.2.to fun o e=>sb.extBut d o mZ e⟩ fun b o hb e=>sb.extBut b o (fun h=>hb (by simp [h])) e
 done:=fun s Q E st hQ=>Gp hh st.1 st.2 fun h' Gs=>hQ h' s.toks fun b o hb e=>Gs b o (fun h=>hb (by simp [h])) e
 self:=fun _ _ _ _ st hQ=>wpAny_pyIter_keyiter st.1 hQ
theorem Gu{d:Addr}{es:Array DictEntry}{ep:Nat}{Q:Bool→Shared→Prop}(hm:dN s.heap d es ep)(h:Q false s):wpAny (model prog w) A (Builtin.List.listLengthHint (.ref d)) Q E s:=by
 unfold Builtin.List.listLengthHint
 refine wpAny_bind (wpAny_specialOf hm.ty F.slot_dict_len.lookup ?_)
 generalize yR:("dict.__len__":String)=Gv
 wp_delta
 rw [show splitId Gv=some ("dict","__len__") from by subst yR;decide +kernel]
 subst yR
 refine wpAny_bind (wpAny_isInstance (T:="dict") (b:=true) hm.ty (by rw [isSubtype_type];kernel_rfl) ?_)
 refine wpAny_ite_split (fun uv=>absurd uv (by decide)) (fun _=>?_)
 refine wpAny_ite_split (fun _=>?_) (fun uv=>absurd (by decide +kernel) uv)
 exact wpAny_bind (wpAny_typeOf hm.ty (wpAny_pure h))
def KeysAre(es:Array DictEntry)(acc:Array Value):Prop:=acc.toList=es.toList.map (·.key)
theorem Gw{es:Array DictEntry}{acc:Array Value}(h:ItemsOf (fun i v=>∃e,es[i]?=some e∧v=e.key) acc es.size):KeysAre es acc:=by
 refine List.ext_getElem? fun i=>?_
 rw [List.getElem?_map,Array.getElem?_toList,Array.getElem?_toList]
 by_cases hi:i<acc.size
 ·obtain ⟨e,e1,e2⟩:=h.2 i _ (Array.getElem?_eq_getElem hi)
  rw [Array.getElem?_eq_getElem hi,e1,e2]
  rfl
 ·rw [Array.getElem?_eq_none (by omega),Array.getElem?_eq_none (by have:=h.1;omega)]
  rfl
theorem Gx{R:Result→Shared→Prop}{d:Addr}{es:Array DictEntry}{ep:Nat}(hh:A.handled=none)(hd:(d == sysModules)=false)(hm:dN s.heap d es ep)(hlen:es.size≤2 ^ 24)(S:Addr)(res:Value)(c₀:Nat)
  (hS:s.heap.get? S=some {cls:=.type "list",data:=.seq #[] c₀})
  (hR:∀h' tk d7 c',(∀b o,b≠S→s.heap.get? b=some o→h'.get? b=some o)→h'.get? S=some {cls:=.type "list",dict:=none,data:=.seq d7 c',slots:=#[]}→KeysAre es d7→R (.ok (.ret res)) {s with heap:=h',toks:=tk}) :
  wpAny (model prog w) A.in1 (Builtin.List.listExtendWith (.ref S) (.ref d) res)
   (fun fin s'=>match fin with | .done f=>R (.ok f) s' | .again c'=>c'.quiet=true∧codeAny (model prog w) A c' R s') (fun e s'=>R (.error e) s') s:=by
 have hT:=hm.ty
 have nK:S≠d:=fun e=>by
  obtain ⟨o,ho,hc,kF⟩:=hm
  rw [e,ho] at hS
  cases hS
  cases kF
 have Gy:S<s.heap.objs.size:=Heap.lt_size hS
 have yS:S≠s.heap.objs.size:=Nat.ne_of_lt Gy
 have Gz:d≠s.heap.objs.size:=fun e=>by
  obtain ⟨o,ho,_⟩:=hm
  exact Nat.lt_irrefl _ (e▸Heap.lt_size ho)
 have GA:S∉[s.heap.objs.size,d]:=fun GB=>by
  rcases List.mem_cons.mp GB with e | e
  ·exact yS e
  ·exact nK (List.mem_singleton.mp e)
 have W:=(Gq (prog:=prog) (w:=w) (A:=A.in1) hh s.heap.objs.size d Gz es ep).toS
 have key:∀(h:Heap) (c₁ tk:Nat),h.IsKeyIter s.heap.objs.size d 0 es.size ep∧dN h d es ep→(∀b o,b≠S→s.heap.get? b=some o→h.get? b=some o)→
   h.get? S=some {cls:=.type "list",data:=.seq #[] c₁}→codeAny (model prog w) A (.builtin "list.extend.loop" ⟨[.ref S,.ref s.heap.objs.size,res],[]⟩) R {s with heap:=h,toks:=tk}:=by
  intro h c₁ tk hit hk nM
  refine codeAny_extend_loopS W (by rw [sizeLine_eq];omega) S GA res es.size 0 _ #[] c₁ rfl (Nat.zero_le _) hit nM (ItemsOf.nil _) fun s' d7 c' yT gb nN=>?_
  rw [Moved.eq_with yT]
  refine hR s'.heap s'.toks d7 c' (fun b o hb e=>yT.heap b o (fun uw=>?_) (hk b o hb e)) gb (Gw nN)
  rcases List.mem_cons.mp uw with e' | uw
  ·exact hb e'
  ·exact absurd (Heap.lt_size e) (by rw [List.mem_singleton.mp uw];exact Nat.lt_irrefl _)
 unfold Builtin.List.listExtendWith
 refine wpAny_bind (wpAny_typeOf (T:="dict") hT ?_)
 simp only [show Builtin.List.listSameRef (.ref S) (.ref d)=false from by simp [Builtin.List.listSameRef,nK],show (Value.type "dict" == Value.type "list")=false from by decide,show (Value.type "dict" == Value.type "tuple")=false from by decide,Bool.or_false,Bool.false_eq_true,if_false]
 refine wpAny_bind (Gm hd hm fun h1 e1=>?_)
 have k1:∀b o,s.heap.get? b=some o→h1.get? b=some o:=fun b o e=>by rw [e1];exact Heap.get?_push_of_some _ e
 have yU:h1.IsKeyIter s.heap.objs.size d 0 es.size ep:=⟨_,by rw [e1];exact Heap.get?_push_size _ rfl,rfl,rfl⟩
 have nO:dN h1 d es ep:=hm.to fun o e=>k1 _ _ e
 have nM:=k1 _ _ hS
 refine wpAny_bind (wpAny_holding (Gu (s:={s with heap:=h1}) nO ?_))
 refine wpAny_ite_split (fun _=>?_) (fun _=>wpAny_pure ⟨plainId_quiet F.plain_extend_loop _,key _ c₀ _ ⟨yU,nO⟩ (fun b o _ e=>k1 b o e) nM⟩)
 refine wpAny_bind (wpAny_rule (wpAny_bind ?_))
 show wpAny _ _ (updateSeq S (·.push .none) >>= fun _=>updateSeq S (·.pop)) _ _ _
 refine wpAny_bind (wpAny_updateSeq nM rfl ?_)
 have qg:=Heap.get?_update_self (Obj.mapSeq (·.push Value.none)) nM rfl
 refine wpAny_updateSeq (hz:=by seq_fits) qg rfl ?_
 have GC:=Heap.get?_update_self (Obj.mapSeq (·.pop)) qg rfl
 have kG:∀b o,b≠S→h1.get? b=some o→((h1.update S (Obj.mapSeq (·.push Value.none))).update S (Obj.mapSeq (·.pop))).get? b=some o:=fun b o hb e=>(Heap.get?_update_other _ _ (Ne.symm hb)).trans ((Heap.get?_update_other _ _ (Ne.symm hb)).trans e)
 exact wpAny_pure ⟨plainId_quiet F.plain_extend_loop _,key _ _ _ ⟨yU.at fun o e=>kG _ o (Ne.symm yS) e,nO.to fun o e=>kG _ o (Ne.symm nK) e⟩ (fun b o hb e=>kG b o hb (k1 b o e)) GC⟩
theorem GD{R:Result→Shared→Prop}{d:Addr}{es:Array DictEntry}{ep:Nat}(hh:A.handled=none)(hd:(d == sysModules)=false)(hm:dN s.heap d es ep)(hlen:es.size≤2 ^ 24)(S:Addr)
  (hS:s.heap.get? S=some {cls:=.type "list",data:=.seq #[]})
  (hR:∀h' tk d7 c',(∀b o,b≠S→s.heap.get? b=some o→h'.get? b=some o)→h'.get? S=some {cls:=.type "list",dict:=none,data:=.seq d7 c',slots:=#[]}→KeysAre es d7→R (.ok (.ret .none)) {s with heap:=h',toks:=tk}) :
  wpAny (model prog w) A.in1 (Builtin.«list.__init__» ⟨[.ref S,.ref d],[]⟩)
   (fun fin s'=>match fin with | .done f=>R (.ok f) s' | .again c'=>c'.quiet=true∧codeAny (model prog w) A c' R s') (fun e s'=>R (.error e) s') s:=by
 have nK:S≠d:=fun e=>by
  obtain ⟨o,ho,hc,kF⟩:=hm
  rw [e,ho] at hS
  cases hS
  cases kF
 show wpAny _ _ (do let old ←Builtin.List.listItems (.ref S);Builtin.List.listUpdate (.ref S) (fun _=>#[]);letGo old.toList.reverse;Builtin.List.listExtendWith (.ref S) (.ref d) .none) _ _ s
 refine wpAny_bind ?_
 unfold Builtin.List.listItems
 refine wpAny_bind (wpAny_seqItems hS rfl (wpAny_pure ?_))
 show wpAny _ _ (updateSeq S (fun _=>#[]) >>= fun _=>letGo (#[]:Array Value).toList.reverse >>= fun _=>Builtin.List.listExtendWith (.ref S) (.ref d) .none) _ _ s
 refine wpAny_bind (wpAny_updateSeq hS rfl ?_)
 have qg:=Heap.get?_update_self (Obj.mapSeq (fun _=>(#[]:Array Value))) hS rfl
 have kG:∀b o,b≠S→s.heap.get? b=some o→(s.heap.update S (Obj.mapSeq (fun _=>(#[]:Array Value)))).get? b=some o:=fun b o hb e=>(Heap.get?_update_other _ _ (Ne.symm hb)).trans e
 refine wpAny_bind (wpAny_letGo ?_)
 exact Gx (s:={s with heap:=s.heap.update S (Obj.mapSeq (fun _=>(#[]:Array Value)))}) hh hd (hm.to fun o e=>kG d o (Ne.symm nK) e) hlen S .none _ qg fun h' tk d7 c' hk gb nN=>hR h' tk d7 c' (fun b o hb e=>hk b o hb (kG b o hb e)) gb nN
theorem GF{Q:Value→Shared→Prop}{d:Addr}{es:Array DictEntry}{ep:Nat}(hh:A.handled=none)(hd:(d == sysModules)=false)(hm:dN s.heap d es ep)(hlen:es.size≤2 ^ 24)
  (hQ:∀h' tk d7 c',(∀b o,s.heap.get? b=some o→h'.get? b=some o)→h'.get? s.heap.objs.size=some {cls:=.type "list",dict:=none,data:=.seq d7 c',slots:=#[]}→KeysAre es d7→Q (.ref s.heap.objs.size) {s with heap:=h',toks:=tk}) :
  wpAny (model prog w) A (call (.type "list") [.ref d]) Q E s:=by
 refine callType_codes (Q₁:=fun obj s₁=>obj=.ref s.heap.objs.size∧s₁={s with heap:=s.heap.push {cls:=.type "list",data:=.seq #[]}}) F.called_list (F.typeCall_list_1 _) F.entry_list_init (code_list_new _ ⟨rfl,rfl⟩) fun obj s₁ h₁=>?_
 obtain ⟨rfl,rfl⟩:=h₁
 have hS:(s.heap.push {cls:=.type "list",data:=.seq #[]}).get? s.heap.objs.size=some {cls:=.type "list",data:=.seq #[]}:=Heap.get?_push_size _ rfl
 refine ⟨⟨_,hS,rfl⟩,F.args_list_init_2 _ _,GD (s:={s with heap:=s.heap.push {cls:=.type "list",data:=.seq #[]}}) (A:=A.in1) hh hd (hm.to fun o e=>Heap.get?_push_of_some _ e) hlen _ hS fun h' tk d7 c' hk gb nN=>?_⟩
 exact ⟨rfl,hQ h' tk d7 c' (fun b o e=>hk b o (Nat.ne_of_lt (Heap.lt_size e)) (Heap.get?_push_of_some _ e)) gb nN⟩
end
def GG:List V→Hp→VK→Prop:=fun xs H Q=>∃d ae,xs=[.ref d]∧H d=some (.dT ae)∧ae.length≤10000∧∀l bs,H l=none→bs.length=ae.length→(∀(i:Nat) (b:V) (k:List Key) (v:V),bs[i]?=some b→ae[i]?=some (k,v)→∃a,b=.ref a∧H a=some (.tup (k.map kV)))→Q (.ref l) (upd H l (.lst bs))
theorem GH{X:Cx}(hc:X.calm=true):dg X (.type "list") GG:=by
 intro pins s σ H xs us Q I r h
 obtain ⟨d,ae,rfl,hp,hn,q⟩:=h
 obtain ⟨u,rfl,ru⟩:=vals1 r
 cases ru
 obtain ⟨_,sys,gr,kt,o,es,ep,g,c,dd,e4,e5,e6⟩:=yi I.ar hp
 have lk:ae.length=gr.length:=Paired.length kt
 have sz:es.size=ae.length:=by rw [size_of_entries e4,lk]
 refine GF (I.ok.hd hc) sys ⟨o,g,c,dd⟩ (by omega) fun h' tk acc ct hk hD hit=>?_
 have ek:acc.toList=gr.map fun x=>Value.ref x.2.1:=by
  rw [hit,e4,List.map_map]
  rfl
 refine ⟨.ref s.heap.objs.size,_,I.laid (o:=.lst (gr.map fun x=>V.ref x.2.1)) (fun b o e=>hk b o e) (Nat.le_refl _) ⟨?_,acc.toList,ct,?_,?_⟩,rfl,q _ _ (I.ar.fresh (Nat.le_refl _)) (by rw [List.length_map,lk]) ?_⟩
 ·rw [List.length_map,←lk]
  exact Nat.le_trans hn (by decide)
 ·rw [ek]
  refine sV (by rw [List.length_map,List.length_map]) fun i x u h1 h2=>?_
  rw [List.getElem?_map] at h1 h2
  cases e:gr[i]? with
  | none=>rw [e] at h1;cases h1
  | some y=>
   rw [e] at h1 h2
   cases h1
   cases h2
   rfl
 ·rw [hD]
 ·intro i b k v hb hk
  have at':∀{l:List (List Key×V)} {m:List (List Key×Addr×Value)},KT H l m→∀(i:Nat) p y,l[i]?=some p→m[i]?=some y→p.1=y.1∧H y.2.1=some (.tup (p.1.map kV)):=by
   intro l m q
   induction q with
   | nil=>intro i p y h;cases h
   | cons hq t ih=>
    intro i p y h h'
    cases i with
    | zero=>
     cases h
     cases h'
     exact ⟨hq.1,hq.2.1⟩
    | succ i=>exact ih i p y h h'
  rw [List.getElem?_map] at hb
  cases e:gr[i]? with
  | none=>rw [e] at hb;cases hb
  | some y=>
   rw [e] at hb
   cases hb
   exact ⟨_,rfl,(at' kt i _ y hk e).2⟩
end L2
namespace My
open PySem L2
theorem GI{L:List (Int×Int)}(nd:L.Nodup){k:Nat}(hk:k<L.length)(h:L[k]∈L.take k):False:=by
 obtain ⟨i,hi,e⟩:=List.mem_take_iff_getElem.mp h
 have:=(List.nodup_iff_pairwise_ne.mp nd)
 have GJ:i<k:=by omega
 exact List.pairwise_iff_getElem.mp this i k (by omega) hk GJ e
theorem yV{g:Nat→List Nat}{i j:Nat}(h:∀a,(g a).Nodup)(hj:j∉g i)(a:Nat):(dI g i j a).Nodup:=by
 unfold dI b6
 by_cases e:a=i
 ·subst e
  simp only [if_true]
  rw [List.nodup_append]
  refine ⟨h a,by simp,fun x hx y hy e=>?_⟩
  rw [List.mem_singleton] at hy
  subst hy
  subst e
  exact hj hx
 ·simp only [e,if_false]
  exact h a
theorem GK{n:Nat}{L:List (Int×Int)}{g:Nat→List Nat}{i j:Nat}(h:∀a,(g a).Nodup)(nb:cR n L g)(hi:i<n)(hj:j<n)(ij:i≠j)(h1:((i:Int),(j:Int))∉L)(h2:((j:Int),(i:Int))∉L)(a:Nat):(dI (dI g i j) j i a).Nodup:=by
 refine yV (yV h fun hm=>?_) (fun hm=>?_) a
 ·rcases (nb i j hi).mp hm with h | h
  ·exact h1 h
  ·exact h2 h
 ·have e:dI g i j j=g j:=by
   unfold dI b6
   simp only [Ne.symm ij,if_false]
  rw [e] at hm
  rcases (nb j i hj).mp hm with h | h
  ·exact h2 h
  ·exact h1 h
end My
namespace L2
open PySem PySem.Spec PyProof.Rows My
theorem GL{wi:TI}{ρ:St→St}{tt:TT}{te:TE}{σ:St}{H:Hp}{Q:VK}{xs:List V}(c:V→Bool)(eB:∀R:It→Hp→Prop,(∀J H1,aj H H1→gG J xs H1→R J H1)→wi σ H R)(hn:xs.length<sizeLine)
  (test:∀x∈xs,∀(Hc:Hp) (R:Bool→Hp→Prop),aj H Hc→R (c x) Hc→tt (some x::ρ σ) Hc R)
  (elem:∀(x:V) (Hc:Hp) (R:VK),R x Hc→te (some x::ρ σ) Hc R)
  (fin:∀D Hc,H D=none→aj H Hc→Hc D=some (.lst (xs.filter c))→Q (.ref D) Hc):en wi ρ tt te σ H Q:=by
 refine eB _ fun J H1 s1 js=>?_
 intro D nD
 refine ⟨fun i m ys Hc=>m=xs.length-i∧i≤xs.length∧Hc D=some (.lst ys)∧aj H1 Hc∧ys.length≤i∧ys=(xs.take i).filter c,⟨_,rfl,Nat.zero_le _,aq,dW (aj.refl H1) nD,Nat.le_refl _,rfl⟩,?_⟩
 rintro i m ys Hc ⟨rfl,hi,eD,sH,ly,hP⟩
 refine ⟨eD,?_⟩
 by_cases ba:i<xs.length
 ·refine .inr ⟨js.go i Hc sH ba,fun x H' hy=>?_⟩
  obtain ⟨rfl,hx⟩:=js.cW i Hc x H' sH hy
  have ex:=hx ba
  have mx:x∈xs:=List.mem_of_getElem? ex
  have tk:xs.take (i+1)=xs.take i++[x]:=by rw [List.take_succ,ex];rfl
  refine test x mx _ _ (s1.trans sH) ?_
  by_cases hb:c x=true
  ·rw [if_pos hb]
   refine elem x _ _ ⟨eD,by omega,xs.length-(i+1),by omega,rfl,ba,aq,dW sH nD,by simp;omega,?_⟩
   rw [tk,List.filter_append,←hP,List.filter_cons,if_pos hb]
   rfl
  ·rw [if_neg hb]
   refine ⟨xs.length-(i+1),by omega,rfl,ba,eD,sH,by omega,?_⟩
   rw [tk,List.filter_append,←hP,List.filter_cons,if_neg hb,List.filter_nil,List.append_nil]
 ·have e:i=xs.length:=by omega
  subst e
  rw [List.take_length] at hP
  subst hP
  exact .inl ⟨js.stop _ Hc sH (Nat.le_refl _),fin D Hc (none_of s1 nD) (s1.trans sH) eD⟩
end L2
namespace My
open PySem L2
def qh(n:Nat)(L:List (Int×Int))(z:Int×Int):Nat:=((List.range n).filter fun k=>decide (z.2.toNat<k) && rL L z.1.toNat k && rL L z.2.toNat k).length
def qi(j:Nat)(m:List Nat):V→Bool
 | .int z=>decide ((j:Int)<z) && decide (z.toNat∈m)
 | _=>false
theorem GN{n:Nat}{L:List (Int×Int)}{g:Nat→List Nat}(nb:cR n L g)(gn:∀a,(g a).Nodup){i j:Nat}(hi:i<n)(hj:j<n)(gl:∀k∈g i,k<n):qh n L ((i:Int),(j:Int))=(((g i).map fun k:Nat=>V.int (k:Int)).filter (qi j (g j))).length:=by
 rw [List.filter_map,List.length_map]
 unfold qh
 refine ((List.perm_ext_iff_of_nodup (List.nodup_range.filter _) ((gn i).filter _)).mpr fun k=>?_).length_eq
 rw [List.mem_filter,List.mem_filter,List.mem_range]
 show (k<n∧(decide (((j:Nat):Int).toNat<k) && rL L ((i:Nat):Int).toNat k && rL L ((j:Nat):Int).toNat k)=true)↔k∈g i∧(decide ((j:Int)<(k:Int)) && decide (((k:Nat):Int).toNat∈g j))=true
 rw [Int.toNat_natCast,Int.toNat_natCast,Int.toNat_natCast,Bool.and_eq_true,Bool.and_eq_true,Bool.and_eq_true,decide_eq_true_iff,decide_eq_true_iff,decide_eq_true_iff,f9,f9,nb i k hi,nb j k hj]
 constructor
 ·rintro ⟨h1,⟨h2,h3⟩,h4⟩
  exact ⟨h3,by omega,h4⟩
 ·rintro ⟨h1,h2,h3⟩
  exact ⟨gl k ((nb i k hi).mpr h1),⟨by omega,h1⟩,h3⟩
def kz(z:Int×Int):List Key:=[.inl z.1,.inl z.2]
theorem GO{y z:Int×Int}(h:kz y=kz z):y=z:=by
 unfold kz at h
 injection h with h1 h2
 injection h2 with h2 _
 injection h1 with h1
 injection h2 with h2
 exact Prod.ext h1 h2
def d8(L:List (Int×Int)):List (List Key×V):=L.map fun z=>(kz z,V.bl true)
def kH(L:List (Int×Int))(z:Int×Int):List (Int×Int):=if z∈L then L else L++[z]
theorem GP(L:List (Int×Int))(z:Int×Int):putK (d8 L) (kz z) (.bl true)=d8 (kH L z):=by
 unfold putK kH
 have an:((d8 L).any fun kv=>decide (kv.1=kz z))=decide (z∈L):=by
  rw [Bool.eq_iff_iff,List.any_eq_true,decide_eq_true_iff]
  constructor
  ·rintro ⟨kv,hm,e⟩
   obtain ⟨y,hy,rfl⟩:=List.mem_map.mp hm
   exact GO (of_decide_eq_true e)▸hy
  ·intro h
   exact ⟨_,List.mem_map.mpr ⟨z,h,rfl⟩,decide_eq_true rfl⟩
 by_cases h:z∈L
 ·rw [if_pos (an.trans (decide_eq_true h)),if_pos h]
  unfold d8
  rw [List.map_map]
  refine List.map_congr_left fun y _=>?_
  show (if kz y=kz z then (kz y,V.bl true) else (kz y,V.bl true))=_
  split <;> rfl
 ·rw [if_neg (by rw [an,decide_eq_false h];exact Bool.false_ne_true),if_neg h]
  unfold d8
  rw [List.map_append]
  rfl
structure dt (P a d:Addr) (H Hc:Hp) (n m:Nat) (L:List (Int×Int)):Prop where
 s:aw P H Hc
 p:aZ Hc P a
 e:Hc d=some (.dT (d8 L))
 nd:L.Nodup
 lt:∀z∈L,0≤z.1∧z.1<z.2∧z.2<(n:Int)
 bA:L.length≤m
section
variable {P a d:Addr} {H Hc:Hp} {n m:Nat} {L:List (Int×Int)}
theorem dt.le(h:dt P a d H Hc n m L){m':Nat}(hm:m≤m'):dt P a d H Hc n m' L:=⟨h.s,h.p,h.e,h.nd,h.lt,Nat.le_trans h.bA hm⟩
theorem dt.step(h:dt P a d H Hc n m L)(nd:d≠P){H':Hp}(s:aw P Hc H')(p:aZ H' P a):dt P a d H H' n m L:=⟨h.s.trans s,p,s.at nd h.e,h.nd,h.lt,h.bA⟩
theorem dt.put(h:dt P a d H Hc n m L)(nd:d≠P)(n0:H d=none){tp:Addr}(bZ:Hc tp=none){i j:Int}(i0:0≤i)(ij:i<j)(jn:j<(n:Int)) :
  dt P a d H (upd (upd Hc tp (.tup [.int i,.int j])) d (.dT (putK (d8 L) (kz (i,j)) (.bl true)))) n (m+1) (kH L (i,j)):=by
 refine ⟨(h.s.trans (aw.of (aQ bZ))).but n0,(h.p.mono (aQ bZ)).upd nd,by rw [aq,GP],?_,?_,?_⟩
 ·unfold kH
  by_cases e:(i,j)∈L
  ·rw [if_pos e]
   exact h.nd
  ·rw [if_neg e,List.nodup_append]
   refine ⟨h.nd,by simp,fun x hx y hy q=>?_⟩
   rw [List.mem_singleton] at hy
   exact e (hy▸q▸hx)
 ·intro z hz
  unfold kH at hz
  by_cases e:(i,j)∈L
  ·rw [if_pos e] at hz
   exact h.lt z hz
  ·rw [if_neg e] at hz
   rcases List.mem_append.mp hz with hz | hz
   ·exact h.lt z hz
   ·rw [List.mem_singleton.mp hz]
    exact ⟨i0,ij,jn⟩
 ·unfold kH
  have:=h.bA
  by_cases e:(i,j)∈L
  ·rw [if_pos e]
   omega
  ·rw [if_neg e,List.length_append]
   simp only [List.length_singleton]
   omega
theorem dt.dput(h:dt P a d H Hc n m L)(m1:m≤1000){tp:Addr}(bZ:Hc tp=none){i j:Int} :
  ja (upd Hc tp (.tup [.int i,.int j])) d (.ref tp) (.bl true) (upd (upd Hc tp (.tup [.int i,.int j])) d (.dT (putK (d8 L) (kz (i,j)) (.bl true)))):=
 ja.t (aQ bZ _ _ h.e) (show upd Hc tp (.tup [.int i,.int j]) tp=some (.tup ((kz (i,j)).map kV)) from aq) (cx (by unfold d8;rw [List.length_map];have:=h.bA;omega))
end
def GQ(K:PySem.W.Frag):Sp:=fun vs H Q _=>∃(P a:Addr) (ns:List Int),vs=[.ref P,.int 15,.int 24]∧aZ H P a∧aX K (er P H) a (ns.map V.int) ∧
 ∀(t:Addr) (n:Nat) (L:List (Int×Int)) (H':Hp),aw P H H'→aZ H' P a→er P H t=none→t≠P→bY (er P H') t n L→dG n L→L.Pairwise lexLt→1≤n→n≤24→Q (.ref t) H'
def GR:Sp:=fun vs H Q _=>∃(t a:Addr) (n:Nat) (L:List (Int×Int)) (o:List Nat),vs=[.ref t,.ref a]∧bY H t n L∧fX n L∧n≤30∧L.length≤500∧H a=some (.lst (o.map fun k:Nat=>V.int (k:Int)))∧o.Perm (List.range n) ∧
 ∀(H':Hp) (t':Addr) (M:List (Int×Int)),aj H H'→bY H' t' n M→dJ n L o M→Q (.ref t') H'
theorem yW{n:Nat}{L M:List (Int×Int)}{o:List Nat}(f:dJ n L o M):M.Nodup:=f.1.imp fun h e=>by subst e;unfold lexLt at h;omega
theorem GS{n:Nat}{L M:List (Int×Int)}{o:List Nat}(f:dJ n L o M)(qj:n≤30):M.length≤435:=by
 rw [qf (yW f) f.lt]
 refine Nat.le_trans (uo (g':=fun _ _=>1) fun x _ y _=>?_) ?_
 ·unfold fF
  split <;> decide
 ·have:∀m:Fin 31,p2 (fun _ _=>1) (List.range m)≤435:=by decide +kernel
  exact this ⟨n,by omega⟩
def gc(P:Addr)(H:Hp)(y:V):Prop:=∃(t:Addr) (n:Nat) (L:List (Int×Int)),y=.ref t∧t≠P∧bY (er P H) t n L∧dG n L∧L.Pairwise lexLt∧1≤n∧n≤24
theorem bY.da{H H':Hp}{t:Addr}{n:Nat}{L:List (Int×Int)}(h:bY H t n L)(k:∀b xs,H b=some (.tup xs)→H' b=some (.tup xs)):bY H' t n L:=by
 obtain ⟨lt,us,h1,h2,h3⟩:=h
 refine ⟨lt,us,k _ _ h1,k _ _ h2,h3.1,fun i v p e1 e2=>?_⟩
 obtain ⟨b,e,g⟩:=h3.2 i v p e1 e2
 exact ⟨b,e,k _ _ g⟩
theorem gc.aY{P D:Addr}{H H':Hp}{y:V}{xs:List V}(h:gc P H y)(e:H D=some (.lst xs))(k:∀b o,b≠D→b≠P→H b=some o→H' b=some o):gc P H' y:=by
 obtain ⟨t,n,L,rfl,tP,sh,r⟩:=h
 refine ⟨t,n,L,rfl,tP,sh.da fun b us g=>?_,r⟩
 have bP:b≠P:=fun z=>by
  subst z
  unfold er at g
  rw [if_pos rfl] at g
  cases g
 rw [b4 bP] at g ⊢
 exact k b _ (fun z=>by rw [z,e] at g;cases g) bP g
theorem gc.mono{P:Addr}{H H':Hp}{y:V}(h:gc P H y)(s:aw P H H'):gc P H' y:=by
 obtain ⟨t,n,L,rfl,tP,sh,r⟩:=h
 exact ⟨t,n,L,rfl,tP,sh.mono s,r⟩
end My
set_option maxRecDepth 100000
set_option maxHeartbeats 4000000
namespace My
open PySem L2
def top(i:Nat):Stmt:=PySem.Challenge.pw_bandwright_k18_whole_deeds_by_links.main.body.getD i (.Pass ⟨0,0,0,0⟩)
abbrev ql:Stmt:=top 4
abbrev qm:Stmt:=top 6
abbrev qo:Stmt:=top 8
abbrev qp:Stmt:=top 9
abbrev qq:Stmt:=top 10
abbrev qr:Stmt:=top 11
abbrev qt:Stmt:=top 12
abbrev qu:Stmt:=top 13
abbrev qv:Stmt:=top 14
abbrev qw:Stmt:=top 15
abbrev qx:Stmt:=top 17
abbrev qy:Stmt:=top 18
abbrev qz:Stmt:=top 19
abbrev qA:Stmt:=top 20
abbrev qB:Stmt:=top 21
abbrev qC:Stmt:=top 22
abbrev qD:Stmt:=top 23
abbrev qE:Stmt:=top 24
abbrev qF:Stmt:=top 25
abbrev qG:Stmt:=top 26
abbrev qH:Stmt:=top 27
abbrev qI:Stmt:=top 28
abbrev qJ:Stmt:=top 29
abbrev qK:Stmt:=top 30
structure ux where
 jf:Addr
 kI:FuncData
 jg:Addr
 kJ:FuncData
 jh:Addr
 kK:FuncData
 ji:Addr
 kL:FuncData
 jj:Addr
 kM:FuncData
 jl:Addr
 kN:FuncData
 jm:Addr
 kO:FuncData
 jo:Addr
 kP:FuncData
 jq:Addr
 kS:FuncData
 jr:Addr
 kT:FuncData
 ju:Addr
 kU:FuncData
 jv:Addr
 kW:FuncData
 jw:Addr
 kX:FuncData
 jx:Addr
 kY:FuncData
 jy:Addr
 kZ:FuncData
 jz:Addr
 k4:FuncData
 jA:Addr
 k6:FuncData
 jB:Addr
 k8:FuncData
 jC:Addr
 k_:FuncData
 jD:Addr
 lb:FuncData
 jE:Addr
 lh:FuncData
 jF:Addr
 lp:FuncData
 jG:Addr
 lq:FuncData
 iA:Addr
 jH:FuncData
 gf:Addr
structure Txt (K:PySem.W.Frag) (mg:Str→Option Value) (t:ux):Prop where
 lA:aI K "is_whole" "is_whole" ql t.jf t.kI
 yX:Binds K t.kI ["thing"] []
 yY:mg "is_whole" = some (.ref t.jf)
 lB:aI K "neighbours" "neighbours" qm t.jg t.kJ
 yZ:Binds K t.kJ ["shape"] []
 y3:mg "neighbours" = some (.ref t.jg)
 lC:aI K "is_order" "is_order" qo t.jh t.kK
 y4:Binds K t.kK ["thing","n"] []
 y6:mg "is_order" = some (.ref t.jh)
 lE:aI K "check_order" "check_order" qp t.ji t.kL
 y7:Binds K t.kL ["order","n"] []
 y8:mg "check_order" = some (.ref t.ji)
 lF:aI K "turns_of" "turns_of" qq t.jj t.kM
 y9:Binds K t.kM ["order"] []
 y_:mg "turns_of" = some (.ref t.jj)
 lG:aI K "link_all" "link_all" qr t.jl t.kN
 za:Binds K t.kN ["linked","places"] []
 zb:mg "link_all" = some (.ref t.jl)
 jI:aI K "later" "later" qt t.jm t.kO
 uy:Binds K t.kO ["shape","order"] []
 uz:mg "later" = some (.ref t.jm)
 lH:aI K "filled" "filled" qu t.jo t.kP
 zc:Binds K t.kP ["shape","order"] []
 zd:mg "filled" = some (.ref t.jo)
 lI:aI K "place_deeds" "place_deeds" qv t.jq t.kS
 ze:Binds K t.kS ["many"] []
 zf:mg "place_deeds" = some (.ref t.jq)
 jJ:aI K "deeds" "deeds" qw t.jr t.kT
 uA:Binds K t.kT ["shape","order"] []
 uB:mg "deeds" = some (.ref t.jr)
 lJ:aI K "_law_fill" "_law_fill" qx t.ju t.kU
 zg:Binds K t.kU ["_law_cell","_law_at"] []
 zh:mg "_law_fill" = some (.ref t.ju)
 cp:aI K "_law_next" "_law_next" qy t.jv t.kW
 cT:Binds K t.kW ["_law_pen","_law_many"] []
 cU:mg "_law_next" = some (.ref t.jv)
 iB:aI K "_law_turned" "_law_turned" qz t.jw t.kX
 qL:Binds K t.kX ["_law_pen","_law_some"] []
 qM:mg "_law_turned" = some (.ref t.jw)
 lK:aI K "_law_tied_by" "_law_tied_by" qA t.jx t.kY
 zi:Binds K t.kY ["_law_pen","_law_way","_law_size","_law_wide","_law_i","_law_j"] []
 zj:mg "_law_tied_by" = some (.ref t.jx)
 lO:aI K "_law_grown_links" "_law_grown_links" qB t.jy t.kZ
 zl:Binds K t.kZ ["_law_pen","_law_size"] []
 zo:mg "_law_grown_links" = some (.ref t.jy)
 lQ:aI K "_law_drawn" "_law_drawn" qC t.jz t.k4
 zp:Binds K t.k4 ["_law_pen","_law_most"] []
 zq:mg "_law_drawn" = some (.ref t.jz)
 jK:aI K "_law_named" "_law_named" qD t.jA t.k6
 uC:Binds K t.k6 ["_law_size","_law_links","_law_names"] []
 uD:mg "_law_named" = some (.ref t.jA)
 jL:aI K "_law_beside" "_law_beside" qE t.jB t.k8
 uE:Binds K t.k8 ["_law_shape"] []
 uF:mg "_law_beside" = some (.ref t.jB)
 lR:aI K "_law_walks" "_law_walks" qF t.jC t.k_
 zr:Binds K t.k_ ["_law_beside_here","_law_through","_law_start"] []
 zt:mg "_law_walks" = some (.ref t.jC)
 lS:aI K "_law_filled" "_law_filled" qG t.jD t.lb
 zu:Binds K t.lb ["_law_shape","_law_order"] []
 zv:mg "_law_filled" = some (.ref t.jD)
 lT:aI K "_law_triangles" "_law_triangles" qH t.jE t.lh
 zw:Binds K t.lh ["_law_shape"] []
 zA:mg "_law_triangles" = some (.ref t.jE)
 jM:aI K "_law_due" "_law_due" qI t.jF t.lp
 uG:Binds K t.lp ["_law_shape"] []
 uH:mg "_law_due" = some (.ref t.jF)
 lW:aI K "_law_long" "_law_long" qJ t.jG t.lq
 zB:Binds K t.lq ["_law_pen","_law_least","_law_most"] []
 zC:mg "_law_long" = some (.ref t.jG)
 lY:aI K "law" "law" qK t.iA t.jH
 GU:Binds K t.jH ["script"] []
 zD:mg "law" = some (.ref t.iA)
 zE:mg "NoOrder" = some (.ref t.gf)
 gS:mg "len" = none
 lZ:mg "isinstance" = none
 uI:mg "int" = none
 uJ:mg "bool" = none
 qN:mg "tuple" = none
 iC:mg "list" = none
 dO:mg "range" = none
 zF:mg "all" = none
 zG:mg "sum" = none
 uK:mg "enumerate" = none
 qO:mg "min" = none
 qP:mg "max" = none
 l6:mg "sorted" = none
 GV:mg "ValueError" = none
 zH:PySem.W.excIn K t.gf [.type "ValueError",.type "Exception",.type "BaseException",.type "object"] "ValueError.__new__" = true
section
variable {P:Program} {w:World} {K:PySem.W.Frag} {mg:Str→Option Value} {base:Heap} {t:ux}
theorem GW:bQ ["thing"] ["thing"] (bo ql):=⟨rfl,rfl,rfl,by decide +kernel,rfl,by decide +kernel,by decide +kernel⟩
theorem GX(T:Txt K mg t):bw P w K mg base bW 1 t.jf t.kI ["thing"] Dq:=by
 have S:=GW
 refine T.lA.ok S (fun vs H Q E h=>?_) (fun aH A outer s H vs Q E hr h=>?_)
 ·obtain ⟨v,rfl,_⟩:=h
  rfl
 ·obtain ⟨v,rfl,ha,k⟩:=h
  refine ⟨_,(@aA _ _ _ (@bH _ _ _ _ (@Bi _ _ _ _ _ _ _ (bV (mT (K:=K)) rfl T.lZ boot_isinstance (@aa _ _ _ _ _ (by rfl) (pv 0) (@aa _ _ _ _ _ (by rfl) (mC (v:=.ty "int") rfl T.uI boot_int rfl) ao))) (@wc _ _ _ _ _ (@Bk _ _ _ _ (bV (mT (K:=K)) rfl T.lZ boot_isinstance (@aa _ _ _ _ _ (by rfl) (pv 0) (@aa _ _ _ _ _ (by rfl) (mC (v:=.ty "bool") rfl T.uJ boot_bool rfl) ao)))))))),?_⟩
  obtain ⟨Ty,ty,k1,k2,_⟩:=ha.o6 (K:=K)
  refine ⟨_,rfl,_,_,_,_,rfl,rfl,ty,k1,_,rfl,bX (fun h1=>?_) (fun h1=>?_)⟩
  ·refine ⟨_,rfl,_,_,_,_,rfl,rfl,ty,k2,_,rfl,?_⟩
   have e:(!kh v)=kg v:=by
    cases h2:kh v with
    | true=>rw [Dp h2];rfl
    | false=>rw [h2,Bool.or_false] at h1;rw [h1];rfl
   show Q (.bl (!kh v)) H
   rw [e]
   exact k
  ·have e:kg v=false:=by
    cases h2:kg v with
    | true=>rw [h2] at h1;exact absurd rfl h1
    | false=>rfl
   rw [e] at k
   exact k
theorem GY:bQ ["shape","linked","i","j"] ["shape"] (bo qm):=⟨rfl,rfl,rfl,by decide +kernel,rfl,by decide +kernel,by decide +kernel⟩
theorem GZ(T:Txt K mg t):bw P w K mg base bW 1 t.jg t.kJ ["shape"] Ff:=by
 have S:=GY
 refine T.lB.ok S (fun vs H Q E h=>?_) (fun aH A outer s H vs Q E hr h=>?_)
 ·obtain ⟨tp,n,L,rfl,_⟩:=h
  rfl
 ·obtain ⟨tp,n,L,rfl,⟨lt,us,cq,elt,hL⟩,ok,n9,kk⟩:=h
  have hu:=Nat.lt_of_le_of_lt (Nat.add_le_add_left (show 1≤64 by decide) _) hr.units
  have uL:((List.range n).map fun i:Nat=>V.int (0+(i:Int))).length=n:=by rw [List.length_map,List.length_range]
  refine ⟨_,(@ax _ _ _ _ _ (pA (i0:=1) (N:=["place"]) (ρ:=(fun σ=>[])) ⟨rfl,rfl,by decide +kernel,by decide +kernel,(List.forall_mem_nil _),ft (by rfl),rfl,by decide +kernel,rfl,(fun σ j v h=>match j,h with | j,h=>by cases h),(fun _ _=>rfl)⟩ rfl S.nd rfl (Or.inl rfl) (g9 rfl T.dO (@aa _ _ _ _ _ (by rfl) (@a8 _ _ _ _ _ _ _ eS (pv 0) au (fun _ _=>rfl)) ao)) (fun s₃ H₃ fp=>.nil) (fun s₃ H₃ fp=>E1))
   (@ax _ _ _ _ _ (cJ PassesOwn.never rfl (rN (@a8 _ _ _ _ _ _ _ eS (pv 0) au (fun _ _=>rfl))) (jY rfl (eM (bS (i:=2) S.nd rfl (Or.inl rfl)) (eM (bS (i:=3) S.nd rfl (Or.inl rfl)) jX)))
    (@ax _ _ _ _ _ (ie hu (@a8 _ _ _ _ _ _ _ bL (pv 1) (pv 2) (fun _ _=>rfl)) (pv 3) dQ rfl)
   (@aA _ _ _ (ie hu (@a8 _ _ _ _ _ _ _ bL (pv 1) (pv 3) (fun _ _=>rfl)) (pv 2) dQ rfl))))
   (@aA _ _ _ (@bH _ _ _ _ (pv 1))))),?_⟩
  refine bO (i3 (tj (xs:=(List.range n).map fun i:Nat=>V.int (0+(i:Int))) (n:=n) uL (fun R h=>⟨_,rfl,tp,_,_,_,rfl,rfl,.of cq,rfl,(n:Int),rfl,by omega,by omega,h _ _ (aj.refl _) (by rw [Int.toNat_natCast];exact xB)⟩) (cx (by omega)) (fun _ i y Hx=>Hx y=some (.dK (dk []))∧H y=none) ?_ ?_ ?_))
  ·intro D i y Ha Hb ys ⟨h1,h2⟩ hy e f
   exact ⟨f y _ hy h1,h2⟩
  ·intro D i x hx Hc R sc _ kc
   refine fun p np=>kc p _ (dW (aj.refl _) np) np ⟨_,aq⟩ ⟨aq,?_⟩
   cases e:H p with
   | none=>rfl
   | some o=>rw [sc _ _ e] at np;cases np
  ·intro D ds H1 nD s1 inj hA eD
   have K0:b_ H1 D n ds (fun _=>True) (fun _=>[]):=⟨eD,inj,fun i hi=>(hA i hi).2,fun i hi _=>(hA i hi).1.1,fun i _=>e9.nil n⟩
   have fr:∀i,i<n→H (ds i)=none:=fun i hi=>(hA i hi).1.2
   dsimp only [aO]
   refine bO ⟨_,rfl,tp,_,_,_,rfl,rfl,.of (s1 _ _ cq),rfl,lt,rfl,⟨_,.of (s1 _ _ elt)⟩,?_⟩
   refine rO (K:=K) (a:=lt) (xs:=us) (fun k σ Hc=>∃(f:Nat→List Nat) (v2 v3:Option V),σ=[some (.ref tp),some (.ref D),v2,v3]∧aj H Hc∧b_ Hc D n ds (fun _=>True) f∧cR n (L.take k) f) ⟨_,_,_,rfl,s1,K0,cR.nil n⟩ (fun k σ Hc _ ⟨_,_,_,_,sc,_⟩=>.of (sc _ _ elt)) ?_ ?_
   ·rintro k x σ Hc hx ⟨f,v2,v3,rfl,sc,KL,nb⟩
    have hk:k<L.length:=by
     rw [←hL.1]
     exact (List.getElem?_eq_some_iff.mp hx).1
    obtain ⟨b,rfl,eb⟩:=hL.2 k x L[k] hx (by simp [hk])
    have pk:=ok L[k] (List.getElem_mem hk)
    have tk:L.take (k+1)=L.take k++[L[k]]:=by rw [List.take_succ,List.getElem?_eq_getElem hk];rfl
    generalize L[k]=p at eb pk tk
    obtain ⟨p1,p2⟩:=p
    dsimp only at pk eb
    obtain ⟨i,rfl⟩:=Int.eq_ofNat_of_zero_le pk.1
    obtain ⟨j,rfl⟩:=Int.eq_ofNat_of_zero_le pk.2.2.1
    have hi:i<n:=by omega
    have hj:j<n:=by omega
    refine ⟨b,_,rfl,.of (sc _ _ eb),rfl,_,_,rfl,_,_,rfl,rfl,?_⟩
    obtain ⟨q1,K1⟩:=KL.put hi hj trivial n9
    obtain ⟨q2,K2⟩:=K1.put hj hi trivial n9
    refine ⟨_,rfl,_,rfl,D,_,_,_,rfl,rfl,.of KL.lst,KL.ix hi,_,rfl,_,_,rfl,q1,?_⟩
    refine ⟨_,rfl,_,rfl,D,_,_,_,rfl,rfl,.of K1.lst,K1.ix hj,_,rfl,_,_,rfl,q2,?_⟩
    have off:∀(Hx:Hp) (i:Nat) (o:HO),i<n→aj H Hx→aj H (upd Hx (ds i) o):=fun Hx i o hi sx a u e=>by
     rw [aC (fun z=>by rw [z,fr i hi] at e;cases e)]
     exact sx _ _ e
    exact ⟨_,_,_,rfl,off _ _ _ hj (off _ _ _ hi sc),K2,by rw [tk];exact nb.more hi hj⟩
   ·rintro σ Hc ⟨f,v2,v3,rfl,sc,KL,nb⟩
    rw [hL.1,List.take_length] at nb
    exact ⟨_,rfl,kk _ _ _ _ sc nD fr KL nb⟩
theorem G0:bQ ["thing","n"] ["thing","n"] (bo qo):=⟨rfl,rfl,rfl,by decide +kernel,rfl,by decide +kernel,by decide +kernel⟩
theorem G1(T:Txt K mg t):bw P w K mg base bW 2 t.jh t.kK ["thing","n"] Fl:=by
 have S:=G0
 have G2:=GX (P:=P) (w:=w) (base:=base) T
 refine T.lC.ok S (fun vs H Q E h=>?_) (fun aH A outer s H vs Q E hr h=>?_)
 ·obtain ⟨a,zs,n,rfl,_⟩:=h
  rfl
 ·obtain ⟨a,zs,n,rfl,ea,gT,n1,k⟩:=h
  have gU:=hr.units
  refine ⟨_,(@ax _ _ _ _ _ (@b8 _ _ _ _ _ _ _ _ (PW.pt (@pw_or _ _ _ _ _ _ _ (@oA _ _ _ _ (jV (bV (mT (K:=K)) rfl T.lZ boot_isinstance (@aa _ _ _ _ _ (by rfl) (pv 0) (@aa _ _ _ _ _ (by rfl) (mC (v:=.ty "list") rfl T.iC boot_list rfl) ao))))) (@pw_or1 _ _ _ _ (@oA _ _ _ _ (jV (bV (Di (K:=K) rfl) rfl T.zF boot_all (@aa _ _ _ _ _ (by rfl) (iV (N:=["place"]) (ρ:=(fun σ=>[])) ⟨rfl,rfl,by decide +kernel,by decide +kernel,(List.forall_mem_nil _),ft (by rfl),rfl,by decide +kernel,rfl,(fun σ j v h=>match j,h with | j,h=>by cases h),(fun _ _=>rfl)⟩ rfl (dR (pv 0)) (fun s₃ H₃ fp=>.nil) (fun s₃ H₃ fp=>(aW G2 (hr.mono (by decide)) rfl T.yY T.lA.kp T.yX .nil bb (@aa _ _ _ _ _ (by rfl) (pv 0) ao)))) ao))))))) (@aA _ _ _ (@bH _ _ _ _ dQ)) b7)
   (@aA _ _ _ (@bH _ _ _ _ (@iQ _ _ _ _ _ _ _ _ (Fh gU) (bV yp rfl T.l6 PyProof.Rows.boot_sorted (@aa _ _ _ _ _ (by rfl) (pv 0) ao)) (eh (o9 rfl) rfl T.iC boot_list (@aa _ _ _ _ _ (by rfl) (eh o8 rfl T.dO o_ (@aa _ _ _ _ _ (by rfl) (pv 1) ao)) ao)) (bC _))))),?_⟩
  refine ⟨_,rfl,_,_,_,true,rfl,rfl,.of (.lst ea),Dn,true,rfl,gA ?_⟩
  unfold wb tB
  refine pC (Ds (xs:=zs.map V.int) (fun R h=>⟨_,rfl,a,rfl,⟨_,.of ea⟩,h _ _ (aj.refl _) (ki (.of ea))⟩) (by rw [List.length_map];exact cx (by omega)) (fun _ i y _=>y=.bl true) (fun _ _ _ _ _ _ h _ _=>h) ?_ ?_)
  ·intro D i v hi Hc R sc _ kc
   obtain ⟨z,rfl⟩:∃z:Int,v=.int z:=by
    rw [List.getElem?_map] at hi
    cases e:zs[i]? with
    | none=>rw [e] at hi;cases hi
    | some z=>rw [e] at hi;exact ⟨z,(Option.some.inj hi).symm⟩
   exact ⟨_,rfl,.int z,rfl,.int z,kc _ Hc (aj.refl _) rfl⟩
  ·intro D ys Hc sc jN hP eD
   refine ⟨D,List.replicate ys.length true,rfl,.of (by rw [eD];exact congrArg _ (congrArg _ (DC hP))),?_⟩
   rw [DD]
   refine ⟨true,rfl,gA ?_⟩
   dsimp only [g7]
   have qQ:=sc _ _ ea
   refine ⟨_,rfl,a,zs,rfl,qQ,gT,fun ws D2 p o n2=>?_⟩
   refine ⟨_,rfl,(n:Int),rfl,fun p1 uM=>⟨p1,n,rfl,aq,by omega,fun l nl=>?_⟩⟩
   have d1:D2≠p1:=fun z=>by rw [←z,aq] at uM;cases uM
   have d2:D2≠l:=fun z=>by rw [←z,aC d1,aq] at nl;cases nl
   refine ⟨D2,l,ws,(List.range n).map iN,rfl,rfl,.of ?_,.of ?_,?_⟩
   ·rw [aC d2,aC d1,aq]
   ·rw [aq]
    unfold bx
    rw [List.map_map]
    rfl
   ·rw [Fj p o]
    exact k _ (qc (qc (qc sc n2) uM) nl)
theorem G3:bQ ["order","n"] ["order","n"] (bo qp):=⟨rfl,rfl,rfl,by decide +kernel,rfl,by decide +kernel,by decide +kernel⟩
theorem G4(T:Txt K mg t):bw P w K mg base (fq P w) 3 t.ji t.kL ["order","n"] (Fm t.gf):=by
 have S:=G3
 have G5:=G1 (P:=P) (w:=w) (base:=base) T
 refine T.lE.oZ S (fun vs H Q E h=>?_) (fun aH A outer s H vs Q E hr h L=>?_)
 ·obtain ⟨a,zs,n,rfl,_⟩:=h
  rfl
 ·obtain ⟨a,zs,n,rfl,ea,gT,n1,kE,k⟩:=h
  refine ⟨_,(@aA _ _ _ (@b8 _ _ _ _ _ _ _ _ (@oA _ _ _ _ (jV (aW G5 (hr.mono (by decide)) rfl T.y6 T.lC.kp T.y4 .nil bb (@aa _ _ _ _ _ (by rfl) (pv 0) (@aa _ _ _ _ _ (by rfl) (pv 1) ao))))) (@aA _ _ _ (C1 L rfl PySem.F.excBase_ValueError T.zH rfl T.zE (@aa _ _ _ _ _ (by rfl) Bc ao))) b7)),?_⟩
  refine ⟨_,rfl,_,rfl,a,zs,n,rfl,ea,gT,n1,fun H1 s1=>⟨_,rfl,bX (fun hb=>?_) (fun hb=>?_)⟩⟩
  ·exact ⟨by show 1≤sizeLine;decide,kE (by simpa using hb) _ s1⟩
  ·exact k (by simpa using hb) _ s1
theorem G6:bQ ["order","turns","turn","place"] ["order"] (bo qq):=⟨rfl,rfl,rfl,by decide +kernel,rfl,by decide +kernel,by decide +kernel⟩
theorem G7(T:Txt K mg t):bw P w K mg base bW 1 t.jj t.kM ["order"] Fo:=by
 have S:=G6
 refine T.lF.ok S (fun vs H Q E h=>?_) (fun aH A outer s H vs Q E hr h=>?_)
 ·obtain ⟨a,n,o,rfl,_⟩:=h
  rfl
 ·obtain ⟨a,n,o,rfl,⟨ea,ho⟩,n1,kk⟩:=h
  have lo:=ik ho
  have lm:(o.map fun k:Nat=>V.int (k:Int)).length=n:=by rw [List.length_map,lo]
  refine ⟨_,(@ax _ _ _ _ _ (@a7 _ _ 1 _ _ _ _ (by rfl) (by first | exact .inl rfl | exact .inr rfl | assumption) S.nd rfl (Or.inl rfl) (@aP _ _ _ _ _ _ _ _ Cz (@cX _ _ _ _ (@aa _ _ _ _ _ (by rfl) au ao)) (bV hI rfl T.gS boot_len (@aa _ _ _ _ _ (by rfl) (pv 0) ao))))
   (@ax _ _ _ _ _ (cJ PassesOwn.never rfl (xH rfl T.uK (@aa _ _ _ _ _ (by rfl) (pv 0) ao)) (jY rfl (eM (bS (i:=2) S.nd rfl (Or.inl rfl)) (eM (bS (i:=3) S.nd rfl (Or.inl rfl)) jX)))
    (@aA _ _ _ (@j4 _ _ _ _ _ _ (pv 2) (jZ (pv 1) (pv 3) set_list) (by rfl) (by rfl) (by rfl))))
   (@aA _ _ _ (@bH _ _ _ _ (pv 1))))),?_⟩
  refine ⟨by show 1≤sizeLine;decide,fun l nl=>?_⟩
  have al:a≠l:=fun z=>by rw [z,nl] at ea;cases ea
  refine ⟨_,rfl,a,_,rfl,.inl (.of (by rw [aC al];exact ea)),l,_,_,rfl,rfl,aq,by omega,by rw [lm];omega,?_,fun c nc=>?_⟩
  ·rw [lm,Int.toNat_natCast]
   show 1*n≤sizeLine
   rw [sizeLine_eq];omega
  rw [lm,Int.toNat_natCast,Fs n o]
  have zI:H c=none:=none_of (aQ nl) nc
  have s0:aj H (upd (upd H l (.lst [.int 0])) c (.lst ((List.range n).map fun p=>V.int (e_ o 0 p)))):=(aQ nl).trans (aQ nc)
  have e0:upd (upd H l (.lst [.int 0])) c (.lst ((List.range n).map fun p=>V.int (e_ o 0 p))) c=_:=aq
  generalize upd (upd H l (.lst [.int 0])) c (.lst ((List.range n).map fun p=>V.int (e_ o 0 p)))=H0 at s0 e0 ⊢
  dsimp only [aO]
  refine bO ⟨_,rfl,a,rfl,⟨_,.of (s0 _ _ ea)⟩,?_⟩
  refine xI (K:=K) (l:=a) (xs:=o.map fun k:Nat=>V.int (k:Int)) (fun i σ Hc=>aj H Hc∧∃(v2 v3:Option V),σ=[some (.ref a),some (.ref c),v2,v3]∧Hc c=some (.lst ((List.range n).map fun p=>V.int (e_ o i p))))
   ⟨s0,_,_,rfl,e0⟩ (fun i σ Hc ⟨z,_⟩=>.of (z _ _ ea)) ?_ ?_
  ·rintro i x σ Hc Tt hx ⟨sc,v2,v3,rfl,ec⟩ nT
   have hi:i<o.length:=by
    have:=(List.getElem?_eq_some_iff.mp hx).1
    simpa using this
   have ex:x=.int ((o[i]:Nat):Int):=by
    rw [List.getElem?_map] at hx
    simp [hi] at hx
    exact hx.symm
   subst ex
   have hp:o[i]<n:=(dq ho).mp (List.getElem_mem hi)
   have sT:aj Hc (upd Hc Tt (.tup [.int (i:Int),.int ((o[i]:Nat):Int)])):=aQ nT
   have eT:upd Hc Tt (.tup [.int (i:Int),.int ((o[i]:Nat):Int)]) Tt=_:=aq
   generalize upd Hc Tt (.tup [.int (i:Int),.int ((o[i]:Nat):Int)])=H1 at sT eT ⊢
   refine ⟨Tt,_,rfl,.of eT,rfl,_,_,rfl,_,_,rfl,rfl,?_⟩
   refine ⟨_,rfl,_,rfl,_,rfl,c,_,_,o[i],rfl,rfl,sT _ _ ec,by rw [List.length_map,List.length_range];exact yw hp,?_⟩
   exact ⟨dW (sc.trans sT) zI,_,_,rfl,by rw [aq,Fq ho hi]⟩
  ·rintro σ Hc ⟨sc,v2,v3,rfl,ec⟩
   rw [List.length_map,Ft ho] at ec
   exact ⟨_,rfl,kk c Hc sc zI ec⟩
theorem G8:bQ ["linked","places","one","other"] ["linked","places"] (bo qr):=⟨rfl,rfl,rfl,by decide +kernel,rfl,by decide +kernel,by decide +kernel⟩
theorem G9(T:Txt K mg t):bw P w K mg base bW 1 t.jl t.kN ["linked","places"] Fu:=by
 have S:=G8
 refine T.lG.ok S (fun vs H Q E h=>?_) (fun aH A outer s H vs Q E hr h=>?_)
 ·obtain ⟨D,pl,n,ds,un,f,ps,rfl,_⟩:=h
  rfl
 ·obtain ⟨D,pl,n,ds,un,f,ps,rfl,KL,l7,G_,n9,kk⟩:=h
  have hu:=Nat.lt_of_le_of_lt (Nat.add_le_add_left (show 1≤64 by decide) _) hr.units
  have aY:∀i,i<n→un i→pl≠ds i:=fun i hi ui z=>by
   rw [z,KL.at' i hi ui] at l7
   cases l7
  have zJ:∀{i:Nat} {x:V},(ps.map fun k:Nat=>V.int (k:Int))[i]?=some x→∃p:Nat,ps[i]?=some p∧x=.int (p:Int)∧p<n∧un p:=fun{i x} hx=>by
   rw [List.getElem?_map] at hx
   cases e:ps[i]? with
   | none=>rw [e] at hx;cases hx
   | some p=>
    rw [e] at hx
    exact ⟨p,rfl,(Option.some.inj hx).symm,G_ p (List.mem_of_getElem? e)⟩
  refine ⟨_,(@aA _ _ _ (cJ PassesOwn.never rfl (dR (pv 1)) (bS (i:=2) S.nd rfl (Or.inl rfl))
    (@aA _ _ _ (cJ PassesOwn.never rfl (dR (pv 1)) (bS (i:=3) S.nd rfl (Or.inl rfl))
    (@aA _ _ _ (@b8 _ _ _ _ _ _ _ _ (@bT _ _ _ _ _ _ _ _ oI (pv 2) (pv 3) (bC _)) (@aA _ _ _ (ie hu (@a8 _ _ _ _ _ _ _ bL (pv 0) (pv 2) (fun _ _=>rfl)) (pv 3) dQ rfl)) b7)))))),?_⟩
  refine ⟨_,rfl,pl,rfl,⟨_,.of l7⟩,?_⟩
  refine iM (K:=K) (a:=pl) (xs:=ps.map fun k:Nat=>V.int (k:Int)) (fun i σ Hc=>∃(g:Nat→List Nat) (v2 v3:Option V),σ=[some (.ref D),some (.ref pl),v2,v3]∧iu n ds un H Hc∧b_ Hc D n ds un g∧dr n f ps i 0 g) ⟨f,_,_,rfl,.refl,KL,dr.start n f ps⟩ (fun i σ Hc _ ⟨_,_,_,_,oc,_⟩=>.of (oc _ _ l7 aY)) ?_ ?_
  ·rintro i x σ Hc hx ⟨g,v2,v3,rfl,oc,Kc,la⟩
   obtain ⟨p,hp,rfl,pn,up⟩:=zJ hx
   refine ⟨_,rfl,pl,rfl,⟨_,.of (oc _ _ l7 aY)⟩,?_⟩
   refine iM (K:=K) (a:=pl) (xs:=ps.map fun k:Nat=>V.int (k:Int)) (fun j σ Hd=>∃(g:Nat→List Nat) (v3:Option V),σ=[some (.ref D),some (.ref pl),some (.int (p:Int)),v3]∧iu n ds un H Hd∧b_ Hd D n ds un g∧dr n f ps i j g) ⟨g,_,rfl,oc,Kc,la⟩ (fun i σ Hc _ ⟨_,_,_,oc,_⟩=>.of (oc _ _ l7 aY)) ?_ ?_
   ·rintro j y σ Hd hy ⟨g,v3,rfl,od,Kd,la⟩
    obtain ⟨q,hq,rfl,qn,uq⟩:=zJ hy
    refine ⟨_,rfl,_,rfl,rfl,_,rfl,bX (fun hb=>?_) (fun hb=>?_)⟩
    ·have ne:p≠q:=fun z=>by
      subst z
      rw [pb,decide_eq_true rfl] at hb
      cases hb
     obtain ⟨q1,K1⟩:=Kd.put pn qn up n9
     exact ⟨_,rfl,_,rfl,D,_,_,_,rfl,rfl,.of Kd.lst,Kd.ix pn,_,rfl,_,_,rfl,q1,_,_,rfl,od.put pn up,K1,la.put hp hq ne⟩
    ·have e:p=q:=by
      by_cases z:(p:Int)=(q:Int)
      ·omega
      ·exact absurd (by rw [pb,decide_eq_false z];rfl) hb
     subst e
     exact ⟨_,_,rfl,od,Kd,la.same hp hq⟩
   ·rintro σ Hd ⟨g,v3,rfl,od,Kd,la⟩
    rw [List.length_map] at la
    exact ⟨g,_,_,rfl,od,Kd,la.row⟩
  ·rintro σ Hc ⟨g,v2,v3,rfl,oc,Kc,la⟩
   rw [List.length_map] at la
   exact kk _ g oc Kc la.done
theorem Hi:bQ ["shape","order","linked","turns","told","place"] ["shape","order"] (bo qt):=⟨rfl,rfl,rfl,by decide +kernel,rfl,by decide +kernel,by decide +kernel⟩
theorem zK(T:Txt K mg t):bw P w K mg base (fq P w) 4 t.jm t.kO ["shape","order"] (FW t.gf):=by
 have S:=Hi
 have Hj:=G4 (P:=P) (w:=w) (base:=base) T
 have Hk:=GZ (P:=P) (w:=w) (base:=base) T
 have Hl:=G7 (P:=P) (w:=w) (base:=base) T
 have Hm:=G9 (P:=P) (w:=w) (base:=base) T
 refine T.jI.oZ S (fun vs H Q E h=>?_) (fun aH A outer s H vs Q E hr h L=>?_)
 ·obtain ⟨tp,a,n,L,zs,rfl,_⟩:=h
  rfl
 ·obtain ⟨tp,a,n,Lk,zs,rfl,hS,hL,ns,Ho,ea,gT,kE,kk⟩:=h
  obtain ⟨lt,us,cq,elt,j9⟩:=id hS
  refine ⟨_,(@ax _ _ _ _ _ (eL (aW Hj (hr.mono (by decide)) rfl T.y8 T.lE.kp T.y7 .nil (sM L) (@aa _ _ _ _ _ (by rfl) (pv 1) (@aa _ _ _ _ _ (by rfl) (@a8 _ _ _ _ _ _ _ eS (pv 0) au (fun _ _=>rfl)) ao))))
   (de.jW (@ax _ _ _ _ _ (@a7 _ _ 2 _ _ _ _ (by rfl) (by first | exact .inl rfl | exact .inr rfl | assumption) S.nd rfl (Or.inl rfl) (aW Hk (hr.mono (by decide)) rfl T.y3 T.lB.kp T.yZ .nil bb (@aa _ _ _ _ _ (by rfl) (pv 0) ao)))
   (@ax _ _ _ _ _ (@a7 _ _ 3 _ _ _ _ (by rfl) (by first | exact .inl rfl | exact .inr rfl | assumption) S.nd rfl (Or.inr rfl) (aW Hl (hr.mono (by decide)) rfl T.y_ T.lF.kp T.y9 .nil bb (@aa _ _ _ _ _ (by rfl) (pv 1) ao)))
   (@ax _ _ _ _ _ (pA (i0:=4) (N:=["place"]) (ρ:=(fun σ=>[])) ⟨rfl,rfl,by decide +kernel,by decide +kernel,(List.forall_mem_nil _),ft (by rfl),rfl,by decide +kernel,rfl,(fun σ j v h=>match j,h with | j,h=>by cases h),(fun _ _=>rfl)⟩ rfl S.nd rfl (Or.inl rfl) (dR (pv 1)) (fun s₃ H₃ fp=>.nil) (fun s₃ H₃ fp=>(@cX _ _ _ _ ao)))
   (@ax _ _ _ _ _ (cJ PassesOwn.never rfl (dR (pv 1)) (bS (i:=5) S.nd rfl (Or.inr rfl))
    (@ax _ _ _ _ _ (@j4 _ _ _ _ _ _ (bV yp rfl T.l6 PyProof.Rows.boot_sorted (@aa _ _ _ _ _ (by rfl) (iV (N:=["other","turns","place"]) (ρ:=(fun σ=>[σ[3]?.join,σ[5]?.join])) ⟨rfl,rfl,by decide +kernel,by decide +kernel,(List.forall_mem_cons.mpr ⟨rfl,(List.forall_mem_cons.mpr ⟨rfl,(List.forall_mem_nil _)⟩)⟩),ft (by rfl),rfl,by decide +kernel,rfl,(fun σ j v h=>match j,h with | 0,h=>⟨3,_,rfl,rfl,join_some h,Or.inr (Or.inl rfl),.inl rfl,.inl rfl⟩ | 1,h=>⟨5,_,rfl,rfl,join_some h,Or.inr (Or.inl rfl),.inl rfl,.inl rfl⟩ | j+2,h=>by cases h),(fun _ _=>rfl)⟩ rfl (Fb (@a8 _ _ _ _ _ _ _ bL (pv 2) (pv 5) (fun _ _=>rfl))) (fun s₃ H₃ fp=>(.one (@bT _ _ _ _ _ _ _ _ j7 (@a8 _ _ _ _ _ _ _ (s_ (K:=K)) (pv 1) (pv 0) (fun _ _=>rfl)) (@a8 _ _ _ _ _ _ _ (s_ (K:=K)) (pv 1) (pv 2) (fun _ _=>rfl)) (bC _)))) (fun s₃ H₃ fp=>(pv 0))) ao)) (jZ (pv 4) (pv 5) set_list) (by rfl) (by rfl) (by rfl))
   (@aA _ _ _ (eL (aW Hm (hr.mono (by decide)) rfl T.zb T.lG.kp T.za .nil bb (@aa _ _ _ _ _ (by rfl) (pv 2) (@aa _ _ _ _ _ (by rfl) (@a8 _ _ _ _ _ _ _ bL (pv 4) (pv 5) (fun _ _=>rfl)) ao)))))))
   (@aA _ _ _ (@bH _ _ _ _ (pv 4))))))))),?_⟩
  refine ⟨_,rfl,_,rfl,tp,_,_,_,rfl,rfl,.of cq,rfl,a,zs,n,rfl,ea,gT,by omega,fun no H1 s1=>kE no H1 s1,fun yes H1 s1=>?_⟩
  obtain ⟨o,rfl,ho⟩:=FC yes
  have kk:=kk o rfl ho
  have lo:=ik ho
  have nd:=jb ho
  have nQ:H a=some (.lst (o.map fun k:Nat=>V.int (k:Int))):=by rw [ea,List.map_map];rfl
  have lm:(o.map fun k:Nat=>V.int (k:Int)).length=n:=by rw [List.length_map,lo]
  refine ⟨_,rfl,tp,n,Lk,rfl,⟨lt,us,s1 _ _ cq,s1 _ _ elt,j9.mono s1⟩,hL,by omega,fun H2 D ds f s2 nD Hq KL nb=>?_⟩
  have Md:=none_of s1 nD
  have zL:∀i,i<n→H (ds i)=none:=fun i hi=>none_of s1 (Hq i hi)
  have du:=s1.trans s2
  dsimp only [aO]
  refine ⟨_,rfl,a,n,o,rfl,⟨du _ _ nQ,ho⟩,by omega,fun tr H3 s3 Hr e3=>?_⟩
  have gg:=du.trans s3
  have Me:=none_of du Hr
  have K3:=KL.mono s3
  dsimp only [aO]
  refine bO (i3 (tj (xs:=o.map fun k:Nat=>V.int (k:Int)) (n:=n) lm (fun R h=>⟨_,rfl,a,rfl,⟨_,.of (gg _ _ nQ)⟩,h _ _ (aj.refl _) (ki (.of (gg _ _ nQ)))⟩) (cx (by omega)) (fun _ i y Hx=>H3 y=none) (fun _ _ _ _ _ _ h _ _ _=>h) ?_ ?_))
  ·intro D' i x hx Hc R sc _ kc
   refine ⟨by show 0≤sizeLine;exact Nat.zero_le _,fun p np=>kc p _ (aQ np) np ⟨_,aq⟩ (none_of sc np)⟩
  ·intro c Hs H4 nc s4 _ hA ec
   have qR:=gg.trans s4
   have zM:=none_of gg nc
   have K4:=K3.mono s4
   have e4:=s4 _ _ e3
   have cD:c≠D:=fun z=>by rw [z,K3.lst] at nc;cases nc
   have Ht:c≠tr:=fun z=>by rw [z,e3] at nc;cases nc
   dsimp only [aO]
   refine bO ⟨_,rfl,a,rfl,⟨_,.of (qR _ _ nQ)⟩,?_⟩
   refine iM (K:=K) (a:=a) (xs:=o.map fun k:Nat=>V.int (k:Int)) (fun k σ Hc=>∃(rs:Nat→Addr) (f g:Nat→List Nat) (v5:Option V),σ=[some (.ref tp),some (.ref a),some (.ref D),some (.ref tr),some (.ref c),v5]∧aj H Hc∧b_ Hc D n ds (fun p=>k≤o.idxOf p) f∧Hc tr=some (.lst ((List.range n).map fun p=>V.int (o.idxOf p:Int)))∧Hc c=some (.lst ((List.range n).map fun p=>V.ref (rs p))) ∧
     (∀p,p<n→o.idxOf p<k→H (rs p)=none∧rs p≠c∧Hc (rs p)=some (.lst ((g p).map fun k:Nat=>V.int (k:Int)))∧fY n o p (g p)∧je n Lk o p (g p))∧jd n Lk o k f) ⟨Hs,f,fun _=>[],_,rfl,qR,K4.less (fun _ _ _=>trivial),e4,ec,fun p _ h=>absurd h (Nat.not_lt_zero _),jd.start nb ns⟩ (fun k σ Hc _ ⟨_,_,_,_,_,sc,_⟩=>.of (sc _ _ nQ)) ?_ ?_
   ·rintro k x σ Hc hx ⟨rs,f,g,v5,rfl,sc,Kc,uN,qS,done,uO⟩
    have hk:k<o.length:=by
     have:=(List.getElem?_eq_some_iff.mp hx).1
     simpa using this
    have ex:x=.int ((o[k]:Nat):Int):=by
     rw [List.getElem?_map] at hx
     simp [hk] at hx
     exact hx.symm
    subst ex
    have hp:o[k]<n:=(dq ho).mp (List.getElem_mem hk)
    have ip:o.idxOf o[k]=k:=nC nd hk
    generalize o[k]=p at hp ip ⊢
    dsimp only [aO]
    have zN:=Kc.at' p hp (by omega)
    refine bO (i3 (pC (yE ⟨_,rfl,_,rfl,D,_,_,_,rfl,rfl,.of Kc.lst,Kc.ix hp,ds p,dk (f p),rfl,.inl ⟨zN,fun ob=>?_⟩⟩)))
    have Kf:b_ (upd Hc (ds p) (.bg ob (.dK (dk (f p))))) D n ds (fun q=>k+1≤o.idxOf q) f:=(Kc.less (fun i hi (ui:k+1≤o.idxOf i)=>show k≤o.idxOf i by omega)).upd (Kc.ne p hp) (fun i hi (ui:k+1≤o.idxOf i) z=>by
     have:=Kc.inj i p hi hp z
     subst this
     omega)
    have uP:∀{b:Addr} {xs:List V},Hc b=some (.lst xs)→b≠ds p:=fun{b xs} e z=>by rw [z,zN] at e;cases e
    have qT:upd Hc (ds p) (.bg ob (.dK (dk (f p)))) tr=_:=(aC (uP uN)).trans uN
    have qU:upd Hc (ds p) (.bg ob (.dK (dk (f p)))) c=_:=(aC (uP qS)).trans qS
    have sf:aj H (upd Hc (ds p) (.bg ob (.dK (dk (f p))))):=fun b u e=>by
     rw [aC (fun z=>by rw [z,zL p hp] at e;cases e)]
     exact sc _ _ e
    have uQ:∀q,q<n→o.idxOf q<k→H (rs q)=none∧rs q≠c∧upd Hc (ds p) (.bg ob (.dK (dk (f p)))) (rs q)=some (.lst ((g q).map fun k:Nat=>V.int (k:Int)))∧fY n o q (g q)∧je n Lk o q (g q):=fun q hq qV=>by
     obtain ⟨d1,d2,d3,d4⟩:=done q hq qV
     exact ⟨d1,d2,(aC (uP d3)).trans d3,d4⟩
    have zO:upd Hc (ds p) (.bg ob (.dK (dk (f p)))) (ds p)=some (.bg ob (.dK (dk (f p)))):=aq
    generalize upd Hc (ds p) (.bg ob (.dK (dk (f p))))=Hf at Kf qT qU sf uQ zO ⊢
    have nR:=Kc.pl p hp
    refine Fz zO (fun q=>decide ((o.idxOf p:Int)<(o.idxOf q:Int))) (Nat.lt_of_le_of_lt nR.len (cx (by omega))) ?_ ?_ ?_
    ·intro q hq Hx R sx hR
     have qn:=nR.2 q hq
     exact ⟨_,rfl,_,rfl,tr,_,_,_,rfl,rfl,.of (sx _ _ qT),iw qn,_,rfl,_,rfl,tr,_,_,_,rfl,rfl,.of (sx _ _ qT),iw hp,_,_,rfl,rfl,_,rfl,hR⟩
    ·intro q hq Hx R hR
     exact ⟨_,rfl,hR⟩
    ·intro D1 H1 Mf zP zQ
     rw [FH] at zQ
     have fl:((f p).filter fun q=>decide (o.idxOf p<o.idxOf q)).length≤n:=Nat.le_trans (List.length_filter_le _ _) nR.len
     refine ⟨D1,((f p).filter fun q=>decide (o.idxOf p<o.idxOf q)).map iN,rfl,by rw [zQ,List.map_map];rfl,by rw [List.length_map];omega,fun ws D2 pw so zR=>?_⟩
     obtain ⟨ms,rfl,pm⟩:=yA pw
     have qW:=FA nR pm so
     have hm:∀q,q∈ms↔q∈f p∧k<o.idxOf q:=fun q=>by
      rw [pm.mem_iff,List.mem_filter,decide_eq_true_iff,ip]
     have Hu:je n Lk o p ms:=fun q=>by
      rw [hm q,ip]
      constructor
      ·rintro ⟨h1,h2⟩
       have qn:=nR.2 q h1
       exact ⟨qn,h2,((uO p q hp qn (by omega) (by omega)).mp h1).2⟩
      ·rintro ⟨h1,h2,h3⟩
       exact ⟨(uO p q hp h1 (by omega) (by omega)).mpr ⟨fun e=>by subst e;omega,h3⟩,h2⟩
     have jO:aj Hf (upd H1 D2 (.lst ((ms.map iN).map V.int))):=qc zP zR
     have l8:upd H1 D2 (.lst ((ms.map iN).map V.int)) D2=some (.lst (ms.map fun k:Nat=>V.int (k:Int))):=by rw [aq,List.map_map];rfl
     have uR:Hf D2=none:=none_of zP zR
     have HA:H D2=none:=none_of sf uR
     generalize upd H1 D2 (.lst ((ms.map iN).map V.int))=Hg at jO l8 ⊢
     have zS:D2≠c:=fun z=>by rw [z,qU] at uR;cases uR
     refine ⟨_,rfl,_,rfl,c,_,_,p,rfl,rfl,jO _ _ qU,by rw [List.length_map,List.length_range];exact yw hp,?_⟩
     rw [FD]
     have Kg:=Kf.mono jO
     have Kh:b_ (upd Hg c (.lst ((List.range n).map fun q=>V.ref (fb rs p D2 q)))) D n ds (fun q=>k+1≤o.idxOf q) f:=Kg.upd cD (fun i hi ui z=>by
      have:=Kg.at' i hi ui
      rw [z,jO _ _ qU] at this
      cases this)
     have sh:aj H (upd Hg c (.lst ((List.range n).map fun q=>V.ref (fb rs p D2 q)))):=dW (sf.trans jO) zM
     have uS:upd Hg c (.lst ((List.range n).map fun q=>V.ref (fb rs p D2 q))) c=_:=aq
     have zT:upd Hg c (.lst ((List.range n).map fun q=>V.ref (fb rs p D2 q))) tr=_:=(aC (Ne.symm Ht)).trans (jO _ _ qT)
     have uT:upd Hg c (.lst ((List.range n).map fun q=>V.ref (fb rs p D2 q))) D2=_:=(aC zS).trans l8
     have zU:∀q,q<n→o.idxOf q<k→upd Hg c (.lst ((List.range n).map fun q=>V.ref (fb rs p D2 q))) (rs q)=some (.lst ((g q).map fun k:Nat=>V.int (k:Int))):=fun q hq qV=>by
      obtain ⟨d1,d2,d3,d4⟩:=uQ q hq qV
      exact (aC d2).trans (jO _ _ d3)
     generalize upd Hg c (.lst ((List.range n).map fun q=>V.ref (fb rs p D2 q)))=Hh at Kh sh uS zT uT zU ⊢
     refine ⟨_,rfl,_,rfl,_,rfl,c,_,_,_,rfl,rfl,.of uS,iw hp,?_⟩
     rw [yC]
     refine ⟨D,D2,n,ds,_,f,ms,rfl,Kh,uT,fun q hq=>⟨qW.lt q hq,by have:=qW.la q hq;omega⟩,by omega,fun H5 g5 off K5 con=>?_⟩
     have aY:∀{b:Addr} {xs:List V},Hh b=some (.lst xs)→H5 b=some (.lst xs):=fun{b xs} e=>off _ _ e fun i hi ui z=>by
      rw [z,Kh.at' i hi ui] at e
      cases e
     refine ⟨fb rs p D2,g5,b6 g p ms,_,rfl,fun b u e=>off _ _ (sh _ _ e) (fun i hi _ z=>by rw [z,zL i hi] at e;cases e),K5,aY zT,aY uS,fun q hq qV=>?_,uO.step ho hp ip hm qW.lt con⟩
     by_cases e:q=p
     ·subst e
      rw [yC,FF]
      exact ⟨HA,zS,aY uT,qW,Hu⟩
     ·rw [FE e,FG e]
      have ne:=gO ho hq hp e
      have zV:o.idxOf q<k:=by omega
      obtain ⟨d1,d2,d3,d4⟩:=uQ q hq zV
      exact ⟨d1,d2,aY (zU q hq zV),d4⟩
   ·rintro σ Hc ⟨rs,f,g,v5,rfl,sc,Kc,uN,qS,done,_⟩
    rw [lm] at done
    have lt:∀p,p<n→o.idxOf p<n:=fun p hp=>by
     have:=(ir ((dq ho).mpr hp)).1
     omega
    exact ⟨_,rfl,kk Hc c rs g sc zM (fun p hp=>(done p hp (lt p hp)).1) ⟨qS,fun p hp=>(done p hp (lt p hp)).2.2.1⟩ fun p hp=>(done p hp (lt p hp)).2.2.2⟩
theorem HB:bQ ["shape","order","links","place","others"] ["shape","order"] (bo qu):=⟨rfl,rfl,rfl,by decide +kernel,rfl,by decide +kernel,by decide +kernel⟩
theorem HC(T:Txt K mg t):bw P w K mg base (fq P w) 5 t.jo t.kP ["shape","order"] (FZ t.gf):=by
 have S:=HB
 have uU:=zK (P:=P) (w:=w) (base:=base) T
 refine T.lH.oZ S (fun vs H Q E h=>?_) (fun aH A outer s H vs Q E hr h L=>?_)
 ·obtain ⟨tp,a,n,L,zs,rfl,_⟩:=h
  rfl
 ·obtain ⟨tp,a,n,Lk,zs,rfl,hS,hL,ns,n9,ea,gT,kE,kk⟩:=h
  obtain ⟨lt,us,cq,elt,j9⟩:=id hS
  refine ⟨_,(@ax _ _ _ _ _ (@a7 _ _ 2 _ _ _ _ (by rfl) (by first | exact .inl rfl | exact .inr rfl | assumption) S.nd rfl (Or.inl rfl) (@cX _ _ _ _ ao))
   (@ax _ _ _ _ _ (cJ (FJ L) rfl (xH rfl T.uK (@aa _ _ _ _ _ (by rfl) (aW uU (hr.mono (by decide)) rfl T.uz T.jI.kp T.uy .nil (sM L) (@aa _ _ _ _ _ (by rfl) (pv 0) (@aa _ _ _ _ _ (by rfl) (pv 1) ao))) ao)) (jY rfl (eM (bS (i:=3) S.nd rfl (Or.inr rfl)) (eM (bS (i:=4) S.nd rfl (Or.inl rfl)) jX)))
    (@aA _ _ _ (eL (fm PySem.F.plainAttrs_list PySem.F.slot_list_extend PySem.F.type_list_extend xi (pv 2) (@aa _ _ _ _ _ (by rfl) (iV (N:=["other","place"]) (ρ:=(fun σ=>[σ[3]?.join])) ⟨rfl,rfl,by decide +kernel,by decide +kernel,(List.forall_mem_cons.mpr ⟨rfl,(List.forall_mem_nil _)⟩),ft (by rfl),rfl,by decide +kernel,rfl,(fun σ j v h=>match j,h with | 0,h=>⟨3,_,rfl,rfl,join_some h,Or.inr (Or.inl rfl),.inl rfl,.inl rfl⟩ | j+1,h=>by cases h),(fun _ _=>rfl)⟩ rfl (dR (pv 4)) (fun s₃ H₃ fp=>.nil) (fun s₃ H₃ fp=>(@eO _ _ _ _ _ (@aa _ _ _ _ _ (by rfl) (bV (rV rfl) rfl T.qO boot_min (@aa _ _ _ _ _ (by rfl) (pv 1) (@aa _ _ _ _ _ (by rfl) (pv 0) ao))) (@aa _ _ _ _ _ (by rfl) (bV (rU rfl) rfl T.qP boot_max (@aa _ _ _ _ _ (by rfl) (pv 1) (@aa _ _ _ _ _ (by rfl) (pv 0) ao))) ao))))) ao)))))
   (@aA _ _ _ (@bH _ _ _ _ (@eO _ _ _ _ _ (@aa _ _ _ _ _ (by rfl) (@a8 _ _ _ _ _ _ _ eS (pv 0) au (fun _ _=>rfl)) (@aa _ _ _ _ _ (by rfl) (eh si rfl T.qN boot_tuple (@aa _ _ _ _ _ (by rfl) (bV tV rfl T.l6 PyProof.Rows.boot_sorted (@aa _ _ _ _ _ (by rfl) (pv 2) ao)) ao)) ao))))))),?_⟩
  refine ⟨Nat.zero_le _,fun l nl=>?_⟩
  have s0:aj H (upd H l (.lst [])):=aQ nl
  have el:upd H l (.lst []) l=some (.lst []):=aq
  generalize upd H l (.lst [])=H0 at s0 el ⊢
  dsimp only [aO]
  refine bO ⟨_,rfl,_,rfl,tp,a,n,Lk,zs,rfl,hS.mono s0,hL,ns,by omega,s0 _ _ ea,gT,fun no H1 s1=>kE no H1 (s0.trans s1),fun o ez ho H1 D rs g s1 nD qX la ok=>?_⟩
  have kk:=kk o ez ho
  have e8:∀p,p<n→je n Lk o p (g p):=fun p hp=>(ok p hp).2
  have ok:∀p,p<n→fY n o p (g p):=fun p hp=>(ok p hp).1
  have bA:=FY ho n9 ok
  have gh:∀p,p<n→rs p≠l:=fun p hp z=>by
   have:=qX p hp
   rw [z,el] at this
   cases this
  have HD:D≠l:=fun z=>by rw [z,el] at nD;cases nD
  have l9:((List.range n).map fun p=>V.ref (rs p)).length=n:=by rw [List.length_map,List.length_range]
  refine ⟨D,rfl,⟨_,.of la.1⟩,?_⟩
  refine xI (K:=K) (l:=D) (xs:=(List.range n).map fun p=>V.ref (rs p)) (fun k σ Hc=>∃(xs:List V) (M:List (Int×Int)) (v3 v4:Option V),σ=[some (.ref tp),some (.ref a),some (.ref l),v3,v4]∧aj H Hc∧yB Hc D n rs g∧Hc l=some (.lst xs)∧qe Hc g k xs M)
   ⟨[],[],_,_,rfl,s0.trans s1,la,s1 _ _ el,⟨⟨rfl,fun k v p h=>by cases h⟩,rfl,fun z=>⟨(fun h=>by cases h),fun⟨p,q,h,_⟩=>absurd h (Nat.not_lt_zero _)⟩,List.nodup_nil⟩⟩ (fun k σ Hc ⟨_,_,_,_,_,_,z,_⟩=>.of z.1) ?_ ?_
  ·rintro k x σ Hc Tt hx ⟨xs,M,v3,v4,rfl,sc,lc,gm,so⟩ nT
   have hk:k<n:=by
    have:=(List.getElem?_eq_some_iff.mp hx).1
    rw [l9] at this
    exact this
   have ex:x=.ref (rs k):=by
    rw [List.getElem?_map,List.getElem?_range hk] at hx
    exact (Option.some.inj hx).symm
   subst ex
   have sT:aj Hc (upd Hc Tt (.tup [.int (k:Int),.ref (rs k)])):=aQ nT
   have eT:upd Hc Tt (.tup [.int (k:Int),.ref (rs k)]) Tt=_:=aq
   generalize upd Hc Tt (.tup [.int (k:Int),.ref (rs k)])=H2 at sT eT ⊢
   have ek:=ok k hk
   have lg:(g k).length≤30:=Nat.le_trans (ue ho ek) (by omega)
   have e2:=sT _ _ (lc.2 k hk)
   refine ⟨Tt,_,rfl,.of eT,rfl,_,_,rfl,_,_,rfl,rfl,?_⟩
   refine ⟨_,rfl,.inl ⟨rfl,_,.of (sT _ _ gm)⟩,sZ (xs:=(g k).map fun k:Nat=>V.int (k:Int)) (fun R h=>⟨_,rfl,rs k,rfl,⟨_,.of e2⟩,h _ _ (aj.refl _) (ki (.of e2))⟩) (by rw [List.length_map];exact cx (by omega)) (fun _ i y Hz=>∃(b:Addr) (q:Nat),y=.ref b∧(g k)[i]?=some q∧Hz b=some (.tup [.int (bR k q).1,.int (bR k q).2])) (fun Dd i y Ha Hb ys ⟨b,x,h1,h2,h3⟩ e f=>⟨b,x,h1,h2,f b _ (fun z=>by rw [z,e] at h3;cases h3) h3⟩) ?_ ?_⟩
   ·intro Dd i x hx Hz R sz _ kz
    obtain ⟨q,hq,rfl⟩:∃q:Nat,(g k)[i]?=some q∧x=.int (q:Int):=by
     rw [List.getElem?_map] at hx
     cases e:(g k)[i]? with
     | none=>rw [e] at hx;cases hx
     | some q=>rw [e] at hx;exact ⟨q,rfl,(Option.some.inj hx).symm⟩
    refine ⟨_,rfl,_,rfl,_,_,rfl,_,rfl,_,rfl,_,_,rfl,by show 2≤sizeLine;decide,fun tp bZ=>?_⟩
    exact kz _ _ (aQ bZ) ⟨tp,q,rfl,hq,aq⟩
   ·intro Dd ys H3 HE s3 iD jN uV
    rw [List.length_map] at iD
    have lM:M.length≤435:=by
     rw [so.len]
     exact Nat.le_trans (FI (g:=fun p=>(g p).length) (Nat.le_of_lt hk)) bA
    have lx:=so.at'.1
    have uW:=s3 _ _ (sT _ _ gm)
    refine ⟨l,Dd,xs,ys,rfl,rfl,uW,uV,Nat.le_trans (show _≤900 by omega) (by decide),?_⟩
    have k9:∀b o,b≠l→H3 b=some o→upd H3 l (.lst (xs++ys)) b=some o:=fun b o nb e=>by rw [aC nb];exact e
    have l_:=sc.trans (sT.trans s3)
    refine ⟨xs++ys,M++(g k).map (bR k),_,_,rfl,fun b u e=>k9 b u (fun z=>by rw [z,nl] at e;cases e) (l_ _ _ e),⟨k9 _ _ HD (s3 _ _ (sT _ _ lc.1)),fun p hp=>k9 _ _ (gh p hp) (s3 _ _ (sT _ _ (lc.2 p hp)))⟩,aq,so.more (fun h=>((h.mono sT).mono s3).aY uW k9) hk ok ?_⟩
    refine aN.aY (H:=H3) ⟨by rw [iD,List.length_map],fun i v p h1 h2=>?_⟩ uW k9
    obtain ⟨b,q,rfl,hq,e⟩:=jN i v h1
    rw [List.getElem?_map,hq] at h2
    cases h2
    exact ⟨b,rfl,e⟩
  ·rintro σ Hc ⟨xs,M,v3,v4,rfl,sc,lc,gm,so⟩
   rw [l9] at so
   have lM:M.length≤435:=by rw [so.len];exact bA
   have lx:=so.at'.1
   have bM:∀z∈M,0≤z.2∧z.2<1000:=fun z hz=>by
    obtain ⟨p,q,h1,h2,rfl⟩:=(so.mem z).mp hz
    have:=uf h1 ((ok p h1).lt q h2)
    omega
   refine ⟨_,rfl,tp,_,_,_,rfl,rfl,.of (sc _ _ cq),rfl,_,rfl,?_⟩
   dsimp only [oM]
   refine yH gm so.at' (by omega) bM fun l' ws N H3 s3 jc i_ hN pN oN=>?_
   have s4:=sc.trans s3
   refine ⟨l',ws,rfl,.inl ⟨.of i_,fun lt nS=>?_⟩⟩
   have eI:aj H3 (upd H3 lt (.tup ws)):=aQ nS
   have nU:upd H3 lt (.tup ws) lt=some (.tup ws):=aq
   generalize upd H3 lt (.tup ws)=Hd at eI nU ⊢
   refine ⟨by show 2≤sizeLine;decide,fun tq ma=>?_⟩
   have st:aj Hd (upd Hd tq (.tup [.int (n:Int),.ref lt])):=aQ ma
   have s5:=s4.trans (eI.trans st)
   have bN:∀z∈N,0≤z.2∧z.2<1000:=fun z hz=>bM z (pN.mem_iff.mp hz)
   refine kk _ tq N s5 (none_of (s4.trans eI) ma) ⟨lt,ws,aq,st _ _ nU,(hN.mono eI).mono st⟩ ⟨yJ oN (pN.nodup_iff.mpr so.nd) bN,fun z=>?_⟩ (by rw [pN.length_eq];omega)
   rw [pN.mem_iff,so.mem]
   constructor
   ·rintro ⟨p,q,h1,h2,h3⟩
    obtain ⟨w1,w2,w3⟩:=(e8 p h1 q).mp h2
    exact ⟨p,q,h1,w1,w2,w3,h3⟩
   ·rintro ⟨p,q,h1,w1,w2,w3,h3⟩
    exact ⟨p,q,h1,(e8 p h1 q).mpr ⟨w1,w2,w3⟩,h3⟩
theorem HF:bQ ["many"] ["many"] (bo qv):=⟨rfl,rfl,rfl,by decide +kernel,rfl,by decide +kernel,by decide +kernel⟩
theorem HG(T:Txt K mg t):bw P w K mg base bW 1 t.jq t.kS ["many"] FK:=by
 have S:=HF
 refine T.lI.ok S (fun vs H Q E h=>?_) (fun aH A outer s H vs Q E hr h=>?_)
 ·obtain ⟨m,rfl,_⟩:=h
  rfl
 ·obtain ⟨m,rfl,m1,k⟩:=h
  refine ⟨_,(@aA _ _ _ (@bH _ _ _ _ (@aP _ _ _ _ _ _ _ _ cN (@aP _ _ _ _ _ _ _ _ cN (@aP _ _ _ _ _ _ _ _ d_ (pv 0) (pv 0)) (@aP _ _ _ _ _ _ _ _ d_ au (pv 0))) au))),?_⟩
  exact ⟨_,rfl,_,rfl,_,_,rfl,rfl,.inl ⟨by omega,by omega⟩,_,rfl,_,_,rfl,rfl,.inl ⟨by omega,by omega⟩,_,_,rfl,rfl,_,_,rfl,rfl,k⟩
theorem HH:bQ ["shape","order"] ["shape","order"] (bo qw):=⟨rfl,rfl,rfl,by decide +kernel,rfl,by decide +kernel,by decide +kernel⟩
theorem HI(T:Txt K mg t):bw P w K mg base (fq P w) 5 t.jr t.kT ["shape","order"] (Gh t.gf):=by
 have S:=HH
 have uU:=zK (P:=P) (w:=w) (base:=base) T
 have HJ:=HG (P:=P) (w:=w) (base:=base) T
 refine T.jJ.oZ S (fun vs H Q E h=>?_) (fun aH A outer s H vs Q E hr h L=>?_)
 ·obtain ⟨tp,a,n,L,zs,rfl,_⟩:=h
  rfl
 ·obtain ⟨tp,a,n,Lk,zs,rfl,hS,hL,ns,n9,ea,gT,kE,kk⟩:=h
  refine ⟨_,(@ax _ _ _ _ _ (@bH _ _ _ _ (bV (Dy (K:=K) rfl) rfl T.zG boot_sum (@aa _ _ _ _ _ (by rfl) (iV (N:=["others"]) (ρ:=(fun σ=>[])) ⟨rfl,rfl,by decide +kernel,by decide +kernel,(List.forall_mem_nil _),ft (by rfl),rfl,by decide +kernel,rfl,(fun σ j v h=>match j,h with | j,h=>by cases h),(fun _ _=>rfl)⟩ rfl (dR (aW uU (hr.mono (by decide)) rfl T.uz T.jI.kp T.uy .nil (sM L) (@aa _ _ _ _ _ (by rfl) (pv 0) (@aa _ _ _ _ _ (by rfl) (pv 1) ao)))) (fun s₃ H₃ fp=>.nil) (fun s₃ H₃ fp=>(aW HJ (hr.mono (by decide)) rfl T.zf T.lI.kp T.ze .nil bb (@aa _ _ _ _ _ (by rfl) (bV (DA (K:=K)) rfl T.gS boot_len (@aa _ _ _ _ _ (by rfl) (pv 0) ao)) ao)))) ao)))
   (de.jW b7)),?_⟩
  refine DB (pC (yE ⟨_,rfl,_,rfl,tp,a,n,Lk,zs,rfl,hS,hL,ns,by omega,ea,gT,kE,fun o ez ho H1 D rs g s1 nD qX la ok=>⟨D,rfl,⟨_,.of la.1⟩,?_⟩⟩))
  have l9:((List.range n).map fun p=>V.ref (rs p)).length=n:=by rw [List.length_map,List.length_range]
  refine sZ (xs:=(List.range n).map fun p=>V.ref (rs p)) (fun R h=>h _ _ (aj.refl _) (ki (.of la.1))) (by rw [l9];exact cx (by omega)) (fun _ i y _=>y=.int (((g i).length:Int)*(g i).length+3*(g i).length+1)) (fun _ _ _ _ _ _ h _ _=>h) ?_ ?_
  ·intro D' k x hx Hc R sc _ kc
   have hk:k<n:=by
    have:=(List.getElem?_eq_some_iff.mp hx).1
    rw [l9] at this
    exact this
   have ex:x=.ref (rs k):=by
    rw [List.getElem?_map,List.getElem?_range hk] at hx
    exact (Option.some.inj hx).symm
   subst ex
   have lg:(g k).length≤30:=Nat.le_trans (ue ho (ok k hk).1) (by omega)
   refine ⟨_,rfl,rs k,_,rfl,.inl (.of (sc _ _ (la.2 k hk))),(g k).length,by rw [List.length_map];rfl,by omega,kc _ Hc (aj.refl _) rfl⟩
  ·intro D' ys Hc HK sc iD jN uX
   rw [l9] at iD
   have ey:ys=((List.range n).map fun i=>((g i).length:Int)*(g i).length+3*(g i).length+1).map V.int:=by
    refine List.ext_getElem (by simp [iD]) fun i h1 h2=>?_
    rw [List.getElem_map,List.getElem_map,List.getElem_range]
    exact jN i _ (List.getElem?_eq_getElem h1)
   have es:((List.range n).map fun i=>((g i).length:Int)*(g i).length+3*(g i).length+1).sum=((((List.range n).map fun i=>(g i).length*(g i).length+3*(g i).length+1).sum:Nat):Int):=by
    generalize List.range n=l
    clear ey jN iD kk
    induction l with
    | nil=>rfl
    | cons x l ih=>rw [List.map_cons,List.sum_cons,List.map_cons,List.sum_cons,ih];push_cast;rfl
   refine ⟨D',_,rfl,.of (by rw [uX,ey]),?_⟩
   rw [es]
   exact kk o ez ho _ (s1.trans sc) _ fun M fs=>Gf ho fs ok
theorem HL:bQ ["_law_cell","_law_at","_law_x"] ["_law_cell","_law_at"] (bo qx):=⟨rfl,rfl,rfl,by decide +kernel,rfl,by decide +kernel,by decide +kernel⟩
theorem HM(T:Txt K mg t):bw P w K mg base bW 1 t.ju t.kU ["_law_cell","_law_at"] DE:=by
 have S:=HL
 refine T.lJ.ok S (fun vs H Q E h=>?_) (fun aH A outer s H vs Q E hr h=>?_)
 ·obtain ⟨c,a,rfl,_⟩:=h
  rfl
 ·obtain ⟨c,a,rfl,ha,k⟩:=h
  refine ⟨_,(@ax _ _ _ _ _ (@b8 _ _ _ _ _ _ _ _ (@bT _ _ _ _ _ _ _ _ BJ (pv 0) (@aP _ _ _ _ _ _ _ _ BF au au) (bC _)) (@aA _ _ _ (@bH _ _ _ _ (pv 0))) b7)
   (@ax _ _ _ _ _ (@a7 _ _ 2 _ _ _ _ (by rfl) (by first | exact .inl rfl | exact .inr rfl | assumption) S.nd rfl (Or.inl rfl) (@aP _ _ _ _ _ _ _ _ iP (@aP _ _ _ _ _ _ _ _ cN (@aP _ _ _ _ _ _ _ _ cN (@aP _ _ _ _ _ _ _ _ d_ (@aP _ _ _ _ _ _ _ _ iP (pv 0) au) au) (@aP _ _ _ _ _ _ _ _ d_ (pv 1) au)) au) au))
   (@ax _ _ _ _ _ (@a7 _ _ 2 _ _ _ _ (by rfl) (by first | exact .inl rfl | exact .inr rfl | assumption) S.nd rfl (Or.inl rfl) (@aP _ _ _ _ _ _ _ _ iP (@aP _ _ _ _ _ _ _ _ cN (@aP _ _ _ _ _ _ _ _ cN (@aP _ _ _ _ _ _ _ _ d_ (pv 2) (pv 2)) (@aP _ _ _ _ _ _ _ _ d_ au (pv 2))) (pv 1)) au))
   (@aA _ _ _ (@bH _ _ _ _ (@aP _ _ _ _ _ _ _ _ cN (@aP _ _ _ _ _ _ _ _ d_ (pv 2) au) (@aP _ _ _ _ _ _ _ _ iP (@aP _ _ _ _ _ _ _ _ cN (@aP _ _ _ _ _ _ _ _ d_ (pv 2) (pv 2)) (@aP _ _ _ _ _ _ _ _ d_ au (pv 1))) au))))))),?_⟩
  refine ⟨_,rfl,_,_,rfl,rfl,⟨by decide,by decide,by decide⟩,_,_,rfl,rfl,_,rfl,bX (fun h=>?_) (fun h=>?_)⟩
  ·have h:=of_decide_eq_true h
   exact ⟨_,rfl,k _ (Int.le_trans (by decide) h)⟩
  ·refine ⟨_,rfl,_,_,rfl,rfl,(by show (0:Int)<2147483647;decide),_,_,rfl,rfl,.inr ⟨by decide,by decide⟩,_,rfl,_,_,rfl,rfl,.inr ⟨by decide,by decide⟩,_,_,rfl,rfl,_,_,rfl,rfl,_,_,rfl,rfl,(by show (0:Int)<2147483629;decide),?_⟩
   have b0:=Int.emod_nonneg (c % 2147483647*48271+a*69621+11) (show (2147483629:Int)≠0 by decide)
   have b1:=Int.emod_lt_of_pos (c % 2147483647*48271+a*69621+11) (show (0:Int)<2147483629 by decide)
   generalize (c % 2147483647*48271+a*69621+11) % 2147483629=x at b0 b1 ⊢
   refine ⟨_,rfl,_,rfl,_,_,rfl,rfl,.inl ⟨by omega,by omega⟩,_,rfl,_,_,rfl,rfl,.inl ⟨by decide,by decide⟩,_,_,rfl,rfl,_,rfl,_,_,rfl,rfl,_,_,rfl,rfl,(by show (0:Int)<2147483587;decide),?_⟩
   have c0:=Int.emod_nonneg (x*x+48271*x+a) (show (2147483587:Int)≠0 by decide)
   have c1:=Int.emod_lt_of_pos (x*x+48271*x+a) (show (0:Int)<2147483587 by decide)
   generalize (x*x+48271*x+a) % 2147483587=y at c0 c1 ⊢
   refine ⟨_,rfl,_,_,rfl,rfl,.inr ⟨by decide,by decide⟩,_,rfl,_,rfl,_,_,rfl,rfl,.inl ⟨by omega,by omega⟩,_,rfl,_,_,rfl,rfl,.inl ⟨by decide,by decide⟩,_,_,rfl,rfl,_,_,rfl,rfl,(by show (0:Int)<2147483579;decide),_,_,rfl,rfl,k _ (Int.add_nonneg (Int.mul_nonneg (Int.emod_nonneg _ (by decide)) (by decide)) (Int.emod_nonneg _ (by decide)))⟩
theorem HN:bQ ["_law_pen","_law_many","_law_at","_law_cell","_law_found"] ["_law_pen","_law_many"] (bo qy):=⟨rfl,rfl,rfl,by decide +kernel,rfl,by decide +kernel,by decide +kernel⟩
theorem md(T:Txt K mg t):bw P w K mg base bW 2 t.jv t.kW ["_law_pen","_law_many"] (DF K):=by
 have S:=HN
 have HP:=HM (P:=P) (w:=w) (base:=base) T
 refine T.cp.ok S (fun vs H Q E h=>?_) (fun aH A outer s H vs Q E hr h=>?_)
 ·obtain ⟨P0,a,ns,many,rfl,_⟩:=h
  rfl
 ·obtain ⟨P0,a,ns,many,rfl,⟨x,y,eP,hx,hy⟩,hS,m1,mm,k⟩:=h
  have gU:=hr.units
  refine ⟨_,(@ax _ _ _ _ _ (@b8 _ _ _ _ _ _ _ _ (@bT _ _ _ _ _ _ _ _ rT (@a8 _ _ _ _ _ _ _ bL (pv 0) au (fun _ _=>rfl)) (pv 1) (bC _)) (@ax _ _ _ _ _ (@a7 _ _ 2 _ _ _ _ (by rfl) (by first | exact .inl rfl | exact .inr rfl | assumption) S.nd rfl (Or.inl rfl) (@a8 _ _ _ _ _ _ _ bL (pv 0) au (fun _ _=>rfl)))
   (@ax _ _ _ _ _ (@a7 _ _ 3 _ _ _ _ (by rfl) (by first | exact .inl rfl | exact .inr rfl | assumption) S.nd rfl (Or.inl rfl) au)
   (@ax _ _ _ _ _ (@b8 _ _ _ _ _ _ _ _ (@bT _ _ _ _ _ _ _ _ rT (pv 2) (bV hI rfl T.gS boot_len (@aa _ _ _ _ _ (by rfl) (@a8 _ _ _ _ _ _ _ bL (pv 0) au (fun _ _=>rfl)) ao)) (bC _)) (@aA _ _ _ (@a7 _ _ 3 _ _ _ _ (by rfl) (by first | exact .inl rfl | exact .inr rfl | assumption) S.nd rfl (Or.inl rfl) (@a8 _ _ _ _ _ _ _ bL (@a8 _ _ _ _ _ _ _ bL (pv 0) au (fun _ _=>rfl)) (pv 2) (fun _ _=>rfl)))) (@aA _ _ _ (@b8 _ _ _ _ _ _ _ _ (@bT _ _ _ _ _ _ _ _ j7 (bV hI rfl T.gS boot_len (@aa _ _ _ _ _ (by rfl) (@a8 _ _ _ _ _ _ _ bL (pv 0) au (fun _ _=>rfl)) ao)) au (bC _)) (@aA _ _ _ (@a7 _ _ 3 _ _ _ _ (by rfl) (by first | exact .inl rfl | exact .inr rfl | assumption) S.nd rfl (Or.inl rfl) (@aP _ _ _ _ _ _ _ _ cN (@aP _ _ _ _ _ _ _ _ iP (@a8 _ _ _ _ _ _ _ bL (@a8 _ _ _ _ _ _ _ bL (pv 0) au (fun _ _=>rfl)) (@aP _ _ _ _ _ _ _ _ iP (@aP _ _ _ _ _ _ _ _ d_ (pv 2) au) (bV hI rfl T.gS boot_len (@aa _ _ _ _ _ (by rfl) (@a8 _ _ _ _ _ _ _ bL (pv 0) au (fun _ _=>rfl)) ao))) (fun _ _=>rfl)) au) (@aP _ _ _ _ _ _ _ _ d_ (pv 2) au)))) b7)))
   (@ax _ _ _ _ _ (@j4 _ _ _ _ _ _ (@aP _ _ _ _ _ _ _ _ cN (pv 2) au) (jZ (pv 0) au set_list) (by rfl) (by rfl) (by rfl))
   (@aA _ _ _ (@j4 _ _ _ _ _ _ (aW HP (hr.mono (by decide)) rfl T.zh T.lJ.kp T.zg .nil bb (@aa _ _ _ _ _ (by rfl) (pv 3) (@aa _ _ _ _ _ (by rfl) (pv 2) ao))) (jZ (pv 0) au set_list) (by rfl) (by rfl) (by rfl))))))) b7)
   (@ax _ _ _ _ _ (@a7 _ _ 4 _ _ _ _ (by rfl) (by first | exact .inl rfl | exact .inr rfl | assumption) S.nd rfl (Or.inl rfl) (@aP _ _ _ _ _ _ _ _ iP (@a8 _ _ _ _ _ _ _ bL (pv 0) au (fun _ _=>rfl)) (pv 1)))
   (@ax _ _ _ _ _ (@j4 _ _ _ _ _ _ (@aP _ _ _ _ _ _ _ _ Dh (@a8 _ _ _ _ _ _ _ bL (pv 0) au (fun _ _=>rfl)) (pv 1)) (jZ (pv 0) au set_list) (by rfl) (by rfl) (by rfl))
   (@aA _ _ _ (@bH _ _ _ _ (pv 4)))))),?_⟩
  have gb:=m4.seq hS
  refine ⟨_,rfl,P0,_,_,_,rfl,rfl,.of eP,rfl,_,rfl,_,_,rfl,rfl,_,rfl,bX (fun ba=>?_) (fun ba=>?_)⟩
  ·refine ⟨_,rfl,P0,_,_,_,rfl,rfl,.of eP,rfl,?_⟩
   refine ⟨_,rfl,_,rfl,P0,_,_,_,rfl,rfl,.of eP,rfl,a,ns.map V.int,rfl,.inl gb,_,_,rfl,rfl,_,rfl,bX (fun h1=>?_) (fun h1=>?_)⟩
   ·have h1:x<((ns.map V.int).length:Int):=of_decide_eq_true h1
    obtain ⟨v,hv,mv⟩:=xA (xs:=ns.map V.int) hx h1
    obtain ⟨c,_,rfl⟩:=List.mem_map.mp mv
    refine ⟨_,rfl,P0,_,_,_,rfl,rfl,.of eP,rfl,_,rfl,a,ns.map V.int,_,_,rfl,rfl,gb,hv,?_⟩
    refine ⟨_,rfl,_,_,rfl,rfl,_,rfl,P0,_,1,1,rfl,rfl,eP,rfl,?_⟩
    refine ⟨_,rfl,_,rfl,c,x,rfl,hx,fun r nV=>⟨_,rfl,P0,_,2,2,rfl,rfl,aq,rfl,?_⟩⟩
    have q0:=Int.emod_nonneg (r) (show many≠0 by omega)
    have q1:=Int.emod_lt_of_pos (r) (show 0<many by omega)
    have q2:=Int.ediv_nonneg (nV) (show 0≤many by omega)
    refine ⟨_,rfl,P0,_,_,_,rfl,rfl,.of aq,rfl,_,rfl,_,_,rfl,rfl,(show 0<many by omega),?_⟩
    refine ⟨_,rfl,P0,_,_,_,rfl,rfl,.of aq,rfl,_,rfl,_,_,rfl,rfl,⟨show 0<many by omega,mm⟩,_,rfl,P0,_,2,2,rfl,rfl,aq,rfl,?_⟩
    exact ⟨_,rfl,k _ _ q0 q1 (((aw.refl H).trans aw.fS).trans (aw.fS.trans aw.fS)) ⟨x+1,r / many,aq,by omega,q2⟩⟩
   ·refine ⟨_,rfl,P0,_,_,_,rfl,rfl,.of eP,rfl,a,ns.map V.int,rfl,.inl gb,_,_,rfl,rfl,_,rfl,?_⟩
    have qY:=eP
    have zW:=gb
    have sl:=aj.refl H
    refine bX (fun h2=>?_) (fun h2=>?_)
    ·have hl:0<(ns.map V.int).length:=by
      have:=of_decide_eq_true h2
      omega
     have HQ:=Int.emod_nonneg (x*7) (show ((ns.map V.int).length:Int)≠0 by omega)
     have nO:=Int.emod_lt_of_pos (x*7) (show (0:Int)<((ns.map V.int).length:Int) by omega)
     obtain ⟨v,hv,mv⟩:=xA (xs:=ns.map V.int) HQ nO
     obtain ⟨c,_,rfl⟩:=List.mem_map.mp mv
     refine ⟨_,rfl,P0,_,_,_,rfl,rfl,.of qY,rfl,_,rfl,_,_,rfl,rfl,.inr ⟨by decide,by decide⟩,_,rfl,P0,_,_,_,rfl,rfl,.of qY,rfl,a,ns.map V.int,rfl,.inl zW,_,_,rfl,rfl,(show (0:Int)<((ns.map V.int).length:Int) by omega),a,ns.map V.int,_,_,rfl,rfl,zW,hv,_,_,rfl,rfl,(show (0:Int)<1000003 by decide),_,rfl,_,_,rfl,rfl,.inr ⟨by decide,by decide⟩,_,_,rfl,rfl,?_⟩
     refine ⟨_,rfl,_,_,rfl,rfl,_,rfl,P0,_,1,1,rfl,rfl,qY,rfl,?_⟩
     refine ⟨_,rfl,_,rfl,_,x,rfl,hx,fun r nV=>⟨_,rfl,P0,_,2,2,rfl,rfl,aq,rfl,?_⟩⟩
     have q0:=Int.emod_nonneg (r) (show many≠0 by omega)
     have q1:=Int.emod_lt_of_pos (r) (show 0<many by omega)
     have q2:=Int.ediv_nonneg (nV) (show 0≤many by omega)
     refine ⟨_,rfl,P0,_,_,_,rfl,rfl,.of aq,rfl,_,rfl,_,_,rfl,rfl,(show 0<many by omega),?_⟩
     refine ⟨_,rfl,P0,_,_,_,rfl,rfl,.of aq,rfl,_,rfl,_,_,rfl,rfl,⟨show 0<many by omega,mm⟩,_,rfl,P0,_,2,2,rfl,rfl,aq,rfl,?_⟩
     exact ⟨_,rfl,k _ _ q0 q1 (((aw.of sl).trans aw.fS).trans (aw.fS.trans aw.fS)) ⟨x+1,r / many,aq,by omega,q2⟩⟩
    ·
     refine ⟨_,rfl,_,_,rfl,rfl,_,rfl,P0,_,1,1,rfl,rfl,qY,rfl,?_⟩
     refine ⟨_,rfl,_,rfl,0,x,rfl,hx,fun r nV=>⟨_,rfl,P0,_,2,2,rfl,rfl,aq,rfl,?_⟩⟩
     have q0:=Int.emod_nonneg (r) (show many≠0 by omega)
     have q1:=Int.emod_lt_of_pos (r) (show 0<many by omega)
     have q2:=Int.ediv_nonneg (nV) (show 0≤many by omega)
     refine ⟨_,rfl,P0,_,_,_,rfl,rfl,.of aq,rfl,_,rfl,_,_,rfl,rfl,(show 0<many by omega),?_⟩
     refine ⟨_,rfl,P0,_,_,_,rfl,rfl,.of aq,rfl,_,rfl,_,_,rfl,rfl,⟨show 0<many by omega,mm⟩,_,rfl,P0,_,2,2,rfl,rfl,aq,rfl,?_⟩
     exact ⟨_,rfl,k _ _ q0 q1 (((aw.of sl).trans aw.fS).trans (aw.fS.trans aw.fS)) ⟨x+1,r / many,aq,by omega,q2⟩⟩
  ·dsimp only [g7]
   have q0:=Int.emod_nonneg (y) (show many≠0 by omega)
   have q1:=Int.emod_lt_of_pos (y) (show 0<many by omega)
   have q2:=Int.ediv_nonneg (hy) (show 0≤many by omega)
   refine ⟨_,rfl,P0,_,_,_,rfl,rfl,.of eP,rfl,_,rfl,_,_,rfl,rfl,(show 0<many by omega),?_⟩
   refine ⟨_,rfl,P0,_,_,_,rfl,rfl,.of eP,rfl,_,rfl,_,_,rfl,rfl,⟨show 0<many by omega,mm⟩,_,rfl,P0,_,2,2,rfl,rfl,eP,rfl,?_⟩
   exact ⟨_,rfl,k _ _ q0 q1 (aw.fS) ⟨x,y / many,aq,hx,q2⟩⟩
theorem HR:bQ ["_law_pen","_law_some","_law_left","_law_found"] ["_law_pen","_law_some"] (bo qz):=⟨rfl,rfl,rfl,by decide +kernel,rfl,by decide +kernel,by decide +kernel⟩
theorem uY(T:Txt K mg t):bw P w K mg base bW 3 t.jw t.kX ["_law_pen","_law_some"] (Ez K):=by
 have S:=HR
 have cu:=md (P:=P) (w:=w) (base:=base) T
 refine T.iB.ok S (fun vs H Q E h=>?_) (fun aH A outer s H vs Q E hr h=>?_)
 ·obtain ⟨P0,a,l,ns,xs,rfl,_⟩:=h
  rfl
 ·obtain ⟨P0,a,l,ns,xs,rfl,pc,hS,nl,el,Mg,kk⟩:=h
  have gU:=hr.units
  refine ⟨_,(@ax _ _ _ _ _ (@a7 _ _ 2 _ _ _ _ (by rfl) (by first | exact .inl rfl | exact .inr rfl | assumption) S.nd rfl (Or.inl rfl) (eh Ce rfl T.iC boot_list (@aa _ _ _ _ _ (by rfl) (pv 1) ao)))
   (@ax _ _ _ _ _ (@a7 _ _ 3 _ _ _ _ (by rfl) (by first | exact .inl rfl | exact .inr rfl | assumption) S.nd rfl (Or.inl rfl) (@cX _ _ _ _ ao))
   (@ax _ _ _ _ _ (@wm _ _ _ _ _ _ PassesOwn.never (@bT _ _ _ _ _ _ _ _ (x8 gU) (pv 2) (@cX _ _ _ _ ao) (bC _)) (@aA _ _ _ (eL (fm PySem.F.plainAttrs_list PySem.F.slot_list_append PySem.F.type_list_append fR (pv 3) (@aa _ _ _ _ _ (by rfl) (fm PySem.F.plainAttrs_list PySem.F.slot_list_pop PySem.F.type_list_pop Cu (pv 2) (@aa _ _ _ _ _ (by rfl) (aW cu (hr.mono (by decide)) rfl T.cU T.cp.kp T.cT .nil bb (@aa _ _ _ _ _ (by rfl) (pv 0) (@aa _ _ _ _ _ (by rfl) (bV hI rfl T.gS boot_len (@aa _ _ _ _ _ (by rfl) (pv 2) ao)) ao))) ao)) ao)))))
   (@aA _ _ _ (@bH _ _ _ _ (pv 3)))))),?_⟩
  refine ⟨_,rfl,l,xs,rfl,.inl (.of el),fun l1 n1=>?_⟩
  have s1:aj H (upd H l1 (.lst xs)):=aQ n1
  have e1:upd H l1 (.lst xs) l1=some (.lst xs):=aq
  dsimp only [aO]
  generalize upd H l1 (.lst xs)=H1 at s1 e1 ⊢
  refine ⟨by show 0≤sizeLine;decide,fun l2 n2=>?_⟩
  have s2:aj H1 (upd H1 l2 (.lst [])):=aQ n2
  have e2:upd H1 l2 (.lst []) l2=some (.lst []):=aq
  dsimp only [aO]
  generalize upd H1 l2 (.lst [])=H2 at s2 e2 ⊢
  have zX:l1≠P0:=pc.ne n1
  have qZ:l2≠P0:=(pc.mono s1).ne n2
  have zY:H l2=none:=none_of s1 n2
  have zZ:l1≠l2:=fun e=>by rw [e,n2] at e1;cases e1
  refine bO ⟨fun m σ Hc=>∃zs ys:List V,σ=[some (.ref P0),some (.ref l),some (.ref l1),some (.ref l2)]∧m=zs.length∧Hc l1=some (.lst zs)∧Hc l2=some (.lst ys)∧(zs++ys).Perm xs∧aw P0 H Hc∧aZ Hc P0 a,⟨_,xs,[],rfl,rfl,s2 _ _ e1,e2,by rw [List.append_nil],aw.of (s1.trans s2),(pc.mono s1).mono s2⟩,?_⟩
  rintro m σ Hc ⟨zs,ys,rfl,rfl,ez,ey,pm,sc,p1⟩
  have lz:zs.length≤100:=by
   have:=pm.length_eq
   rw [List.length_append] at this
   omega
  have ly:ys.length≤100:=by
   have:=pm.length_eq
   rw [List.length_append] at this
   omega
  refine ⟨_,rfl,by show 0≤sizeLine;decide,fun le uZ=>?_⟩
  have s3:aj Hc (upd Hc le (.lst [])):=aQ uZ
  have e3:upd Hc le (.lst []) le=some (.lst []):=aq
  generalize upd Hc le (.lst [])=H3 at s3 e3 ⊢
  refine ⟨l1,le,zs,rfl,rfl,.of (s3 _ _ ez),e3,_,rfl,bX (fun hz=>?_) (fun hz=>?_)⟩
  ·have z0:1≤zs.length:=by
    cases zs with
    | nil=>cases hz
    | cons=>simp
   have l_:=sc.trans (aw.of s3)
   refine ⟨_,fun _ _ h=>h,?_⟩
   refine ⟨_,rfl,.inl ⟨rfl,_,.of (s3 _ _ ey)⟩,_,rfl,.inl ⟨rfl,_,.of (s3 _ _ ez)⟩,_,rfl,_,rfl,l1,zs,rfl,.inl (.of (s3 _ _ ez)),P0,a,ns,(zs.length:Int),rfl,p1.mono s3,aj.seq l_ hS,by omega,cg.of_lt (by omega) (by omega),fun c H4 c0 c1 s4 p4=>?_⟩
   obtain ⟨k,rfl⟩:=Int.eq_ofNat_of_zero_le c0
   have hk:k<zs.length:=by omega
   have HS:=s4.at zX (s3 _ _ ez)
   have HU:=s4.at qZ (s3 _ _ ey)
   have sx:seqIndex? (k:Int) zs.length=some k:=by
    unfold seqIndex?
    simp
    omega
   refine ⟨l1,zs,(k:Int),k,zs[k],rfl,rfl,HS,by omega,by omega,sx,by simp [hk],?_⟩
   have nn:l2≠l1:=fun e=>zZ e.symm
   refine ⟨l2,ys,zs[k],rfl,rfl,by rw [aC nn];exact HU,cx (by omega),?_⟩
   refine ⟨_,?_,zs.eraseIdx k,ys++[zs[k]],rfl,rfl,by rw [aC zZ,aq],aq,?_,?_,?_⟩
   ·rw [List.length_eraseIdx_of_lt hk]
    omega
   ·refine List.Perm.trans ?_ pm
    rw [←List.append_assoc]
    refine (List.perm_append_comm).trans ?_
    show (zs[k]::(zs.eraseIdx k++ys)).Perm (zs++ys)
    exact (x9 zs k hk).append_right ys
   ·exact ((l_.trans s4).but n1).but zY
   ·exact ((p4.upd zX).upd qZ)
  ·have z0:zs=[]:=by
    cases zs with
    | nil=>rfl
    | cons=>exact absurd rfl hz
   subst z0
   refine ⟨_,rfl,kk l2 ys H3 (sc.trans (aw.of s3)) (p1.mono s3) ?_ qZ (s3 _ _ ey) pm⟩
   rw [b4 qZ]
   exact zY
theorem HV:bQ ["_law_pen","_law_way","_law_size","_law_wide","_law_i","_law_j"] ["_law_pen","_law_way","_law_size","_law_wide","_law_i","_law_j"] (bo qA):=⟨rfl,rfl,rfl,by decide +kernel,rfl,by decide +kernel,by decide +kernel⟩
theorem HW(T:Txt K mg t):bw P w K mg base bW 3 t.jx t.kY ["_law_pen","_law_way","_law_size","_law_wide","_law_i","_law_j"] (EA K):=by
 have S:=HV
 have cu:=md (P:=P) (w:=w) (base:=base) T
 refine T.lK.ok S (fun vs H Q E h=>?_) (fun aH A outer s H vs Q E hr h=>?_)
 ·obtain ⟨P0,a,ns,way,size,wide,i,j,rfl,_⟩:=h
  rfl
 ·obtain ⟨P0,a,ns,way,size,wide,i,j,rfl,pc,hS,kk⟩:=h
  refine ⟨_,(@ax _ _ _ _ _ (@b8 _ _ _ _ _ _ _ _ (@bT _ _ _ _ _ _ _ _ dS (pv 1) au (bC _)) (@aA _ _ _ (@bH _ _ _ _ (@iQ _ _ _ _ _ _ _ _ dS (aW cu (hr.mono (by decide)) rfl T.cU T.cp.kp T.cT .nil bb (@aa _ _ _ _ _ (by rfl) (pv 0) (@aa _ _ _ _ _ (by rfl) au ao))) au (bC _)))) b7)
   (@ax _ _ _ _ _ (@b8 _ _ _ _ _ _ _ _ (@bT _ _ _ _ _ _ _ _ dS (pv 1) au (bC _)) (@aA _ _ _ (@bH _ _ _ _ (@iQ _ _ _ _ _ _ _ _ dS (aW cu (hr.mono (by decide)) rfl T.cU T.cp.kp T.cT .nil bb (@aa _ _ _ _ _ (by rfl) (pv 0) (@aa _ _ _ _ _ (by rfl) au ao))) au (bC _)))) b7)
   (@ax _ _ _ _ _ (@b8 _ _ _ _ _ _ _ _ (@bT _ _ _ _ _ _ _ _ dS (pv 1) au (bC _)) (@aA _ _ _ (@bH _ _ _ _ (@iQ _ _ _ _ _ _ _ _ j7 (aW cu (hr.mono (by decide)) rfl T.cU T.cp.kp T.cT .nil bb (@aa _ _ _ _ _ (by rfl) (pv 0) (@aa _ _ _ _ _ (by rfl) au ao))) au (bC _)))) b7)
   (@ax _ _ _ _ _ (@b8 _ _ _ _ _ _ _ _ (@bT _ _ _ _ _ _ _ _ dS (pv 1) au (bC _)) (@aA _ _ _ (@bH _ _ _ _ (Bj (@iQ _ _ _ _ _ _ _ _ dS (@aP _ _ _ _ _ _ _ _ gx (pv 5) (pv 4)) au (bC _)) (@wc _ _ _ _ _ (@iQ _ _ _ _ _ _ _ _ dS (@aP _ _ _ _ _ _ _ _ gx (pv 5) (pv 4)) (@aP _ _ _ _ _ _ _ _ gx (pv 2) au) (bC _)))))) b7)
   (@aA _ _ _ (@bH _ _ _ _ (@iQ _ _ _ _ _ _ _ _ BI (@aP _ _ _ _ _ _ _ _ gx (pv 5) (pv 4)) (pv 3) (bC _)))))))),?_⟩
  refine ⟨_,rfl,rfl,_,rfl,bX (fun _=>?_) (fun _=>?_)⟩
  ·exact ⟨_,rfl,P0,a,ns,2,rfl,pc,hS,by decide,cg.of_lt (by decide) (by decide),fun c H1 _ _ s1 p1=>⟨rfl,kk _ H1 s1 p1⟩⟩
  dsimp only [g7]
  refine ⟨_,rfl,rfl,_,rfl,bX (fun _=>?_) (fun _=>?_)⟩
  ·exact ⟨_,rfl,P0,a,ns,4,rfl,pc,hS,by decide,cg.of_lt (by decide) (by decide),fun c H1 _ _ s1 p1=>⟨rfl,kk _ H1 s1 p1⟩⟩
  dsimp only [g7]
  refine ⟨_,rfl,rfl,_,rfl,bX (fun _=>?_) (fun _=>?_)⟩
  ·exact ⟨_,rfl,P0,a,ns,4,rfl,pc,hS,by decide,cg.of_lt (by decide) (by decide),fun c H1 _ _ s1 p1=>⟨_,_,rfl,rfl,kk _ H1 s1 p1⟩⟩
  dsimp only [g7]
  refine ⟨_,rfl,rfl,_,rfl,bX (fun _=>?_) (fun _=>?_)⟩
  ·refine ⟨_,rfl,_,rfl,_,_,rfl,rfl,rfl,_,rfl,bX (fun _=>?_) (fun _=>?_)⟩
   ·exact kk _ H (aw.refl _) pc
   ·exact ⟨_,rfl,_,rfl,_,_,rfl,rfl,_,rfl,_,_,rfl,rfl,rfl,kk _ H (aw.refl _) pc⟩
  dsimp only [g7]
  exact ⟨_,rfl,_,rfl,_,_,rfl,rfl,_,rfl,_,_,rfl,rfl,kk _ H (aw.refl _) pc⟩
theorem HX:bQ ["_law_size","_law_links","_law_names","_law_found","_law_i","_law_j","_law_one"] ["_law_size","_law_links","_law_names"] (bo qD):=⟨rfl,rfl,rfl,by decide +kernel,rfl,by decide +kernel,by decide +kernel⟩
theorem z5(T:Txt K mg t):bw P w K mg base bW 3 t.jA t.k6 ["_law_size","_law_links","_law_names"] ED:=by
 have S:=HX
 refine T.jK.ok S (fun vs H Q E h=>?_) (fun aH A outer s H vs Q E hr h=>?_)
 ·obtain ⟨l,r,n,us,ws,L,nm,rfl,_⟩:=h
  rfl
 ·obtain ⟨l,r,n,us,ws,L,nm,rfl,el,hL,ok,nW,jP,lw,hw,N,kk⟩:=h
  refine ⟨_,(@ax _ _ _ _ _ (@a7 _ _ 3 _ _ _ _ (by rfl) (by first | exact .inl rfl | exact .inr rfl | assumption) S.nd rfl (Or.inl rfl) (@cX _ _ _ _ ao))
   (@ax _ _ _ _ _ (cJ PassesOwn.never rfl (dR (pv 1)) (jY rfl (eM (bS (i:=4) S.nd rfl (Or.inl rfl)) (eM (bS (i:=5) S.nd rfl (Or.inl rfl)) jX)))
    (@ax _ _ _ _ _ (@a7 _ _ 6 _ _ _ _ (by rfl) (by first | exact .inl rfl | exact .inr rfl | assumption) S.nd rfl (Or.inl rfl) (bV (rV rfl) rfl T.qO boot_min (@aa _ _ _ _ _ (by rfl) (@a8 _ _ _ _ _ _ _ bL (pv 2) (pv 4) (fun _ _=>rfl)) (@aa _ _ _ _ _ (by rfl) (@a8 _ _ _ _ _ _ _ bL (pv 2) (pv 5) (fun _ _=>rfl)) ao))))
   (@aA _ _ _ (eL (fm PySem.F.plainAttrs_list PySem.F.slot_list_append PySem.F.type_list_append fR (pv 3) (@aa _ _ _ _ _ (by rfl) (@eO _ _ _ _ _ (@aa _ _ _ _ _ (by rfl) (pv 6) (@aa _ _ _ _ _ (by rfl) (bV (rU rfl) rfl T.qP boot_max (@aa _ _ _ _ _ (by rfl) (@a8 _ _ _ _ _ _ _ bL (pv 2) (pv 4) (fun _ _=>rfl)) (@aa _ _ _ _ _ (by rfl) (@a8 _ _ _ _ _ _ _ bL (pv 2) (pv 5) (fun _ _=>rfl)) ao))) ao))) ao))))))
   (@aA _ _ _ (@bH _ _ _ _ (@eO _ _ _ _ _ (@aa _ _ _ _ _ (by rfl) (pv 0) (@aa _ _ _ _ _ (by rfl) (eh si rfl T.qN boot_tuple (@aa _ _ _ _ _ (by rfl) (bV tV rfl T.l6 PyProof.Rows.boot_sorted (@aa _ _ _ _ _ (by rfl) (pv 3) ao)) ao)) ao))))))),?_⟩
  refine ⟨by show 0≤sizeLine;decide,fun fd cH=>?_⟩
  have s0:aj H (upd H fd (.lst [])):=aQ cH
  have z6:upd H fd (.lst []) fd=some (.lst []):=aq
  dsimp only [aO]
  generalize upd H fd (.lst [])=H1 at s0 z6 ⊢
  refine ⟨_,rfl,l,rfl,⟨_,.of (s0 _ _ el)⟩,?_⟩
  refine iM (K:=K) (a:=l) (xs:=us) (fun k σ Hc=>∃(xs:List V) (v4 v5 v6:Option V),σ=[some (.int (n:Int)),some (.ref l),some (.ref r),some (.ref fd),v4,v5,v6]∧aj H Hc∧Hc fd=some (.lst xs)∧aN Hc xs ((L.take k).map (dH nm))) ⟨[],_,_,_,rfl,s0,z6,aN.nil _⟩ (fun k σ Hc _ ⟨_,_,_,_,_,sc,_⟩=>.of (sc _ _ el)) ?_ ?_
  ·rintro k x σ Hc hx ⟨xs,v4,v5,v6,rfl,sc,ef,hX⟩
   have hk:k<L.length:=by
    rw [←hL.1]
    exact (List.getElem?_eq_some_iff.mp hx).1
   obtain ⟨b,rfl,eb⟩:=(hL.mono sc).2 k x L[k] hx (by simp [hk])
   have pk:=ok.lt L[k] (List.getElem_mem hk)
   have tk:(L.take (k+1)).map (dH nm)=(L.take k).map (dH nm)++[dH nm L[k]]:=by
    rw [List.take_succ,List.getElem?_eq_getElem hk,List.map_append]
    rfl
   have lX:=hX.1
   rw [List.length_map,List.length_take] at lX
   have bA:L.length≤450:=Nat.le_trans ok.bA (by
    have:n*n≤30*30:=Nat.mul_le_mul nW nW
    omega)
   generalize L[k]=p at eb pk tk
   obtain ⟨p1,p2⟩:=p
   dsimp only at pk
   obtain ⟨i,rfl⟩:=Int.eq_ofNat_of_zero_le pk.1
   obtain ⟨j,rfl⟩:=Int.eq_ofNat_of_zero_le (show 0≤p2 by omega)
   have z7:eR ws (i:Int)=some (.int (nm i)):=iR (hw i (by omega))
   have at2:eR ws (j:Int)=some (.int (nm j)):=iR (hw j (by omega))
   have q5:=sc _ _ jP
   refine ⟨b,_,rfl,.of eb,rfl,_,_,rfl,_,_,rfl,rfl,?_⟩
   refine ⟨_,rfl,_,rfl,r,ws,_,.int (nm i),rfl,rfl,.of q5,z7,_,rfl,_,rfl,r,ws,_,.int (nm j),rfl,rfl,.of q5,at2,nm i,nm j,rfl,?_⟩
   dsimp only [aO]
   refine ⟨_,rfl,.inl ⟨rfl,_,.of ef⟩,_,rfl,_,rfl,_,rfl,r,ws,_,.int (nm i),rfl,rfl,.of q5,z7,_,rfl,_,rfl,r,ws,_,.int (nm j),rfl,rfl,.of q5,at2,nm i,nm j,rfl,by show 2≤sizeLine;decide,fun tp bZ=>?_⟩
   have eq:dH nm ((i:Int),(j:Int))=(if nm j<nm i then nm j else nm i,if nm j>nm i then nm j else nm i):=by
    unfold dH
    simp only [Int.toNat_natCast]
    refine Prod.ext ?_ ?_
    ·show min (nm i) (nm j)=_
     split <;> omega
    ·show max (nm i) (nm j)=_
     split <;> omega
   have st:aj Hc (upd Hc tp (.tup [.int (if nm j<nm i then nm j else nm i),.int (if nm j>nm i then nm j else nm i)])):=aQ bZ
   have cq:upd Hc tp (.tup [.int (if nm j<nm i then nm j else nm i),.int (if nm j>nm i then nm j else nm i)]) tp=some (.tup [.int (dH nm ((i:Int),(j:Int))).1,.int (dH nm ((i:Int),(j:Int))).2]):=by rw [aq,eq]
   generalize upd Hc tp (.tup [.int (if nm j<nm i then nm j else nm i),.int (if nm j>nm i then nm j else nm i)])=Hd at st cq ⊢
   have cw:=st _ _ ef
   refine ⟨fd,xs,_,rfl,rfl,cw,cx (by omega),xs++[.ref tp],_,_,_,rfl,dW (sc.trans st) cH,aq,?_⟩
   rw [tk]
   exact ((hX.mono st).push cq).aY cw fun b o nb e=>by rw [aC nb];exact e
  ·rintro σ Hc ⟨xs,v4,v5,v6,rfl,sc,ef,hX⟩
   rw [hL.1,List.take_length] at hX
   have q8:=EC ok N
   have lX:=hX.1
   have bA:L.length≤450:=Nat.le_trans ok.bA (by
    have:n*n≤30*30:=Nat.mul_le_mul nW nW
    omega)
   have lM:(L.map (dH nm)).length=L.length:=List.length_map ..
   have small:∀q∈L.map (dH nm),0≤q.2∧q.2<1000:=fun q hq=>by
    have:=q8.lt q hq
    omega
   generalize hM:L.map (dH nm)=M at hX q8 lX lM small kk
   dsimp only
   refine ⟨_,rfl,_,rfl,fd,xs,fun i=>(M.getD i (0,0)).1,fun i=>(M.getD i (0,0)).2,rfl,ef,by omega,fun i v hv=>?_,fun p l' hp hu jc=>?_⟩
   ·have hi:i<M.length:=by
     rw [←lX]
     exact (List.getElem?_eq_some_iff.mp hv).1
    obtain ⟨b,rfl,eb⟩:=hX.2 i v M[i] hv (by simp [hi])
    dsimp only
    rw [getD_at hi]
    exact ⟨⟨b,rfl,eb⟩,small _ (List.getElem_mem hi)⟩
   rw [lX] at hp hu
   obtain ⟨pm,pw⟩:=EB hp hu q8.nd small
   have sl:aj Hc (upd Hc l' (.lst (p.toList.map fun i=>xs.getD i .aF))):=aQ jc
   have hP:aN Hc (p.toList.map fun i=>xs.getD i .aF) (p.toList.map fun i=>M.getD i (0,0)):=hX.pick _ fun i hi=>by
    have:p.toList.Perm (List.range M.length):=Array.perm_iff_toList_perm.mp hp
    exact List.mem_range.mp (this.mem_iff.mp hi)
   generalize (p.toList.map fun i=>xs.getD i .aF)=zs at sl hP ⊢
   refine ⟨l',zs,rfl,.inl ⟨.of aq,fun lt nS=>?_⟩⟩
   have eI:=sl.trans (aQ (o:=.tup zs) nS)
   have elt:upd (upd Hc l' (.lst zs)) lt (.tup zs) lt=some (.tup zs):=aq
   generalize upd (upd Hc l' (.lst zs)) lt (.tup zs)=Hd at eI elt ⊢
   refine ⟨by show 2≤sizeLine;decide,fun tp bZ=>?_⟩
   have st:aj Hd (upd Hd tp (.tup [.int (n:Int),.ref lt])):=aQ bZ
   have sT:=sc.trans (eI.trans st)
   exact kk tp _ _ sT (none_of (sc.trans eI) bZ) ⟨lt,zs,aq,st _ _ elt,(hP.mono eI).mono st⟩ (q8.perm pm) pw pm
theorem HY:bQ ["_law_pen","_law_size","_law_ahead","_law_found","_law_j","_law_at","_law_some"] ["_law_pen","_law_size"] (bo qB):=⟨rfl,rfl,rfl,by decide +kernel,rfl,by decide +kernel,by decide +kernel⟩
theorem HZ(T:Txt K mg t):bw P w K mg base bW 3 t.jy t.kZ ["_law_pen","_law_size"] (EF K):=by
 have S:=HY
 have cu:=md (P:=P) (w:=w) (base:=base) T
 refine T.lO.ok S (fun vs H Q E h=>?_) (fun aH A outer s H vs Q E hr h=>?_)
 ·obtain ⟨P0,a,ns,n,rfl,_⟩:=h
  rfl
 ·obtain ⟨P0,a,ns,n,rfl,pc,hS,n1,nW,kk⟩:=h
  refine ⟨_,(@ax _ _ _ _ _ (@a7 _ _ 2 _ _ _ _ (by rfl) (by first | exact .inl rfl | exact .inr rfl | assumption) S.nd rfl (Or.inl rfl) (@cX _ _ _ _ (@aa _ _ _ _ _ (by rfl) (@cX _ _ _ _ ao) ao)))
   (@ax _ _ _ _ _ (@a7 _ _ 3 _ _ _ _ (by rfl) (by first | exact .inl rfl | exact .inr rfl | assumption) S.nd rfl (Or.inl rfl) (@cX _ _ _ _ ao))
   (@ax _ _ _ _ _ (cJ PassesOwn.never rfl (wu rfl T.dO (@aa _ _ _ _ _ (by rfl) au (@aa _ _ _ _ _ (by rfl) (pv 1) ao))) (bS (i:=4) S.nd rfl (Or.inr rfl))
    (@ax _ _ _ _ _ (@a7 _ _ 5 _ _ _ _ (by rfl) (by first | exact .inl rfl | exact .inr rfl | assumption) S.nd rfl (Or.inl rfl) (aW cu (hr.mono (by decide)) rfl T.cU T.cp.kp T.cT .nil bb (@aa _ _ _ _ _ (by rfl) (pv 0) (@aa _ _ _ _ _ (by rfl) (pv 4) ao))))
   (@ax _ _ _ _ _ (@a7 _ _ 6 _ _ _ _ (by rfl) (by first | exact .inl rfl | exact .inr rfl | assumption) S.nd rfl (Or.inl rfl) (@aP _ _ _ _ _ _ _ _ Cw (@cX _ _ _ _ (@aa _ _ _ _ _ (by rfl) (pv 5) ao)) (iV (N:=["_law_i","_law_pen"]) (ρ:=(fun σ=>[σ[0]?.join])) ⟨rfl,rfl,by decide +kernel,by decide +kernel,(List.forall_mem_cons.mpr ⟨rfl,(List.forall_mem_nil _)⟩),ft (by rfl),rfl,by decide +kernel,rfl,(fun σ j v h=>match j,h with | 0,h=>⟨0,_,rfl,rfl,join_some h,Or.inr (Or.inl rfl),.inl rfl,.inl rfl⟩ | j+1,h=>by cases h),(fun _ _=>rfl)⟩ rfl (dR (@a8 _ _ _ _ _ _ _ bL (pv 2) (pv 5) (fun _ _=>rfl))) (fun s₃ H₃ fp=>(.one (@bT _ _ _ _ _ _ _ _ j7 (aW cu (hr.mono (by decide)) rfl T.cU T.cp.kp T.cT .nil bb (@aa _ _ _ _ _ (by rfl) (pv 1) (@aa _ _ _ _ _ (by rfl) au ao))) au (bC _)))) (fun s₃ H₃ fp=>(pv 0)))))
   (@ax _ _ _ _ _ (@b8 _ _ _ _ _ _ _ _ (@bT _ _ _ _ _ _ _ _ dS (aW cu (hr.mono (by decide)) rfl T.cU T.cp.kp T.cT .nil bb (@aa _ _ _ _ _ (by rfl) (pv 0) (@aa _ _ _ _ _ (by rfl) au ao))) au (bC _)) (@aA _ _ _ (@a7 _ _ 6 _ _ _ _ (by rfl) (by first | exact .inl rfl | exact .inr rfl | assumption) S.nd rfl (Or.inl rfl) (@cX _ _ _ _ ao))) b7)
   (@ax _ _ _ _ _ (eL (fm PySem.F.plainAttrs_list PySem.F.slot_list_append PySem.F.type_list_append fR (pv 2) (@aa _ _ _ _ _ (by rfl) (pv 6) ao)))
   (@aA _ _ _ (eL (fm PySem.F.plainAttrs_list PySem.F.slot_list_extend PySem.F.type_list_extend xi (pv 3) (@aa _ _ _ _ _ (by rfl) (iV (N:=["_law_i","_law_j"]) (ρ:=(fun σ=>[σ[4]?.join])) ⟨rfl,rfl,by decide +kernel,by decide +kernel,(List.forall_mem_cons.mpr ⟨rfl,(List.forall_mem_nil _)⟩),ft (by rfl),rfl,by decide +kernel,rfl,(fun σ j v h=>match j,h with | 0,h=>⟨4,_,rfl,rfl,join_some h,Or.inr (Or.inl rfl),.inl rfl,.inl rfl⟩ | j+1,h=>by cases h),(fun _ _=>rfl)⟩ rfl (dR (pv 6)) (fun s₃ H₃ fp=>.nil) (fun s₃ H₃ fp=>(@eO _ _ _ _ _ (@aa _ _ _ _ _ (by rfl) (pv 0) (@aa _ _ _ _ _ (by rfl) (pv 1) ao))))) ao)))))))))
   (@aA _ _ _ (@bH _ _ _ _ (pv 3)))))),?_⟩
  refine ⟨by show 0≤sizeLine;decide,fun l0 gh=>⟨by show 1≤sizeLine;decide,fun la nX=>?_⟩⟩
  have s1:aj H (upd H l0 (.lst [])):=aQ gh
  have e0:upd H l0 (.lst []) l0=some (.lst []):=aq
  generalize upd H l0 (.lst [])=H1 at s1 e0 nX ⊢
  have s2:aj H1 (upd H1 la (.lst [.ref l0])):=aQ nX
  have ea:upd H1 la (.lst [.ref l0]) la=some (.lst [.ref l0]):=aq
  dsimp only [aO]
  generalize upd H1 la (.lst [.ref l0])=H2 at s2 ea ⊢
  refine ⟨by show 0≤sizeLine;decide,fun fd cH=>?_⟩
  have s3:aj H2 (upd H2 fd (.lst [])):=aQ cH
  have ef:upd H2 fd (.lst []) fd=some (.lst []):=aq
  dsimp only [aO]
  generalize upd H2 fd (.lst [])=H3 at s3 ef ⊢
  have gg:=s1.trans (s2.trans s3)
  have nY:la≠P0:=(pc.mono s1).ne nX
  have eJ:fd≠P0:=((pc.mono s1).mono s2).ne cH
  have H_:l0≠P0:=pc.ne gh
  have Ia:H la=none:=none_of s1 nX
  have q_:H fd=none:=none_of (s1.trans s2) cH
  have af:la≠fd:=fun e=>by rw [e,cH] at ea;cases ea
  refine ⟨_,rfl,_,_,rfl,⟨by decide,by decide,by omega,by omega⟩,?_⟩
  rw [show ((n:Int)-1).toNat=n-1 by omega]
  refine iO (fun k σ Hc=>∃(vs us:List V) (L:List (Int×Int)) (D:Nat→List Nat) (v4 v5 v6:Option V),σ=[some (.ref P0),some (.int (n:Int)),some (.ref la),some (.ref fd),v4,v5,v6]∧aw P0 H Hc∧aZ Hc P0 a∧Hc la=some (.lst vs)∧EG (er P0 Hc) vs (k+1) D∧(∀(i:Nat) (b:Addr),vs[i]?=some (V.ref b)→b≠la∧b≠fd)∧Hc fd=some (.lst us)∧aN (er P0 Hc) us L∧gM (k+1) L) ?_ ?_ ?_
  ·refine ⟨[.ref l0],[],[],fun _=>[],_,_,_,rfl,aw.of gg,pc.mono gg,s3 _ _ ea,⟨rfl,fun k hk=>⟨cQ.nil k,l0,by rw [show k=0 by omega];rfl,?_⟩⟩,fun i b hb=>?_,ef,aN.nil _,gM.nil⟩
   ·rw [b4 H_]
    exact s3 _ _ (s2 _ _ e0)
   ·match i,hb with
    | 0,hb=>
     cases hb
     exact ⟨(fun e=>by rw [e,nX] at e0;cases e0),(fun e=>by rw [←e] at cH;rw [s2 _ _ e0] at cH;cases cH)⟩
    | i+1,hb=>simp at hb
  ·rintro k σ Hc hk ⟨vs,us,L,D,v4,v5,v6,rfl,sc,p1,rd,ah,ap,cw,hL,ok⟩
   refine ⟨_,rfl,_,rfl,P0,a,ns,1+(k:Int),rfl,p1,aj.seq sc hS,by omega,cg.of_lt (by omega) (by omega),fun c H4 c0 c1 s4 p4=>?_⟩
   obtain ⟨c,rfl⟩:=Int.eq_ofNat_of_zero_le c0
   have hc:c<k+1:=by omega
   obtain ⟨fc,b,Ib,nZ⟩:=ah.2 c hc
   have Ic:b≠P0:=fun z=>by
    rw [z] at nZ
    unfold er at nZ
    rw [if_pos rfl] at nZ
    cases nZ
   have Ie:=ah.1
   have rg:=sc.trans s4
   have Ig:=s4.at nY rd
   have z8:H4 b=some (.lst (cG (D c))):=m4 _ _ (s4 _ _ nZ)
   dsimp only [aO]
   simp only [List.set_cons_zero,List.set_cons_succ]
   refine ⟨_,rfl,by show 1≤sizeLine;decide,fun me pW=>?_⟩
   have s5:aj H4 (upd H4 me (.lst [.int (c:Int)])):=aQ pW
   have e5:upd H4 me (.lst [.int (c:Int)]) me=some (.lst [.int (c:Int)]):=aq
   have Ih:me≠P0:=p4.ne pW
   generalize upd H4 me (.lst [.int (c:Int)])=H5 at s5 e5 ⊢
   have lD:(D c).length≤30:=Nat.le_trans fc.len (by omega)
   have lV:(cG (D c)).length≤30:=by unfold cG;rw [List.length_map];exact lD
   have n4:=rg.trans (aw.of s5)
   refine EE (K:=K) (l:=b) (xs:=cG (D c)) (cx (by omega)) Ic (s5 _ _ z8) (p4.mono s5) (fun R h=>⟨_,rfl,_,rfl,la,vs,_,.ref b,rfl,rfl,.of (s5 _ _ Ig),iR Ib,b,rfl,⟨_,.of (s5 _ _ z8)⟩,h⟩) (fun i x hx Hx R sx px k=>⟨_,rfl,P0,a,ns,3,rfl,px,aj.seq (n4.trans sx) hS,by decide,cg.of_lt (by decide) (by decide),fun c' H' _ _ s' p'=>⟨_,_,rfl,rfl,_,rfl,k _ H' s' p'⟩⟩) (fun x Hx R h=>⟨_,rfl,h⟩) fun D' ys Hx HK Mh sx px sub uX=>?_
   obtain ⟨e,xo,rfl⟩:=tX sub
   have fe:=(fc.sub xo).put hc
   have Mi:(cG e).length≤30:=Nat.le_trans sub.length_le lV
   refine ⟨me,D',_,_,rfl,rfl,sx.at Ih e5,uX,Nat.le_trans (show _≤900 by simp;omega) (by decide),fun c2 n2=>?_⟩
   have s6:aj Hx (upd Hx c2 (.lst ([.int (c:Int)]++cG e))):=aQ n2
   have e6:upd Hx c2 (.lst ([.int (c:Int)]++cG e)) c2=some (.lst (cG (c::e))):=aq
   have z9:=(n4.trans sx).trans (aw.of s6)
   have p6:=px.mono s6
   have u0:aw P0 H4 (upd Hx c2 (.lst ([.int (c:Int)]++cG e))):=(aw.of s5).trans (sx.trans (aw.of s6))
   have u4:c2≠P0:=px.ne n2
   have f2:er P0 Hc c2=none:=none_of (s4.trans ((aw.of s5).trans sx)) (by rw [b4 u4];exact n2)
   dsimp only [aO]
   generalize upd Hx c2 (.lst ([.int (c:Int)]++cG e))=H6 at s6 e6 z9 p6 u0 ⊢
   simp only [List.set_cons_zero,List.set_cons_succ]
   refine bO (nk (fun σ Hy=>∃(lc:Addr) (d:List Nat),σ=[some (.ref P0),some (.int (n:Int)),some (.ref la),some (.ref fd),some (.int (1+(k:Int))),some (.int (c:Int)),some (.ref lc)]∧aw P0 Hc Hy∧aZ Hy P0 a∧Hy lc=some (.lst (cG d))∧cQ (k+1) d∧lc≠P0∧er P0 Hc lc=none) ?_ ?_)
   ·rintro σ Hy ⟨lc,d,rfl,sy,py,gm,u5,mf,rh⟩
    have ly:lc≠la:=fun z=>by rw [z,b4 nY,rd] at rh;cases rh
    have lf:lc≠fd:=fun z=>by rw [z,b4 eJ,cw] at rh;cases rh
    have u6:=sy.at nY rd
    have Ii:=sy.at eJ cw
    have Mj:d.length≤30:=Nat.le_trans u5.len (by omega)
    dsimp only
    refine ⟨_,rfl,.inl ⟨rfl,_,.of u6⟩,_,rfl,la,vs,_,rfl,rfl,u6,cx (by omega),?_⟩
    have e7:upd Hy la (.lst (vs++[.ref lc])) la=some (.lst (vs++[.ref lc])):=aq
    have k7:∀b o,b≠la→Hy b=some o→upd Hy la (.lst (vs++[.ref lc])) b=some o:=fun b o nb e=>by rw [aC nb];exact e
    have p7:=py.upd (o:=.lst (vs++[.ref lc])) nY
    have r7:=tY (P:=P0) (H:=Hy) (r:=la) (o:=.lst (vs++[.ref lc]))
    have z_:aw P0 H (upd Hy la (.lst (vs++[.ref lc]))):=(sc.trans sy).but Ia
    generalize upd Hy la (.lst (vs++[.ref lc]))=H7 at e7 k7 p7 r7 z_ ⊢
    have u7:=k7 fd _ (fun z=>af z.symm) Ii
    have u9:=k7 lc _ ly gm
    have Ij:(cG d).length=d.length:=by unfold cG;rw [List.length_map]
    refine ⟨_,rfl,.inl ⟨rfl,_,.of u7⟩,sZ (xs:=cG d) (fun R h=>⟨_,rfl,lc,rfl,⟨_,.of u9⟩,h _ _ (aj.refl _) (ki (.of u9))⟩) (cx (by omega)) (fun _ i y Hz=>∃(b:Addr) (x:Nat),y=.ref b∧d[i]?=some x∧Hz b=some (.tup [.int (x:Int),.int (1+(k:Int))])) (fun Dd i y Ha Hb ys ⟨b,x,h1,h2,h3⟩ e f=>⟨b,x,h1,h2,f b _ (fun z=>by rw [z,e] at h3;cases h3) h3⟩) ?_ ?_⟩
    ·intro Dd i x hx Hz R sz _ kz
     obtain ⟨y,hy,rfl⟩:=EH hx
     refine ⟨_,rfl,_,rfl,by show 2≤sizeLine;decide,fun tp bZ=>?_⟩
     exact kz _ _ (aQ bZ) ⟨tp,y,rfl,hy,aq⟩
    ·intro Dd zs H8 HE s8 Ik Il uV
     have lL:=hL.1
     have l2:us.length≤450:=by
      have:=ok.bA
      have:(k+1)*(k+1-1)≤30*30:=Nat.mul_le_mul (by omega) (by omega)
      omega
     refine ⟨fd,Dd,us,zs,rfl,rfl,s8 _ _ u7,uV,Nat.le_trans (show _≤900 by omega) (by decide),?_⟩
     have k9:∀b o,b≠fd→H8 b=some o→upd H8 fd (.lst (us++zs)) b=some o:=fun b o nb e=>by rw [aC nb];exact e
     have p8:=p7.mono s8
     have r9:=tY (P:=P0) (H:=H8) (r:=fd) (o:=.lst (us++zs))
     have Aa:er P0 H8 fd=some (.lst us):=by rw [b4 eJ];exact s8 _ _ u7
     have Im:er P0 Hy la=some (.lst vs):=by rw [b4 nY];exact u6
     refine ⟨vs++[.ref lc],us++zs,L++d.map fun(x:Nat)=>((x:Int),((k+1:Nat):Int)),fun i=>if i=k+1 then d else D i,_,_,_,rfl,(z_.trans (aw.of s8)).but q_,p8.upd eJ,k9 la _ af (s8 _ _ e7),⟨by simp [Ie],fun i hi=>?_⟩,fun i b' gP=>?_,aq,?_,ok.more u5⟩
     ·dsimp only
      by_cases z:i=k+1
      ·subst z
       rw [if_pos rfl]
       refine ⟨u5,lc,by rw [List.getElem?_append_right (by omega),show k+1-vs.length=0 by omega];rfl,?_⟩
       exact r9 _ _ lf (by rw [b4 mf];exact s8 _ _ u9)
      ·rw [if_neg z]
       obtain ⟨f1,b1,v1,h1⟩:=ah.2 i (by omega)
       obtain ⟨a1,a2⟩:=ap i b1 v1
       refine ⟨f1,b1,by rw [List.getElem?_append_left (by omega)];exact v1,?_⟩
       exact r9 _ _ a2 (pD s8 _ _ (r7 _ _ a1 (sy _ _ h1)))
     ·by_cases z:i<vs.length
      ·rw [List.getElem?_append_left z] at gP
       exact ap i b' gP
      ·have aS:=(List.getElem?_eq_some_iff.mp gP).1
       rw [List.length_append,List.length_singleton] at aS
       rw [List.getElem?_append_right (by omega),show i-vs.length=0 by omega] at gP
       cases gP
       exact ⟨ly,lf⟩
     ·refine aN.cat ?_ ?_
      ·exact (((hL.mono sy).aY Im r7).mono (pD s8)).aY Aa r9
      ·refine aN.aY (H:=er P0 H8) ⟨by rw [Ik,Ij,List.length_map],fun i v p h1 h2=>?_⟩ Aa r9
       obtain ⟨b',x,rfl,hx,e'⟩:=Il i v h1
       rw [List.getElem?_map,hx] at h2
       cases h2
       refine ⟨b',rfl,?_⟩
       rw [show (((k+1:Nat):Int))=1+(k:Int) by omega]
       exact nu p8 e'
   ·intro R hR
    refine ⟨_,rfl,P0,a,ns,9,rfl,p6,aj.seq z9 hS,by decide,cg.of_lt (by decide) (by decide),fun c' H7 _ _ s7 p7=>⟨rfl,_,rfl,bX (fun _=>?_) (fun _=>?_)⟩⟩
    ·refine ⟨by show 0≤sizeLine;decide,fun lc mf=>?_⟩
     have nP:=p7.ne mf
     have Ab:=s4.trans (u0.trans s7)
     exact hR _ _ ⟨lc,[],rfl,Ab.trans (aw.of (aQ mf)),p7.mono (aQ mf),aq,cQ.nil _,nP,none_of Ab (by rw [b4 nP];exact mf)⟩
    ·exact hR _ _ ⟨c2,c::e,rfl,s4.trans (u0.trans s7),p7,s7.at u4 e6,fe,u4,f2⟩
  ·rintro σ Hc ⟨vs,us,L,D,v4,v5,v6,rfl,sc,p1,rd,ah,ap,cw,hL,ok⟩
   rw [show n-1+1=n by omega] at ok
   exact ⟨_,rfl,kk fd us L Hc sc p1 (by rw [b4 eJ];exact q_) eJ cw hL ok.ok⟩
theorem Io:bQ ["_law_pen","_law_most","_law_size","_law_way","_law_wide","_law_links","_law_j","_law_i"] ["_law_pen","_law_most"] (bo qC):=⟨rfl,rfl,rfl,by decide +kernel,rfl,by decide +kernel,by decide +kernel⟩
theorem Ip(T:Txt K mg t):bw P w K mg base bW 4 t.jz t.k4 ["_law_pen","_law_most"] (EJ K):=by
 have S:=Io
 have cu:=md (P:=P) (w:=w) (base:=base) T
 have Iq:=HW (P:=P) (w:=w) (base:=base) T
 have Ir:=HZ (P:=P) (w:=w) (base:=base) T
 have n5:=uY (P:=P) (w:=w) (base:=base) T
 have u_:=z5 (P:=P) (w:=w) (base:=base) T
 refine T.lQ.ok S (fun vs H Q E h=>?_) (fun aH A outer s H vs Q E hr h=>?_)
 ·obtain ⟨P0,a,ns,most,rfl,_⟩:=h
  rfl
 ·obtain ⟨P0,a,ns,most,rfl,pc,hS,m1,Mk,kk⟩:=h
  refine ⟨_,(@ax _ _ _ _ _ (@a7 _ _ 2 _ _ _ _ (by rfl) (by first | exact .inl rfl | exact .inr rfl | assumption) S.nd rfl (Or.inl rfl) (@aP _ _ _ _ _ _ _ _ cN au (aW cu (hr.mono (by decide)) rfl T.cU T.cp.kp T.cT .nil bb (@aa _ _ _ _ _ (by rfl) (pv 0) (@aa _ _ _ _ _ (by rfl) (pv 1) ao)))))
   (@ax _ _ _ _ _ (@a7 _ _ 3 _ _ _ _ (by rfl) (by first | exact .inl rfl | exact .inr rfl | assumption) S.nd rfl (Or.inl rfl) (aW cu (hr.mono (by decide)) rfl T.cU T.cp.kp T.cT .nil bb (@aa _ _ _ _ _ (by rfl) (pv 0) (@aa _ _ _ _ _ (by rfl) au ao))))
   (@ax _ _ _ _ _ (@a7 _ _ 4 _ _ _ _ (by rfl) (by first | exact .inl rfl | exact .inr rfl | assumption) S.nd rfl (Or.inl rfl) (aW cu (hr.mono (by decide)) rfl T.cU T.cp.kp T.cT .nil bb (@aa _ _ _ _ _ (by rfl) (pv 0) (@aa _ _ _ _ _ (by rfl) (pv 2) ao))))
   (@ax _ _ _ _ _ (@a7 _ _ 5 _ _ _ _ (by rfl) (by first | exact .inl rfl | exact .inr rfl | assumption) S.nd rfl (Or.inl rfl) (@cX _ _ _ _ ao))
   (@ax _ _ _ _ _ (cJ PassesOwn.never rfl (g9 rfl T.dO (@aa _ _ _ _ _ (by rfl) (pv 2) ao)) (bS (i:=6) S.nd rfl (Or.inl rfl))
    (@aA _ _ _ (cJ PassesOwn.never rfl (g9 rfl T.dO (@aa _ _ _ _ _ (by rfl) (pv 6) ao)) (bS (i:=7) S.nd rfl (Or.inl rfl))
    (@aA _ _ _ (@b8 _ _ _ _ _ _ _ _ (jV (aW Iq (hr.mono (by decide)) rfl T.zj T.lK.kp T.zi .nil bb (@aa _ _ _ _ _ (by rfl) (pv 0) (@aa _ _ _ _ _ (by rfl) (pv 3) (@aa _ _ _ _ _ (by rfl) (pv 2) (@aa _ _ _ _ _ (by rfl) (pv 4) (@aa _ _ _ _ _ (by rfl) (pv 7) (@aa _ _ _ _ _ (by rfl) (pv 6) ao)))))))) (@aA _ _ _ (eL (fm PySem.F.plainAttrs_list PySem.F.slot_list_append PySem.F.type_list_append fR (pv 5) (@aa _ _ _ _ _ (by rfl) (@eO _ _ _ _ _ (@aa _ _ _ _ _ (by rfl) (pv 7) (@aa _ _ _ _ _ (by rfl) (pv 6) ao))) ao)))) b7)))))
   (@ax _ _ _ _ _ (@b8 _ _ _ _ _ _ _ _ (@bT _ _ _ _ _ _ _ _ dS (pv 3) au (bC _)) (@aA _ _ _ (@a7 _ _ 5 _ _ _ _ (by rfl) (by first | exact .inl rfl | exact .inr rfl | assumption) S.nd rfl (Or.inl rfl) (aW Ir (hr.mono (by decide)) rfl T.zo T.lO.kp T.zl .nil bb (@aa _ _ _ _ _ (by rfl) (pv 0) (@aa _ _ _ _ _ (by rfl) (pv 2) ao))))) b7)
   (@aA _ _ _ (@bH _ _ _ _ (aW u_ (hr.mono (by decide)) rfl T.uD T.jK.kp T.uC .nil bb (@aa _ _ _ _ _ (by rfl) (pv 2) (@aa _ _ _ _ _ (by rfl) (pv 5) (@aa _ _ _ _ _ (by rfl) (aW n5 (hr.mono (by decide)) rfl T.qM T.iB.kp T.qL .nil bb (@aa _ _ _ _ _ (by rfl) (pv 0) (@aa _ _ _ _ _ (by rfl) (eh (o9 rfl) rfl T.iC boot_list (@aa _ _ _ _ _ (by rfl) (eh o8 rfl T.dO o_ (@aa _ _ _ _ _ (by rfl) (pv 2) ao)) ao)) ao))) ao)))))))))))),?_⟩
  refine ⟨_,rfl,_,rfl,P0,a,ns,(most:Int),rfl,pc,hS,by omega,cg.of_lt (by omega) (by omega),fun c H1 c0 c1 s1 p1=>⟨_,_,rfl,rfl,?_⟩⟩
  obtain ⟨c,rfl⟩:=Int.eq_ofNat_of_zero_le c0
  dsimp only [aO]
  rw [show 1+(c:Int)=((c+1:Nat):Int) by omega]
  have n1:1≤c+1:=by omega
  have nm:c+1≤most:=by omega
  generalize c+1=n at n1 nm ⊢
  have va:aX K (er P0 H1) a (ns.map V.int):=aj.seq s1 hS
  refine ⟨_,rfl,P0,a,ns,6,rfl,p1,va,by decide,cg.of_lt (by decide) (by decide),fun way H2 _ _ s2 p2=>?_⟩
  have du:=s1.trans s2
  dsimp only [aO]
  refine ⟨_,rfl,_,rfl,P0,a,ns,(n:Int),rfl,p2,aj.seq du hS,by omega,cg.of_lt (by omega) (by omega),fun wide H3 _ _ s3 p3=>?_⟩
  have gg:=du.trans s3
  dsimp only [aO]
  refine ⟨by show 0≤sizeLine;decide,fun fd cH=>?_⟩
  have s4:aj H3 (upd H3 fd (.lst [])):=aQ cH
  have ef:upd H3 fd (.lst []) fd=some (.lst []):=aq
  dsimp only [aO]
  generalize upd H3 fd (.lst [])=H4 at s4 ef ⊢
  have qR:=gg.trans (aw.of s4)
  have p4:=p3.mono s4
  have eJ:fd≠P0:=p3.ne cH
  have Ac:er P0 H fd=none:=none_of gg (by rw [b4 eJ];exact cH)
  have q_:H fd=none:=by rw [b4 eJ] at Ac;exact Ac
  refine ⟨_,rfl,(n:Int),rfl,by omega,by omega,?_⟩
  rw [Int.toNat_natCast]
  refine iO (fun j σ Hc=>∃(us:List V) (L:List (Int×Int)) (v6 v7:Option V),σ=[some (.ref P0),some (.int (most:Int)),some (.int (n:Int)),some (.int way),some (.int wide),some (.ref fd),v6,v7]∧aw P0 H Hc∧aZ Hc P0 a∧Hc fd=some (.lst us)∧aN (er P0 Hc) us L∧dm j 0 L) ⟨[],[],_,_,rfl,qR,p4,ef,aN.nil _,dm.start⟩ ?_ ?_
  ·rintro j σ Hc hj ⟨us,L,v6,v7,rfl,sc,p5,cw,hL,ok⟩
   dsimp only [aO]
   simp only [List.set_cons_zero,List.set_cons_succ]
   refine ⟨_,rfl,(j:Int),by rw [Int.zero_add],by omega,by omega,?_⟩
   rw [Int.toNat_natCast]
   refine iO (fun i σ Hd=>∃(us:List V) (L:List (Int×Int)) (v7:Option V),σ=[some (.ref P0),some (.int (most:Int)),some (.int (n:Int)),some (.int way),some (.int wide),some (.ref fd),some (.int (0+(j:Int))),v7]∧aw P0 H Hd∧aZ Hd P0 a∧Hd fd=some (.lst us)∧aN (er P0 Hd) us L∧dm j i L) ⟨us,L,_,rfl,sc,p5,cw,hL,ok⟩ ?_ ?_
   ·rintro i σ Hd hi ⟨us,L,v7,rfl,sd,p6,cw,hL,ok⟩
    refine ⟨_,rfl,_,rfl,_,rfl,_,rfl,_,rfl,_,rfl,P0,a,ns,way,(n:Int),wide,0+(i:Int),0+(j:Int),rfl,p6,aj.seq sd hS,fun b He se pe=>?_⟩
    have vb:=se.at eJ cw
    have Ad:=hL.mono se
    have lL:=hL.1
    have l2:us.length≤900:=by
     have:=ok.bA
     have:j*(j-1)≤30*30:=Nat.mul_le_mul (by omega) (by omega)
     omega
    cases b with
    | true=>
     refine ⟨true,rfl,sJ ?_⟩
     refine ⟨_,rfl,.inl ⟨rfl,_,.of vb⟩,_,rfl,_,rfl,by show 2≤sizeLine;decide,fun tp bZ=>?_⟩
     have st:aj He (upd He tp (.tup [.int (0+(i:Int)),.int (0+(j:Int))])):=aQ bZ
     have et:upd He tp (.tup [.int (0+(i:Int)),.int (0+(j:Int))]) tp=some (.tup [.int (i:Int),.int (j:Int)]):=by rw [aq,Int.zero_add,Int.zero_add]
     generalize upd He tp (.tup [.int (0+(i:Int)),.int (0+(j:Int))])=Hf at st et ⊢
     have pf:=pe.mono st
     have Ae:=st _ _ vb
     refine ⟨fd,us,_,rfl,rfl,Ae,cx (by omega),us++[.ref tp],L++[((i:Int),(j:Int))],_,rfl,((sd.trans se).trans (aw.of st)).but q_,pf.upd eJ,aq,?_,ok.push hi⟩
     refine aN.aY (H:=er P0 Hf) ((Ad.mono (pD st)).push (nu pf et)) (by rw [b4 eJ];exact Ae) tY
    | false=>
     exact ⟨false,rfl,gA ⟨us,L,_,rfl,sd.trans se,pe,vb,Ad,ok.skip⟩⟩
   ·rintro σ Hd ⟨us,L,v7,rfl,sd,p6,cw,hL,ok⟩
    exact ⟨us,L,_,_,rfl,sd,p6,cw,hL,ok.next⟩
  ·rintro σ Hc ⟨us,L,v6,v7,rfl,sc,p5,cw,hL,ok⟩
   dsimp only
   refine bO (nk (fun σ Hy=>∃(lk:Addr) (us:List V) (L:List (Int×Int)),σ=[some (.ref P0),some (.int (most:Int)),some (.int (n:Int)),some (.int way),some (.int wide),some (.ref lk),v6,v7]∧aw P0 H Hy∧aZ Hy P0 a∧lk≠P0∧Hy lk=some (.lst us)∧aN (er P0 Hy) us L∧dG n L) ?_ ?_)
   ·rintro σ Hy ⟨lk,us,L,rfl,sy,py,rj,rm,hL,ok⟩
    dsimp only
    refine ⟨_,rfl,_,rfl,_,rfl,_,rfl,(n:Int),rfl,fun pr vc=>?_⟩
    have s6:aj Hy (upd Hy pr (.c_ 0 (n:Int))):=aQ vc
    refine ⟨pr,n,rfl,aq,by omega,fun l0 n0=>?_⟩
    have s7:=s6.trans (aQ (o:=.lst (bx n)) n0)
    have e0:upd (upd Hy pr (.c_ 0 (n:Int))) l0 (.lst (bx n)) l0=some (.lst (bx n)):=aq
    have gh:l0≠P0:=(py.mono s6).ne n0
    generalize upd (upd Hy pr (.c_ 0 (n:Int))) l0 (.lst (bx n))=Hz at s7 e0 ⊢
    have lu:(bx n).length=n:=by unfold bx;simp
    refine ⟨P0,a,l0,ns,bx n,rfl,py.mono s7,aj.seq (sy.trans (aw.of s7)) hS,gh,e0,by omega,fun r ys Hw sw pw fr nr jP pm=>?_⟩
    obtain ⟨vd,ly,hy,NO⟩:=ya pm
    have gW:=(aw.of s7).trans sw
    refine ⟨lk,r,n,us,ys,L,vd,rfl,gW.at rj rm,(hL.mono gW).mono m4,ok,by omega,jP,ly,hy,NO,fun tt L' Hv sv n6 sh n8 ve Iu=>?_⟩
    have nt:tt≠P0:=pw.ne n6
    exact kk tt n L' Hv ((sy.trans gW).trans (aw.of sv)) (pw.mono sv) (none_of (sy.trans gW) (by rw [b4 nt];exact n6)) nt (sh.er (pw.mono sv)) n8 ve n1 nm
   ·intro R hR
    refine ⟨_,rfl,rfl,_,rfl,bX (fun _=>?_) (fun _=>?_)⟩
    ·refine ⟨_,rfl,_,rfl,P0,a,ns,n,rfl,p5,aj.seq sc hS,n1,by omega,fun r Af L' Hy sy py fr nr jP Iv n8=>?_⟩
     exact hR _ _ ⟨r,Af,L',rfl,sc.trans sy,py,nr,jP,Iv,n8⟩
    ·exact hR _ _ ⟨fd,us,L,rfl,sc,p5,eJ,cw,hL,ok.ok⟩
theorem Iw:bQ ["_law_shape","_law_found","_law_i","_law_j"] ["_law_shape"] (bo qE):=⟨rfl,rfl,rfl,by decide +kernel,rfl,by decide +kernel,by decide +kernel⟩
theorem Ag(T:Txt K mg t):bw P w K mg base bW 1 t.jB t.k8 ["_law_shape"] Gi:=by
 have S:=Iw
 refine T.jL.ok S (fun vs H Q E h=>?_) (fun aH A outer s H vs Q E hr h=>?_)
 ·obtain ⟨tp,n,L,rfl,_⟩:=h
  rfl
 ·obtain ⟨tp,n,L,rfl,⟨lt,us,cq,elt,hL⟩,ok,n9,l2,kk⟩:=h
  have uL:((List.range n).map fun i:Nat=>V.int (0+(i:Int))).length=n:=by rw [List.length_map,List.length_range]
  refine ⟨_,(@ax _ _ _ _ _ (pA (i0:=1) (N:=["_law_k"]) (ρ:=(fun σ=>[])) ⟨rfl,rfl,by decide +kernel,by decide +kernel,(List.forall_mem_nil _),ft (by rfl),rfl,by decide +kernel,rfl,(fun σ j v h=>match j,h with | j,h=>by cases h),(fun _ _=>rfl)⟩ rfl S.nd rfl (Or.inl rfl) (g9 rfl T.dO (@aa _ _ _ _ _ (by rfl) (@a8 _ _ _ _ _ _ _ eS (pv 0) au (fun _ _=>rfl)) ao)) (fun s₃ H₃ fp=>.nil) (fun s₃ H₃ fp=>(@cX _ _ _ _ ao)))
   (@ax _ _ _ _ _ (cJ PassesOwn.never rfl (rN (@a8 _ _ _ _ _ _ _ eS (pv 0) au (fun _ _=>rfl))) (jY rfl (eM (bS (i:=2) S.nd rfl (Or.inl rfl)) (eM (bS (i:=3) S.nd rfl (Or.inl rfl)) jX)))
    (@ax _ _ _ _ _ (eL (fm PySem.F.plainAttrs_list PySem.F.slot_list_append PySem.F.type_list_append fR (@a8 _ _ _ _ _ _ _ bL (pv 1) (pv 2) (fun _ _=>rfl)) (@aa _ _ _ _ _ (by rfl) (pv 3) ao)))
   (@aA _ _ _ (eL (fm PySem.F.plainAttrs_list PySem.F.slot_list_append PySem.F.type_list_append fR (@a8 _ _ _ _ _ _ _ bL (pv 1) (pv 3) (fun _ _=>rfl)) (@aa _ _ _ _ _ (by rfl) (pv 2) ao))))))
   (@aA _ _ _ (@bH _ _ _ _ (pv 1))))),?_⟩
  refine bO (i3 (tj (xs:=(List.range n).map fun i:Nat=>V.int (0+(i:Int))) (n:=n) uL (fun R h=>⟨_,rfl,tp,_,_,_,rfl,rfl,.of cq,rfl,(n:Int),rfl,by omega,by omega,h _ _ (aj.refl _) (by rw [Int.toNat_natCast];exact xB)⟩) (cx (by omega)) (fun _ i y Hx=>Hx y=some (.lst [])∧H y=none) ?_ ?_ ?_))
  ·intro D i y Ha Hb ys ⟨h1,h2⟩ hy e f
   exact ⟨f y _ hy h1,h2⟩
  ·intro D i x hx Hc R sc _ kc
   exact ⟨Nat.zero_le _,fun p np=>kc p _ (dW (aj.refl _) np) np ⟨_,aq⟩ ⟨aq,none_of sc np⟩⟩
  ·intro D rs H1 nD s1 inj hA eD
   have K0:fE H1 D n rs (fun _=>[]):=⟨eD,inj,fun i hi=>(hA i hi).2,fun i hi=>(hA i hi).1.1⟩
   have fr:∀i,i<n→H (rs i)=none:=fun i hi=>(hA i hi).1.2
   dsimp only [aO]
   refine bO ⟨_,rfl,tp,_,_,_,rfl,rfl,.of (s1 _ _ cq),rfl,lt,rfl,⟨_,.of (s1 _ _ elt)⟩,?_⟩
   refine rO (K:=K) (a:=lt) (xs:=us) (fun k σ Hc=>∃(g:Nat→List Nat) (v2 v3:Option V),σ=[some (.ref tp),some (.ref D),v2,v3]∧aj H Hc∧fE Hc D n rs g∧cR n (L.take k) g∧(∀a,(g a).length≤2*k)∧((∀p∈L,p.1<p.2)→L.Nodup→∀a,(g a).Nodup)) ⟨_,_,_,rfl,s1,K0,cR.nil n,fun _=>Nat.le_refl _,fun _ _ _=>List.nodup_nil⟩ (fun k σ Hc _ ⟨_,_,_,_,sc,_⟩=>.of (sc _ _ elt)) ?_ ?_
   ·rintro k x σ Hc hx ⟨g,v2,v3,rfl,sc,KL,nb,gl,gn⟩
    have hk:k<L.length:=by
     rw [←hL.1]
     exact (List.getElem?_eq_some_iff.mp hx).1
    obtain ⟨b,rfl,eb⟩:=hL.2 k x L[k] hx (by simp [hk])
    have pk:=ok L[k] (List.getElem_mem hk)
    have tk:L.take (k+1)=L.take k++[L[k]]:=by rw [List.take_succ,List.getElem?_eq_getElem hk];rfl
    have Ah:L.Nodup→L[k]∉L.take k:=fun nd h=>GI nd hk h
    have vf:L[k]∈L:=List.getElem_mem hk
    generalize L[k]=p at eb pk tk Ah vf
    obtain ⟨p1,p2⟩:=p
    dsimp only at pk eb
    obtain ⟨i,rfl⟩:=Int.eq_ofNat_of_zero_le pk.1
    obtain ⟨j,rfl⟩:=Int.eq_ofNat_of_zero_le pk.2.2.1
    have hi:i<n:=by omega
    have hj:j<n:=by omega
    refine ⟨b,_,rfl,.of (sc _ _ eb),rfl,_,_,rfl,_,_,rfl,rfl,?_⟩
    have off:∀(Hx:Hp) (i:Nat) (o:HO),i<n→aj H Hx→aj H (upd Hx (rs i) o):=fun Hx i o hi sx a u e=>by
     rw [aC (fun z=>by rw [z,fr i hi] at e;cases e)]
     exact sx _ _ e
    have K1:=KL.snoc j hi
    have K2:=K1.snoc i hj
    have g1:=gl i
    have g2:(dI g i j j).length≤2*k+1:=Nat.le_trans uj (by have:=gl j;omega)
    refine ⟨_,rfl,_,rfl,D,_,_,_,rfl,rfl,.of KL.lst,iw hi,.inl ⟨rfl,_,.of (KL.at' i hi)⟩,_,rfl,rs i,_,_,rfl,rfl,KL.at' i hi,cx (by rw [List.length_map];omega),?_⟩
    refine ⟨_,rfl,_,rfl,D,_,_,_,rfl,rfl,.of K1.lst,iw hj,.inl ⟨rfl,_,.of (K1.at' j hj)⟩,_,rfl,rs j,_,_,rfl,rfl,K1.at' j hj,cx (by rw [List.length_map];omega),?_⟩
    exact ⟨_,_,_,rfl,off _ _ _ hj (off _ _ _ hi sc),K2,by rw [tk];exact nb.snoc,fun a=>Nat.le_trans uj (by have:=uj (g:=g) (i:=i) (j:=j) (a:=a);have:=gl a;omega),fun up nd a=>GK (gn up nd) nb hi hj (by have:=up _ vf;dsimp only at this;omega) (Ah nd) (fun h=>by have h1:=up _ (List.mem_of_mem_take h);have h2:=up _ vf;dsimp only at h1 h2;omega) a⟩
   ·rintro σ Hc ⟨g,v2,v3,rfl,sc,KL,nb,gl,gn⟩
    rw [hL.1,List.take_length] at nb
    rw [hL.1] at gl
    exact ⟨_,rfl,kk _ _ _ _ sc nD fr KL nb gl gn⟩
theorem Iy:bQ ["_law_beside_here","_law_through","_law_start","_law_met","_law_row","_law_other"] ["_law_beside_here","_law_through","_law_start"] (bo qF):=⟨rfl,rfl,rfl,by decide +kernel,rfl,by decide +kernel,by decide +kernel⟩
theorem Iz(T:Txt K mg t):bw P w K mg base bW 1 t.jC t.k_ ["_law_beside_here","_law_through","_law_start"] FT:=by
 have S:=Iy
 refine T.lR.ok S (fun vs H Q E h=>?_) (fun aH A outer s H vs Q E hr h=>?_)
 ·obtain ⟨D,d,n,rs,g,done,p,rfl,_⟩:=h
  rfl
 ·obtain ⟨D,d,n,rs,g,done,p,rfl,KL,gn,ed,ld,pn,Ho,kk⟩:=h
  have hu:=Nat.lt_of_le_of_lt (Nat.add_le_add_left (show 1≤64 by decide) _) hr.units
  have gU:=hr.units
  refine ⟨_,(@ax _ _ _ _ _ (@a7 _ _ 3 _ _ _ _ (by rfl) (by first | exact .inl rfl | exact .inr rfl | assumption) S.nd rfl (Or.inl rfl) (E6 (E4 (pv 2) dQ E3) rfl rfl (fun h=>by cases h) (by decide)))
   (@ax _ _ _ _ _ (@a7 _ _ 4 _ _ _ _ (by rfl) (by first | exact .inl rfl | exact .inr rfl | assumption) S.nd rfl (Or.inl rfl) (@cX _ _ _ _ (@aa _ _ _ _ _ (by rfl) (pv 2) ao)))
   (@ax _ _ _ _ _ (@wm _ _ _ _ _ _ PassesOwn.never (@bT _ _ _ _ _ _ _ _ (x8 gU) (pv 4) (@cX _ _ _ _ ao) (bC _)) (@aA _ _ _ (cJ PassesOwn.never rfl (dR (@a8 _ _ _ _ _ _ _ bL (pv 0) (Ci PySem.F.plainAttrs_list PySem.F.slot_list_pop PySem.F.type_list_pop Cr (pv 4)) (fun _ _=>rfl))) (bS (i:=5) S.nd rfl (Or.inl rfl))
    (@aA _ _ _ (@b8 _ _ _ _ _ _ _ _ (wa (EW hu (pv 5) (pv 3)) rfl) (@ax _ _ _ _ _ (ie hu (pv 3) (pv 5) dQ rfl)
   (@aA _ _ _ (@b8 _ _ _ _ _ _ _ _ (@bT _ _ _ _ _ _ _ _ xb (pv 5) (pv 1) rfl) (@aA _ _ _ (eL (fm PySem.F.plainAttrs_list PySem.F.slot_list_append PySem.F.type_list_append fR (pv 4) (@aa _ _ _ _ _ (by rfl) (pv 5) ao)))) b7))) b7)))))
   (@aA _ _ _ (@bH _ _ _ _ (pv 3)))))),?_⟩
  refine bO (i3 fun mt mh=>⟨_,rfl,aq,[((Sum.inl (p:Int):Key),V.bl true)],rfl,by show 1≤15;decide,?_⟩)
  have s0:∀b o,b≠mt→H b=some o→upd (upd H mt (.dK [])) mt (.dK (ig [] [((Sum.inl (p:Int):Key),V.bl true)])) b=some o:=fun b o ne e=>by rw [aC ne,aC ne];exact e
  have em:upd (upd H mt (.dK [])) mt (.dK (ig [] [((Sum.inl (p:Int):Key),V.bl true)])) mt=some (.dK (dk [p])):=by rw [aq];rfl
  generalize upd (upd H mt (.dK [])) mt (.dK (ig [] [((Sum.inl (p:Int):Key),V.bl true)]))=H1 at s0 em ⊢
  have sm:aj H H1:=fun b o e=>s0 b o (fun z=>by rw [z,mh] at e;cases e) e
  dsimp only [aO]
  refine ⟨_,rfl,by show 1≤sizeLine;decide,fun l nl=>?_⟩
  have sl:aj H1 (upd H1 l (.lst [V.int (p:Int)])):=aQ nl
  have el:upd H1 l (.lst [V.int (p:Int)]) l=some (.lst (([p]:List Nat).map fun k:Nat=>V.int (k:Int))):=aq
  generalize upd H1 l (.lst [V.int (p:Int)])=H2 at sl el ⊢
  have gh:H l=none:=none_of sm nl
  have lm:l≠mt:=fun z=>by rw [z,em] at nl;cases nl
  have s2:=sm.trans sl
  dsimp only [aO]
  refine bO ⟨fun m σ Hc=>∃(ks ws:List Nat) (v5:Option V),σ=[some (.ref D),some (.ref d),some (.int (p:Int)),some (.ref mt),some (.ref l),v5]∧m=2*(n-ks.length)+ws.length∧aj H Hc∧Hc mt=some (.dK (dk ks))∧Hc l=some (.lst (ws.map fun k:Nat=>V.int (k:Int)))∧cz n (iz n g) (·∈done) p none (fun _=>True) ks ws∧ws.length≤ks.length,⟨_,[p],[p],_,rfl,rfl,s2,sl _ _ em,el,cz.start pn,Nat.le_refl _⟩,?_⟩
  rintro m' σ Hc ⟨ks,ws,v5,rfl,Ml,oc,Ai,gm,wk,wl⟩
  have IA:=wk.pl.len
  refine ⟨_,rfl,by show 0≤sizeLine;decide,fun le uZ=>?_⟩
  have s3:aj Hc (upd Hc le (.lst [])):=aQ uZ
  have e3:upd Hc le (.lst []) le=some (.lst []):=aq
  generalize upd Hc le (.lst [])=Hn at s3 e3 ⊢
  refine ⟨l,le,_,rfl,rfl,.of (s3 _ _ gm),e3,_,rfl,bX (fun hz=>?_) (fun hz=>?_)⟩
  ·have Aj:ws≠[]:=fun z=>by rw [z] at hz;cases hz
   obtain ⟨us,h,rfl⟩:∃us h,ws=us++[h]:=⟨ws.dropLast,ws.getLast Aj,(List.dropLast_concat_getLast Aj).symm⟩
   have Mm:(us++[h]).length=us.length+1:=by simp
   have hh:=wk.wt h (List.mem_append_right _ (List.mem_singleton.mpr rfl))
   have hn:h<n:=wk.pl.2 h hh.1
   have n_:=wk.pop
   refine ⟨_,fun _ _ h=>h,?_⟩
   refine ⟨_,rfl,_,rfl,.inl ⟨rfl,_,.of (s3 _ _ gm)⟩,l,_,.int (h:Int),rfl,rfl,s3 _ _ gm,by simp,?_⟩
   rw [List.map_append,List.map_cons,List.map_nil,List.dropLast_concat]
   have sn:=oc.trans s3
   have o1:∀b u,b≠l→Hn b=some u→upd Hn l (.lst (us.map fun k:Nat=>V.int (k:Int))) b=some u:=fun b u ne e=>by rw [aC ne];exact e
   have Ak:upd Hn l (.lst (us.map fun k:Nat=>V.int (k:Int))) l=some (.lst (us.map fun k:Nat=>V.int (k:Int))):=aq
   have Al:∀{Hx Hy:Hp},aj H Hx→(∀b u,b≠l→Hx b=some u→Hy b=some u)→aj H Hy:=fun h k b u e=>k b u (fun z=>by rw [z,gh] at e;cases e) (h b u e)
   have IC:∀{Hx Hy:Hp},aj H Hx→(∀b u,b≠mt→Hx b=some u→Hy b=some u)→aj H Hy:=fun h k b u e=>k b u (fun z=>by rw [z,mh] at e;cases e) (h b u e)
   have rn:=Al sn o1
   have Am:=o1 _ _ (Ne.symm lm) (s3 _ _ Ai)
   generalize upd Hn l (.lst (us.map fun k:Nat=>V.int (k:Int)))=H3 at o1 Ak rn Am ⊢
   refine ⟨D,_,_,_,rfl,rfl,.of (rn _ _ KL.lst),iw hn,rs h,rfl,⟨_,.of (rn _ _ (KL.at' h hn))⟩,?_⟩
   refine iM (K:=K) (a:=rs h) (xs:=(g h).map fun k:Nat=>V.int (k:Int)) (fun i σ He=>∃(ks us:List Nat) (v5:Option V),σ=[some (.ref D),some (.ref d),some (.int (p:Int)),some (.ref mt),some (.ref l),v5]∧aj H He∧He mt=some (.dK (dk ks))∧He l=some (.lst (us.map fun k:Nat=>V.int (k:Int)))∧cz n (iz n g) (·∈done) p (some h) (·∈(g h).take i) ks us∧us.length≤ks.length∧h∈ks∧2*(n-ks.length)+us.length<m') ⟨ks,us,_,rfl,rn,Am,Ak,⟨n_.pl,n_.st,n_.rc,n_.wt,fun x hx ox=>(n_.cl x hx ox).imp id fun e b hb=>(e b hb).imp id fun z=>⟨z.1,by simp⟩⟩,by omega,hh.1,by omega⟩ (fun i σ He _ ⟨_,_,_,_,e,_⟩=>.of (e _ _ (KL.at' h hn))) ?_ ?_
   ·rintro i x σ He hx ⟨ks,us,v5,rfl,oe,og,rp,iE,ul,gX,lt⟩
    obtain ⟨k,hk,rfl⟩:∃k:Nat,(g h)[i]?=some k∧x=.int (k:Int):=by
     rw [List.getElem?_map] at hx
     cases e:(g h)[i]? with
     | none=>rw [e] at hx;cases hx
     | some q=>rw [e] at hx;exact ⟨q,rfl,(Option.some.inj hx).symm⟩
    have km:k∈g h:=List.mem_of_getElem? hk
    have kn:k<n:=gn h hn k km
    have tk:=take_snoc hk
    have Mn:=iE.pl.len
    dsimp only [aO]
    refine ⟨_,rfl,_,rfl,mt,_,rfl,.inl ⟨dk ks,Sum.inl (k:Int),.inl og,rfl,rfl⟩,_,rfl,?_⟩
    rw [yv]
    by_cases mj:k∈ks
    ·rw [if_pos mj]
     refine gA ⟨ks,us,_,rfl,oe,og,rp,?_,ul,gX,lt⟩
     have w2:=iE.old mj
     refine ⟨w2.pl,w2.st,w2.rc,w2.wt,fun x hx ox=>(w2.cl x hx ox).imp id fun e b hb=>(e b hb).imp id fun z=>⟨z.1,fun q=>z.2 ?_⟩⟩
     rw [tk] at q
     exact (List.mem_append.mp q).imp id List.mem_singleton.mp
    ·rw [if_neg mj]
     refine sJ ?_
     have al:=FQ mj
     have o4:∀b u,b≠mt→He b=some u→upd He mt (.dK (dk (bF ks k))) b=some u:=fun b u ne e=>by rw [aC ne];exact e
     refine bO ⟨_,rfl,_,rfl,mt,upd He mt (.dK (dk (bF ks k))),rfl,.inl ⟨dk ks,Sum.inl (k:Int),og,rfl,by rw [yt];exact cx (by omega),by rw [yu]⟩,?_⟩
     have vg:upd He mt (.dK (dk (bF ks k))) mt=some (.dK (dk (bF ks k))):=aq
     have rq:=IC oe o4
     have rA:=o4 _ _ lm rp
     generalize upd He mt (.dK (dk (bF ks k)))=H4 at o4 vg rq rA ⊢
     have conv:∀{vs:List Nat},cz n (iz n g) (·∈done) p (some h) (fun x=>x∈(g h).take i∨x=k) (bF ks k) vs→cz n (iz n g) (·∈done) p (some h) (·∈(g h).take (i+1)) (bF ks k) vs:=fun w2=>⟨w2.pl,w2.st,w2.rc,w2.wt,fun x hx ox=>(w2.cl x hx ox).imp id fun e b hb=>(e b hb).imp id fun z=>⟨z.1,fun q=>z.2 (by
      rw [tk] at q
      exact (List.mem_append.mp q).imp id List.mem_singleton.mp)⟩⟩
     have Mo:=(iE.pl.add kn).len
     dsimp only
     refine ⟨_,rfl,_,rfl,d,_,rfl,.inl (.of (rq _ _ ed)),rfl,FR done,_,rfl,bX (fun hb=>?_) (fun hb=>?_)⟩
     ·have hb:iS (.int (k:Int)) (done.map fun k:Nat=>V.int (k:Int))=true:=hb
      rw [uh,decide_eq_true_iff] at hb
      refine ⟨_,rfl,.inl ⟨rfl,_,.of rA⟩,_,rfl,l,_,_,rfl,rfl,rA,cx (by rw [List.length_map];omega),?_⟩
      have o5:∀b u,b≠l→H4 b=some u→upd H4 l (.lst ((us.map fun k:Nat=>V.int (k:Int))++[V.int (k:Int)])) b=some u:=fun b u ne e=>by rw [aC ne];exact e
      exact ⟨bF ks k,us++[k],_,rfl,Al rq o5,o5 _ _ (Ne.symm lm) vg,by rw [aq,List.map_append];rfl,conv (iE.new mj kn gX hh.2 ⟨hn,km⟩ (.inl ⟨hb,rfl⟩)),by rw [al,List.length_append,List.length_singleton];omega,d6.mpr (.inl gX),by rw [al,List.length_append,List.length_singleton];omega⟩
     ·have hb:¬iS (.int (k:Int)) (done.map fun k:Nat=>V.int (k:Int))=true:=hb
      rw [uh,decide_eq_true_iff] at hb
      exact ⟨bF ks k,us,_,rfl,rq,vg,rA,conv (iE.new mj kn gX hh.2 ⟨hn,km⟩ (.inr ⟨hb,rfl⟩)),by rw [al];omega,d6.mpr (.inl gX),by rw [al];omega⟩
   ·rintro σ He ⟨ks,us,v5,rfl,oe,og,rp,iE,ul,gX,lt⟩
    rw [List.length_map,List.take_length] at iE
    exact ⟨_,lt,ks,us,_,rfl,rfl,oe,og,rp,iE.next fun b hb=>hb.2,ul⟩
  ·have w0:ws=[]:=by
    cases ws with
    | nil=>rfl
    | cons x r=>exact absurd rfl hz
   subst w0
   exact ⟨_,rfl,kk _ mt ks (oc.trans s3) mh (s3 _ _ Ai) wk.pl wk.done⟩
theorem ID:bQ ["_law_shape","_law_order","_law_beside_here","_law_found","_law_k","_law_ahead","_law_met","_law_other"] ["_law_shape","_law_order"] (bo qG):=⟨rfl,rfl,rfl,by decide +kernel,rfl,by decide +kernel,by decide +kernel⟩
theorem IE(T:Txt K mg t):bw P w K mg base bW 3 t.jD t.lb ["_law_shape","_law_order"] GR:=by
 have S:=ID
 have vh:=Ag (P:=P) (w:=w) (base:=base) T
 have IF:=Iz (P:=P) (w:=w) (base:=base) T
 refine T.lS.ok S (fun vs H Q E h=>?_) (fun aH A outer s H vs Q E hr h=>?_)
 ·obtain ⟨tp,a,n,L,o,rfl,_⟩:=h
  rfl
 ·obtain ⟨tp,a,n,L,o,rfl,fG,eG,qj,l2,ea,ho,kk⟩:=h
  have hu:=Nat.lt_of_le_of_lt (Nat.add_le_add_left (show 1≤64 by decide) _) hr.units
  have lo:=ik ho
  have nd:=jb ho
  have lm:(o.map fun k:Nat=>V.int (k:Int)).length=n:=by rw [List.length_map,lo]
  have IG:∀k,k<n→eR (o.map fun k:Nat=>V.int (k:Int)) (k:Int)=some (.int ((o.getD k 0:Nat):Int)):=fun k hk=>by
   refine iR ?_
   rw [List.getElem?_map,List.getElem?_eq_getElem (by omega),List.getD_eq_getElem?_getD,List.getElem?_eq_getElem (by omega)]
   rfl
  have An:∀k,k<n→o.getD k 0<n∧o.idxOf (o.getD k 0)=k:=fun k hk=>by
   have e:o.getD k 0=o[k]'(by omega):=by simp [List.getD_eq_getElem?_getD,show k<o.length by omega]
   rw [e]
   exact ⟨(dq ho).mp (List.getElem_mem _),nC nd _⟩
  refine ⟨_,(@ax _ _ _ _ _ (@a7 _ _ 2 _ _ _ _ (by rfl) (by first | exact .inl rfl | exact .inr rfl | assumption) S.nd rfl (Or.inl rfl) (aW vh (hr.mono (by decide)) rfl T.uF T.jL.kp T.uE .nil bb (@aa _ _ _ _ _ (by rfl) (pv 0) ao)))
   (@ax _ _ _ _ _ (@a7 _ _ 3 _ _ _ _ (by rfl) (by first | exact .inl rfl | exact .inr rfl | assumption) S.nd rfl (Or.inl rfl) (@cX _ _ _ _ ao))
   (@ax _ _ _ _ _ (cJ PassesOwn.never rfl (g9 rfl T.dO (@aa _ _ _ _ _ (by rfl) (@a8 _ _ _ _ _ _ _ eS (pv 0) au (fun _ _=>rfl)) ao)) (bS (i:=4) S.nd rfl (Or.inl rfl))
    (@ax _ _ _ _ _ (@a7 _ _ 5 _ _ _ _ (by rfl) (by first | exact .inl rfl | exact .inr rfl | assumption) S.nd rfl (Or.inl rfl) (@wW _ _ _ _ _ _ _ _ _ _ w6 (pv 1) wR (wU (pv 4))))
   (@ax _ _ _ _ _ (@a7 _ _ 6 _ _ _ _ (by rfl) (by first | exact .inl rfl | exact .inr rfl | assumption) S.nd rfl (Or.inl rfl) (aW IF (hr.mono (by decide)) rfl T.zt T.lR.kp T.zr .nil bb (@aa _ _ _ _ _ (by rfl) (pv 2) (@aa _ _ _ _ _ (by rfl) (pv 5) (@aa _ _ _ _ _ (by rfl) (@a8 _ _ _ _ _ _ _ bL (pv 1) (pv 4) (fun _ _=>rfl)) ao)))))
   (@aA _ _ _ (cJ PassesOwn.never rfl (dR (@wW _ _ _ _ _ _ _ _ _ _ w6 (pv 1) (wU (@aP _ _ _ _ _ _ _ _ cN (pv 4) au)) wR)) (bS (i:=7) S.nd rfl (Or.inl rfl))
    (@aA _ _ _ (@b8 _ _ _ _ _ _ _ _ (wa (EV hu (pv 7) (pv 6)) rfl) (@aA _ _ _ (eL (fm PySem.F.plainAttrs_list PySem.F.slot_list_append PySem.F.type_list_append fR (pv 3) (@aa _ _ _ _ _ (by rfl) (@eO _ _ _ _ _ (@aa _ _ _ _ _ (by rfl) (bV (rV rfl) rfl T.qO boot_min (@aa _ _ _ _ _ (by rfl) (@a8 _ _ _ _ _ _ _ bL (pv 1) (pv 4) (fun _ _=>rfl)) (@aa _ _ _ _ _ (by rfl) (pv 7) ao))) (@aa _ _ _ _ _ (by rfl) (bV (rU rfl) rfl T.qP boot_max (@aa _ _ _ _ _ (by rfl) (@a8 _ _ _ _ _ _ _ bL (pv 1) (pv 4) (fun _ _=>rfl)) (@aa _ _ _ _ _ (by rfl) (pv 7) ao))) ao))) ao)))) b7)))))))
   (@aA _ _ _ (@bH _ _ _ _ (@eO _ _ _ _ _ (@aa _ _ _ _ _ (by rfl) (@a8 _ _ _ _ _ _ _ eS (pv 0) au (fun _ _=>rfl)) (@aa _ _ _ _ _ (by rfl) (eh si rfl T.qN boot_tuple (@aa _ _ _ _ _ (by rfl) (bV tV rfl T.l6 PyProof.Rows.boot_sorted (@aa _ _ _ _ _ (by rfl) (pv 3) ao)) ao)) ao)))))))),?_⟩
  refine bO ⟨_,rfl,tp,n,L,rfl,fG,eG,by omega,by omega,fun H1 D rs g s1 nD qX KL nb Mp _=>?_⟩
  have gn:∀i,i<n→∀j∈g i,j<n:=fun i hi j hj=>by
   rcases (nb i j hi).mp hj with e | e
   ·have:=eG _ e
    omega
   ·have:=eG _ e
    omega
  dsimp only [aO]
  refine bO ⟨Nat.zero_le _,fun fd cH=>?_⟩
  have s2:aj H1 (upd H1 fd (.lst [])):=aQ cH
  have Ao:upd H1 fd (.lst []) fd=some (.lst []):=aq
  dsimp only [aO]
  generalize upd H1 fd (.lst [])=H2 at s2 Ao ⊢
  have Ap:H fd=none:=none_of s1 cH
  have du:=s1.trans s2
  obtain ⟨lt,Mq,cq,elt,j9⟩:=id (fG.mono du)
  have IH:fE H2 D n rs g:=⟨s2 _ _ KL.lst,KL.inj,KL.ne,fun i hi=>s2 _ _ (KL.at' i hi)⟩
  have Df:D≠fd:=fun z=>by rw [z] at KL;rw [KL.lst] at cH;cases cH
  have rf:∀i,i<n→rs i≠fd:=fun i hi z=>by have:=KL.at' i hi;rw [z,cH] at this;cases this
  refine bO ⟨_,rfl,tp,_,_,_,rfl,rfl,.of cq,rfl,_,rfl,by omega,by omega,?_⟩
  rw [Int.toNat_natCast]
  refine iO (fun k σ Hc=>∃(us:List V) (M:List (Int×Int)) (v4 v5 v6 v7:Option V),σ=[some (.ref tp),some (.ref a),some (.ref D),some (.ref fd),v4,v5,v6,v7]∧aj H Hc∧fE Hc D n rs g∧Hc fd=some (.lst us)∧aN Hc us M∧cS n L o k 0 M∧M.length≤k*30) ⟨[],[],_,_,_,_,rfl,du,IH,Ao,aN.nil _,cS.start n L o,Nat.zero_le _⟩ ?_ ?_
  ·rintro k σ Hc hk ⟨us,M,v4,v5,v6,v7,rfl,sc,oi,ef,hU,fl,lM⟩
   obtain ⟨pn,ip⟩:=An k hk
   have rB:=IG k hk
   generalize o.getD k 0=p at pn ip rB
   have qQ:=sc _ _ ea
   dsimp only [aO]
   refine bO ⟨_,rfl,_,rfl,_,rfl,a,_,rfl,.of qQ,fun ah II=>?_⟩
   rw [Int.zero_add]
   have cA:eQ (o.map fun k:Nat=>V.int (k:Int)) none (some (k:Int))=(o.take k).map fun k:Nat=>V.int (k:Int):=by rw [Dr,List.map_take]
   rw [cA]
   have s3:aj Hc (upd Hc ah (.lst ((o.take k).map fun k:Nat=>V.int (k:Int)))):=aQ II
   have Aq:upd Hc ah (.lst ((o.take k).map fun k:Nat=>V.int (k:Int))) ah=some (.lst ((o.take k).map fun k:Nat=>V.int (k:Int))):=aq
   dsimp only [aO]
   generalize upd Hc ah (.lst ((o.take k).map fun k:Nat=>V.int (k:Int)))=H3 at s3 Aq ⊢
   have l_:=sc.trans s3
   have IJ:fE H3 D n rs g:=⟨s3 _ _ oi.lst,KL.inj,KL.ne,fun i hi=>s3 _ _ (oi.at' i hi)⟩
   refine bO ⟨_,rfl,_,rfl,_,rfl,_,rfl,a,_,_,_,rfl,rfl,.of (s3 _ _ qQ),rB,D,ah,n,rs,g,o.take k,p,rfl,IJ,gn,Aq,by rw [List.length_take];omega,pn,by omega,fun H4 mt ks s4 mh IK IA gX=>?_⟩
   have rg:=l_.trans s4
   have Ar:=s3.trans s4
   dsimp only [aO]
   refine ⟨_,rfl,_,rfl,_,_,rfl,rfl,_,rfl,a,_,rfl,.of (rg _ _ ea),fun bh vi=>?_⟩
   have cB:eQ (o.map fun k:Nat=>V.int (k:Int)) (some ((k:Int)+1)) none=(o.drop (k+1)).map fun k:Nat=>V.int (k:Int):=by
    have:=FO (o.map fun k:Nat=>V.int (k:Int)) (k+1) (by rw [lm];omega)
    rw [show ((k+1:Nat):Int)=(k:Int)+1 from rfl] at this
    rw [this,List.map_drop]
   rw [cB]
   have s5:aj H4 (upd H4 bh (.lst ((o.drop (k+1)).map fun k:Nat=>V.int (k:Int)))):=aQ vi
   have vj:upd H4 bh (.lst ((o.drop (k+1)).map fun k:Nat=>V.int (k:Int))) bh=some (.lst ((o.drop (k+1)).map fun k:Nat=>V.int (k:Int))):=aq
   generalize upd H4 bh (.lst ((o.drop (k+1)).map fun k:Nat=>V.int (k:Int)))=H5 at s5 vj ⊢
   have rC:=Ar.trans s5
   have n4:=rg.trans s5
   have IL:=rC _ _ ef
   have As:fE H5 D n rs g:=⟨rC _ _ oi.lst,KL.inj,KL.ne,fun i hi=>rC _ _ (oi.at' i hi)⟩
   have IM:bh≠fd:=fun z=>by rw [z,Ar _ _ ef] at vi;cases vi
   have IP:mt≠fd:=fun z=>by rw [z,s3 _ _ ef] at mh;cases mh
   refine ⟨bh,rfl,⟨_,.of vj⟩,?_⟩
   refine iM (K:=K) (a:=bh) (xs:=(o.drop (k+1)).map fun k:Nat=>V.int (k:Int)) (fun j σ Hd=>∃(us:List V) (M:List (Int×Int)) (v7:Option V),σ=[some (.ref tp),some (.ref a),some (.ref D),some (.ref fd),some (.int (k:Int)),some (.ref ah),some (.ref mt),v7]∧(∀b u,b≠fd→H5 b=some u→Hd b=some u)∧Hd fd=some (.lst us)∧aN Hd us M∧cS n L o k j M∧M.length≤k*30+j) ⟨us,M,_,rfl,fun _ _ _ e=>e,IL,hU.mono rC,fl,lM⟩ (fun j σ Hd _ ⟨_,_,_,_,e,_⟩=>.of (e _ _ IM vj)) ?_ ?_
   ·rintro j x σ Hd hx ⟨us,M,v7,rfl,od,cw,oj,fld,Au⟩
    have hj:k+1+j<n:=by
     have:=(List.getElem?_eq_some_iff.mp hx).1
     rw [List.length_map,List.length_drop,lo] at this
     omega
    obtain ⟨qn,iq⟩:=An (k+1+j) hj
    have ex:x=.int ((o.getD (k+1+j) 0:Nat):Int):=by
     rw [List.getElem?_map,List.getElem?_drop,List.getElem?_eq_getElem (by omega)] at hx
     rw [List.getD_eq_getElem?_getD,List.getElem?_eq_getElem (by omega)]
     exact (Option.some.inj hx).symm
    subst ex
    generalize o.getD (k+1+j) 0=q at qn iq ⊢
    have ne:q≠p:=fun e=>by subst e;omega
    have mw:=F0 ho nb eG (k:=k) (by omega) ne
    have IQ:=od _ _ IP (s5 _ _ IK)
    have Av:Hd a=_:=od _ _ (fun z=>by rw [z,Ap] at ea;cases ea) (n4 _ _ ea)
    have lU:=oj.1
    dsimp only [aO]
    refine ⟨_,rfl,_,rfl,mt,_,rfl,.inl ⟨dk ks,Sum.inl (q:Int),.inl IQ,rfl,rfl⟩,_,rfl,?_⟩
    rw [yv]
    by_cases qk:q∈ks
    ·rw [if_pos qk]
     have wq:=mw.mp ((gX q).mp qk)
     refine sJ ?_
     refine ⟨_,rfl,.inl ⟨rfl,_,.of cw⟩,_,rfl,_,rfl,a,_,_,_,rfl,rfl,.of Av,rB,_,rfl,_,_,rfl,_,rfl,_,rfl,a,_,_,_,rfl,rfl,.of Av,rB,_,rfl,_,_,rfl,by show 2≤sizeLine;decide,fun tq ma=>?_⟩
     have st:aj Hd (upd Hd tq (.tup [.int (bR p q).1,.int (bR p q).2])):=aQ ma
     have IS:upd Hd tq (.tup [.int (bR p q).1,.int (bR p q).2]) tq=some (.tup [.int (bR p q).1,.int (bR p q).2]):=aq
     change ∃l xs u,_
     refine ⟨fd,us,_,rfl,rfl,st _ _ cw,cx (by omega),us++[.ref tq],M++[bR p q],_,rfl,fun b u nb e=>by rw [aC nb];exact st _ _ (od b u nb e),aq,?_,fld.put ho pn qn ip iq wq,by rw [List.length_append];simp;omega⟩
     exact ((oj.mono st).push IS).aY (st _ _ cw) fun b o nb e=>by rw [aC nb];exact e
    ·rw [if_neg qk]
     have wq:¬Wk (aL n L) (cf n o k) p q:=fun h=>qk ((gX q).mpr (mw.mpr h))
     exact gA ⟨us,M,_,rfl,od,cw,oj,fld.skip ho pn qn ip iq wq,by omega⟩
   ·rintro σ Hd ⟨us,M,v7,rfl,od,cw,oj,fld,Au⟩
    rw [List.length_map,List.length_drop,lo] at fld Au
    exact ⟨us,M,_,_,_,_,rfl,fun b u e=>od b u (fun z=>by rw [z,Ap] at e;cases e) (n4 _ _ e),⟨od _ _ Df As.lst,KL.inj,KL.ne,fun i hi=>od _ _ (rf i hi) (As.at' i hi)⟩,cw,oj,fld.row ho (by omega),by rw [Nat.add_mul];omega⟩
  ·rintro σ Hc ⟨us,M,v4,v5,v6,v7,rfl,sc,oi,ef,hU,fl,lM⟩
   obtain ⟨lt',Af,IT,Mr,Ms⟩:=id (fG.mono sc)
   have Mt:M.length≤900:=Nat.le_trans lM (by omega)
   dsimp only
   refine ⟨_,rfl,tp,_,_,_,rfl,rfl,.of IT,rfl,_,rfl,?_⟩
   dsimp only [oM]
   refine yH ef hU (by omega) (fl.bd (by omega)) fun l' ws N H3 s3 jc i_ hN pN oN=>?_
   refine ⟨l',ws,rfl,.inl ⟨.of i_,fun lt nS=>?_⟩⟩
   have eI:aj H3 (upd H3 lt (.tup ws)):=aQ nS
   have nU:upd H3 lt (.tup ws) lt=some (.tup ws):=aq
   generalize upd H3 lt (.tup ws)=Hd at eI nU ⊢
   refine ⟨by show 2≤sizeLine;decide,fun tq ma=>?_⟩
   have st:aj Hd (upd Hd tq (.tup [.int (n:Int),.ref lt])):=aQ ma
   exact kk _ tq N ((sc.trans s3).trans (eI.trans st)) ⟨lt,ws,aq,st _ _ nU,(hN.mono eI).mono st⟩ (fl.done ho pN oN (by omega))
theorem IU:bQ ["_law_shape","_law_beside_here","_law_many","_law_i","_law_j"] ["_law_shape"] (bo qH):=⟨rfl,rfl,rfl,by decide +kernel,rfl,by decide +kernel,by decide +kernel⟩
theorem IV(T:Txt K mg t):bw P w K mg base bW 2 t.jE t.lh ["_law_shape"] Gj:=by
 have S:=IU
 have vh:=Ag (P:=P) (w:=w) (base:=base) T
 refine T.lT.ok S (fun vs H Q E h=>?_) (fun aH A outer s H vs Q E hr h=>?_)
 ·obtain ⟨tp,n,L,rfl,_⟩:=h
  rfl
 ·obtain ⟨tp,n,L,rfl,fG,nd,lt,qj,l5,kk⟩:=h
  have gU:=hr.units
  have hu:=hr.wI
  have eG:fX n L:=fun p hp=>by
   have:=lt p hp
   exact ⟨this.1,by omega,by omega,this.2.2⟩
  refine ⟨_,(@ax _ _ _ _ _ (@a7 _ _ 1 _ _ _ _ (by rfl) (by first | exact .inl rfl | exact .inr rfl | assumption) S.nd rfl (Or.inr rfl) (aW vh (hr.mono (by decide)) rfl T.uF T.jL.kp T.uE .nil bb (@aa _ _ _ _ _ (by rfl) (pv 0) ao)))
   (@ax _ _ _ _ _ (@a7 _ _ 2 _ _ _ _ (by rfl) (by first | exact .inl rfl | exact .inr rfl | assumption) S.nd rfl (Or.inl rfl) au)
   (@ax _ _ _ _ _ (cJ PassesOwn.never rfl (rN (@a8 _ _ _ _ _ _ _ eS (pv 0) au (fun _ _=>rfl))) (jY rfl (eM (bS (i:=3) S.nd rfl (Or.inl rfl)) (eM (bS (i:=4) S.nd rfl (Or.inr rfl)) jX)))
    (@aA _ _ _ (@a7 _ _ 2 _ _ _ _ (by rfl) (by first | exact .inl rfl | exact .inr rfl | assumption) S.nd rfl (Or.inl rfl) (@aP _ _ _ _ _ _ _ _ cN (pv 2) (bV hI rfl T.gS boot_len (@aa _ _ _ _ _ (by rfl) (iV (N:=["_law_k","_law_j","_law_beside_here"]) (ρ:=(fun σ=>[σ[4]?.join,σ[1]?.join])) ⟨rfl,rfl,by decide +kernel,by decide +kernel,(List.forall_mem_cons.mpr ⟨rfl,(List.forall_mem_cons.mpr ⟨rfl,(List.forall_mem_nil _)⟩)⟩),ft (by rfl),rfl,by decide +kernel,rfl,(fun σ j v h=>match j,h with | 0,h=>⟨4,_,rfl,rfl,join_some h,Or.inr (Or.inl rfl),.inl rfl,.inl rfl⟩ | 1,h=>⟨1,_,rfl,rfl,join_some h,Or.inr (Or.inl rfl),.inl rfl,.inl rfl⟩ | j+2,h=>by cases h),(fun _ _=>rfl)⟩ rfl (dR (@a8 _ _ _ _ _ _ _ bL (pv 1) (pv 3) (fun _ _=>rfl))) (fun s₃ H₃ fp=>(.one (PW.pt (pw_and (@bT _ _ _ _ _ _ _ _ j7 (pv 0) (pv 1) (bC _)) (pw_and1 (@bT _ _ _ _ _ _ _ _ (FL (K:=K)) (pv 0) (@a8 _ _ _ _ _ _ _ (s_ (K:=K)) (pv 2) (pv 1) (fun _ _=>rfl)) rfl)))))) (fun s₃ H₃ fp=>(pv 0))) ao))))))
   (@aA _ _ _ (@bH _ _ _ _ (pv 2)))))),?_⟩
  refine bO ⟨_,rfl,tp,n,L,rfl,fG,eG,by omega,l5,fun H1 D rs g s1 nD qX KL nb gl gn=>?_⟩
  have gn:=gn (fun p hp=>(lt p hp).2.1) nd
  dsimp only [aO]
  obtain ⟨lk,us,cq,elt,hL⟩:=id (fG.mono s1)
  refine bO ⟨_,rfl,tp,_,_,_,rfl,rfl,.of cq,rfl,lk,rfl,⟨_,.of elt⟩,?_⟩
  refine rO (K:=K) (a:=lk) (xs:=us) (fun k σ Hc=>∃(v3 v4:Option V),σ=[some (.ref tp),some (.ref D),some (.int (((L.take k).map (qh n L)).sum:Nat)),v3,v4]∧aj H1 Hc) ⟨_,_,rfl,aj.refl _⟩ (fun k σ Hc _ ⟨_,_,_,sc⟩=>.of (sc _ _ elt)) ?_ ?_
  ·rintro k x σ Hc hx ⟨v3,v4,rfl,sc⟩
   have hk:k<L.length:=by
    rw [←hL.1]
    exact (List.getElem?_eq_some_iff.mp hx).1
   obtain ⟨b,rfl,eb⟩:=hL.2 k x L[k] hx (by simp [hk])
   have pk:=lt L[k] (List.getElem_mem hk)
   have tk:L.take (k+1)=L.take k++[L[k]]:=by rw [List.take_succ,List.getElem?_eq_getElem hk];rfl
   generalize L[k]=p at eb pk tk
   obtain ⟨p1,p2⟩:=p
   dsimp only at pk eb
   obtain ⟨i,rfl⟩:=Int.eq_ofNat_of_zero_le pk.1
   obtain ⟨j,rfl⟩:=Int.eq_ofNat_of_zero_le (show 0≤p2 by omega)
   have hi:i<n:=by omega
   have hj:j<n:=by omega
   have fl:((g j).map fun k:Nat=>V.int (k:Int)).all ei=true:=by
    rw [List.all_eq_true]
    intro v hv
    obtain ⟨q,_,rfl⟩:=List.mem_map.mp hv
    rfl
   refine ⟨b,_,rfl,.of (sc _ _ eb),rfl,_,_,rfl,_,_,rfl,rfl,?_⟩
   refine i3 ⟨_,rfl,pC (GL (xs:=(g i).map fun k:Nat=>V.int (k:Int)) (qi j (g j)) (fun R h=>⟨_,rfl,_,rfl,D,_,_,_,rfl,rfl,.of (sc _ _ KL.lst),iw hi,rs i,rfl,⟨_,.of (sc _ _ (KL.at' i hi))⟩,h _ _ (aj.refl _) (ki (.of (sc _ _ (KL.at' i hi))))⟩) (cx (by rw [List.length_map];have:=gl i;omega)) ?_ (fun x Hx R h=>⟨_,rfl,h⟩) fun l H2 nl s2 el=>?_)⟩
   ·intro x IW Hd R sd kR
    obtain ⟨q,hq,rfl⟩:=List.mem_map.mp IW
    have Aw:=sc.trans sd
    refine ⟨_,rfl,_,rfl,_,_,rfl,rfl,_,rfl,bX (fun hc=>?_) (fun hc=>?_)⟩
    ·refine ⟨_,rfl,_,rfl,_,rfl,D,_,_,_,rfl,rfl,.of (Aw _ _ KL.lst),iw hj,rs j,_,rfl,.inl (.of (Aw _ _ (KL.at' j hj))),rfl,fl,_,rfl,?_⟩
     rw [show qi j (g j) (.int (q:Int))=iS (.int (q:Int)) ((g j).map fun k:Nat=>V.int (k:Int)) from by
      rw [uh]
      have:(j:Int)<(q:Int):=of_decide_eq_true hc
      show (decide ((j:Int)<(q:Int)) && decide (((q:Nat):Int).toNat∈g j))=_
      rw [decide_eq_true this,Int.toNat_natCast,Bool.true_and]] at kR
     exact kR
    ·rw [show qi j (g j) (.int (q:Int))=false from by
      have:¬(j:Int)<(q:Int):=fun z=>by rw [decide_eq_true z] at hc;exact hc rfl
      show (decide ((j:Int)<(q:Int)) && decide (((q:Nat):Int).toNat∈g j))=_
      rw [decide_eq_false this,Bool.false_and]] at kR
     exact kR
   ·refine ⟨l,_,rfl,.inl (.of el),_,_,rfl,rfl,some (.int (i:Int)),some (.int (j:Int)),?_,sc.trans s2⟩
    rw [tk,List.map_append,List.sum_append,List.map_singleton,List.sum_singleton,GN nb gn hi hj (fun k hk=>by rcases (nb i k hi).mp hk with e | e <;> (have:=eG _ e;omega))]
    push_cast
    rfl
  ·rintro σ Hc ⟨v3,v4,rfl,sc⟩
   rw [hL.1,List.take_length,show (L.map (qh n L)).sum=gQ n L from F9 nd lt]
   exact ⟨_,rfl,kk _ (s1.trans sc)⟩
theorem IY:bQ ["_law_shape"] ["_law_shape"] (bo qI):=⟨rfl,rfl,rfl,by decide +kernel,rfl,by decide +kernel,by decide +kernel⟩
theorem IZ(T:Txt K mg t):bw P w K mg base bW 3 t.jF t.lp ["_law_shape"] Gk:=by
 have S:=IY
 have I0:=IV (P:=P) (w:=w) (base:=base) T
 refine T.jM.ok S (fun vs H Q E h=>?_) (fun aH A outer s H vs Q E hr h=>?_)
 ·obtain ⟨tp,n,L,rfl,_⟩:=h
  rfl
 ·obtain ⟨tp,n,L,rfl,fG,nd,lt,qj,l5,kk⟩:=h
  obtain ⟨lk,us,cq,elt,hL⟩:=id fG
  refine ⟨_,(@aA _ _ _ (@bH _ _ _ _ (@aP _ _ _ _ _ _ _ _ cN (@aP _ _ _ _ _ _ _ _ cN (@aP _ _ _ _ _ _ _ _ d_ au (bV hI rfl T.gS boot_len (@aa _ _ _ _ _ (by rfl) (@a8 _ _ _ _ _ _ _ eS (pv 0) au (fun _ _=>rfl)) ao))) (@aP _ _ _ _ _ _ _ _ d_ au (aW I0 (hr.mono (by decide)) rfl T.zA T.lT.kp T.zw .nil bb (@aa _ _ _ _ _ (by rfl) (pv 0) ao)))) (@a8 _ _ _ _ _ _ _ eS (pv 0) au (fun _ _=>rfl))))),?_⟩
  have go:∀{H1:Hp} {v:V},aj H H1→v=.int (f_ n L:Int)→Q v H1:=fun s1 e=>e▸kk _ s1
  refine ⟨_,rfl,tp,_,_,_,rfl,rfl,.of cq,rfl,lk,_,rfl,.inr (.of elt),_,_,rfl,rfl,.inl ⟨by decide,by decide⟩,_,rfl,tp,n,L,rfl,fG,nd,lt,qj,l5,fun H1 s1=>?_⟩
  refine ⟨_,_,rfl,rfl,.inl ⟨by decide,by decide⟩,_,_,rfl,rfl,_,rfl,tp,_,_,_,rfl,rfl,.of (s1 _ _ cq),rfl,_,_,rfl,rfl,go s1 ?_⟩
  show V.int (4*(us.length:Int)+2*(gQ n L:Int)+(n:Int))=_
  unfold f_
  rw [hL.1]
  push_cast
  rfl
theorem I_:bQ ["_law_pen","_law_least","_law_most","_law_size","_law_way","_law_links","_law_j","_law_i","_law_turn"] ["_law_pen","_law_least","_law_most"] (bo qJ):=⟨rfl,rfl,rfl,by decide +kernel,rfl,by decide +kernel,by decide +kernel⟩
theorem Ja(T:Txt K mg t):bw P w K mg base bW 4 t.jG t.lq ["_law_pen","_law_least","_law_most"] (GQ K):=by
 have S:=I_
 have cu:=md (P:=P) (w:=w) (base:=base) T
 have n5:=uY (P:=P) (w:=w) (base:=base) T
 have u_:=z5 (P:=P) (w:=w) (base:=base) T
 refine T.lW.ok S (fun vs H Q E h=>?_) (fun aH A outer s H vs Q E hr h=>?_)
 ·obtain ⟨P0,a,ns,rfl,_⟩:=h
  rfl
 ·obtain ⟨P0,a,ns,rfl,pc,hS,kk⟩:=h
  have hu:=Nat.lt_of_le_of_lt (Nat.add_le_add_left (show 1≤64 by decide) _) hr.units
  refine ⟨_,(@ax _ _ _ _ _ (@a7 _ _ 3 _ _ _ _ (by rfl) (by first | exact .inl rfl | exact .inr rfl | assumption) S.nd rfl (Or.inl rfl) (@aP _ _ _ _ _ _ _ _ cN (pv 1) (aW cu (hr.mono (by decide)) rfl T.cU T.cp.kp T.cT .nil bb (@aa _ _ _ _ _ (by rfl) (pv 0) (@aa _ _ _ _ _ (by rfl) (@aP _ _ _ _ _ _ _ _ cN (@aP _ _ _ _ _ _ _ _ gx (pv 2) (pv 1)) au) ao)))))
   (@ax _ _ _ _ _ (@a7 _ _ 4 _ _ _ _ (by rfl) (by first | exact .inl rfl | exact .inr rfl | assumption) S.nd rfl (Or.inl rfl) (aW cu (hr.mono (by decide)) rfl T.cU T.cp.kp T.cT .nil bb (@aa _ _ _ _ _ (by rfl) (pv 0) (@aa _ _ _ _ _ (by rfl) au ao))))
   (@ax _ _ _ _ _ (@a7 _ _ 5 _ _ _ _ (by rfl) (by first | exact .inl rfl | exact .inr rfl | assumption) S.nd rfl (Or.inl rfl) E2)
   (@ax _ _ _ _ _ (cJ PassesOwn.never rfl (wu rfl T.dO (@aa _ _ _ _ _ (by rfl) au (@aa _ _ _ _ _ (by rfl) (pv 3) ao))) (bS (i:=6) S.nd rfl (Or.inl rfl))
    (@ax _ _ _ _ _ (@a7 _ _ 7 _ _ _ _ (by rfl) (by first | exact .inl rfl | exact .inr rfl | assumption) S.nd rfl (Or.inl rfl) (@aP _ _ _ _ _ _ _ _ gx (pv 6) au))
   (@ax _ _ _ _ _ (@b8 _ _ _ _ _ _ _ _ (@bT _ _ _ _ _ _ _ _ dS (pv 4) au (bC _)) (@aA _ _ _ (@a7 _ _ 7 _ _ _ _ (by rfl) (by first | exact .inl rfl | exact .inr rfl | assumption) S.nd rfl (Or.inl rfl) (aW cu (hr.mono (by decide)) rfl T.cU T.cp.kp T.cT .nil bb (@aa _ _ _ _ _ (by rfl) (pv 0) (@aa _ _ _ _ _ (by rfl) (pv 6) ao))))) b7)
   (@ax _ _ _ _ _ (ie hu (pv 5) (@eO _ _ _ _ _ (@aa _ _ _ _ _ (by rfl) (pv 7) (@aa _ _ _ _ _ (by rfl) (pv 6) ao))) dQ rfl)
   (@aA _ _ _ (@b8 _ _ _ _ _ _ _ _ (PW.pt (pw_and (@bT _ _ _ _ _ _ _ _ dS (pv 4) au (bC _)) (pw_and1 (@bT _ _ _ _ _ _ _ _ j7 (pv 6) au (bC _))))) (@aA _ _ _ (ie hu (pv 5) (@eO _ _ _ _ _ (@aa _ _ _ _ _ (by rfl) (@aP _ _ _ _ _ _ _ _ gx (pv 6) au) (@aa _ _ _ _ _ (by rfl) (pv 6) ao))) dQ rfl)) b7))))))
   (@ax _ _ _ _ _ (@b8 _ _ _ _ _ _ _ _ (@bT _ _ _ _ _ _ _ _ dS (pv 4) au (bC _)) (@aA _ _ _ (ie hu (pv 5) (@eO _ _ _ _ _ (@aa _ _ _ _ _ (by rfl) au (@aa _ _ _ _ _ (by rfl) (@aP _ _ _ _ _ _ _ _ gx (pv 3) au) ao))) dQ rfl)) b7)
   (@ax _ _ _ _ _ (cJ PassesOwn.never rfl (g9 rfl T.dO (@aa _ _ _ _ _ (by rfl) (aW cu (hr.mono (by decide)) rfl T.cU T.cp.kp T.cT .nil bb (@aa _ _ _ _ _ (by rfl) (pv 0) (@aa _ _ _ _ _ (by rfl) au ao))) ao)) (bS (i:=8) S.nd rfl (Or.inl rfl))
    (@ax _ _ _ _ _ (@a7 _ _ 6 _ _ _ _ (by rfl) (by first | exact .inl rfl | exact .inr rfl | assumption) S.nd rfl (Or.inl rfl) (@aP _ _ _ _ _ _ _ _ cN au (aW cu (hr.mono (by decide)) rfl T.cU T.cp.kp T.cT .nil bb (@aa _ _ _ _ _ (by rfl) (pv 0) (@aa _ _ _ _ _ (by rfl) (@aP _ _ _ _ _ _ _ _ gx (pv 3) au) ao)))))
   (@aA _ _ _ (ie hu (pv 5) (@eO _ _ _ _ _ (@aa _ _ _ _ _ (by rfl) (aW cu (hr.mono (by decide)) rfl T.cU T.cp.kp T.cT .nil bb (@aa _ _ _ _ _ (by rfl) (pv 0) (@aa _ _ _ _ _ (by rfl) (pv 6) ao))) (@aa _ _ _ _ _ (by rfl) (pv 6) ao))) dQ rfl))))
   (@aA _ _ _ (@bH _ _ _ _ (aW u_ (hr.mono (by decide)) rfl T.uD T.jK.kp T.uC .nil bb (@aa _ _ _ _ _ (by rfl) (pv 3) (@aa _ _ _ _ _ (by rfl) (eh (GH rfl) rfl T.iC boot_list (@aa _ _ _ _ _ (by rfl) (pv 5) ao)) (@aa _ _ _ _ _ (by rfl) (aW n5 (hr.mono (by decide)) rfl T.qM T.iB.kp T.qL .nil bb (@aa _ _ _ _ _ (by rfl) (pv 0) (@aa _ _ _ _ _ (by rfl) (eh (o9 rfl) rfl T.iC boot_list (@aa _ _ _ _ _ (by rfl) (eh o8 rfl T.dO o_ (@aa _ _ _ _ _ (by rfl) (pv 3) ao)) ao)) ao))) ao)))))))))))),?_⟩
  refine ⟨_,rfl,_,rfl,_,rfl,_,rfl,_,_,rfl,rfl,_,_,rfl,rfl,P0,a,ns,10,rfl,pc,hS,by decide,cg.of_lt (by decide) (by decide),fun c H1 c0 c1 s1 p1=>⟨_,_,rfl,rfl,?_⟩⟩
  obtain ⟨c,rfl⟩:=Int.eq_ofNat_of_zero_le c0
  dsimp only [aO]
  rw [show 15+(c:Int)=((c+15:Nat):Int) by omega]
  have n1:15≤c+15:=by omega
  have nm:c+15≤24:=by omega
  generalize c+15=n at n1 nm ⊢
  refine ⟨_,rfl,P0,a,ns,4,rfl,p1,aj.seq s1 hS,by decide,cg.of_lt (by decide) (by decide),fun way H2 _ _ s2 p2=>?_⟩
  have du:=s1.trans s2
  dsimp only [aO]
  intro d nd
  have eg:d≠P0:=p2.ne nd
  have rD:H d=none:=by
   have:er P0 H d=none:=none_of du (by rw [b4 eg];exact nd)
   rw [b4 eg] at this
   exact this
  have D0:dt P0 a d H (upd H2 d (.dT [])) n 0 []:=⟨du.trans (aw.of (aQ nd)),p2.mono (aQ nd),aq,List.nodup_nil,(fun z h=>by cases h),Nat.le_refl _⟩
  generalize upd H2 d (.dT [])=H3 at D0 ⊢
  dsimp only [aO]
  refine ⟨_,rfl,_,_,rfl,⟨by decide,by decide,by omega,by omega⟩,?_⟩
  rw [show ((n:Int)-1).toNat=n-1 by omega]
  refine iO (fun k σ Hc=>∃(L:List (Int×Int)) (v6 v7 v8:Option V),σ=[some (.ref P0),some (.int 15),some (.int 24),some (.int (n:Int)),some (.int way),some (.ref d),v6,v7,v8]∧dt P0 a d H Hc n (2*k) L) ⟨_,_,_,_,rfl,D0⟩ ?_ ?_
  ·rintro k σ Hc hk ⟨L,v6,v7,v8,rfl,DI⟩
   dsimp only [aO]
   simp only [List.set_cons_zero,List.set_cons_succ]
   refine ⟨_,rfl,_,_,rfl,rfl,?_⟩
   dsimp only [aO]
   simp only [List.set_cons_zero,List.set_cons_succ]
   refine bO (nk (fun σ Hy=>∃(i:Nat),i<k+1∧σ=[some (.ref P0),some (.int 15),some (.int 24),some (.int (n:Int)),some (.int way),some (.ref d),some (.int (1+(k:Int))),some (.int (i:Int)),v8]∧dt P0 a d H Hy n (2*k) L) ?_ ?_)
   ·rintro σ Hy ⟨i,hi,rfl,DI⟩
    dsimp only
    refine ⟨_,rfl,_,rfl,_,rfl,by show 2≤sizeLine;decide,fun tp bZ=>⟨d,_,rfl,DI.dput (by omega) bZ,?_⟩⟩
    have D1:=DI.put eg rD bZ (i:=(i:Int)) (j:=1+(k:Int)) (by omega) (by omega) (by omega)
    generalize upd (upd Hy tp (.tup [.int (i:Int),.int (1+(k:Int))])) d (.dT (putK (d8 L) (kz ((i:Int),1+(k:Int))) (.bl true)))=Hz at D1 ⊢
    dsimp only
    refine ⟨_,rfl,rfl,_,rfl,bX (fun _=>?_) (fun _=>gA ⟨_,_,_,_,rfl,D1.le (by omega)⟩)⟩
    refine ⟨_,rfl,_,_,rfl,rfl,_,rfl,bX (fun hc=>?_) (fun _=>⟨_,_,_,_,rfl,D1.le (by omega)⟩)⟩
    have hc:(1:Int)<1+(k:Int):=of_decide_eq_true hc
    refine ⟨_,rfl,_,rfl,_,_,rfl,rfl,_,rfl,by show 2≤sizeLine;decide,fun Mu Ax=>⟨d,_,rfl,D1.dput (by omega) Ax,?_⟩⟩
    exact ⟨_,_,_,_,rfl,(D1.put eg rD Ax (i:=1+(k:Int)-2) (j:=1+(k:Int)) (by omega) (by omega) (by omega)).le (by omega)⟩
   ·intro R hR
    refine ⟨_,rfl,rfl,_,rfl,bX (fun _=>?_) (fun _=>?_)⟩
    ·refine ⟨_,rfl,_,rfl,P0,a,ns,1+(k:Int),rfl,DI.p,aj.seq DI.s hS,by omega,cg.of_lt (by omega) (by omega),fun e Hy e0 e1 sy py=>?_⟩
     obtain ⟨e,rfl⟩:=Int.eq_ofNat_of_zero_le e0
     exact hR _ _ ⟨e,by omega,rfl,DI.step eg sy py⟩
    ·refine hR _ _ ⟨k,by omega,?_,DI⟩
     rw [show 1+(k:Int)-1=(k:Int) by omega]
  ·rintro σ Hc ⟨L,v6,v7,v8,rfl,DI⟩
   dsimp only
   refine bO (nk (fun σ Hy=>∃(L:List (Int×Int)),σ=[some (.ref P0),some (.int 15),some (.int 24),some (.int (n:Int)),some (.int way),some (.ref d),v6,v7,v8]∧dt P0 a d H Hy n (2*n) L) ?_ ?_)
   ·rintro σ Hy ⟨L,rfl,DI⟩
    dsimp only
    refine ⟨_,rfl,P0,a,ns,3,rfl,DI.p,aj.seq DI.s hS,by decide,cg.of_lt (by decide) (by decide),fun many H4 m0 m1 s4 p4=>?_⟩
    obtain ⟨many,rfl⟩:=Int.eq_ofNat_of_zero_le m0
    refine ⟨(many:Int),rfl,by omega,by omega,?_⟩
    rw [Int.toNat_natCast]
    have D4:=DI.step eg s4 p4
    refine iO (fun k σ Hc=>∃(L:List (Int×Int)) (v6 v7 v8:Option V),σ=[some (.ref P0),some (.int 15),some (.int 24),some (.int (n:Int)),some (.int way),some (.ref d),v6,v7,v8]∧dt P0 a d H Hc n (2*n+k) L) ⟨_,_,_,_,rfl,D4⟩ ?_ ?_
    ·rintro k σ Hc hk ⟨L,v6,v7,v8,rfl,DI⟩
     dsimp only [aO]
     simp only [List.set_cons_zero,List.set_cons_succ]
     refine ⟨_,rfl,_,rfl,_,_,rfl,rfl,P0,a,ns,(n:Int)-1,rfl,DI.p,aj.seq DI.s hS,by omega,cg.of_lt (by omega) (by omega),fun c H5 c0 c1 s5 p5=>⟨_,_,rfl,rfl,?_⟩⟩
     have D5:=DI.step eg s5 p5
     dsimp only [aO]
     simp only [List.set_cons_zero,List.set_cons_succ]
     refine ⟨_,rfl,_,rfl,_,rfl,P0,a,ns,1+c,rfl,D5.p,aj.seq D5.s hS,by omega,cg.of_lt (by omega) (by omega),fun e H6 e0 e1 s6 p6=>?_⟩
     have D6:=D5.step eg s6 p6
     refine ⟨_,rfl,by show 2≤sizeLine;decide,fun tp bZ=>⟨d,_,rfl,D6.dput (by omega) bZ,?_⟩⟩
     exact ⟨_,_,_,_,rfl,(D6.put eg rD bZ (i:=e) (j:=1+c) e0 e1 (by omega)).le (by omega)⟩
    ·rintro σ Hy ⟨L,v6,v7,v8,rfl,DI⟩
     dsimp only
     have ok:dG n L:=⟨DI.nd,DI.lt,by
      have:=DI.bA
      have:15*n≤n*n:=Nat.mul_le_mul_right n n1
      omega⟩
     have lL:(d8 L).length=L.length:=by unfold d8;rw [List.length_map]
     refine ⟨_,rfl,_,rfl,d,d8 L,rfl,DI.e,by rw [lL];have:=DI.bA;omega,fun lk bs rj Jb Jc=>?_⟩
     have hL:aN Hy bs L:=⟨by rw [Jb,lL],fun k v p h1 h2=>by
      obtain ⟨b,e1,e2⟩:=Jc k v (kz p) (.bl true) h1 (by unfold d8;rw [List.getElem?_map,h2];rfl)
      exact ⟨b,e1,e2⟩⟩
     have sk:aj Hy (upd Hy lk (.lst bs)):=aQ rj
     have rm:upd Hy lk (.lst bs) lk=some (.lst bs):=aq
     have Jd:lk≠P0:=DI.p.ne rj
     have hL:=hL.mono sk
     have sy:=DI.s.trans (aw.of sk)
     have py:=DI.p.mono sk
     have hL:=hL.er py
     generalize upd Hy lk (.lst bs)=Hy at sk rm hL sy py ⊢
     refine ⟨_,rfl,_,rfl,(n:Int),rfl,fun pr vc=>?_⟩
     have s6:aj Hy (upd Hy pr (.c_ 0 (n:Int))):=aQ vc
     refine ⟨pr,n,rfl,aq,by omega,fun l0 n0=>?_⟩
     have s7:=s6.trans (aQ (o:=.lst (bx n)) n0)
     have e0:upd (upd Hy pr (.c_ 0 (n:Int))) l0 (.lst (bx n)) l0=some (.lst (bx n)):=aq
     have gh:l0≠P0:=(py.mono s6).ne n0
     generalize upd (upd Hy pr (.c_ 0 (n:Int))) l0 (.lst (bx n))=Hz at s7 e0 ⊢
     have lu:(bx n).length=n:=by unfold bx;simp
     refine ⟨P0,a,l0,ns,bx n,rfl,py.mono s7,aj.seq (sy.trans (aw.of s7)) hS,gh,e0,by omega,fun r ys Hw sw pw fr nr jP pm=>?_⟩
     obtain ⟨vd,ly,hy,NO⟩:=ya pm
     have gW:=(aw.of s7).trans sw
     refine ⟨lk,r,n,bs,ys,L,vd,rfl,gW.at Jd rm,(hL.mono gW).mono m4,ok,by omega,jP,ly,hy,NO,fun tt L' Hv sv n6 sh n8 ve Iu=>?_⟩
     have nt:tt≠P0:=pw.ne n6
     exact kk tt n L' Hv ((sy.trans gW).trans (aw.of sv)) (pw.mono sv) (none_of (sy.trans gW) (by rw [b4 nt];exact n6)) nt (sh.er (pw.mono sv)) n8 ve (by omega) nm
   ·intro R hR
    refine ⟨_,rfl,rfl,_,rfl,bX (fun _=>?_) (fun _=>hR _ _ ⟨L,rfl,DI.le (by omega)⟩)⟩
    refine ⟨_,rfl,_,rfl,_,_,rfl,rfl,by show 2≤sizeLine;decide,fun tp bZ=>⟨d,_,rfl,DI.dput (by omega) bZ,?_⟩⟩
    exact hR _ _ ⟨_,rfl,(DI.put eg rD bZ (i:=0) (j:=(n:Int)-1) (by omega) (by omega) (by omega)).le (by omega)⟩
theorem Je:bQ ["script","_law_pen","_law_shapes","_law_shape","_law_turn","_law_order","_law_full","_law_found"] ["script"] (bo qK):=⟨rfl,rfl,rfl,by decide +kernel,rfl,by decide +kernel,by decide +kernel⟩
theorem Jf(T:Txt K mg t):bw P w K mg base bW 9 t.iA t.jH ["script"] (pj K):=by
 have S:=Je
 have cu:=md (P:=P) (w:=w) (base:=base) T
 have Jg:=Ip (P:=P) (w:=w) (base:=base) T
 have Jh:=Ja (P:=P) (w:=w) (base:=base) T
 have n5:=uY (P:=P) (w:=w) (base:=base) T
 have Ji:=IE (P:=P) (w:=w) (base:=base) T
 have Ay:=IZ (P:=P) (w:=w) (base:=base) T
 have Jj:=HC (P:=P) (w:=w) (base:=base) T
 have Az:=HI (P:=P) (w:=w) (base:=base) T
 refine T.lY.ok S (fun vs H Q E h=>?_) (fun aH A outer s H vs Q E hr h=>?_)
 ·obtain ⟨a,ns,rfl,_⟩:=h
  rfl
 ·obtain ⟨a,ns,rfl,hS,hlen,kQ⟩:=h
  have gU:=hr.units
  have hu:=hr.wI
  refine ⟨_,(@ax _ _ _ _ _ (@a7 _ _ 1 _ _ _ _ (by rfl) (by first | exact .inl rfl | exact .inr rfl | assumption) S.nd rfl (Or.inr rfl) (@cX _ _ _ _ (@aa _ _ _ _ _ (by rfl) (pv 0) (@aa _ _ _ _ _ (by rfl) au (@aa _ _ _ _ _ (by rfl) au ao)))))
   (@ax _ _ _ _ _ (pA (i0:=2) (N:=["_law_k","_law_pen"]) (ρ:=(fun σ=>[σ[1]?.join])) ⟨rfl,rfl,by decide +kernel,by decide +kernel,(List.forall_mem_cons.mpr ⟨rfl,(List.forall_mem_nil _)⟩),ft (by rfl),rfl,by decide +kernel,rfl,(fun σ j v h=>match j,h with | 0,h=>⟨1,_,rfl,rfl,join_some h,Or.inr (Or.inl rfl),.inl rfl,.inl rfl⟩ | j+1,h=>by cases h),(fun _ _=>rfl)⟩ rfl S.nd rfl (Or.inl rfl) (g9 rfl T.dO (@aa _ _ _ _ _ (by rfl) au ao)) (fun s₃ H₃ fp=>.nil) (fun s₃ H₃ fp=>(aW Jg (hr.mono (by decide)) rfl T.zq T.lQ.kp T.zp .nil bb (@aa _ _ _ _ _ (by rfl) (pv 1) (@aa _ _ _ _ _ (by rfl) au ao)))))
   (@ax _ _ _ _ _ (@b8 _ _ _ _ _ _ _ _ (@bT _ _ _ _ _ _ _ _ dS (aW cu (hr.mono (by decide)) rfl T.cU T.cp.kp T.cT .nil bb (@aa _ _ _ _ _ (by rfl) (pv 1) (@aa _ _ _ _ _ (by rfl) au ao))) au (bC _)) (@aA _ _ _ (@j4 _ _ _ _ _ _ (aW Jh (hr.mono (by decide)) rfl T.zC T.lW.kp T.zB .nil bb (@aa _ _ _ _ _ (by rfl) (pv 1) (@aa _ _ _ _ _ (by rfl) au (@aa _ _ _ _ _ (by rfl) au ao)))) (jZ (pv 2) au set_list) (by rfl) (by rfl) (by rfl))) b7)
   (@ax _ _ _ _ _ (cJ PassesOwn.never rfl (dR (pv 2)) (bS (i:=3) S.nd rfl (Or.inl rfl))
    (@aA _ _ _ (cJ PassesOwn.never rfl (g9 rfl T.dO (@aa _ _ _ _ _ (by rfl) au ao)) (bS (i:=4) S.nd rfl (Or.inl rfl))
    (@ax _ _ _ _ _ (@a7 _ _ 5 _ _ _ _ (by rfl) (by first | exact .inl rfl | exact .inr rfl | assumption) S.nd rfl (Or.inl rfl) (aW n5 (hr.mono (by decide)) rfl T.qM T.iB.kp T.qL .nil bb (@aa _ _ _ _ _ (by rfl) (pv 1) (@aa _ _ _ _ _ (by rfl) (eh (o9 rfl) rfl T.iC boot_list (@aa _ _ _ _ _ (by rfl) (eh o8 rfl T.dO o_ (@aa _ _ _ _ _ (by rfl) (@a8 _ _ _ _ _ _ _ eS (pv 3) au (fun _ _=>rfl)) ao)) ao)) ao))))
   (@ax _ _ _ _ _ (@a7 _ _ 6 _ _ _ _ (by rfl) (by first | exact .inl rfl | exact .inr rfl | assumption) S.nd rfl (Or.inl rfl) (aW Ji (hr.mono (by decide)) rfl T.zv T.lS.kp T.zu .nil bb (@aa _ _ _ _ _ (by rfl) (pv 3) (@aa _ _ _ _ _ (by rfl) (pv 5) ao))))
   (@ax _ _ _ _ _ (@a7 _ _ 7 _ _ _ _ (by rfl) (by first | exact .inl rfl | exact .inr rfl | assumption) S.nd rfl (Or.inl rfl) (aW Az (hr.mono (by decide)) rfl T.uB T.jJ.kp T.uA .nil sL (@aa _ _ _ _ _ (by rfl) (pv 3) (@aa _ _ _ _ _ (by rfl) (pv 5) ao))))
   (@ax _ _ _ _ _ (@b8 _ _ _ _ _ _ _ _ (PW.pt (@pw_or _ _ _ _ _ _ _ (@oA _ _ _ _ (jV (bV (mT (K:=K)) rfl T.lZ boot_isinstance (@aa _ _ _ _ _ (by rfl) (pv 7) (@aa _ _ _ _ _ (by rfl) (mC (v:=.ty "int") rfl T.uI boot_int rfl) ao))))) (@pw_or _ _ _ _ _ _ _ (jV (bV (mT (K:=K)) rfl T.lZ boot_isinstance (@aa _ _ _ _ _ (by rfl) (pv 7) (@aa _ _ _ _ _ (by rfl) (mC (v:=.ty "bool") rfl T.uJ boot_bool rfl) ao)))) (@pw_or1 _ _ _ _ (@bT _ _ _ _ _ _ _ _ oI (pv 7) (aW Ay (hr.mono (by decide)) rfl T.uH T.jM.kp T.uG .nil bb (@aa _ _ _ _ _ (by rfl) (pv 6) ao)) (bC _)))))) (@aA _ _ _ (@bH _ _ _ _ dQ)) b7)
   (@ax _ _ _ _ _ (@b8 _ _ _ _ _ _ _ _ (@bT _ _ _ _ _ _ _ _ rT (pv 7) (aW Ay (hr.mono (by decide)) rfl T.uH T.jM.kp T.uG .nil bb (@aa _ _ _ _ _ (by rfl) (pv 3) ao)) (bC _)) (@aA _ _ _ (@bH _ _ _ _ dQ)) b7)
   (@aA _ _ _ (@b8 _ _ _ _ _ _ _ _ (PW.pt (@pw_or _ _ _ _ _ _ _ (@bT _ _ _ _ _ _ _ _ (DN (n:=3) gU) (aW Jj (hr.mono (by decide)) rfl T.zd T.lH.kp T.zc .nil sL (@aa _ _ _ _ _ (by rfl) (pv 6) (@aa _ _ _ _ _ (by rfl) (pv 5) ao))) (pv 6) (bC _)) (@pw_or1 _ _ _ _ (@bT _ _ _ _ _ _ _ _ oI (aW Az (hr.mono (by decide)) rfl T.uB T.jJ.kp T.uA .nil sL (@aa _ _ _ _ _ (by rfl) (pv 6) (@aa _ _ _ _ _ (by rfl) (pv 5) ao))) (pv 7) (bC _))))) (@aA _ _ _ (@bH _ _ _ _ dQ)) b7))))))))))
   (@aA _ _ _ (@bH _ _ _ _ dQ)))))),?_⟩
  refine ⟨_,rfl,by show 3≤sizeLine;decide,fun P0 nP=>?_⟩
  have p0:aZ (upd H P0 (.lst [.ref a,.int 0,.int 0])) P0 a:=⟨0,0,aq,by decide,by decide⟩
  have om:aX K (er P0 (upd H P0 (.lst [.ref a,.int 0,.int 0]))) a (ns.map V.int):=by
   rw [xE]
   exact aj.seq (fun b o e=>tf (fI e nP) e) hS
  generalize upd H P0 (.lst [.ref a,.int 0,.int 0])=H0 at p0 om ⊢
  dsimp only [aO]
  refine bO (i3 (Ey (P:=P0) (a:=a) (n:=3) (cx (by decide)) (fun R h=>⟨3,rfl,by decide,by decide,h _ (aw.refl _) p0⟩) (fun D i y Hc=>gc P0 Hc y) ?_ ?_ ?_))
  ·intro D i y Hc H' ys h e nD k
   exact h.aY e k
  ·intro D i hi Hc R sc Jk hD Mv kR
   exact ⟨_,rfl,P0,a,ns,14,rfl,Jk,aj.seq sc om,by decide,by decide,fun tp n L H1 s1 p1 bZ rE sh ok pw n1 Mw=>kR _ _ s1 p1 ⟨tp,n,L,rfl,rE,sh,ok,pw,n1,by omega⟩⟩
  intro D ys Hc DP nD sc Jl iD jN eD
  rw [b4 DP] at nD
  have AA:∀y∈ys,gc P0 Hc y:=fun y hy=>by
   obtain ⟨i,hi⟩:=List.getElem?_of_mem hy
   exact jN i y hi
  dsimp only [aO]
  refine bO (nk (fun σ Hy=>∃ys:List V,σ=[some (.ref a),some (.ref P0),some (.ref D),none,none,none,none,none]∧aw P0 H0 Hy∧aZ Hy P0 a∧Hy D=some (.lst ys)∧∀y∈ys,gc P0 Hy y) ?_ ?_)
  ·rintro σ Hy ⟨ys,rfl,sy,py,eD,all⟩
   dsimp only
   refine bO ⟨_,rfl,D,rfl,⟨_,.of eD⟩,?_⟩
   refine iM (K:=K) (a:=D) (xs:=ys) (fun j σ Hc=>∃(v3 v4 v5 v6 v7:Option V),σ=[some (.ref a),some (.ref P0),some (.ref D),v3,v4,v5,v6,v7]∧aw P0 Hy Hc∧aZ Hc P0 a) ⟨_,_,_,_,_,rfl,aw.refl _,py⟩ (fun j σ Hc _ ⟨_,_,_,_,_,_,sc,_⟩=>.of (sc.at DP eD)) ?_ ?_
   ·rintro j x σ Hc Jm ⟨v3,v4,v5,v6,v7,rfl,sc,pc⟩
    obtain ⟨tp,n,L,rfl,rE,fG,ok,pw,n1,AB⟩:=(all x (List.mem_of_getElem? Jm)).mono sc
    have sT:=sy.trans sc
    have va:aX K (er P0 Hc) a (ns.map V.int):=aj.seq sT om
    have eG:fX n L:=fun p hp=>by
     have:=ok.lt p hp
     exact ⟨this.1,by omega,by omega,this.2.2⟩
    have Jn:kB L:=fun p hp=>by
     have:=ok.lt p hp
     omega
    have bA:L.length≤500:=Nat.le_trans ok.bA (by
     have:n*n≤24*24:=Nat.mul_le_mul (by omega) (by omega)
     omega)
    have AD:∀{Hx:Hp},aw P0 Hc Hx→bY Hx tp n L:=fun sx=>(fG.mono sx).mono m4
    dsimp only [aO]
    refine ⟨4,rfl,by decide,by decide,?_⟩
    refine iO (fun i σ Hd=>∃(v4 v5 v6 v7:Option V),σ=[some (.ref a),some (.ref P0),some (.ref D),some (.ref tp),v4,v5,v6,v7]∧aw P0 Hc Hd∧aZ Hd P0 a) ⟨_,_,_,_,rfl,aw.refl _,pc⟩ ?_ ?_
    ·rintro i σ Hd hi ⟨v4,v5,v6,v7,rfl,sd,pd⟩
     obtain ⟨lt,us,cq,elt,j9⟩:=id (AD sd)
     dsimp only [aO]
     refine ⟨_,rfl,_,rfl,tp,_,_,_,rfl,rfl,.of cq,rfl,(n:Int),rfl,fun q1 AE=>⟨q1,n,rfl,aq,by omega,fun l nl=>?_⟩⟩
     have sl:aj Hd (upd (upd Hd q1 (.c_ 0 (n:Int))) l (.lst (bx n))):=(aQ AE).trans (aQ nl)
     have el:upd (upd Hd q1 (.c_ 0 (n:Int))) l (.lst (bx n)) l=some (.lst (bx n)):=aq
     have lP:l≠P0:=pd.ne (none_of (aQ AE) nl)
     generalize upd (upd Hd q1 (.c_ 0 (n:Int))) l (.lst (bx n))=H2 at sl el ⊢
     have s2:=sd.trans (aw.of sl)
     have p2:=pd.mono sl
     have lu:(bx n).length=n:=by unfold bx;simp
     refine ⟨P0,a,l,ns,bx n,rfl,p2,aj.seq s2 va,lP,el,by omega,fun r ys H3 s3 p3 nr rP AF pm=>?_⟩
     obtain ⟨o,rfl,ho⟩:=FN pm
     have lo:=ik ho
     have AG:=s2.trans s3
     have vk:=AD AG
     dsimp only [aO]
     refine ⟨_,rfl,_,rfl,tp,r,n,L,o,rfl,vk,eG,by omega,bA,AF,ho,fun H5 t5 M s5 AH fs=>?_⟩
     dsimp only [aO]
     have inj:∀{o':List Nat},o.map iN=o'.map iN→o'=o:=fun{o'} e'=>by
      have:=congrArg (List.map Int.toNat) e'
      rw [List.map_map,List.map_map] at this
      have AI:∀l:List Nat,l.map (Int.toNat ∘ iN)=l:=fun l=>by
       conv=>rhs;rw [←List.map_id l]
       exact List.map_congr_left fun k _=>Int.toNat_natCast k
      rw [AI,AI] at this
      exact this.symm
     have eo:∀{Hx:Hp},aj H3 Hx→Hx r=some (.lst ((o.map iN).map V.int)):=fun sx=>by
      rw [sx _ _ AF,List.map_map]
      rfl
     have Jo:=yW fs
     have mlt:=fs.lt
     have Jp:M.length≤500:=Nat.le_trans (GS fs (by omega)) (by decide)
     have AJ:fX n M:=fun p hp=>by
      have:=mlt p hp
      exact ⟨this.1,by omega,by omega,this.2.2⟩
     have AK:kB M:=fun p hp=>by
      have:=mlt p hp
      omega
     refine ⟨_,rfl,_,rfl,tp,r,n,L,o.map iN,rfl,vk.mono s5,eG,Jn,by omega,eo s5,by rw [List.length_map];omega,fun no=>absurd (ho.map iN) no,fun o' e' gZ H6 s6 d hd=>?_⟩
     have Jq:=inj e'
     subst Jq
     have ed:=hd M fs
     subst ed
     have Jr:=s5.trans s6
     dsimp only [aO]
     obtain ⟨Ty,ty,k1,k2,_⟩:=(Any.int (H:=H6) (f_ n M:Int)).o6 (K:=K)
     refine bO ⟨_,rfl,_,_,_,_,rfl,rfl,ty,k1,true,rfl,gA ?_⟩
     refine ⟨_,rfl,_,_,_,_,rfl,rfl,ty,k2,false,rfl,gA ?_⟩
     refine ⟨_,rfl,_,rfl,t5,n,M,rfl,AH.mono s6,Jo,mlt,by omega,Jp,fun H7 s7=>⟨rfl,_,rfl,bX (fun hb=>?_) (fun hb=>?_)⟩⟩
     ·rw [pb,decide_eq_true rfl] at hb
      cases hb
     have AL:=Jr.trans s7
     dsimp only [g7]
     refine bO ⟨_,rfl,_,rfl,tp,n,L,rfl,vk.mono AL,ok.nd,ok.lt,by omega,bA,fun H8 s8=>⟨_,_,rfl,rfl,_,rfl,bX (fun hb=>?_) (fun hb=>?_)⟩⟩
     ·have hb:=of_decide_eq_true hb
      have:=Gg ho fs ok.nd ok.lt
      omega
     have vn:=AL.trans s8
     have vp:bY H8 t5 n M:=AH.mono ((s6.trans s7).trans s8)
     refine ⟨_,rfl,_,rfl,t5,r,n,M,o'.map iN,rfl,vp,AJ,AK,by omega,eo vn,by rw [List.length_map];omega,fun no=>absurd (ho.map iN) no,fun o2 e2 Mx H9 t9 N s9 _ Js AM lN=>?_⟩
     have Jt:=inj e2
     subst Jt
     have eN:=Gb fs AM
     subst eN
     refine ⟨_,rfl,tZ n N,EM n N,yd Js,yd (vp.mono s9),false,rfl,gA ?_⟩
     refine ⟨_,rfl,_,rfl,t5,r,n,N,o2.map iN,rfl,vp.mono s9,AJ,AK,by omega,eo (vn.trans s9),by rw [List.length_map];omega,fun no=>absurd (ho.map iN) no,fun o3 e3 Mz MA Ju d2 hd2=>?_⟩
     have Jv:=inj e3
     subst Jv
     have ed:=hd2 N AM
     subst ed
     refine ⟨_,rfl,rfl,_,rfl,bX (fun hb=>?_) (fun hb=>?_)⟩
     ·rw [pb,decide_eq_true rfl] at hb
      cases hb
     have AN:=(vn.trans s9).trans Ju
     exact ⟨_,_,_,_,rfl,AG.trans (aw.of AN),p3.mono AN⟩
    ·rintro σ Hd ⟨v4,v5,v6,v7,rfl,sd,pd⟩
     exact ⟨_,_,_,_,_,rfl,sc.trans sd,pd⟩
   ·rintro σ Hc ⟨v3,v4,v5,v6,v7,rfl,sc,pc⟩
    exact kQ _
  ·intro R hR
   refine ⟨_,rfl,P0,a,ns,3,rfl,Jl,aj.seq sc om,by decide,cg.of_lt (by decide) (by decide),fun c H1 c0 c1 s1 p1=>⟨rfl,_,rfl,bX (fun _=>?_) (fun _=>?_)⟩⟩
   ·refine ⟨_,rfl,P0,a,ns,rfl,p1,aj.seq (sc.trans s1) om,fun tp n L H2 s2 p2 bZ rE sh ok pw n1 AB=>?_⟩
    have du:=s1.trans s2
    have l8:=du.at DP eD
    refine ⟨_,rfl,D,ys,2,2,rfl,rfl,l8,by rw [iD];rfl,?_⟩
    refine hR _ _ ⟨_,rfl,(sc.trans du).but nD,p2.upd DP,aq,fun y hy=>?_⟩
    have k:∀b o,b≠D→b≠P0→H2 b=some o→upd H2 D (.lst (ys.set 2 (.ref tp))) b=some o:=fun b o bD _ e=>(aC bD).trans e
    rcases List.mem_or_eq_of_mem_set hy with h | h
    ·exact ((AA y h).mono du).aY l8 k
    ·subst h
     exact gc.aY ⟨tp,n,L,rfl,rE,sh,ok,pw,n1,AB⟩ l8 k
   ·exact hR _ _ ⟨ys,rfl,sc.trans s1,p1,s1.at DP eD,fun y hy=>(AA y hy).mono s1⟩
theorem Jw{l:PySem.W.OpenLaw}(T:Txt K mg t):∃fd:FuncData,(∀(s:Shared) (v:Value),BindsTo s fd ⟨[v],[]⟩ [("script",v)])∧∀base:Heap,K.In base→base.Ns mainGlobals mg→bw l.prog w K mg base bW 9 t.iA fd ["script"] (pj K):=by
 obtain ⟨oc,od,kV,doc,pm,an,aH,ct,fP,e,lk,df⟩:=T.lY.ex
 refine ⟨t.jH,fun s v=>?_,fun base _ _=>Jf T⟩
 rw [e]
 exact .of_eq rfl
end
theorem walk{l:PySem.W.OpenLaw}{q:Program}{loose:List Str}{XP:(Str→Option Value)→Heap→Prop}{YP:World→Heap→Prop}{d:DefRec}{K:Params→PySem.W.Frag}(hn:l.most=some 63)(mP:d.params.defaults=[])
  (hY:∀(w:World) (h:Heap),YP w h→(K w.params).In h)
  (F:∀(w:World) (mg:Str→Option Value) (fa:Addr) (h:Heap),(K w.params).In h→h.Ns mainGlobals mg→mg d.name=some (.ref fa)→
   ∃fd:FuncData,(∀(s:Shared) (u:Value),BindsTo s fd ⟨[u],[]⟩ [("script",u)])∧∀base:Heap,(K w.params).In base→base.Ns mainGlobals mg→bw l.prog w (K w.params) mg base bW 9 fa fd ["script"] (pj (K w.params))) :
  PySem.W.WalkO q loose XP YP l.row.toRowW d [] (fun f vs=>PySem.call f vs):=
 L2.CP (n:=63) (k:=9) (x:="script") (CX:=fun _=>bW) (sp:=fun w=>pj (K w.params)) hn (by decide) mP ⟨rfl,by decide,by decide⟩ hY F (fun _ _ a ns hl _ hS=>⟨a,ns,rfl,hS,hl,fun _=>rfl⟩) fun _ _ _ _ _ z=>z
theorem Jx{K:PySem.W.Frag}{h:Heap}{mg:Str→Option Value}(X:K.In h)(G:h.Ns mainGlobals mg)
  {gf:Addr}
  {jf jg jh ji jj jl jm jo jq jr ju jv jw jx jy jz jA jB jC jD jE jF jG iA:Addr} {kI kJ kK kL kM kN kO kP kS kT kU kW kX kY kZ k4 k6 k8 k_ lb lh lp lq jH:FuncData}
  (vt:PySem.W.nsIn K mainGlobals "NoOrder" = some (some (.ref gf)))
  (Jy:mg "is_whole" = some (.ref jf))
  (lA:aI K "is_whole" "is_whole" ql jf kI)
  (Jz:mg "neighbours" = some (.ref jg))
  (lB:aI K "neighbours" "neighbours" qm jg kJ)
  (JA:mg "is_order" = some (.ref jh))
  (lC:aI K "is_order" "is_order" qo jh kK)
  (JB:mg "check_order" = some (.ref ji))
  (lE:aI K "check_order" "check_order" qp ji kL)
  (JD:mg "turns_of" = some (.ref jj))
  (lF:aI K "turns_of" "turns_of" qq jj kM)
  (JE:mg "link_all" = some (.ref jl))
  (lG:aI K "link_all" "link_all" qr jl kN)
  (JF:mg "later" = some (.ref jm))
  (jI:aI K "later" "later" qt jm kO)
  (JG:mg "filled" = some (.ref jo))
  (lH:aI K "filled" "filled" qu jo kP)
  (JH:mg "place_deeds" = some (.ref jq))
  (lI:aI K "place_deeds" "place_deeds" qv jq kS)
  (JI:mg "deeds" = some (.ref jr))
  (jJ:aI K "deeds" "deeds" qw jr kT)
  (JJ:mg "_law_fill" = some (.ref ju))
  (lJ:aI K "_law_fill" "_law_fill" qx ju kU)
  (JK:mg "_law_next" = some (.ref jv))
  (cp:aI K "_law_next" "_law_next" qy jv kW)
  (JL:mg "_law_turned" = some (.ref jw))
  (iB:aI K "_law_turned" "_law_turned" qz jw kX)
  (JM:mg "_law_tied_by" = some (.ref jx))
  (lK:aI K "_law_tied_by" "_law_tied_by" qA jx kY)
  (JN:mg "_law_grown_links" = some (.ref jy))
  (lO:aI K "_law_grown_links" "_law_grown_links" qB jy kZ)
  (JO:mg "_law_drawn" = some (.ref jz))
  (lQ:aI K "_law_drawn" "_law_drawn" qC jz k4)
  (JP:mg "_law_named" = some (.ref jA))
  (jK:aI K "_law_named" "_law_named" qD jA k6)
  (JQ:mg "_law_beside" = some (.ref jB))
  (jL:aI K "_law_beside" "_law_beside" qE jB k8)
  (JR:mg "_law_walks" = some (.ref jC))
  (lR:aI K "_law_walks" "_law_walks" qF jC k_)
  (JS:mg "_law_filled" = some (.ref jD))
  (lS:aI K "_law_filled" "_law_filled" qG jD lb)
  (JT:mg "_law_triangles" = some (.ref jE))
  (lT:aI K "_law_triangles" "_law_triangles" qH jE lh)
  (JU:mg "_law_due" = some (.ref jF))
  (jM:aI K "_law_due" "_law_due" qI jF lp)
  (JV:mg "_law_long" = some (.ref jG))
  (lW:aI K "_law_long" "_law_long" qJ jG lq)
  (JW:mg "law" = some (.ref iA))
  (lY:aI K "law" "law" qK iA jH)
  (vv:PySem.W.nsIn K mainGlobals "len" = some none)
  (vw:PySem.W.nsIn K mainGlobals "isinstance" = some none)
  (vx:PySem.W.nsIn K mainGlobals "int" = some none)
  (vy:PySem.W.nsIn K mainGlobals "bool" = some none)
  (vz:PySem.W.nsIn K mainGlobals "tuple" = some none)
  (vB:PySem.W.nsIn K mainGlobals "list" = some none)
  (vC:PySem.W.nsIn K mainGlobals "range" = some none)
  (vD:PySem.W.nsIn K mainGlobals "all" = some none)
  (vE:PySem.W.nsIn K mainGlobals "sum" = some none)
  (vF:PySem.W.nsIn K mainGlobals "enumerate" = some none)
  (vG:PySem.W.nsIn K mainGlobals "min" = some none)
  (vH:PySem.W.nsIn K mainGlobals "max" = some none)
  (vI:PySem.W.nsIn K mainGlobals "sorted" = some none)
  (vJ:PySem.W.nsIn K mainGlobals "ValueError" = some none)
  (vK:PySem.W.excIn K gf [.type "ValueError",.type "Exception",.type "BaseException",.type "object"] "ValueError.__new__" = true)
  : ∃t:ux,Txt K mg t:=by
 refine ⟨⟨jf,kI,jg,kJ,jh,kK,ji,kL,jj,kM,jl,kN,jm,kO,jo,kP,jq,kS,jr,kT,ju,kU,jv,kW,jw,kX,jx,kY,jy,kZ,jz,k4,jA,k6,jB,k8,jC,k_,jD,lb,jE,lh,jF,lp,jG,lq,iA,jH,gf⟩,?_⟩
 exact {
  lA:=lA
  yX:=lA.binds (ps:=["thing"]) fun _ _ _ _ _ _ us hl=>match us,hl with | [_],_=>rfl
  yY:=Jy
  lB:=lB
  yZ:=lB.binds (ps:=["shape"]) fun _ _ _ _ _ _ us hl=>match us,hl with | [_],_=>rfl
  y3:=Jz
  lC:=lC
  y4:=lC.binds (ps:=["thing","n"]) fun _ _ _ _ _ _ us hl=>match us,hl with | [_,_],_=>rfl
  y6:=JA
  lE:=lE
  y7:=lE.binds (ps:=["order","n"]) fun _ _ _ _ _ _ us hl=>match us,hl with | [_,_],_=>rfl
  y8:=JB
  lF:=lF
  y9:=lF.binds (ps:=["order"]) fun _ _ _ _ _ _ us hl=>match us,hl with | [_],_=>rfl
  y_:=JD
  lG:=lG
  za:=lG.binds (ps:=["linked","places"]) fun _ _ _ _ _ _ us hl=>match us,hl with | [_,_],_=>rfl
  zb:=JE
  jI:=jI
  uy:=jI.binds (ps:=["shape","order"]) fun _ _ _ _ _ _ us hl=>match us,hl with | [_,_],_=>rfl
  uz:=JF
  lH:=lH
  zc:=lH.binds (ps:=["shape","order"]) fun _ _ _ _ _ _ us hl=>match us,hl with | [_,_],_=>rfl
  zd:=JG
  lI:=lI
  ze:=lI.binds (ps:=["many"]) fun _ _ _ _ _ _ us hl=>match us,hl with | [_],_=>rfl
  zf:=JH
  jJ:=jJ
  uA:=jJ.binds (ps:=["shape","order"]) fun _ _ _ _ _ _ us hl=>match us,hl with | [_,_],_=>rfl
  uB:=JI
  lJ:=lJ
  zg:=lJ.binds (ps:=["_law_cell","_law_at"]) fun _ _ _ _ _ _ us hl=>match us,hl with | [_,_],_=>rfl
  zh:=JJ
  cp:=cp
  cT:=cp.binds (ps:=["_law_pen","_law_many"]) fun _ _ _ _ _ _ us hl=>match us,hl with | [_,_],_=>rfl
  cU:=JK
  iB:=iB
  qL:=iB.binds (ps:=["_law_pen","_law_some"]) fun _ _ _ _ _ _ us hl=>match us,hl with | [_,_],_=>rfl
  qM:=JL
  lK:=lK
  zi:=lK.binds (ps:=["_law_pen","_law_way","_law_size","_law_wide","_law_i","_law_j"]) fun _ _ _ _ _ _ us hl=>match us,hl with | [_,_,_,_,_,_],_=>rfl
  zj:=JM
  lO:=lO
  zl:=lO.binds (ps:=["_law_pen","_law_size"]) fun _ _ _ _ _ _ us hl=>match us,hl with | [_,_],_=>rfl
  zo:=JN
  lQ:=lQ
  zp:=lQ.binds (ps:=["_law_pen","_law_most"]) fun _ _ _ _ _ _ us hl=>match us,hl with | [_,_],_=>rfl
  zq:=JO
  jK:=jK
  uC:=jK.binds (ps:=["_law_size","_law_links","_law_names"]) fun _ _ _ _ _ _ us hl=>match us,hl with | [_,_,_],_=>rfl
  uD:=JP
  jL:=jL
  uE:=jL.binds (ps:=["_law_shape"]) fun _ _ _ _ _ _ us hl=>match us,hl with | [_],_=>rfl
  uF:=JQ
  lR:=lR
  zr:=lR.binds (ps:=["_law_beside_here","_law_through","_law_start"]) fun _ _ _ _ _ _ us hl=>match us,hl with | [_,_,_],_=>rfl
  zt:=JR
  lS:=lS
  zu:=lS.binds (ps:=["_law_shape","_law_order"]) fun _ _ _ _ _ _ us hl=>match us,hl with | [_,_],_=>rfl
  zv:=JS
  lT:=lT
  zw:=lT.binds (ps:=["_law_shape"]) fun _ _ _ _ _ _ us hl=>match us,hl with | [_],_=>rfl
  zA:=JT
  jM:=jM
  uG:=jM.binds (ps:=["_law_shape"]) fun _ _ _ _ _ _ us hl=>match us,hl with | [_],_=>rfl
  uH:=JU
  lW:=lW
  zB:=lW.binds (ps:=["_law_pen","_law_least","_law_most"]) fun _ _ _ _ _ _ us hl=>match us,hl with | [_,_,_],_=>rfl
  zC:=JV
  lY:=lY
  GU:=lY.binds (ps:=["script"]) fun _ _ _ _ _ _ us hl=>match us,hl with | [_],_=>rfl
  zD:=JW
  zE:=PySem.W.mg_of X G vt
  gS:=PySem.W.mg_none_of X G vv
  lZ:=PySem.W.mg_none_of X G vw
  uI:=PySem.W.mg_none_of X G vx
  uJ:=PySem.W.mg_none_of X G vy
  qN:=PySem.W.mg_none_of X G vz
  iC:=PySem.W.mg_none_of X G vB
  dO:=PySem.W.mg_none_of X G vC
  zF:=PySem.W.mg_none_of X G vD
  zG:=PySem.W.mg_none_of X G vE
  uK:=PySem.W.mg_none_of X G vF
  qO:=PySem.W.mg_none_of X G vG
  qP:=PySem.W.mg_none_of X G vH
  l6:=PySem.W.mg_none_of X G vI
  GV:=PySem.W.mg_none_of X G vJ
  zH:=vK
 }
end My
def PySem.W.Fast.tw14463041029961489183:Unit:=()
def PySem.W.Fast.tw7111700145453794250:Unit:=()
def PySem.W.Fast.tw8207909316527030255:Unit:=()
def PySem.W.Fast.tw1094746885492992796:Unit:=()
def PySem.W.Fast.tw10570886993536059103:Unit:=()
def PySem.W.Fast.tw5807969270048318445:Unit:=()
def PySem.W.Fast.tw829018742122923693:Unit:=()
def PySem.W.Fast.tw6672287057803971343:Unit:=()
def PySem.W.Fast.tw11327590578108036779:Unit:=()
def PySem.W.Fast.tw2147036677558182029:Unit:=()
def PySem.W.Fast.tw2872979506939306913:Unit:=()
def PySem.W.Fast.tw1777209053542186899:Unit:=()
def PySem.W.Fast.tw1476569174291782347:Unit:=()
def PySem.W.Fast.tw8017494848558141888:Unit:=()
def PySem.W.Fast.tw13198634856035527902:Unit:=()
def PySem.W.Fast.tw1793092968259003131:Unit:=()
def PySem.W.Fast.tw9600148000906970013:Unit:=()
def PySem.W.Fast.tw15335765332301851177:Unit:=()
def PySem.W.Fast.tw1797979433860462764:Unit:=()
def PySem.W.Fast.tw18288646122324799749:Unit:=()
open PySem PySem.W PyProof.Rows
set_option maxRecDepth 100000 in
set_option maxHeartbeats 0 in
theorem PySem.Challenge.cw_bandwright_k18_whole_deeds_by_links_holds : PySem.Challenge.rw_bandwright_k18_whole_deeds_by_links.Holds := by
 w_on;o_law;k_head;(case hw=>w_witness2)
 k_fill
 refine My.walk (l:=PySem.Challenge.rw_bandwright_k18_whole_deeds_by_links) rfl rfl (fun w h Y=>PySem.W.kIn_of Y) ?F
 case F=>
  intro w mg fa h KX G mQ
  have T:∃t,My.Txt (L2.xn KX) mg t:=by
   dsimp only [L2.xn]
   refine' My.Jx KX G ?vt (PySem.W.mg_of KX G ?JX) (L2.b9 (st:=My.ql) ?JY ?JZ ?J0) (PySem.W.mg_of KX G ?J1) (L2.b9 (st:=My.qm) ?J2 ?J3 ?J4) (PySem.W.mg_of KX G ?J5) (L2.b9 (st:=My.qo) ?J6 ?J7 ?J8) (PySem.W.mg_of KX G ?J9) (L2.b9 (st:=My.qp) ?J_ ?Ka ?Kb) (PySem.W.mg_of KX G ?Ke) (L2.b9 (st:=My.qq) ?Ki ?Kj ?Kk) (PySem.W.mg_of KX G ?Kl) (L2.b9 (st:=My.qr) ?Km ?Kn ?Ko) (PySem.W.mg_of KX G ?Kp) (L2.b9 (st:=My.qt) ?Kq ?Kr ?Ks) (PySem.W.mg_of KX G ?Kt) (L2.b9 (st:=My.qu) ?Ku ?Kv ?Kw) (PySem.W.mg_of KX G ?Kx) (L2.b9 (st:=My.qv) ?Ky ?Kz ?KA) (PySem.W.mg_of KX G ?KC) (L2.b9 (st:=My.qw) ?KD ?KG ?KH) (PySem.W.mg_of KX G ?KI) (L2.b9 (st:=My.qx) ?KJ ?KN ?KO) (PySem.W.mg_of KX G ?KP) (L2.b9 (st:=My.qy) ?KQ ?KR ?KS) (PySem.W.mg_of KX G ?KU) (L2.b9 (st:=My.qz) ?KW ?KY ?KZ) (PySem.W.mg_of KX G ?K6) (L2.b9 (st:=My.qA) ?K7 ?K8 ?K9) (PySem.W.mg_of KX G ?K_) (L2.b9 (st:=My.qB) ?La ?Lb ?Lc) (PySem.W.mg_of KX G ?Ld) (L2.b9 (st:=My.qC) ?Le ?Lf ?Lg) (PySem.W.mg_of KX G ?Lh) (L2.b9 (st:=My.qD) ?Li ?Lj ?Ll) (PySem.W.mg_of KX G ?Lm) (L2.b9 (st:=My.qE) ?Ln ?Lo ?Lp) (PySem.W.mg_of KX G ?Lq) (L2.b9 (st:=My.qF) ?Lr ?Ls ?Lu) (PySem.W.mg_of KX G ?Lv) (L2.b9 (st:=My.qG) ?Lw ?Lx ?Ly) (PySem.W.mg_of KX G ?Lz) (L2.b9 (st:=My.qH) ?LA ?LB ?LC) (PySem.W.mg_of KX G ?LD) (L2.b9 (st:=My.qI) ?LF ?LG ?LH) (PySem.W.mg_of KX G ?LI) (L2.b9 (st:=My.qJ) ?LJ ?LK ?LL) (PySem.W.mg_of KX G ?LM) (L2.b9 (st:=My.qK) ?LN ?LO ?LP) ?vv ?vw ?vx ?vy ?vz ?vB ?vC ?vD ?vE ?vF ?vG ?vH ?vI ?vJ ?vK
   (case vt=>k_is)
   (case JX=>k_is)
   (case JY=>k_is)
   (case JZ=>k_is)
   (case J0=>k_is)
   (case J1=>k_is)
   (case J2=>k_is)
   (case J3=>k_is)
   (case J4=>k_is)
   (case J5=>k_is)
   (case J6=>k_is)
   (case J7=>k_is)
   (case J8=>k_is)
   (case J9=>k_is)
   (case J_=>k_is)
   (case Ka=>k_is)
   (case Kb=>k_is)
   (case Ke=>k_is)
   (case Ki=>k_is)
   (case Kj=>k_is)
   (case Kk=>k_is)
   (case Kl=>k_is)
   (case Km=>k_is)
   (case Kn=>k_is)
   (case Ko=>k_is)
   (case Kp=>k_is)
   (case Kq=>k_is)
   (case Kr=>k_is)
   (case Ks=>k_is)
   (case Kt=>k_is)
   (case Ku=>k_is)
   (case Kv=>k_is)
   (case Kw=>k_is)
   (case Kx=>k_is)
   (case Ky=>k_is)
   (case Kz=>k_is)
   (case KA=>k_is)
   (case KC=>k_is)
   (case KD=>k_is)
   (case KG=>k_is)
   (case KH=>k_is)
   (case KI=>k_is)
   (case KJ=>k_is)
   (case KN=>k_is)
   (case KO=>k_is)
   (case KP=>k_is)
   (case KQ=>k_is)
   (case KR=>k_is)
   (case KS=>k_is)
   (case KU=>k_is)
   (case KW=>k_is)
   (case KY=>k_is)
   (case KZ=>k_is)
   (case K6=>k_is)
   (case K7=>k_is)
   (case K8=>k_is)
   (case K9=>k_is)
   (case K_=>k_is)
   (case La=>k_is)
   (case Lb=>k_is)
   (case Lc=>k_is)
   (case Ld=>k_is)
   (case Le=>k_is)
   (case Lf=>k_is)
   (case Lg=>k_is)
   (case Lh=>k_is)
   (case Li=>k_is)
   (case Lj=>k_is)
   (case Ll=>k_is)
   (case Lm=>k_is)
   (case Ln=>k_is)
   (case Lo=>k_is)
   (case Lp=>k_is)
   (case Lq=>k_is)
   (case Lr=>k_is)
   (case Ls=>k_is)
   (case Lu=>k_is)
   (case Lv=>k_is)
   (case Lw=>k_is)
   (case Lx=>k_is)
   (case Ly=>k_is)
   (case Lz=>k_is)
   (case LA=>k_is)
   (case LB=>k_is)
   (case LC=>k_is)
   (case LD=>k_is)
   (case LF=>k_is)
   (case LG=>k_is)
   (case LH=>k_is)
   (case LI=>k_is)
   (case LJ=>k_is)
   (case LK=>k_is)
   (case LL=>k_is)
   (case LM=>k_is)
   (case LN=>k_is)
   (case LO=>k_is)
   (case LP=>k_is)
   (case vv=>k_is)
   (case vw=>k_is)
   (case vx=>k_is)
   (case vy=>k_is)
   (case vz=>k_is)
   (case vB=>k_is)
   (case vC=>k_is)
   (case vD=>k_is)
   (case vE=>k_is)
   (case vF=>k_is)
   (case vG=>k_is)
   (case vH=>k_is)
   (case vI=>k_is)
   (case vJ=>k_is)
   (case vK=>k_exc)
  obtain ⟨t,T⟩:=T
  have e0:=mQ.symm.trans T.zD
  cases e0
  exact My.Jw T
#print axioms PySem.Challenge.cw_bandwright_k18_whole_deeds_by_links_holds
